/-
  THE FINITE FACT: two trees that a script may name, of unlike heights, have unlike roots.
  The program's ring and the document's, side by side: each call answers the same of both.
  Both rings sign, tell how many are left, and tell their keys; the nil ring.
  RingDoes: what the walk carries: both rings, the list of keys, the call and the key that are in hand.
-/
import Derived.Test.YtojgmdagamdcfaaGreatDoorSLane8
import Derived.Test.YtojgmdagamdcfaaGreatDoorSLane9
import Derived.Test.YtojgmdagamdcfaaGreatDoorDoKeys
import Derived.Test.YtojgmdagamdcfaaGreatDoorKSame
import Derived.Test.YtojgmdagamdcfaaGreatDoorRiAlive
import Derived.Test.YtojgmdagamdcfaaGreatDoorRiCall
namespace Go.Proofs.YtojgmdagamdcfaaGreatDoor
open Go.RowKit

set_option maxRecDepth 100000 in
theorem roots_say (b : UInt8) : rootNum (keyT (b :: List.replicate 31 0) 0) = firstT0.getD b.toNat 0 ∧ rootNum (keyT (b :: List.replicate 31 0) 1) = firstT1.getD b.toNat 0 ∧ rootNum (keyT (b :: List.replicate 31 0) 2) = firstT2.getD b.toNat 0 := by
  have hb : b.toNat < 256 := b.toNat_lt
  by_cases h1 : b.toNat < 64
  · exact group_says (by decide) group_0 b (by omega) (by omega)
  · by_cases h2 : b.toNat < 128
    · exact group_says (by decide) group_64 b (by omega) (by omega)
    · by_cases h3 : b.toNat < 192
      · exact group_says (by decide) group_128 b (by omega) (by omega)
      · exact group_says (by decide) group_192 b (by omega) (by omega)
/-- No number stands in both lists. -/
def noneB (l m : List Nat) : Bool := l.all fun x => m.all fun y => !Nat.beq x y
set_option maxRecDepth 100000 in
theorem none_01 : noneB firstT0 firstT1 = true := by decide +kernel
set_option maxRecDepth 100000 in
theorem none_02 : noneB firstT0 firstT2 = true := by decide +kernel
set_option maxRecDepth 100000 in
theorem none_12 : noneB firstT1 firstT2 = true := by decide +kernel
set_option maxRecDepth 100000 in
theorem none_says {l m : List Nat} (h : noneB l m = true) {i j : Nat} (hi : i < l.length) (hj : j < m.length) : l.getD i 0 ≠ m.getD j 0 := by
  unfold noneB at h
  rw [List.all_eq_true] at h
  have h1 := h _ (List.getElem_mem hi)
  rw [List.all_eq_true] at h1
  have h2 := h1 _ (List.getElem_mem hj)
  intro e
  rw [List.getD_eq_getElem?_getD, List.getD_eq_getElem?_getD, List.getElem?_eq_getElem hi, List.getElem?_eq_getElem hj] at e
  simp only [Option.getD_some] at e
  rw [e] at h2
  simp at h2
set_option maxRecDepth 100000 in
theorem len_0 : firstT0.length = 256 := by decide +kernel
set_option maxRecDepth 100000 in
theorem len_1 : firstT1.length = 256 := by decide +kernel
set_option maxRecDepth 100000 in
theorem len_2 : firstT2.length = 256 := by decide +kernel
set_option maxRecDepth 100000 in
theorem roots_apart (a b : UInt8) (h k : Nat) (hh : h ≤ 2) (hk : k ≤ 2) (hne : h ≠ k) : keyT (a :: List.replicate 31 0) h ≠ keyT (b :: List.replicate 31 0) k := by
  intro e
  have en := congrArg rootNum e
  obtain ⟨a0, a1, a2⟩ := roots_say a
  obtain ⟨b0, b1, b2⟩ := roots_say b
  have ha : a.toNat < 256 := a.toNat_lt
  have hb : b.toNat < 256 := b.toNat_lt
  have l0 := len_0
  have l1 := len_1
  have l2 := len_2
  have c1 : h = 0 ∨ h = 1 ∨ h = 2 := by omega
  have c2 : k = 0 ∨ k = 1 ∨ k = 2 := by omega
  rcases c1 with rfl | rfl | rfl <;> rcases c2 with rfl | rfl | rfl
  · exact hne rfl
  · rw [a0, b1] at en
    exact none_says none_01 (by omega) (by omega) en
  · rw [a0, b2] at en
    exact none_says none_02 (by omega) (by omega) en
  · rw [a1, b0] at en
    exact none_says none_01 (by omega) (by omega) en.symm
  · exact hne rfl
  · rw [a1, b2] at en
    exact none_says none_12 (by omega) (by omega) en
  · rw [a2, b0] at en
    exact none_says none_02 (by omega) (by omega) en.symm
  · rw [a2, b1] at en
    exact none_says none_12 (by omega) (by omega) en.symm
  · exact hne rfl
end Go.Proofs.YtojgmdagamdcfaaGreatDoor

namespace Go.Proofs.YtojgmdagamdcfaaGreatDoor
open Go.RowKit Go.Maps

/-- A tree that a script may name. -/
def Named (e : Ent) : Prop := (∃ b : UInt8, e.seed = b :: List.replicate 31 0) ∧ e.h ≤ 2
structure TwoP (B rb mb db k : Nat) (es : List Ent) (w : World) : Prop where
  ring : ∃ n, n ≤ k ∧ RingW w B rb mb n es
  doc : DocW w B db es
  named : ∀ e ∈ es, Named e
  few : es.length ≤ k
def TwoW (B rb mb db k : Nat) (w : World) : Prop := ∃ es, TwoP B rb mb db k es w
/-- The program's is ahead. -/
def MidW (B rb mb db k : Nat) (es es' : List Ent) (w : World) : Prop := (∃ n, n ≤ k ∧ RingW w B rb mb n es') ∧ DocW w B db es
variable {B rb mb db k : Nat} {es es' : List Ent} {w w' : World}
set_option maxRecDepth 100000 in
theorem TwoW.call (s : TwoW B rb mb db k w) (hb : Below w.heap.size w w') : TwoW B rb mb db k w' := by
  obtain ⟨es, ⟨n, hn, h1⟩, h2, h3, h4⟩ := s
  exact ⟨es, ⟨n, hn, h1.call hb⟩, h2.call hb, h3, h4⟩
set_option maxRecDepth 100000 in
theorem MidW.call (s : MidW B rb mb db k es es' w) (hb : Below w.heap.size w w') : MidW B rb mb db k es es' w' := by
  obtain ⟨⟨n, hn, h1⟩, h2⟩ := s
  exact ⟨⟨n, hn, h1.call hb⟩, h2.call hb⟩
set_option maxRecDepth 100000 in
theorem TwoW.up (s : TwoW B rb mb db k w) : TwoW B rb mb db (k + 1) w := by
  obtain ⟨es, ⟨n, hn, h1⟩, h2, h3, h4⟩ := s
  exact ⟨es, ⟨n, by omega, h1⟩, h2, h3, by omega⟩
set_option maxRecDepth 100000 in
theorem DFrame.ring (f : DFrame B w w') {n : Nat} (h : RingW w B rb mb n es) : RingW w' B rb mb n es := h.doc f

set_option maxRecDepth 100000 in
theorem there_or (es : List Ent) (r : List UInt8) (h : Int) (hk : es.Pairwise fun a b => a.lit ≠ b.lit) : (∃ i, ∃ hi : i < es.length, (es[i]'hi).is r h = true ∧ fndI es r h = (i : Int)) ∨ ((∀ e ∈ es, e.is r h = false) ∧ (∀ j (hj : j < es.length), (es[j]'hj).is r h = false) ∧ fndI es r h = -1) := by
  by_cases q : ∃ i, ∃ hi : i < es.length, (es[i]'hi).is r h = true
  · obtain ⟨i, hi, he⟩ := q
    refine .inl ⟨i, hi, he, fnd_at hi he fun j hj hji => ?_⟩
    rw [← Bool.not_eq_true]
    intro hj2
    have hne := List.pairwise_iff_getElem.1 hk j i hj hi hji
    obtain ⟨a1, a2⟩ := Ent.is_iff.1 he
    obtain ⟨b1, b2⟩ := Ent.is_iff.1 hj2
    refine hne ?_
    unfold Ent.lit
    rw [a1, a2, b1, b2]
  · have hall : ∀ j (hj : j < es.length), (es[j]'hj).is r h = false := fun j hj => by
      rw [← Bool.not_eq_true]
      exact fun e => q ⟨j, hj, e⟩
    refine .inr ⟨fun e he => ?_, hall, fnd_no hall⟩
    obtain ⟨j, hj, rfl⟩ := List.getElem_of_mem he
    exact hall j hj
set_option maxRecDepth 100000 in
theorem upd_set {es : List Ent} (hp : es.Pairwise fun a b => a.sb ≠ b.sb ∧ a.ob ≠ b.ob) {i : Nat} (hi : i < es.length) {e' : Ent} (l : Like (es[i]'hi) e') : upd es e' = es.set i e' := by
  apply List.ext_getElem
  · simp [upd]
  · intro j h1 h2
    have hj : j < es.length := by simpa [upd] using h1
    have hu : (upd es e')[j]'h1 = if (es[j]'hj).sb = e'.sb then e' else es[j]'hj := List.getElem_map ..
    rw [hu, List.getElem_set]
    by_cases e : i = j
    · subst e
      rw [if_pos l.sb.symm, if_pos rfl]
    · rw [if_neg e, if_neg]
      intro hs
      rw [l.sb] at hs
      rcases Nat.lt_or_ge i j with hlt | hge
      · exact (List.pairwise_iff_getElem.1 hp i j hi hj hlt).1 hs.symm
      · exact (List.pairwise_iff_getElem.1 hp j i hj hi (by omega)).1 hs
set_option maxRecDepth 100000 in
theorem filter_erase {es : List Ent} (hk : es.Pairwise fun a b => a.lit ≠ b.lit) {r : List UInt8} {h : Int} {i : Nat} (hi : i < es.length) (he : (es[i]'hi).is r h = true) : (es.filter fun e => !e.is r h) = es.eraseIdx i := by
  have hno : ∀ j (hj : j < es.length), j ≠ i → (es[j]'hj).is r h = false := fun j hj hji => by
    rw [← Bool.not_eq_true]
    intro hj2
    obtain ⟨a1, a2⟩ := Ent.is_iff.1 he
    obtain ⟨b1, b2⟩ := Ent.is_iff.1 hj2
    have hl : (es[i]'hi).lit = (es[j]'hj).lit := by
      unfold Ent.lit
      rw [a1, a2, b1, b2]
    rcases Nat.lt_or_ge i j with hlt | hge
    · exact List.pairwise_iff_getElem.1 hk i j hi hj hlt hl
    · exact List.pairwise_iff_getElem.1 hk j i hj hi (by omega) hl.symm
  rw [List.eraseIdx_eq_take_drop_succ]
  have hs : es = es.take i ++ (es[i]'hi) :: es.drop (i + 1) := by
    rw [← List.drop_eq_getElem_cons hi, List.take_append_drop]
  have f1 : (es.take i).filter (fun e => !e.is r h) = es.take i := by
    rw [List.filter_eq_self]
    intro a ha
    obtain ⟨j, hj, rfl⟩ := List.getElem_of_mem ha
    rw [List.length_take] at hj
    rw [List.getElem_take, hno j (by omega) (by omega)]
    rfl
  have f2 : (es.drop (i + 1)).filter (fun e => !e.is r h) = es.drop (i + 1) := by
    rw [List.filter_eq_self]
    intro a ha
    obtain ⟨j, hj, rfl⟩ := List.getElem_of_mem ha
    rw [List.length_drop] at hj
    rw [List.getElem_drop, hno (i + 1 + j) (by omega) (by omega)]
    rfl
  conv => lhs; rw [hs]
  rw [List.filter_append, f1, List.filter_cons_of_neg (by simp [he]), f2]
set_option maxRecDepth 100000 in
theorem named_set {es : List Ent} (h : ∀ e ∈ es, Named e) {i : Nat} (hi : i < es.length) {e' : Ent} (l : Like (es[i]'hi) e') : ∀ e ∈ es.set i e', Named e := fun e he => by
  rcases List.mem_or_eq_of_mem_set he with he | rfl
  · exact h e he
  · have := h _ (List.getElem_mem hi)
    unfold Named at *
    rw [l.seed, l.h]
    exact this

/-- The answers of one call, of both rings. -/
structure Both (B rb mb db k : Nat) (w : World) (f g : Nat) (args args2 : Array Value) (v : Value) (M : World → Prop) : Prop where
  one : Calls Tryz.prog f args w fun e w' => e = .returned v ∧ RFrame B w w' ∧ M w'
  two : ∀ w', M w' → B ≤ w'.heap.size → Calls Tryz.prog g args2 w' fun e w'' => e = .returned v ∧ DFrame B w' w'' ∧ TwoW B rb mb db (k + 1) w''
  keep : ∀ w' w'', M w' → Below w'.heap.size w' w'' → M w''

set_option maxRecDepth 100000 in
theorem two_take (s : TwoW B rb mb db k w) (x : KeyX) (hk : k ≤ 40) : ∃ (a c : Int) (M : World → Prop), Both B rb mb db k w 10 11 #[.pointer (some ⟨rb, 0, none⟩), x.enc] #[.pointer (some ⟨db, 0, none⟩), x.enc] (.tuple #[.int .i64 a, .int .i64 c]) M := by
  obtain ⟨es, ⟨n, hn, h1⟩, h2, h3, h4⟩ := s
  rcases there_or es x.root x.high h1.keys with ⟨i, hi, he, hf⟩ | ⟨hno, hno2, hf⟩
  · have hm := List.getElem_mem hi
    have hx := (h1.ents _ hm).next
    rcases Nat.lt_or_ge (es[i]'hi).next (2 ^ (es[i]'hi).h) with hlt | hge
    · refine ⟨((es[i]'hi).next : Int), 0, MidW B rb mb db k es (es.set i (es[i]'hi).taken), ⟨(take_any h1 hm he hlt).mono ?_, fun w' hM hB => ?_, fun w' w'' hM hb => hM.call hb⟩⟩
      · rintro e w' ⟨rfl, h5, h6⟩
        rw [upd_set h1.apart hi (Like.taken _)] at h5
        exact ⟨rfl, h6, ⟨n, hn, h5⟩, h2.turn h6⟩
      · obtain ⟨⟨n', hn', h5⟩, h6⟩ := hM
        refine (dtake_any h6 x.root x.high x.len (by omega) hi _ rfl hf hlt hB).mono ?_
        rintro e w'' ⟨rfl, h7, h8⟩
        exact ⟨rfl, h8, _, ⟨n', by omega, h5.doc h8⟩, h7, named_set h3 hi (Like.taken _), by rw [List.length_set]; omega⟩
    · refine ⟨0, 6, MidW B rb mb db k es es, ⟨(take_spent h1 hm he (by omega)).mono ?_, fun w' hM hB => ?_, fun w' w'' hM hb => hM.call hb⟩⟩
      · rintro e w' ⟨rfl, hb⟩
        exact ⟨rfl, RFrame.of_below hb, ⟨n, hn, h1.call hb⟩, h2.call hb⟩
      · obtain ⟨⟨n', hn', h5⟩, h6⟩ := hM
        refine (dtake_spent h6 x.root x.high x.len (by omega) hi hf (by omega)).mono ?_
        rintro e w'' ⟨rfl, hb⟩
        exact ⟨rfl, DFrame.of_below hb, es, ⟨n', by omega, h5.call hb⟩, h6.call hb, h3, by omega⟩
  · refine ⟨0, 7, MidW B rb mb db k es es, ⟨(take_not h1 x.len x.wf hno).mono ?_, fun w' hM hB => ?_, fun w' w'' hM hb => hM.call hb⟩⟩
    · rintro e w' ⟨rfl, hb⟩
      exact ⟨rfl, RFrame.of_below hb, ⟨n, hn, h1.call hb⟩, h2.call hb⟩
    · obtain ⟨⟨n', hn', h5⟩, h6⟩ := hM
      refine (dtake_not h6 x.root x.high x.len (by omega) hno2).mono ?_
      rintro e w'' ⟨rfl, hb⟩
      exact ⟨rfl, DFrame.of_below hb, es, ⟨n', by omega, h5.call hb⟩, h6.call hb, h3, by omega⟩
set_option maxRecDepth 100000 in
theorem two_skip (s : TwoW B rb mb db k w) (x : KeyX) (m : Int) (hk : k ≤ 40) : ∃ (c : Int) (M : World → Prop), Both B rb mb db k w 15 16 #[.pointer (some ⟨rb, 0, none⟩), x.enc, .int .i64 m] #[.pointer (some ⟨db, 0, none⟩), x.enc, .int .i64 m] (.int .i64 c) M := by
  obtain ⟨es, ⟨n, hn, h1⟩, h2, h3, h4⟩ := s
  rcases there_or es x.root x.high h1.keys with ⟨i, hi, he, hf⟩ | ⟨hno, hno2, hf⟩
  · have hm := List.getElem_mem hi
    obtain ⟨c, hc⟩ : ∃ c : Nat, (c : Int) = max 0 (min m ((2 ^ (es[i]'hi).h : Nat) : Int)) := ⟨(max 0 (min m ((2 ^ (es[i]'hi).h : Nat) : Int))).toNat, by omega⟩
    refine ⟨0, MidW B rb mb db k es (es.set i ((es[i]'hi).skipped c)), ⟨(skip_any h1 hm he m c hc).mono ?_, fun w' hM hB => ?_, fun w' w'' hM hb => hM.call hb⟩⟩
    · rintro e w' ⟨rfl, h5, h6⟩
      rw [upd_set h1.apart hi (Like.skipped _ c)] at h5
      exact ⟨rfl, h6, ⟨n, hn, h5⟩, h2.turn h6⟩
    · obtain ⟨⟨n', hn', h5⟩, h6⟩ := hM
      refine (dskip_any h6 x.root x.high x.len (by omega) hi _ rfl hf m c hc hB).mono ?_
      rintro e w'' ⟨rfl, h7, h8⟩
      exact ⟨rfl, h8, _, ⟨n', by omega, h5.doc h8⟩, h7, named_set h3 hi (Like.skipped _ c), by rw [List.length_set]; omega⟩
  · refine ⟨7, MidW B rb mb db k es es, ⟨(skip_not h1 x.len x.wf hno m).mono ?_, fun w' hM hB => ?_, fun w' w'' hM hb => hM.call hb⟩⟩
    · rintro e w' ⟨rfl, hb⟩
      exact ⟨rfl, RFrame.of_below hb, ⟨n, hn, h1.call hb⟩, h2.call hb⟩
    · obtain ⟨⟨n', hn', h5⟩, h6⟩ := hM
      refine (dskip_not h6 x.root x.high x.len (by omega) hno2 m).mono ?_
      rintro e w'' ⟨rfl, hb⟩
      exact ⟨rfl, DFrame.of_below hb, es, ⟨n', by omega, h5.call hb⟩, h6.call hb, h3, by omega⟩
set_option maxRecDepth 100000 in
theorem two_retire (s : TwoW B rb mb db k w) (x : KeyX) (hk : k ≤ 40) : ∃ (c : Int) (M : World → Prop), Both B rb mb db k w 17 18 #[.pointer (some ⟨rb, 0, none⟩), x.enc] #[.pointer (some ⟨db, 0, none⟩), x.enc] (.int .i64 c) M := by
  obtain ⟨es, ⟨n, hn, h1⟩, h2, h3, h4⟩ := s
  rcases there_or es x.root x.high h1.keys with ⟨i, hi, he, hf⟩ | ⟨hno, hno2, hf⟩
  · have hm := List.getElem_mem hi
    refine ⟨0, MidW B rb mb db k es (es.eraseIdx i), ⟨(retire_any h1 hm he).mono ?_, fun w' hM hB => ?_, fun w' w'' hM hb => hM.call hb⟩⟩
    · rintro e w' ⟨rfl, h5, h6⟩
      rw [filter_erase h1.keys hi he] at h5
      exact ⟨rfl, h6, ⟨n, hn, h5⟩, h2.turn h6⟩
    · obtain ⟨⟨n', hn', h5⟩, h6⟩ := hM
      refine (dretire_any h6 x.root x.high x.len (by omega) hi hf hB).mono ?_
      rintro e w'' ⟨rfl, h7, h8⟩
      have hsub := List.eraseIdx_sublist es i
      exact ⟨rfl, h8, _, ⟨n', by omega, h5.doc h8⟩, h7, fun e he => h3 e (hsub.mem he), Nat.le_succ_of_le (Nat.le_trans hsub.length_le h4)⟩
  · refine ⟨7, MidW B rb mb db k es es, ⟨(retire_not h1 x.len x.wf hno).mono ?_, fun w' hM hB => ?_, fun w' w'' hM hb => hM.call hb⟩⟩
    · rintro e w' ⟨rfl, hb⟩
      exact ⟨rfl, RFrame.of_below hb, ⟨n, hn, h1.call hb⟩, h2.call hb⟩
    · obtain ⟨⟨n', hn', h5⟩, h6⟩ := hM
      refine (dretire_not h6 x.root x.high x.len (by omega) hno2).mono ?_
      rintro e w'' ⟨rfl, hb⟩
      exact ⟨rfl, DFrame.of_below hb, es, ⟨n', by omega, h5.call hb⟩, h6.call hb, h3, by omega⟩
set_option maxRecDepth 100000 in
theorem two_add (s : TwoW B rb mb db k w) (b : UInt8) (h : Int) (hh : ¬ (2 < h ∧ h ≤ 6)) (hk : k ≤ 40) (hT : Roots w) (hB : B ≤ w.heap.size) : ∃ (x : KeyX) (c : Int) (M : World → Prop), Both B rb mb db k w 8 9 #[.pointer (some ⟨rb, 0, none⟩), .agg ((b :: List.replicate 31 0).map bv).toArray, .int .i64 h] #[.pointer (some ⟨db, 0, none⟩), .agg ((b :: List.replicate 31 0).map bv).toArray, .int .i64 h] (.tuple #[x.enc, .int .i64 c]) M := by
  obtain ⟨es, ⟨n, hn, h1⟩, h2, h3, h4⟩ := s
  have hs : (b :: List.replicate 31 (0 : UInt8)).length = 32 := rfl
  by_cases h0 : 0 ≤ h ∧ h ≤ 2
  · obtain ⟨q, rfl⟩ : ∃ q : Nat, h = (q : Int) := ⟨h.toNat, by omega⟩
    have hq : q ≤ 6 := by omega
    rcases there_or es (keyT (b :: List.replicate 31 0) q) (q : Int) h1.keys with ⟨i, hi, he, hf⟩ | ⟨hno, hno2, hf⟩
    · refine ⟨⟨List.replicate 32 0, 0, rfl, rfl⟩, 9, MidW B rb mb db k es es, ⟨(radd_other h1 _ hs q hq hT (List.getElem_mem hi) he).mono ?_, fun w' hM hB => ?_, fun w' w'' hM hb => hM.call hb⟩⟩
      · rintro e w' ⟨rfl, hb⟩
        exact ⟨rfl, RFrame.of_below hb, ⟨n, hn, h1.call hb⟩, h2.call hb⟩
      · obtain ⟨⟨n', hn', h5⟩, h6⟩ := hM
        refine (dadd_other h6 _ hs q hq (by omega) hf).mono ?_
        rintro e w'' ⟨rfl, hb⟩
        exact ⟨rfl, DFrame.of_below hb, es, ⟨n', by omega, h5.call hb⟩, h6.call hb, h3, by omega⟩
    · refine ⟨⟨keyT (b :: List.replicate 31 0) q, (q : Int), keyT_len _ q, small_wf q (by omega)⟩, 0, fun w' => ∃ sb ob tb gb, MidW B rb mb db (k + 1) es (es ++ [Ent.fresh (b :: List.replicate 31 0) q sb ob tb gb]) w', ⟨(radd_any h1 _ hs q hq hT hno (by simp [maxLen]; omega) hB).mono ?_, fun w' hM hB => ?_, fun w' w'' hM hb => ?_⟩⟩
      · rintro e w' ⟨rfl, ⟨sb, ob, tb, gb, h5⟩, h6⟩
        exact ⟨rfl, h6, sb, ob, tb, gb, ⟨n + 1, by omega, h5⟩, h2.turn h6⟩
      · obtain ⟨sb, ob, tb, gb, ⟨n', hn', h5⟩, h6⟩ := hM
        refine (dadd_any h6 _ hs q hq (by omega) hf hB sb ob tb gb).mono ?_
        rintro e w'' ⟨rfl, h7, h8⟩
        refine ⟨rfl, h8, _, ⟨n', hn', h5.doc h8⟩, h7, fun e he => ?_, by simp; omega⟩
        rcases List.mem_append.1 he with he | he
        · exact h3 e he
        · obtain rfl := List.mem_singleton.1 he
          exact ⟨⟨b, rfl⟩, by show q ≤ 2; omega⟩
      · obtain ⟨sb, ob, tb, gb, hM⟩ := hM
        exact ⟨sb, ob, tb, gb, hM.call hb⟩
  · refine ⟨⟨List.replicate 32 0, 0, rfl, rfl⟩, 1, MidW B rb mb db k es es, ⟨(radd_arg _ hs h (by rw [Bool.and_eq_false_iff]; by_cases q : 0 ≤ h; exact .inr (decide_eq_false (by omega)); exact .inl (decide_eq_false q)) rb w).mono ?_, fun w' hM hB => ?_, fun w' w'' hM hb => hM.call hb⟩⟩
    · rintro e w' ⟨rfl, hb⟩
      exact ⟨rfl, RFrame.of_below hb, ⟨n, hn, h1.call hb⟩, h2.call hb⟩
    · obtain ⟨⟨n', hn', h5⟩, h6⟩ := hM
      refine (dadd_arg _ h (by omega) db w').mono ?_
      rintro e w'' ⟨rfl, hb⟩
      exact ⟨rfl, DFrame.of_below hb, es, ⟨n', by omega, h5.call hb⟩, h6.call hb, h3, by omega⟩
end Go.Proofs.YtojgmdagamdcfaaGreatDoor

namespace Go.Proofs.YtojgmdagamdcfaaGreatDoor
open Go.RowKit Go.Maps

variable {B rb mb db k : Nat} {es es' : List Ent} {w w' : World}
set_option maxRecDepth 100000 in
theorem SigW.doc {cs : Array Value} {seed d : List UInt8} {h n : Nat} (s : SigW w cs seed h n d) (f : DFrame B w w') : SigW w' cs seed h n d := by
  obtain ⟨g1, g2, A, c, base, e, b1, b2, ho, ha⟩ := s
  exact ⟨g1, g2, A, c, base, e, f.box b1 (by decide) (by decide) (by decide), f.box b2 (by decide) (by decide) (by decide), own_doc ho f (by decide) (by decide) (by decide), ha⟩
/-- Two signatures that read alike. -/
def SameS (cs cs' : Array Value) (w : World) : Prop :=
  ∃ (n : Int) (X Y P : List (List UInt8)) (A A' C C' D D' : Option Addr) (a a' c c' d d' : Nat), cs = sigV n A X.length a C Y.length c D P.length d ∧ cs' = sigV n A' X.length a' C' Y.length c' D' P.length d' ∧
    Digs w w.heap.size A X ∧ Digs w w.heap.size A' X ∧ Digs w w.heap.size C Y ∧ Digs w w.heap.size C' Y ∧ Digs w w.heap.size D P ∧ Digs w w.heap.size D' P ∧ X.length ≤ 1099511627776 ∧ Y.length ≤ 1099511627776 ∧ P.length ≤ 1099511627776
set_option maxRecDepth 100000 in
theorem Digs.rise {A : Option Addr} {X : List (List UInt8)} {w w' : World} (h : Digs w w.heap.size A X) (hb : Below w.heap.size w w') : Digs w' w'.heap.size A X := ⟨h.1, (h.2.below hb).more hb.size⟩
set_option maxRecDepth 100000 in
theorem SameS.call {cs cs' : Array Value} (s : SameS cs cs' w) (hb : Below w.heap.size w w') : SameS cs cs' w' := by
  obtain ⟨n, X, Y, P, A, A', C, C', D, D', a, a', c, c', d, d', e1, e2, h1, h2, h3, h4, h5, h6, l⟩ := s
  exact ⟨n, X, Y, P, A, A', C, C', D, D', a, a', c, c', d, d', e1, e2, h1.rise hb, h2.rise hb, h3.rise hb, h4.rise hb, h5.rise hb, h6.rise hb, l⟩
set_option maxRecDepth 100000 in
theorem SameS.same {cs cs' : Array Value} (s : SameS cs cs' w) : Calls Tryz.prog 14 #[.agg cs, .agg cs'] w fun e w' => e = .returned (.bool true) ∧ Below w.heap.size w w' := by
  obtain ⟨n, X, Y, P, A, A', C, C', D, D', a, a', c, c', d, d', rfl, rfl, h1, h2, h3, h4, h5, h6, l1, l2, l3⟩ := s
  have h := ksame_any n n X Y P X Y P A C D A' C' D' a c d a' c' d' w h1 h3 h5 h2 h4 h6 l1 l2 l3
  simpa using h
set_option maxRecDepth 100000 in
theorem SameS.zero (w : World) : SameS zsig zsig w := by
  have h : Digs w w.heap.size none [] := ⟨fun d hd => by simp at hd, .inl rfl⟩
  exact ⟨0, [], [], [], none, none, none, none, none, none, 0, 0, 0, 0, 0, 0, rfl, rfl, h, h, h, h, h, h, by simp, by simp, by simp⟩
set_option maxRecDepth 100000 in
theorem SameS.facts {cs cs' : Array Value} (s : SameS cs cs' w) : (cs.size = zsig.size ∧ (Tryz.prog.info? 48).map (·.size) = some cs.size ∧ (∀ v ∈ cs.toList, v.oneCell' = true) ∧ (Tryz.prog.info? 48).map (·.size) = some cs.toList.length) ∧ (cs'.size = zsig.size ∧ (Tryz.prog.info? 48).map (·.size) = some cs'.size ∧ (∀ v ∈ cs'.toList, v.oneCell' = true) ∧ (Tryz.prog.info? 48).map (·.size) = some cs'.toList.length) := by
  obtain ⟨n, X, Y, P, A, A', C, C', D, D', a, a', c, c', d, d', rfl, rfl, _⟩ := s
  exact ⟨⟨rfl, sig_size .., fun v hv => sig_one _ _ _ _ _ _ _ _ _ _ v hv, sig_size ..⟩, rfl, sig_size .., fun v hv => sig_one _ _ _ _ _ _ _ _ _ _ v hv, sig_size ..⟩

/-- What a signature's cells are, to be stored and loaded. -/
def SigF (cs : Array Value) : Prop := cs.size = zsig.size ∧ (Tryz.prog.info? 48).map (·.size) = some cs.size ∧ (∀ v ∈ cs.toList, v.oneCell' = true) ∧ (Tryz.prog.info? 48).map (·.size) = some cs.toList.length
set_option maxRecDepth 100000 in
theorem SigF.zero : SigF zsig := (SameS.zero default).facts.1
/-- What both rings sign. -/
structure BothS (B rb mb db k : Nat) (w : World) (args args2 : Array Value) (c : Int) (M : Array Value → World → Prop) : Prop where
  one : Calls Tryz.prog 12 args w fun e w' => ∃ cs, e = .returned (.tuple #[.agg cs, .int .i64 c]) ∧ SigF cs ∧ RFrame B w w' ∧ M cs w'
  two : ∀ cs w', M cs w' → B ≤ w'.heap.size → Calls Tryz.prog 13 args2 w' fun e w'' => ∃ cs', e = .returned (.tuple #[.agg cs', .int .i64 c]) ∧ DFrame B w' w'' ∧ SameS cs cs' w'' ∧ TwoW B rb mb db (k + 1) w''
  keep : ∀ cs w' w'', M cs w' → Below w'.heap.size w' w'' → M cs w''
set_option maxRecDepth 100000 in
theorem two_sign (s : TwoW B rb mb db k w) (x : KeyX) (n : Int) (d : List UInt8) (hd : d.length = 32) (hk : k ≤ 40) (hT : Roots w) (hB : B ≤ w.heap.size) (hl : 1 < B) : ∃ (c : Int) (M : Array Value → World → Prop), BothS B rb mb db k w #[.pointer (some ⟨rb, 0, none⟩), x.enc, .int .i64 n, .agg (d.map bv).toArray] #[.pointer (some ⟨db, 0, none⟩), x.enc, .int .i64 n, .agg (d.map bv).toArray] c M := by
  obtain ⟨es, ⟨m, hm, h1⟩, h2, h3, h4⟩ := s
  rcases there_or es x.root x.high h1.keys with ⟨i, hi, he, hf⟩ | ⟨hno, hno2, hf⟩
  · have hmem := List.getElem_mem hi
    by_cases hop : n ∈ openL (es[i]'hi)
    · obtain ⟨q, rfl, hq, ht⟩ := (open_mem _ _).1 hop
      have hE := h1.ents _ hmem
      have hp6 : 2 ^ (es[i]'hi).h ≤ 2 ^ 6 := Nat.pow_le_pow_right (by decide) hE.high
      have hpl : (pathT (leavesT (es[i]'hi).seed (es[i]'hi).h) q).length ≤ 1099511627776 := by
        have h9 := pathT_short (leavesT (es[i]'hi).seed (es[i]'hi).h) q (by rw [leaves_len]; exact Nat.lt_of_lt_of_le hq hE.next)
        rw [leaves_len] at h9
        omega
      refine ⟨0, fun cs w' => SigW w' cs (es[i]'hi).seed (es[i]'hi).h q d ∧ MidW B rb mb db k es (es.set i ((es[i]'hi).opened q false)) w', (rsign_ok h1 hmem he q hq ht d hd hT hB hl).mono ?_, fun cs w' hM hB' => ?_, fun cs w' w'' hM hb => ⟨hM.1.call hb, hM.2.call hb⟩⟩
      · rintro e w' ⟨cs, rfl, h5, h6, h7⟩
        rw [upd_set h1.apart hi (Like.opened _ _ _)] at h6
        exact ⟨cs, rfl, h5.facts, h7, h5, ⟨m, hm, h6⟩, h2.turn h7⟩
      · obtain ⟨h5, ⟨m', hm', h6⟩, h7⟩ := hM
        refine (dsign_any h7 x.root x.high x.len (by omega) hi _ rfl hf q hop d hd hB').mono ?_
        rintro e w'' ⟨A, X, C, a, b, c, rfl, g1, g2, g3, g4, g5⟩
        obtain ⟨e1, e2, A2, c2, base, rfl, b1, b2, ho, ha⟩ := h5.doc g5
        obtain ⟨l1, l2⟩ := sign_lens (es[i]'hi).seed (q : Int) d
        refine ⟨_, rfl, g5, ⟨(q : Int), openT (es[i]'hi).seed (q : Int) d, shutT (es[i]'hi).seed (q : Int) d, pathT (leavesT (es[i]'hi).seed (es[i]'hi).h) q, _, A, _, X, A2, C, 32, a, 32, b, c2, c, by rw [l1, l2], by rw [l1, l2], ⟨open_all _ q d, Sees.of_box b1 b1.lt⟩, g1, ⟨shut_all _ q d, Sees.of_box b2 b2.lt⟩, g2, OwnD.digs ho ha, g3, by rw [l1]; decide, by rw [l2]; decide, hpl⟩, _, ⟨m', by omega, h6.doc g5⟩, g4, named_set h3 hi (Like.opened _ _ _), by rw [List.length_set]; omega⟩
    · refine ⟨9, fun cs w' => cs = zsig ∧ MidW B rb mb db k es es w', ?_, fun cs w' hM hB' => ?_, fun cs w' w'' hM hb => ⟨hM.1, hM.2.call hb⟩⟩
      · have hc : Calls Tryz.prog 12 #[.pointer (some ⟨rb, 0, none⟩), x.enc, .int .i64 n, .agg (d.map bv).toArray] w fun e1 w' => e1 = .returned (.tuple #[.agg zsig, .int .i64 9]) ∧ Below w.heap.size w w' := by
          rcases Int.lt_or_le n 0 with hneg | h0
          · exact sign_neg h1 hmem he n hneg d
          · rcases Int.lt_or_le n ((es[i]'hi).next : Int) with hlt | hge
            · refine sign_used h1 hmem he n h0 hlt ?_ d
              rw [← Bool.not_eq_true]
              intro ht
              exact hop ((open_mem _ _).2 ⟨n.toNat, by omega, by omega, ht⟩)
            · exact sign_past h1 hmem he n h0 hge d
        refine hc.mono ?_
        rintro e w' ⟨rfl, hb⟩
        exact ⟨_, rfl, SigF.zero, RFrame.of_below hb, rfl, ⟨m, hm, h1.call hb⟩, h2.call hb⟩
      · obtain ⟨rfl, ⟨m', hm', h6⟩, h7⟩ := hM
        refine (dsign_other h7 x.root x.high x.len (by omega) hi _ rfl hf n hop d).mono ?_
        rintro e w'' ⟨rfl, hb⟩
        exact ⟨_, rfl, DFrame.of_below hb, SameS.zero _, es, ⟨m', by omega, h6.call hb⟩, h7.call hb, h3, by omega⟩
  · refine ⟨7, fun cs w' => cs = zsig ∧ MidW B rb mb db k es es w', (sign_not h1 x.len x.wf hno n d).mono ?_, fun cs w' hM hB' => ?_, fun cs w' w'' hM hb => ⟨hM.1, hM.2.call hb⟩⟩
    · rintro e w' ⟨rfl, hb⟩
      exact ⟨_, rfl, SigF.zero, RFrame.of_below hb, rfl, ⟨m, hm, h1.call hb⟩, h2.call hb⟩
    · obtain ⟨rfl, ⟨m', hm', h6⟩, h7⟩ := hM
      refine (dsign_not h7 x.root x.high x.len (by omega) hno2 n d).mono ?_
      rintro e w'' ⟨rfl, hb⟩
      exact ⟨_, rfl, DFrame.of_below hb, SameS.zero _, es, ⟨m', by omega, h6.call hb⟩, h7.call hb, h3, by omega⟩
set_option maxRecDepth 100000 in
/-- Both tell the same number that is left. -/
theorem two_left (s : TwoW B rb mb db k w) (x : KeyX) (hk : k ≤ 40) : ∃ c : Int, (Calls Tryz.prog 21 #[.pointer (some ⟨rb, 0, none⟩), x.enc] w fun e w' => e = .returned (.int .i64 c) ∧ Below w.heap.size w w') ∧ ∀ w1, Below w.heap.size w w1 → Calls Tryz.prog 22 #[.pointer (some ⟨db, 0, none⟩), x.enc] w1 fun e w' => e = .returned (.int .i64 c) ∧ Below w1.heap.size w1 w' := by
  obtain ⟨es, ⟨m, hm, h1⟩, h2, h3, h4⟩ := s
  rcases there_or es x.root x.high h1.keys with ⟨i, hi, he, hf⟩ | ⟨hno, hno2, hf⟩
  · exact ⟨_, rleft_any h1 (List.getElem_mem hi) he, fun w1 hb => dleft_any (h2.call hb) x.root x.high x.len (by omega) hi hf⟩
  · exact ⟨_, rleft_not h1 x.len x.wf hno, fun w1 hb => dleft_not (h2.call hb) x.root x.high x.len (by omega) hno2⟩
set_option maxRecDepth 100000 in
/-- The program's list of keys is the document's. -/
theorem KeysAre.ranks {es : List Ent} {xs : List KeyX} (h : KeysAre es xs) (hk : es.Pairwise fun a b => a.lit ≠ b.lit) (hn : ∀ e ∈ es, Named e) : ∃ ρ, Ranks es xs ρ := by
  have h0 : ∀ j, ∃ t, ∀ hj : j < es.length, ∃ ht : t < xs.length, (xs[t]'ht).lit = (es[j]'hj).lit := fun j => by
    by_cases hj : j < es.length
    · obtain ⟨x, hx, e⟩ := (h.mem _).2 ⟨_, List.getElem_mem hj, rfl⟩
      obtain ⟨t, ht, rfl⟩ := List.getElem_of_mem hx
      exact ⟨t, fun _ => ⟨ht, e⟩⟩
    · exact ⟨0, fun q => absurd q hj⟩
  obtain ⟨ρ, hρ⟩ : ∃ ρ : Nat → Nat, ∀ j, ∀ hj : j < es.length, ∃ ht : ρ j < xs.length, (xs[ρ j]'ht).lit = (es[j]'hj).lit := ⟨fun j => (h0 j).choose, fun j => (h0 j).choose_spec⟩
  have hinj : ∀ {x : KeyX} {e : Ent}, e ∈ es → x.lit = e.lit → x.root = e.root ∧ x.high = (e.h : Int) := fun {x e} he q => klit_inj x.len e.root_len x.wf (small_wf _ (by have := (hn e he).2; omega)) q
  have hap : ∀ s t (hs : s < xs.length) (ht : t < xs.length), s ≠ t → (xs[s]'hs).lit ≠ (xs[t]'ht).lit := fun s t hs ht hne => by
    rcases Nat.lt_or_ge s t with hlt | hge
    · exact List.pairwise_iff_getElem.1 h.apart s t hs ht hlt
    · exact (List.pairwise_iff_getElem.1 h.apart t s ht hs (by omega)).symm
  refine ⟨ρ, h.length hk, fun j hj => (hρ j hj).1, fun j hj _ => hinj (List.getElem_mem hj) (hρ j hj).2, fun t ht => ?_, fun s t ht hst => ?_⟩
  · obtain ⟨e, he, q⟩ := (h.mem _).1 ⟨_, List.getElem_mem ht, rfl⟩
    obtain ⟨j, hj, rfl⟩ := List.getElem_of_mem he
    refine ⟨j, hj, ?_⟩
    obtain ⟨h1, h2⟩ := hρ j hj
    refine Classical.byContradiction fun hne => hap _ _ h1 ht hne ?_
    rw [h2, q]
  · have hs : s < xs.length := Nat.lt_trans hst ht
    have ho := List.pairwise_iff_getElem.1 h.order s t hs ht hst
    rcases KeyX.cmp_not ho with h1 | h1
    · rcases (KeyX.cmp_neg _ _).1 h1 with h2 | ⟨h2, h3⟩
      · exact h2
      · exfalso
        obtain ⟨e, he, q⟩ := (h.mem _).1 ⟨_, List.getElem_mem hs, rfl⟩
        obtain ⟨e', he', q'⟩ := (h.mem _).1 ⟨_, List.getElem_mem ht, rfl⟩
        obtain ⟨a1, a2⟩ := hinj he q.symm
        obtain ⟨b1, b2⟩ := hinj he' q'.symm
        obtain ⟨⟨a, ha⟩, hh⟩ := hn e he
        obtain ⟨⟨b, hb⟩, hh'⟩ := hn e' he'
        rw [a1, b1] at h2
        unfold Ent.root at h2
        rw [ha, hb] at h2
        exact roots_apart a b e.h e'.h hh hh' (by omega) h2
    · exact absurd (congrArg KeyX.lit h1).symm (hap s t hs ht (by omega))
/-- The program told its keys; the document's are to be told. -/
def KeyM (B rb mb db k : Nat) (xs : List KeyX) (w : World) : Prop := ∃ es, TwoP B rb mb db k es w ∧ KeysAre es xs
set_option maxRecDepth 100000 in
theorem KeyM.call {xs : List KeyX} (s : KeyM B rb mb db k xs w) (hb : Below w.heap.size w w') : KeyM B rb mb db k xs w' := by
  obtain ⟨es, ⟨⟨n, hn, h1⟩, h2, h3, h4⟩, h5⟩ := s
  exact ⟨es, ⟨⟨n, hn, h1.call hb⟩, h2.call hb, h3, h4⟩, h5⟩
set_option maxRecDepth 100000 in
theorem own_keys3 {xs : List KeyX} {b : Nat} {A : Option Addr} {c : Nat} (h : w.ownsRow b 37 33 (.slice A xs.length c) xs.length (xs.flatMap KeyX.cells)) : KeyS w w.heap.size A xs := by
  rcases h.2 with ⟨_, h0⟩ | ⟨g, cap, cur, hv, hbg, hh, hn, hm, hs, ht⟩
  · refine .inl ?_
    rw [List.eq_nil_of_length_eq_zero h0]
    rfl
  · injection hv with h1 h2 h3
    subst h1
    have hb : Box w g 37 cur := hh
    have h := (Sees.of_box hb (B := w.heap.size) hb.lt).take (xs.length * 33)
    rw [ht] at h
    exact h
set_option maxRecDepth 100000 in
theorem own_keys2 {xs : List KeyX} {b : Nat} {v : Value} (h : w.ownsRow b 37 33 v xs.length (xs.flatMap KeyX.cells)) : ∃ A c, v = .slice A xs.length c ∧ KeyS w w.heap.size A xs := by
  obtain ⟨A, c, rfl⟩ : ∃ A c, v = .slice A xs.length c := by
    obtain ⟨_, h⟩ := h
    rcases h with ⟨h1, h2⟩ | ⟨g, c, cur, h1, _⟩
    · exact ⟨none, 0, by simp_all⟩
    · exact ⟨_, c, h1⟩
  exact ⟨A, c, rfl, own_keys3 h⟩
set_option maxRecDepth 100000 in
theorem two_keys (s : TwoW B rb mb db k w) (hk : k ≤ 40) : Calls Tryz.prog 19 #[.pointer (some ⟨rb, 0, none⟩)] w fun e w' => ∃ xs A c, e = .returned (.slice A xs.length c) ∧ KeyS w' w'.heap.size A xs ∧ xs.length ≤ 40 ∧ KeyM B rb mb db k xs w' ∧ Below w.heap.size w w' := by
  obtain ⟨es, ⟨m, hm, h1⟩, h2, h3, h4⟩ := s
  refine (rkeys_any h1 (by omega)).mono ?_
  rintro e w' ⟨xs, v, rfl, hka, ho, hb⟩
  obtain ⟨A, c, rfl, hS⟩ := own_keys2 ho
  exact ⟨xs, A, c, rfl, hS, by rw [hka.length h1.keys]; omega, ⟨es, ⟨⟨m, hm, h1.call hb⟩, h2.call hb, h3, h4⟩, hka⟩, hb⟩
set_option maxRecDepth 100000 in
theorem two_keys2 {xs : List KeyX} (s : KeyM B rb mb db k xs w) (hk : k ≤ 40) : Calls Tryz.prog 20 #[.pointer (some ⟨db, 0, none⟩)] w fun e w' => ∃ A c, e = .returned (.slice A xs.length c) ∧ KeyS w' w'.heap.size A xs ∧ Below w.heap.size w w' := by
  obtain ⟨es, ⟨⟨m, hm, h1⟩, h2, h3, h4⟩, h5⟩ := s
  obtain ⟨ρ, hR⟩ := h5.ranks h1.keys h3
  refine (dkeys_any h2 hR (by omega)).mono ?_
  rintro e w' ⟨v, rfl, ho, hb⟩
  obtain ⟨A, c, rfl, hS⟩ := own_keys2 ho
  exact ⟨A, c, rfl, hS, hb⟩
set_option maxRecDepth 100000 in
theorem KeyM.two {xs : List KeyX} (s : KeyM B rb mb db k xs w) : TwoW B rb mb db k w := by
  obtain ⟨es, h, _⟩ := s
  exact ⟨es, h⟩
end Go.Proofs.YtojgmdagamdcfaaGreatDoor

namespace Go.Proofs.YtojgmdagamdcfaaGreatDoor
open Go.RowKit Go.Maps

variable {B rb mb db k : Nat} {w w' : World}
set_option maxRecDepth 100000 in
theorem TwoW.key (s : TwoW B rb mb db k w) {row : Option Nat} (hg : w.grownBy w' row) (hr : ∀ g, row = some g → ∃ cs, Box w g 37 cs) : TwoW B rb mb db k w' := by
  cases row with
  | none => exact s.call ⟨hg.os, hg.tape, hg.output, hg.size, fun i hi => hg.block i hi (by simp)⟩
  | some g =>
    obtain ⟨cs, hb⟩ := hr g rfl
    obtain ⟨es, ⟨n, hn, h1⟩, ⟨A, c, ps, h2⟩, h3, h4⟩ := s
    exact ⟨es, ⟨n, hn, h1.aside hg hb (by decide) (by decide) (by decide) (by decide) (by decide)⟩, ⟨A, c, ps, h2.other hg hb (by decide) (by decide) (by decide) (by decide) (by decide)⟩, h3, h4⟩
/-- The list, the call, the key; nothing below has turned. -/
structure SideW (B : Nat) (lv : Value) (ks : List KeyX) (pc : Nat) (x : CallX) (kb : Nat) (y : KeyX) (w0 w : World) : Prop where
  list : w.ownsRow B 37 33 lv ks.length (ks.flatMap KeyX.cells)
  call : Box w pc 35 x.cells.toArray
  key : Box w kb 37 (keyV y.root y.high)
  far : Below w0.heap.size w0 w
  base : w0.heap.size ≤ B
  high : B ≤ w.heap.size
variable {lv : Value} {ks : List KeyX} {pc kb : Nat} {x : CallX} {y : KeyX} {w0 : World}
set_option maxRecDepth 100000 in
theorem SideW.below (s : SideW B lv ks pc x kb y w0 w) (hb : Below w.heap.size w w') : SideW B lv ks pc x kb y w0 w' :=
  ⟨own_below s.list hb, s.call.below hb s.call.lt, s.key.below hb s.key.lt, s.far.trans (hb.mono s.far.size), s.base, Nat.le_trans s.high hb.size⟩
set_option maxRecDepth 100000 in
theorem SideW.ring (s : SideW B lv ks pc x kb y w0 w) (f : RFrame B w w') : SideW B lv ks pc x kb y w0 w' :=
  ⟨own_turn s.list f (by decide) (by decide), f.box s.call (by decide) (by decide), f.box s.key (by decide) (by decide), s.far.trans ((f.below s.high).mono s.base), s.base, Nat.le_trans s.high f.size⟩
set_option maxRecDepth 100000 in
theorem SideW.doc (s : SideW B lv ks pc x kb y w0 w) (f : DFrame B w w') : SideW B lv ks pc x kb y w0 w' :=
  ⟨own_doc s.list f (by decide) (by decide) (by decide), f.box s.call (by decide) (by decide) (by decide), f.box s.key (by decide) (by decide) (by decide), s.far.trans ((f.below s.high).mono s.base), s.base, Nat.le_trans s.high f.size⟩
set_option maxRecDepth 100000 in
theorem SideW.sees (s : SideW B lv ks pc x kb y w0 w) : ∃ A c, lv = .slice A ks.length c ∧ KeyS w w.heap.size A ks := own_keys2 s.list
set_option maxRecDepth 100000 in
theorem call_d6 {w : World} {g : Nat} {x : CallX} (h : Box w g 35 x.cells.toArray) : w.rangeAt g 4 (x.d.map bv) := Box.range_mid (pre := [.int .i64 x.kind, bv x.seed, .int .i64 x.key, .int .i64 x.n]) (post := []) (by
  rw [List.append_nil]
  exact h) rfl
/-- What the loop carries. -/
structure DoW (B rb mb db k : Nat) (lv : Value) (ks : List KeyX) (w0 w : World) : Prop where
  two : TwoW B rb mb db k w
  list : w.ownsRow B 37 33 lv ks.length (ks.flatMap KeyX.cells)
  few : ks.length ≤ k
  far : Below w0.heap.size w0 w
  base : w0.heap.size ≤ B
  high : B ≤ w.heap.size
set_option maxRecDepth 100000 in
theorem DoW.call (s : DoW B rb mb db k lv ks w0 w) (hb : Below w.heap.size w w') : DoW B rb mb db k lv ks w0 w' :=
  ⟨s.two.call hb, own_below s.list hb, s.few, s.far.trans (hb.mono s.far.size), s.base, Nat.le_trans s.high hb.size⟩
set_option maxRecDepth 100000 in
theorem DoW.sees (s : DoW B rb mb db k lv ks w0 w) : ∃ A c, lv = .slice A ks.length c ∧ KeyS w w.heap.size A ks := own_keys2 s.list
set_option maxRecDepth 100000 in
theorem DoW.side (s : DoW B rb mb db k lv ks w0 w) (h1 : Box w pc 35 x.cells.toArray) (h2 : Box w kb 37 (keyV y.root y.high)) : SideW B lv ks pc x kb y w0 w := ⟨s.list, h1, h2, s.far, s.base, s.high⟩
set_option maxRecDepth 100000 in
theorem SideW.does (s : SideW B lv ks pc x kb y w0 w) (h : TwoW B rb mb db k w) (hk : ks.length ≤ k) : DoW B rb mb db k lv ks w0 w := ⟨h, s.list, hk, s.far, s.base, s.high⟩
set_option maxRecDepth 100000 in
theorem own_box6 {w : World} {base size n : Nat} {e : TypeId} {v : Value} {xs : List Value} (h : w.ownsRow base e size v n xs) {g : Nat} (hg : v.ownBlock = some g) : base ≤ g ∧ g < w.heap.size ∧ ∃ cs, Box w g e cs := by
  rcases h.2 with ⟨rfl, _⟩ | ⟨g', cap, cur, rfl, hb, hh, _⟩
  · cases hg
  · obtain rfl : g' = g := by simpa [Value.ownBlock] using hg
    exact ⟨hb, (Array.getElem?_eq_some_iff.1 hh).1, cur, hh⟩
set_option maxRecDepth 100000 in
/-- A key comes to the list. -/
theorem SideW.append {lv : Value} (s : SideW B lv ks pc x kb y w0 w) (h2 : TwoW B rb mb db k w) (hk40 : ks.length ≤ 40) (z : KeyX) (hne : ∀ g, lv.ownBlock = some g → g ≠ kb) :
    ∃ v w1, (apAll #[31, 31] 31 #[lv, .slice (some ⟨w.heap.size, 0, none⟩) 1 1]).run Tryz.prog (w.alloc (.cells z.cells.toArray 37)) = .ok v w1 ∧ TwoW B rb mb db k w1 ∧ SideW B v (ks ++ [z]) pc x kb y w0 w1 := by
  have hb : Below w.heap.size w (w.alloc (.cells z.cells.toArray 37)) := (Below.refl _ _).alloc (Nat.le_refl _) _
  have hnb := Box.made w 37 z.cells.toArray
  have s' := s.below hb
  obtain ⟨i0, hi0, hz0, hz1, hz2⟩ := info_parts key_info3
  obtain ⟨v, w1, hr, ho, hg, _⟩ := run_append_own (P := Tryz.prog) (w.alloc (.cells z.cells.toArray 37)) B 31 31 37 i0 _ 33 40 Tryz.underlying31 hi0 hz0 hz1 hz2 rfl (by omega) lv ks.length _ s'.list ⟨w.heap.size, 0, none⟩ 1 1 z.cells (by rw [z.cells_len]) (fun j u hu => by
    rw [plain_add, Nat.zero_add, hnb.cell, List.getElem?_toArray]
    exact hu) (keyL_one z.root z.high) (by unfold maxLen; omega) (by omega) (Nat.le_trans s.high hb.size)
  have hown : ∀ g, lv.ownBlock = some g → B ≤ g ∧ ∃ cs, Box (w.alloc (.cells z.cells.toArray 37)) g 37 cs := fun g e => by
    obtain ⟨a1, _, a3⟩ := own_box6 s'.list e
    exact ⟨a1, a3⟩
  refine ⟨v, w1, hr, (h2.call hb).key hg (fun g e => (hown g e).2), ⟨by simpa using ho, s'.call.grown hg (fun e => ?_), s'.key.grown hg (fun e => hne kb e.symm rfl), ?_, s.base, Nat.le_trans s'.high hg.size⟩⟩
  · obtain ⟨_, cs, hcs⟩ := hown pc e.symm
    exact Box.apart s'.call hcs (by decide) rfl
  · refine s'.far.trans ⟨hg.os, hg.tape, hg.output, hg.size, fun i hi => hg.block i (Nat.lt_of_lt_of_le hi s'.far.size) fun e => ?_⟩
    have := (hown i e.symm).1
    have := s.base
    omega
set_option maxRecDepth 100000 in
/-- The document's ring at the start. -/
theorem DocW.start {w : World} {B : Nat} (hB : B ≤ w.heap.size) : DocW (w.alloc (.cells #[.slice none 0 0] 30)) B w.heap.size [] :=
  ⟨none, 0, [], Box.made _ _ _, World.ownsRow_nil _ _ _ _, fun i h => absurd h (Nat.not_lt_zero i), List.nodup_nil, hB, fun p hp => by cases hp⟩
set_option maxRecDepth 100000 in
theorem DoW.start {w w4 : World} {B rb mb : Nat} (h : RingW w4 B rb mb 0 []) (hb : Below w.heap.size w w4) (h1 : w.heap.size ≤ B) (hB : B ≤ w4.heap.size) : DoW B rb mb w4.heap.size 0 (.slice none 0 0) [] w (w4.alloc (.cells #[.slice none 0 0] 30)) := by
  have hb' : Below w4.heap.size w4 (w4.alloc (.cells #[.slice none 0 0] 30)) := (Below.refl _ _).alloc (Nat.le_refl _) _
  exact ⟨⟨[], ⟨0, Nat.le_refl _, h.call hb'⟩, DocW.start hB, fun e he => (by cases he), Nat.le_refl _⟩, World.ownsRow_nil _ _ _ _, Nat.le_refl _, hb.trans (hb'.mono hb.size), h1, Nat.le_trans hB hb'.size⟩
end Go.Proofs.YtojgmdagamdcfaaGreatDoor
