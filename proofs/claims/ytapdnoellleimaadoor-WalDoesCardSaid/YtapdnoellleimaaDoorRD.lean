/-
  Replies read: request.ReadReply.
  What the laws ask first: wapentakelaw09.put, wapentakelaw09.alive.
  Requests read, by the document: wapentakeref09.Read.
  Replies read, by the document: wapentakeref09.ReadReply.
  Two readers over the same bytes, the program's and the document's.
-/
import Derived.Test.YtapdnoellleimaaDoorRB
import Derived.Test.YtapdnoellleimaaDoorSA
import Derived.Deep.AppendLies
import Derived.Deep.RegionHeld3
import Derived.Test.YtapdnoellleimaaDoorRr
namespace Go.Proofs.YtapdnoellleimaaDoor
open Go.RowKit

/-! ### What a reply is read as -/
def rpC (l : List UInt8) (b : Bool) : Int := if (rpF l b).2 = true then 0 else (rq0 l b).1
def rpM (l : List UInt8) (b : Bool) : Int := if (rpF l b).2 = true then 0 else (rq1 l b).1
def rpK (l : List UInt8) (b : Bool) : Int := if (rpF l b).2 = true then 0 else (rp2 l b).1
def rpV (l : List UInt8) (b : Bool) : List ByteArray := if (rpF l b).2 = true then [] else rvsT (rpN l b) (rp3 l b).2.1 (rp3 l b).2.2
set_option maxRecDepth 100000 in
theorem rpV_len (l : List UInt8) (b : Bool) : (rpV l b).length ≤ 256 := by
  unfold rpV
  by_cases h : (rpF l b).2 = true
  · rw [if_pos h]; simp
  · rw [if_neg h, rvsT_len]
    exact (rp3_in l b).2
set_option maxRecDepth 100000 in
theorem rp_good {l : List UInt8} {b : Bool} (h : (rpF l b).2 = false) : rpC l b = (rq0 l b).1 ∧ rpM l b = (rq1 l b).1 ∧ rpK l b = (rp2 l b).1 ∧ rpV l b = rvsT (rpN l b) (rp3 l b).2.1 (rp3 l b).2.2 := by
  have hn : ¬ ((rpF l b).2 = true) := by rw [h]; simp
  unfold rpC rpM rpK rpV
  rw [if_neg hn, if_neg hn, if_neg hn, if_neg hn]
  exact ⟨rfl, rfl, rfl, rfl⟩
set_option maxRecDepth 100000 in
theorem rp_bad {l : List UInt8} {b : Bool} (h : (rpF l b).2 = true) : rpC l b = 0 ∧ rpM l b = 0 ∧ rpK l b = 0 ∧ rpV l b = [] := by
  unfold rpC rpM rpK rpV
  rw [if_pos h, if_pos h, if_pos h, if_pos h]
  exact ⟨rfl, rfl, rfl, rfl⟩
set_option maxRecDepth 100000 in
theorem rvS_zero (s : List UInt8 × Bool) : rvS 0 s.1 s.2 = s := by cases s; rfl
set_option maxRecDepth 100000 in
theorem rvsT_zero (l : List UInt8) (b : Bool) : rvsT 0 l b = [] := rfl
set_option maxRecDepth 100000 in
theorem rvS_succ (k : Nat) (l : List UInt8) (b : Bool) : rvS (k + 1) l b = (txtV 1024 (rvS k l b).1 (rvS k l b).2).2 := by rw [rvS]
set_option maxRecDepth 100000 in
theorem rvsT_more (k : Nat) (l : List UInt8) (b : Bool) : rvsT (k + 1) l b = rvsT k l b ++ [⟨(txtV 1024 (rvS k l b).1 (rvS k l b).2).1.toArray⟩] := by
  rw [rvsT_succ]
  rfl
set_option maxRecDepth 100000 in
theorem rp2_eq (l : List UInt8) (b : Bool) : inV 0 1024 (rq1 l b).2.1 (rq1 l b).2.2 = rp2 l b := rfl
set_option maxRecDepth 100000 in
theorem rp3_eq (l : List UInt8) (b : Bool) : inV 0 256 (rp2 l b).2.1 (rp2 l b).2.2 = rp3 l b := rfl
set_option maxRecDepth 100000 in
theorem rpF_eq (l : List UInt8) (b : Bool) : rpF l b = rvS (rpN l b) (rp3 l b).2.1 (rp3 l b).2.2 := by unfold rpF; rfl
set_option maxRecDepth 100000 in
theorem tk_left {n : Nat} {l : List UInt8} {b : Bool} (h : (tk n l b).2.2 = true) : (tk n l b).2.1 = [] := by
  unfold tk at h ⊢
  by_cases hc : b = false ∧ n ≤ l.length
  · rw [if_pos hc] at h
    cases h
  · rw [if_neg hc]
set_option maxRecDepth 100000 in
theorem txtV_left {m : Int} {l : List UInt8} {b : Bool} (h : (txtV m l b).2.2 = true) : (txtV m l b).2.1 = [] := by
  unfold txtV at h ⊢
  by_cases hc : (tk 4 l b).2.2 = true ∨ m < (beNat (tk 4 l b).1 : Int)
  · rw [if_pos hc]
  · rw [if_neg hc] at h ⊢
    exact tk_left h
set_option maxRecDepth 100000 in
theorem rvS_left {k : Nat} {l : List UInt8} {b : Bool} (hl : b = true → l = []) (h : (rvS k l b).2 = true) : rvS k l b = ([], true) := by
  cases k with
  | zero =>
    have hb : b = true := h
    subst hb
    rw [hl rfl]
    rfl
  | succ k =>
    have h2 : (txtV 1024 (rvS k l b).1 (rvS k l b).2).2.1 = [] := txtV_left h
    exact Prod.ext h2 h
set_option maxRecDepth 100000 in
theorem rvS_past {k m : Nat} (hkm : k ≤ m) {l : List UInt8} {b : Bool} (h : rvS k l b = ([], true)) : rvS m l b = ([], true) := by
  obtain ⟨j, rfl⟩ : ∃ j, m = k + j := ⟨m - k, by omega⟩
  rw [rvS_add, h]
  exact rvS_bad j

/-! ### Replies in memory -/
abbrev zrepV : Array Value := #[.int .i64 0, .int .i64 0, .int .i64 0, .slice none 0 0]
set_option maxRecDepth 100000 in
theorem repc_one (c n k : Int) (A : Option Addr) (m z : Nat) : ∀ v ∈ (repV c n k A m z).toList, v.oneCell' = true := by
  intro v hv
  simp only [List.mem_cons, List.not_mem_nil, or_false] at hv
  rcases hv with rfl | rfl | rfl | rfl <;> rfl
/-! ### One text more -/
set_option maxRecDepth 100000 in
theorem str_info : (Tryd.prog.info? 9).map (fun i => (i.zero, i.size, i.bytes)) = some (some (.string ⟨#[]⟩), 1, 16) := by kernel_rfl
set_option maxRecDepth 100000 in
theorem strs_one (ps : List ByteArray) : ∀ u ∈ ps.map Value.string, u.oneCell' = true := by
  intro u hu
  obtain ⟨s, _, rfl⟩ := List.mem_map.1 hu
  rfl
set_option maxRecDepth 100000 in
theorem push_str {w : World} {base n : Nat} {v : Value} {ps : List ByteArray} (hn : n = ps.length) (hown : w.ownsRow base 9 1 v n (ps.map Value.string)) {b : Nat} {t : TypeId} {x : ByteArray} (hb : Box w b t #[.string x]) (hle : n + 1 ≤ 1099511627776) (hbase : base ≤ w.heap.size) :
    ∃ g cap w', (apAll #[39, 39] 39 #[v, .slice (some ⟨b, 0, none⟩) 1 1]).run Tryd.prog w = .ok (.slice (some ⟨g, 0, none⟩) (n + 1) cap) w' ∧ w'.ownsRow base 9 1 (.slice (some ⟨g, 0, none⟩) (n + 1) cap) (n + 1) ((ps ++ [x]).map Value.string) ∧ w.grownBy w' v.ownBlock ∧ (v.ownBlock = some g ∨ g = w.heap.size) := by
  obtain ⟨i0, hi0, hz0, hz1, hz2⟩ := info_parts str_info
  obtain ⟨g, cap, w', hr, ho, hg, hat, _⟩ := run_append_lies (P := Tryd.prog) w 39 39 base 9 i0 _ 1 16 Tryd.underlying39 hi0 hz0 hz1 hz2 rfl (by omega) v n _ hown ⟨b, 0, none⟩ 1 1 [.string x] rfl (fun j u hu => by rw [plain_add, Nat.zero_add, hb.cell, List.getElem?_toArray]; exact hu) (by simp [Value.oneCell']) (by omega) (by unfold maxLen; omega) (by omega) hbase w.heap.size rfl
  refine ⟨g, cap, w', hr, ?_, hg, hat⟩
  rw [List.map_append]
  simpa using ho

section
variable {R : World → Nat → List UInt8 → Bool → Prop} {w0 w w' : World} {a r b : Nat} {c n k : Int} {v : Value} {L : List ByteArray} {s s' : List UInt8 × Bool}
end

/-- The row lies behind block B. -/
def Fresh9 (B : Nat) (A : Option Addr) (xs : List Value) : Prop := xs = [] ∨ ∃ g, A = some ⟨g, 0, none⟩ ∧ B ≤ g
set_option maxRecDepth 100000 in
theorem fresh_own {w : World} {base n c : Nat} {e : TypeId} {A : Option Addr} {xs : List Value} (h : w.ownsRow base e 1 (.slice A n c) n xs) : Fresh9 base A xs := by
  rcases Nat.eq_zero_or_pos n with hn | hn
  · subst hn
    exact .inl (List.eq_nil_of_length_eq_zero (by simpa using h.1))
  · obtain ⟨g, cap, hv, hge, hlt⟩ := h.form hn
    have hA : A = some ⟨g, 0, none⟩ := by injection hv
    exact .inr ⟨g, hA, hge⟩

/-- What ReadReply answers, and leaves. -/
def RepIs (R : World → Nat → List UInt8 → Bool → Prop) (a : Nat) (l : List UInt8) (b : Bool) (w : World) (e : Ending) (w' : World) : Prop :=
  ∃ A z, e = .returned (.agg (repV (rpC l b) (rpM l b) (rpK l b) A (rpV l b).length z)) ∧ Sees w' w'.heap.size A ((rpV l b).map Value.string) ∧ R w' a (rpF l b).1 (rpF l b).2 ∧ w.grownBy w' (some a) ∧ Fresh9 w.heap.size A ((rpV l b).map Value.string)
set_option maxRecDepth 100000 in
theorem sees_other {w w' : World} {g : Nat} {t : TypeId} {cs : Array Value} {A : Option Addr} {xs : List ByteArray} (hb : Box w g t cs) (hn : ∀ (j : Nat) (s : ByteArray), cs[j]? ≠ some (.string s)) (hs : Sees w w.heap.size A (xs.map Value.string)) (hg : w.grownBy w' (some g)) : Sees w' w'.heap.size A (xs.map Value.string) := by
  rcases hs with h | ⟨p, o, e, hp, hc⟩
  · exact .inl h
  · by_cases hx : xs = []
    · exact .inl (by rw [hx]; rfl)
    refine .inr ⟨p, o, e, Nat.lt_of_lt_of_le hp hg.size, fun j u hu => ?_⟩
    have hne : p ≠ g := by
      intro e2
      subst e2
      obtain ⟨x, xs', rfl⟩ : ∃ x r, xs = x :: r := by cases xs with
        | nil => exact absurd rfl hx
        | cons x r => exact ⟨x, r, rfl⟩
      have h0 := hc 0 (.string x) rfl
      rw [hb.cell] at h0
      exact hn _ _ h0
    rw [World.cell?_of_block (hg.block p hp (fun e => hne (by injection e)))]
    exact hc j u hu
set_option maxRecDepth 100000 in
theorem zrep_nostr : ∀ (j : Nat) (s : ByteArray), zrepV[j]? ≠ some (.string s) := by
  intro j s h
  match j with
  | 0 => cases h
  | 1 => cases h
  | 2 => cases h
  | 3 => cases h
  | j + 4 => simp at h
set_option maxRecDepth 100000 in
theorem rd_below {w w' : World} {a : Nat} {l : List UInt8} {b : Bool} (h : Rd w a l b) (hb : Below w.heap.size w w') : Rd w' a l b := h.below hb h.lt
set_option maxRecDepth 100000 in
theorem rd_none {w w' : World} {a : Nat} {l : List UInt8} {b : Bool} (h : Rd w a l b) (hg : w.grownBy w' none) : Rd w' a l b := h.below ⟨hg.os, hg.tape, hg.output, hg.size, fun i hi => hg.block i hi (by simp)⟩ h.lt

attribute [local go_sem ↓] apAll_def

end Go.Proofs.YtapdnoellleimaaDoor

namespace Go.Proofs.YtapdnoellleimaaDoor
open Go.RowKit

def putX : ReqX := ⟨1, 1, 2, ⟨#[107]⟩, ⟨#[118]⟩, ⟨#[]⟩, 0, 0, 0, zeros, 0, zeros_len⟩
set_option maxRecDepth 100000 in
theorem putX_good : reqGood putX = true := by decide
set_option maxRecDepth 100000 in
theorem putX_len : (reqB putX).length = 102 := by
  unfold reqB
  simp only [List.length_append, numBytes_len, textBytes_len]
  rfl
end Go.Proofs.YtapdnoellleimaaDoor

namespace Go.Proofs.YtapdnoellleimaaDoor
open Go.RowKit

set_option maxRecDepth 100000 in
theorem rrd_put {w w' : World} {a g : Nat} {l : List UInt8} {b : Bool} (h : RRd w a l b) (hg : w.grownBy w' (some g)) (hl : a < g) : RRd w' a l b := h.other hg (by omega)
attribute [local go_sem ↓] ldDigest_def stDigest_def

end Go.Proofs.YtapdnoellleimaaDoor

namespace Go.Proofs.YtapdnoellleimaaDoor
open Go.RowKit

set_option maxRecDepth 100000 in
theorem rrd_below {w w' : World} {a : Nat} {l : List UInt8} {b : Bool} (h : RRd w a l b) (hb : Below w.heap.size w w') : RRd w' a l b := Box.below h hb h.lt
set_option maxRecDepth 100000 in
theorem rrd_none {w w' : World} {a : Nat} {l : List UInt8} {b : Bool} (h : RRd w a l b) (hg : w.grownBy w' none) : RRd w' a l b := Box.grown h hg (by simp)

attribute [local go_sem ↓] apAll_def

end Go.Proofs.YtapdnoellleimaaDoor

namespace Go.Proofs.YtapdnoellleimaaDoor
open Go.RowKit

set_option maxRecDepth 100000 in
theorem Rd.past9 {w w' : World} {a m : Nat} {l l2 : List UInt8} {bad bad2 : Bool} (h : Rd w a l bad) (hr : RRd w m l2 bad2) (hne : a ≠ m) (hg : w.grownBy w' (some m)) : Rd w' a l bad := by
  obtain ⟨A, c, h1, h2, h3, h4⟩ := h
  refine ⟨A, c, h1.grown hg (fun e => hne (by injection e)), h2, h3, ?_⟩
  rcases h4 with h4 | ⟨g, o, rfl, hga, hc⟩
  · exact .inl h4
  · rcases l with _ | ⟨b0, r⟩
    · exact .inl rfl
    · have hgm : g ≠ m := by
        rintro rfl
        have h0 := hc 0 (bv b0) rfl
        have hb : Box w g 93 #[str l2, .bool bad2] := hr
        rw [hb.cell] at h0
        match o, h0 with
        | 0, h0 => simp [bv, str] at h0
        | 1, h0 => simp [bv] at h0
        | o + 2, h0 => simp at h0
      refine .inr ⟨g, o, rfl, hga, fun j u hu => ?_⟩
      have hj := hc j u hu
      have hlt := World.block_lt_of_cell? w _ hj
      exact (World.cell?_of_block (hg.block g hlt (fun e => hgm (by injection e)))).trans hj
/-- Both readers stand at the same bytes. -/
structure TwX (w7 : World) (a m : Nat) (l : List UInt8) (w : World) : Prop where
  rd : Rd w a l false
  rr : RRd w m l false
  ne : a ≠ m
  ha : w7.heap.size ≤ a
  hm : w7.heap.size ≤ m
  far : Below w7.heap.size w7 w

end Go.Proofs.YtapdnoellleimaaDoor
