/-
  What reads as digests lies in no block without bytes.
  Signatures read: keys.digests, keys.Read.
  Signatures read, by the document: wapentakeref05.Read.
  Signatures written: keys.full.
  Signatures written, by the document: wapentakeref05.Write.
  Signatures compared (wapentakeref05.Same); how long their lists are (wapentakelaw05.great).
-/
import Derived.Test.YtbclepdcngaonaaGreatDoorKD
import Derived.Test.YtbclepdcngaonaaGreatDoorKRdPlain
import Derived.Test.YtbclepdcngaonaaGreatDoorOB
import Derived.Test.YtbclepdcngaonaaGreatDoorRr
import Derived.Test.YtbclepdcngaonaaGreatDoorOS
import Derived.Test.YtbclepdcngaonaaGreatDoorWr
import Derived.Test.YtbclepdcngaonaaGreatDoorTG
import Derived.Deep.RegionHeld3
import Derived.Test.YtbclepdcngaonaaGreatDoorOC
namespace Go.Proofs.YtbclepdcngaonaaGreatDoor
open Go.RowKit

/-- No byte lies in a block of such cells: what reads as digests lies elsewhere. -/
def NoByte (cs : Array Value) : Prop := ∀ (j : Nat) (v : Value), cs[j]? = some v → ∀ b : UInt8, v ≠ bv b
theorem Digs.aside {w w' : World} {A : Option Addr} {ds : List (List UInt8)} (h : Digs w w.heap.size A ds) {g : Nat} {t : TypeId} {cs : Array Value} (hb : Box w g t cs) (hn : NoByte cs) (hg : w.grownBy w' (some g)) : Digs w' w'.heap.size A ds := by
  rcases Nat.eq_zero_or_pos ds.length with h0 | hp
  · rw [List.eq_nil_of_length_eq_zero h0]
    exact Digs.empty _ _ _
  · obtain ⟨g', o, rfl, _, hr⟩ := h.some_ hp
    refine h.apart hg ?_
    intro g2 o2 e e2
    injection e with e
    injection e with e e3
    injection e2 with e2
    subst e
    subst e2
    have hf := h.all.flat
    have hp2 : 0 < ds.flatten.length := by omega
    have h1 := hr 0 (bv ds.flatten[0]) (by rw [List.getElem?_map, List.getElem?_eq_getElem hp2]; rfl)
    rw [hb.cell] at h1
    exact hn _ _ h1 _ rfl
theorem sig_nobyte (n : Int) (A : Option Addr) (x a : Nat) (B : Option Addr) (y b : Nat) (C : Option Addr) (z c : Nat) : NoByte (sigV n A x a B y b C z c) := by
  intro j v hv q e
  have hm := Array.mem_of_getElem? hv
  simp at hm
  rcases hm with rfl | rfl | rfl | rfl <;> simp [bv] at e

end Go.Proofs.YtbclepdcngaonaaGreatDoor

namespace Go.Proofs.YtbclepdcngaonaaGreatDoor
open Go.RowKit

attribute [local go_sem ↓] ldDigest_def stDigest_def

/-- What the walk of digests carries of memory. -/
structure DrW (w0 : World) (a g : Nat) (D : List (List UInt8)) (k : Nat) (s : List UInt8 × Bool) (w : World) : Prop where
  fill : Box w g 29 (fillD D k)
  rd : Rd w a s.1 s.2
  far : w0.grownBy w (some a)
theorem DrW.turn {w0 w w' : World} {a g k : Nat} {D : List (List UInt8)} {s s' : List UInt8 × Bool} (h : DrW w0 a g D k s w) (hne : g ≠ a) (hg : w.grownBy w' (some a)) (hr : Rd w' a s'.1 s'.2) : DrW w0 a g D k s' w' :=
  ⟨h.fill.grown hg (fun e => hne (by injection e)), hr, only_trans h.far hg⟩
theorem DrW.put {w0 w : World} {a g k : Nat} {D : List (List UInt8)} {s : List UInt8 × Bool} (h : DrW w0 a g D k s w) (hag : a < g) (hg0 : w0.heap.size ≤ g) (hD : AllD D) (hk : k < D.length) : DrW w0 a g D (k + 1) s (w.setCells g (k * 32) ((D.getD k []).map bv)) := by
  have ho := only_cells (g := g) ((D.getD k []).map bv) (k * 32) w
  exact ⟨h.fill.fill_put hD hk, h.rd.only ho hag, only_new h.far ho hg0⟩

set_option maxRecDepth 100000 in
set_option maxHeartbeats 1000000 in
theorem kdigs_any (a m : Nat) (hm : m ≤ 64) (l : List UInt8) (bad : Bool) (w : World) (h : Rd w a l bad) :
    Calls Tryz.prog 135 #[.pointer (some ⟨a, 0, none⟩), .int .i64 (m : Int)] w fun e w' => ∃ g, e = .returned (.slice (some ⟨g, 0, none⟩) m m) ∧ Box w' g 29 ((dgsT m l bad).flatten.map bv).toArray ∧ Rd w' a (stT m l bad).1 (stT m l bad).2 ∧ w.grownBy w' (some a) ∧ w.heap.size ≤ g := by
  have HA : Hid (a < w.heap.size) := h.lt
  have HL : Hid ((dgsT m l bad).length = m) := Lib.hid (dgs_len m l bad)
  have HD := Lib.hid (dgs_all m l bad)
  have HX : Hid (∀ i, i < m → (dgsT m l bad).getD i [] = dgT l bad i) := Lib.hid (fun i hi => dgs_at hi l bad)
  have HW0 : Hid (DrW w a w.heap.size (dgsT m l bad) 0 (stT 0 l bad) (w.alloc (.cells (zerosD (m * 32)).toArray 29))) := by
    refine ⟨?_, h.alloc _, World.grownBy_alloc w _ _⟩
    rw [fillD_zero, HL.out]
    exact Box.made _ _ _
  have hmk := make_digs m (by omega)
  clear h
  generalize dgsT m l bad = D at *
  go_enter Tryz.func135, Tryz.ntmps135
  go_upto_region 3 with fail
  clear hmk
  generalize w.alloc (.cells (zerosD (m * 32)).toArray 29) = w1 at *
  go_loopw [6, 10] (fun _ i wr => ∃ k : Nat, k ≤ m ∧ i = .int .i64 (k : Int) ∧ Hid (DrW w a w.heap.size D k (stT k l bad) wr)) (fun _ i _ => m - (intOf i).toNat)
  case atStart => exact ⟨0, Nat.zero_le _, rfl, HW0⟩
  case round =>
    clear HW0
    obtain ⟨k, hk, rfl, HW⟩ := hrel
    by_cases hlt : k < m
    · have hdg := digest_any a (stT k l bad).1 (stT k l bad).2 wr HW.out.rd
      have HDG : Hid (Calls Tryz.prog 72 #[.pointer (some ⟨a, 0, none⟩)] wr fun e w' => e = .returned (.agg ((D.getD k []).map bv).toArray) ∧ DrW w a w.heap.size D k (stT (k + 1) l bad) w') := hdg.mono fun e w' ⟨he, hr, hg⟩ => by
        refine ⟨?_, HW.out.turn (by have := HA.out; omega) hg hr⟩
        rw [HX.out k hlt]
        exact he
      have HXD := Lib.hid (HD.out.get (by rw [HL.out]; exact hlt) [])
      have HPUT : Hid (∀ w', DrW w a w.heap.size D k (stT (k + 1) l bad) w' → DrW w a w.heap.size D (k + 1) (stT (k + 1) l bad) (w'.setCells w.heap.size (k * 32) ((D.getD k []).map bv))) := fun w' hw => hw.put HA.out (Nat.le_refl _) HD.out (by rw [HL.out]; exact hlt)
      have HFS := Lib.hid (fillD_size HD.out (k := k) (by rw [HL.out]; exact hk))
      have i3 : (k : Int) < (m : Int) := by omega
      clear hdg HW HX
      generalize D.getD k [] = d at *
      generalize hs' : stT (k + 1) l bad = s' at *
      have HS' := Lib.hid hs'
      clear hs'
      go_wp2_with (go_at_call 72; (with_reducible refine (HDG.out).mono ?_); rintro e w6 ⟨rfl, hw⟩; have HW6 := Lib.hid hw; clear hw; have hst := HW6.out.fill.store_mid (o := k * 32) (by rw [HFS.out, HL.out]; omega) d HXD.out)
      have HW7 := Lib.hid (HPUT.out _ HW6.out)
      clear hst
      generalize w6.setCells w.heap.size (k * 32) (d.map bv) = w7 at *
      go_roundw
      case rel => exact ⟨k + 1, hlt, by go_num, by rw [HS'.out]; exact HW7⟩
      case measure => simp [intOf]; omega
    · obtain rfl : k = m := by omega
      have hbx := HW.out.fill
      have hfa := fillD_all D
      rw [HL.out] at hfa
      rw [hfa] at hbx
      have HBX := Lib.hid hbx
      clear hbx hfa
      go_wp2
      go_ret
      exact ⟨w.heap.size, rfl, HBX.out, HW.out.rd, HW.out.far, Nat.le_refl _⟩

/-- What the walk of Read carries of memory: the signature that is filled, the result, the reader. -/
structure RdW (w0 : World) (a r b : Nat) (cs : Array Value) (s : List UInt8 × Bool) (w : World) : Prop where
  out : Box w r 72 zsig
  box : Box w b 72 cs
  rd : Rd w a s.1 s.2
  far : w0.grownBy w (some a)
  ha : a < w0.heap.size
  hr : w0.heap.size ≤ r
  hb : w0.heap.size ≤ b
  ne : r ≠ b
theorem RdW.turn {w0 w w' : World} {a r b : Nat} {cs : Array Value} {s s' : List UInt8 × Bool} (h : RdW w0 a r b cs s w) (hg : w.grownBy w' (some a)) (hr : Rd w' a s'.1 s'.2) : RdW w0 a r b cs s' w' := by
  have h1 := h.ha
  have h2 := h.hr
  have h3 := h.hb
  exact ⟨h.out.grown hg (fun e => by injection e with e; omega), h.box.grown hg (fun e => by injection e with e; omega), hr, only_trans h.far hg, h1, h2, h3, h.ne⟩
theorem RdW.put {w0 w : World} {a r b : Nat} {cs : Array Value} {s : List UInt8 × Bool} (h : RdW w0 a r b cs s w) (i : Nat) (v : Value) : RdW w0 a r b (cs.setIfInBounds i v) s (w.setCell ⟨b, i, none⟩ v) := by
  have h1 := h.ha
  have h3 := h.hb
  have hp : w.grownBy (w.setCell ⟨b, i, none⟩ v) (some b) := only_put (only_refl _ _) i v
  exact ⟨h.out.grown hp (fun e => h.ne (by injection e)), h.box.put i v, h.rd.only hp (by omega), only_new h.far hp h3, h1, h.hr, h3, h.ne⟩
/-- A list that was read, in later worlds. -/
theorem Box.past {w w' : World} {g a : Nat} {D : List (List UInt8)} (h : Box w g 29 (D.flatten.map bv).toArray) (hg : w.grownBy w' (some a)) (hne : g ≠ a) : Box w' g 29 (D.flatten.map bv).toArray := h.grown hg (fun e => hne (by injection e))

/-- Digests that lie in a block of their own, from there on. -/
def NewD (B : Nat) (A : Option Addr) (ds : List (List UInt8)) : Prop := ds = [] ∨ ∃ g, A = some ⟨g, 0, none⟩ ∧ B ≤ g
/-- What Read answers, and where its lists lie. -/
def KReadNew (w : World) (a : Nat) (l : List UInt8) (b : Bool) (e : Ending) (w' : World) : Prop :=
  ∃ A B C x y z, e = .returned (.agg (sigV (rdN l b) A (rdX l b).length x B (rdY l b).length y C (rdP l b).length z)) ∧ Digs w' w'.heap.size A (rdX l b) ∧ Digs w' w'.heap.size B (rdY l b) ∧ Digs w' w'.heap.size C (rdP l b) ∧ (rdP l b).length ≤ z ∧ Rd w' a (rdF l b).1 (rdF l b).2 ∧ w.grownBy w' (some a) ∧ (NewD w.heap.size A (rdX l b) ∧ NewD w.heap.size B (rdY l b) ∧ NewD w.heap.size C (rdP l b))
theorem read_bad {l : List UInt8} {b : Bool} (h : (rdF l b).2 = true) : rdN l b = 0 ∧ rdX l b = [] ∧ rdY l b = [] ∧ rdP l b = [] := by
  unfold rdN rdX rdY rdP
  rw [if_pos h, if_pos h, if_pos h, if_pos h]
  exact ⟨rfl, rfl, rfl, rfl⟩

set_option maxRecDepth 100000 in
set_option maxHeartbeats 2000000 in
theorem kread_new (a : Nat) (l : List UInt8) (b : Bool) (w : World) (h : Rd w a l b) :
    Calls Tryz.prog 113 #[.pointer (some ⟨a, 0, none⟩)] w (KReadNew w a l b) := by
  have HW0 : Hid (RdW w a w.heap.size (w.heap.size + 1) zsig (l, b) ((w.alloc (.cells zsig 72)).alloc (.cells zsig 72))) :=
    ⟨(Box.made _ _ _).alloc _, Box.made_at (by simp) _ _, (h.alloc _).alloc _, only_trans (World.grownBy_alloc w _ _) (World.grownBy_alloc _ _ _), h.lt, Nat.le_refl _, by omega, by omega⟩
  have HNM : Hid (∀ w', RdW w a w.heap.size (w.heap.size + 1) zsig (l, b) w' → Calls Tryz.prog 107 #[.pointer (some ⟨a, 0, none⟩)] w' fun e w'' => e = .returned (.int .i64 (numV l b)) ∧ RdW w a w.heap.size (w.heap.size + 1) zsig (tk 8 l b).2 w'') := fun w' hw => (num_any a l b w' hw.rd).mono fun e w'' ⟨he, hr, hg⟩ => ⟨he, hw.turn hg hr⟩
  have HIN : Hid (∀ w' cs, RdW w a w.heap.size (w.heap.size + 1) cs (tk 8 l b).2 w' → Calls Tryz.prog 71 #[.pointer (some ⟨a, 0, none⟩), .int .i64 0, .int .i64 6] w' fun e w'' => e = .returned (.int .i64 (rdC l b : Int)) ∧ RdW w a w.heap.size (w.heap.size + 1) cs (rdL l b).2 w'') := fun w' cs hw => (in_any a 0 6 _ _ w' hw.rd).mono fun e w'' ⟨he, hr, hg⟩ => ⟨by rw [he]; exact congrArg (fun n => Ending.returned (.int .i64 n)) (rdC_int l b), hw.turn hg hr⟩
  have HDG : Hid (∀ w' cs (m : Nat) (s : List UInt8 × Bool), m ≤ 64 → RdW w a w.heap.size (w.heap.size + 1) cs s w' → Calls Tryz.prog 135 #[.pointer (some ⟨a, 0, none⟩), .int .i64 (m : Int)] w' fun e w'' => ∃ g, e = .returned (.slice (some ⟨g, 0, none⟩) m m) ∧ Box w'' g 29 ((dgsT m s.1 s.2).flatten.map bv).toArray ∧ RdW w a w.heap.size (w.heap.size + 1) cs (stT m s.1 s.2) w'' ∧ w'.grownBy w'' (some a) ∧ w'.heap.size ≤ g) := fun w' cs m s hm hw => (kdigs_any a m hm s.1 s.2 w' hw.rd).mono fun e w'' ⟨g, he, hb, hr, hg, hge⟩ => ⟨g, he, hb, hw.turn hg hr, hg, hge⟩
  have HGD : Hid (∀ w' s cs, RdW w a w.heap.size (w.heap.size + 1) cs s w' → Calls Tryz.prog 19 #[.pointer (some ⟨a, 0, none⟩)] w' fun e w'' => e = .returned (.bool !s.2) ∧ w' = w'') := fun w' s cs hw => good_any a s.1 s.2 w' hw.rd
  have HA : Hid (a < w.heap.size) := h.lt
  have HC6 := Lib.hid (rdC_le l b)
  have HE : Hid (stT (rdC l b) (stT 32 (stT 32 (rdL l b).2.1 (rdL l b).2.2).1 (stT 32 (rdL l b).2.1 (rdL l b).2.2).2).1 (stT 32 (stT 32 (rdL l b).2.1 (rdL l b).2.2).1 (stT 32 (rdL l b).2.1 (rdL l b).2.2).2).2 = rdF l b) := by
    show _ = _
    have e : stT 64 (rdL l b).2.1 (rdL l b).2.2 = stT 32 (stT 32 (rdL l b).2.1 (rdL l b).2.2).1 (stT 32 (rdL l b).2.1 (rdL l b).2.2).2 := stT_add 32 _ _ 32
    rw [← e]
    unfold rdF
    rw [stT_add 64]
  clear h
  go_enter Tryz.func113, Tryz.ntmps113
  go_upto_region 2 with fail
  change Code.wp _ _ _ _ ((w.alloc (.cells zsig 72)).alloc (.cells zsig 72))
  generalize (w.alloc (.cells zsig 72)).alloc (.cells zsig 72) = w1 at *
  have HDG32 : Hid (∀ w' cs (s : List UInt8 × Bool), RdW w a w.heap.size (w.heap.size + 1) cs s w' → Calls Tryz.prog 135 #[.pointer (some ⟨a, 0, none⟩), .int .i64 32] w' fun e w'' => ∃ g, e = .returned (.slice (some ⟨g, 0, none⟩) 32 32) ∧ Box w'' g 29 ((dgsT 32 s.1 s.2).flatten.map bv).toArray ∧ RdW w a w.heap.size (w.heap.size + 1) cs (stT 32 s.1 s.2) w'' ∧ w'.grownBy w'' (some a) ∧ w'.heap.size ≤ g) := fun w' cs s hw => HDG.out w' cs 32 s (by decide) hw
  obtain ⟨s2, hs2⟩ : ∃ s2, (rdL l b).2 = s2 := ⟨_, rfl⟩
  rw [hs2] at HIN HE
  have HX0 : Hid ((rdF l b).2 = false → rdN l b = numV l b ∧ rdX l b = dgsT 32 s2.1 s2.2 ∧ rdY l b = dgsT 32 (stT 32 s2.1 s2.2).1 (stT 32 s2.1 s2.2).2 ∧ rdP l b = dgsT (rdC l b) (stT 32 (stT 32 s2.1 s2.2).1 (stT 32 s2.1 s2.2).2).1 (stT 32 (stT 32 s2.1 s2.2).1 (stT 32 s2.1 s2.2).2).2) := Lib.hid (fun hf => by
    have e : stT 64 s2.1 s2.2 = stT 32 (stT 32 s2.1 s2.2).1 (stT 32 s2.1 s2.2).2 := stT_add 32 _ _ 32
    unfold rdN rdX rdY rdP
    rw [hs2, hf, if_neg (by simp), if_neg (by simp), if_neg (by simp), if_neg (by simp), e]
    exact ⟨rfl, rfl, rfl, rfl⟩)
  clear hs2
  obtain ⟨N, hN⟩ : ∃ N, numV l b = N := ⟨_, rfl⟩
  obtain ⟨M, hM⟩ : ∃ M, rdC l b = M := ⟨_, rfl⟩
  rw [hN] at HNM HX0
  rw [hM] at HIN HE HX0 HC6
  clear hN hM
  go_upto_region 3 with (go_at_call 107; (with_reducible refine (HNM.out _ HW0.out).mono ?_); rintro e w2 ⟨rfl, hw⟩; have m0 : w2.cell? ⟨w.heap.size + 1, 0, none⟩ = some (.int .i64 0) := hw.box.cell 0; have f0 := hw.box.free 0; have HW2 := Lib.hid hw; clear hw)
  have HW3 : Hid (RdW w a w.heap.size (w.heap.size + 1) (sigV N none 0 0 none 0 0 none 0 0) (tk 8 l b).2 (w2.setCell ⟨w.heap.size + 1, 0, none⟩ (.int .i64 N))) := HW2.out.put 0 _
  clear m0 f0 HW2 HW0 HNM
  generalize w2.setCell ⟨w.heap.size + 1, 0, none⟩ (.int .i64 N) = w3 at *
  go_upto_region 4 with (go_at_call 71; (with_reducible refine (HIN.out _ _ HW3.out).mono ?_); rintro e w4 ⟨rfl, hw⟩; have HW4 := Lib.hid hw; clear hw)
  clear HW3 HIN
  go_upto_region 5 with (go_at_call 135; (with_reducible refine (HDG32.out _ _ _ HW4.out).mono ?_); rintro e w5 ⟨g1, rfl, hx, hw, hg, hge⟩; have m1 : w5.cell? ⟨w.heap.size + 1, 1, none⟩ = some (.slice none 0 0) := hw.box.cell 1; have f1 := hw.box.free 1; have HW5 := Lib.hid hw; have HX5 := Lib.hid hx; have HG1 := Lib.hid (show g1 ≠ a by have h1 := HW4.out.far.size; have h2 := HA.out; omega); have HN1 := Lib.hid (Nat.le_trans HW4.out.far.size hge); clear hw hx hg hge)
  have HW6 : Hid (RdW w a w.heap.size (w.heap.size + 1) (sigV N (some ⟨g1, 0, none⟩) 32 32 none 0 0 none 0 0) (stT 32 s2.1 s2.2) (w5.setCell ⟨w.heap.size + 1, 1, none⟩ (.slice (some ⟨g1, 0, none⟩) 32 32))) := HW5.out.put 1 _
  have HX6 := Lib.hid (HX5.out.aside (p := ⟨w.heap.size + 1, 1, none⟩) (Box.apart HX5.out HW5.out.box (by decide)) (.slice (some ⟨g1, 0, none⟩) 32 32))
  clear m1 f1 HW4 HW5 HX5
  generalize w5.setCell ⟨w.heap.size + 1, 1, none⟩ (.slice (some ⟨g1, 0, none⟩) 32 32) = w6 at *
  go_upto_region 6 with (go_at_call 135; (with_reducible refine (HDG32.out _ _ _ HW6.out).mono ?_); rintro e w7 ⟨g2, rfl, hx, hw, hg, hge⟩; have m2 : w7.cell? ⟨w.heap.size + 1, 2, none⟩ = some (.slice none 0 0) := hw.box.cell 2; have f2 := hw.box.free 2; have HW7 := Lib.hid hw; have HY7 := Lib.hid hx; have HX7 := Lib.hid (HX6.out.past hg HG1.out); have HG2 := Lib.hid (show g2 ≠ a by have h1 := HW6.out.far.size; have h2 := HA.out; omega); have HN2 := Lib.hid (Nat.le_trans HW6.out.far.size hge); clear hw hx hg hge)
  have HW8 : Hid (RdW w a w.heap.size (w.heap.size + 1) (sigV N (some ⟨g1, 0, none⟩) 32 32 (some ⟨g2, 0, none⟩) 32 32 none 0 0) (stT 32 (stT 32 s2.1 s2.2).1 (stT 32 s2.1 s2.2).2) (w7.setCell ⟨w.heap.size + 1, 2, none⟩ (.slice (some ⟨g2, 0, none⟩) 32 32))) := HW7.out.put 2 _
  have HX8 := Lib.hid (HX7.out.aside (p := ⟨w.heap.size + 1, 2, none⟩) (Box.apart HX7.out HW7.out.box (by decide)) (.slice (some ⟨g2, 0, none⟩) 32 32))
  have HY8 := Lib.hid (HY7.out.aside (p := ⟨w.heap.size + 1, 2, none⟩) (Box.apart HY7.out HW7.out.box (by decide)) (.slice (some ⟨g2, 0, none⟩) 32 32))
  clear m2 f2 HW6 HW7 HX6 HX7 HY7
  generalize w7.setCell ⟨w.heap.size + 1, 2, none⟩ (.slice (some ⟨g2, 0, none⟩) 32 32) = w8 at *
  have HDM := Lib.hid (HDG.out w8 _ M _ (by have := HC6.out; omega) HW8.out)
  go_upto_region 7 with (go_at_call 135; (with_reducible refine (HDM.out).mono ?_); rintro e w9 ⟨g3, rfl, hx, hw, hg, hge⟩; have m3 : w9.cell? ⟨w.heap.size + 1, 3, none⟩ = some (.slice none 0 0) := hw.box.cell 3; have f3 := hw.box.free 3; have HW9 := Lib.hid hw; have HP9 := Lib.hid hx; have HN3 := Lib.hid (Nat.le_trans HW8.out.far.size hge); have HX9 := Lib.hid (HX8.out.past hg HG1.out); have HY9 := Lib.hid (HY8.out.past hg HG2.out); clear hw hx hg hge)
  have HW10 : Hid (RdW w a w.heap.size (w.heap.size + 1) (sigV N (some ⟨g1, 0, none⟩) 32 32 (some ⟨g2, 0, none⟩) 32 32 (some ⟨g3, 0, none⟩) M M) (stT M (stT 32 (stT 32 s2.1 s2.2).1 (stT 32 s2.1 s2.2).2).1 (stT 32 (stT 32 s2.1 s2.2).1 (stT 32 s2.1 s2.2).2).2) (w9.setCell ⟨w.heap.size + 1, 3, none⟩ (.slice (some ⟨g3, 0, none⟩) M M))) := HW9.out.put 3 _
  have HX10 := Lib.hid (HX9.out.aside (p := ⟨w.heap.size + 1, 3, none⟩) (Box.apart HX9.out HW9.out.box (by decide)) (.slice (some ⟨g3, 0, none⟩) M M))
  have HY10 := Lib.hid (HY9.out.aside (p := ⟨w.heap.size + 1, 3, none⟩) (Box.apart HY9.out HW9.out.box (by decide)) (.slice (some ⟨g3, 0, none⟩) M M))
  have HP10 := Lib.hid (HP9.out.aside (p := ⟨w.heap.size + 1, 3, none⟩) (Box.apart HP9.out HW9.out.box (by decide)) (.slice (some ⟨g3, 0, none⟩) M M))
  rw [HE.out] at HW10
  clear m3 f3 HW8 HW9 HX8 HX9 HY8 HY9 HP9 HDM HDG HDG32 HE
  generalize w9.setCell ⟨w.heap.size + 1, 3, none⟩ (.slice (some ⟨g3, 0, none⟩) M M) = w10 at *
  obtain ⟨gd, hgd⟩ : ∃ gd, (rdF l b).2 = gd := ⟨_, rfl⟩
  have HGD2 := Lib.hid (HGD.out _ _ _ HW10.out)
  rw [hgd] at HGD2
  rcases gd with _ | _
  · obtain ⟨x1, x2, x3, x4⟩ := HX0.out hgd
    have HXX : Hid (rdN l b = N ∧ rdX l b = dgsT 32 s2.1 s2.2 ∧ rdY l b = dgsT 32 (stT 32 s2.1 s2.2).1 (stT 32 s2.1 s2.2).2 ∧ rdP l b = dgsT M (stT 32 (stT 32 s2.1 s2.2).1 (stT 32 s2.1 s2.2).2).1 (stT 32 (stT 32 s2.1 s2.2).1 (stT 32 s2.1 s2.2).2).2) := ⟨x1, x2, x3, x4⟩
    have HLG := Lib.hid (sig_list N (some ⟨g1, 0, none⟩) 32 32 (some ⟨g2, 0, none⟩) 32 32 (some ⟨g3, 0, none⟩) M M)
    have HZG := Lib.hid (sig_size N (some ⟨g1, 0, none⟩) 32 32 (some ⟨g2, 0, none⟩) 32 32 (some ⟨g3, 0, none⟩) M M)
    have HOG := Lib.hid (sig_one N (some ⟨g1, 0, none⟩) 32 32 (some ⟨g2, 0, none⟩) 32 32 (some ⟨g3, 0, none⟩) M M)
    clear x1 x2 x3 x4 HX0 hgd HGD
    go_wp2_with (first
      | (go_at_call 19; (with_reducible refine (HGD2.out).mono ?_); rintro e w11 ⟨rfl, rfl⟩)
      | ((with_reducible show wpList _ _ _ ((⟨some 26, _, _, _, _, _⟩ : Oper) :: _) _ _); refine wpList_load_mid rfl 72 (.tmp 3) rfl (w.heap.size + 1) 0 rfl (sigV N (some ⟨g1, 0, none⟩) 32 32 (some ⟨g2, 0, none⟩) 32 32 (some ⟨g3, 0, none⟩) M M).toList _ (Box.range HW10.out.box) Tryz.underlying72 rfl HLG.out ?_)
      | (((with_reducible show wpList _ _ _ ((⟨none, Op.store _ (.tmp 2) (.tmp 26), _, _, _, _⟩ : Oper) :: _) _ _)); refine wpList_store_box rfl 72 (.tmp 2) (.tmp 26) rfl w.heap.size (sigV N (some ⟨g1, 0, none⟩) 32 32 (some ⟨g2, 0, none⟩) 32 32 (some ⟨g3, 0, none⟩) M M) rfl rfl 72 zsig HW10.out.out rfl HZG.out HOG.out ?_; intro w12 hb12 hg12))
    refine bodyPost_ret (v := .agg (sigV N (some ⟨g1, 0, none⟩) 32 32 (some ⟨g2, 0, none⟩) 32 32 (some ⟨g3, 0, none⟩) M M)) (results_cell_row rfl _ w12 w.heap.size 72 (sigV N (some ⟨g1, 0, none⟩) 32 32 (some ⟨g2, 0, none⟩) 32 32 (some ⟨g3, 0, none⟩) M M) (0, 0) _ rfl hb12 Tryz.underlying72 rfl HZG.out) rfl ?_
    obtain ⟨x1, x2, x3, x4⟩ := HXX.out
    have hnb := sig_nobyte 0 none 0 0 none 0 0 none 0 0
    have d1 : Digs w10 w10.heap.size (some ⟨g1, 0, none⟩) (rdX l b) := by rw [x2]; exact ⟨dgs_all _ _ _, Sees.of_box HX10.out HX10.out.lt⟩
    have d2 : Digs w10 w10.heap.size (some ⟨g2, 0, none⟩) (rdY l b) := by rw [x3]; exact ⟨dgs_all _ _ _, Sees.of_box HY10.out HY10.out.lt⟩
    have d3 : Digs w10 w10.heap.size (some ⟨g3, 0, none⟩) (rdP l b) := by rw [x4]; exact ⟨dgs_all _ _ _, Sees.of_box HP10.out HP10.out.lt⟩
    refine ⟨some ⟨g1, 0, none⟩, some ⟨g2, 0, none⟩, some ⟨g3, 0, none⟩, 32, 32, M, ?_, d1.aside HW10.out.out hnb hg12, d2.aside HW10.out.out hnb hg12, d3.aside HW10.out.out hnb hg12, ?_, HW10.out.rd.only hg12 HA.out, only_new HW10.out.far hg12 (Nat.le_refl _), .inr ⟨_, rfl, HN1.out⟩, .inr ⟨_, rfl, HN2.out⟩, .inr ⟨_, rfl, HN3.out⟩⟩
    · rw [x1, x2, x3, x4, dgs_len, dgs_len, dgs_len]
    · rw [x4, dgs_len]
      exact Nat.le_refl _
  · obtain ⟨z1, z2, z3, z4⟩ := read_bad hgd
    have HZ : Hid (rdN l b = 0 ∧ rdX l b = [] ∧ rdY l b = [] ∧ rdP l b = []) := ⟨z1, z2, z3, z4⟩
    clear z1 z2 z3 z4 hgd HX0
    go_wp2_with (first
      | (go_at_call 19; (with_reducible refine (HGD2.out).mono ?_); rintro e w11 ⟨rfl, rfl⟩)
      | (((with_reducible show wpList _ _ _ ((⟨none, Op.store _ (.tmp 2) (.tmp 25), _, _, _, _⟩ : Oper) :: _) _ _)); refine wpList_store_box rfl 72 (.tmp 2) (.tmp 25) rfl w.heap.size zsig rfl rfl 72 zsig HW10.out.out rfl (sig_size 0 none 0 0 none 0 0 none 0 0) (sig_one 0 none 0 0 none 0 0 none 0 0) ?_; intro w12 hb12 hg12))
    obtain ⟨z1, z2, z3, z4⟩ := HZ.out
    refine bodyPost_ret (v := .agg zsig) (results_cell_row rfl _ w12 w.heap.size 72 zsig (0, 0) _ rfl hb12 Tryz.underlying72 rfl (sig_size 0 none 0 0 none 0 0 none 0 0)) rfl ?_
    refine ⟨none, none, none, 0, 0, 0, ?_, ?_, ?_, ?_, ?_, HW10.out.rd.only hg12 HA.out, only_new HW10.out.far hg12 (Nat.le_refl _), .inl z2, .inl z3, .inl z4⟩
    · rw [z1, z2, z3, z4]
      rfl
    · rw [z2]
      exact Digs.empty _ _ _
    · rw [z3]
      exact Digs.empty _ _ _
    · rw [z4]
      exact Digs.empty _ _ _
    · rw [z4]
      exact Nat.le_refl _
end Go.Proofs.YtbclepdcngaonaaGreatDoor

namespace Go.Proofs.YtbclepdcngaonaaGreatDoor
open Go.RowKit

theorem only_low {w0 w w' : World} {row : Option Nat} (h : w0.grownBy w row) (hb : Below w0.heap.size w w') : w0.grownBy w' row :=
  ⟨hb.os.trans h.os, hb.tape.trans h.tape, hb.output.trans h.output, Nat.le_trans h.size hb.size, fun i hi hn => (hb.block i hi).trans (h.block i hi hn)⟩
theorem own_at {w w' : World} {base a n : Nat} {v : Value} {xs : List Value} (h : w.ownsRow base 29 32 v n xs) (ha : a < base) (hg : w.grownBy w' (some a)) : w'.ownsRow base 29 32 v n xs :=
  World.ownsRow.kept h hg (.inr (fun e => by have := (h.lt a e).1; omega))

/-- What the walk of the document's Read carries of memory. -/
structure RrW (w0 : World) (a b : Nat) (n : Int) (v1 v2 v3 : Value) (L1 L2 L3 : List (List UInt8)) (s : List UInt8 × Bool) (w : World) : Prop where
  out : Box w w0.heap.size 72 zsig
  box : Box w b 72 #[.int .i64 n, v1, v2, v3]
  rd : RRd w a s.1 s.2
  o1 : w.ownsRow w0.heap.size 29 32 v1 L1.length (L1.flatten.map bv)
  o2 : w.ownsRow w0.heap.size 29 32 v2 L2.length (L2.flatten.map bv)
  o3 : w.ownsRow w0.heap.size 29 32 v3 L3.length (L3.flatten.map bv)
  n12 : ∀ g, v1.ownBlock = some g → v2.ownBlock ≠ some g
  n13 : ∀ g, v1.ownBlock = some g → v3.ownBlock ≠ some g
  n23 : ∀ g, v2.ownBlock = some g → v3.ownBlock ≠ some g
  far : w0.grownBy w (some a)
  ha : a < w0.heap.size
  hb : w0.heap.size < b
theorem RrW.turn {w0 w w' : World} {a b : Nat} {n : Int} {v1 v2 v3 : Value} {L1 L2 L3 : List (List UInt8)} {s s' : List UInt8 × Bool} (h : RrW w0 a b n v1 v2 v3 L1 L2 L3 s w) (hg : w.grownBy w' (some a)) (hr : RRd w' a s'.1 s'.2) : RrW w0 a b n v1 v2 v3 L1 L2 L3 s' w' := by
  have h1 := h.ha
  have h2 := h.hb
  exact ⟨h.out.grown hg (fun e => by injection e with e; omega), h.box.grown hg (fun e => by injection e with e; omega), hr, own_at h.o1 h1 hg, own_at h.o2 h1 hg, own_at h.o3 h1 hg, h.n12, h.n13, h.n23, only_trans h.far hg, h1, h2⟩
theorem RrW.call {w0 w w' : World} {a b : Nat} {n : Int} {v1 v2 v3 : Value} {L1 L2 L3 : List (List UInt8)} {s : List UInt8 × Bool} (h : RrW w0 a b n v1 v2 v3 L1 L2 L3 s w) (hb : Below w.heap.size w w') : RrW w0 a b n v1 v2 v3 L1 L2 L3 s w' :=
  ⟨h.out.below hb h.out.lt, h.box.below hb h.box.lt, h.rd.below hb h.rd.lt, World.ownsRow.kept h.o1 (only_below hb none) (by cases v1.ownBlock <;> simp), World.ownsRow.kept h.o2 (only_below hb none) (by cases v2.ownBlock <;> simp), World.ownsRow.kept h.o3 (only_below hb none) (by cases v3.ownBlock <;> simp), h.n12, h.n13, h.n23, only_trans h.far (only_below hb (some a)), h.ha, h.hb⟩
theorem RrW.push1 {w0 w : World} {a b q : Nat} {t : TypeId} {n : Int} {v1 v2 v3 : Value} {L1 L2 L3 : List (List UInt8)} {s : List UInt8 × Bool} {x : List UInt8} (h : RrW w0 a b n v1 v2 v3 L1 L2 L3 s w) (hx : x.length = 32) (hq : Box w q t (x.map bv).toArray) (hl : L1.length ≤ 64) :
    ∃ g cap w', (apAll #[68, 68] 68 #[v1, .slice (some ⟨q, 0, none⟩) 1 1]).run Tryz.prog w = .ok (.slice (some ⟨g, 0, none⟩) (L1.length + 1) cap) w' ∧ w'.cell? ⟨b, 1, none⟩ = some v1 ∧ w'.frozen? ⟨b, 1, none⟩ = false ∧
      RrW w0 a b n (.slice (some ⟨g, 0, none⟩) (L1.length + 1) cap) v2 v3 (L1 ++ [x]) L2 L3 s (w'.setCell ⟨b, 1, none⟩ (.slice (some ⟨g, 0, none⟩) (L1.length + 1) cap)) := by
  obtain ⟨g, cap, w', hr, ho, hg, hat⟩ := push_lies rfl h.o1 hx hq (by omega) h.far.size
  have hbel := below_own h.o1 hg h.far.size
  have hout : Box w' w0.heap.size 72 zsig := h.out.grown hg (fun e => (Box.own_ne h.out h.o1 (by decide)) e.symm)
  have hbx : Box w' b 72 #[.int .i64 n, v1, v2, v3] := h.box.grown hg (fun e => (Box.own_ne h.box h.o1 (by decide)) e.symm)
  have hrd : RRd w' a s.1 s.2 := h.rd.below hbel h.ha
  have hfar := only_low h.far hbel
  have k2 : w'.ownsRow w0.heap.size 29 32 v2 L2.length (L2.flatten.map bv) := World.ownsRow.kept h.o2 hg (by
    cases e : v2.ownBlock with
    | none => exact .inl rfl
    | some q => exact .inr (fun e2 => h.n12 q e2.symm e))
  have m2 : v2.ownBlock ≠ some g := fun e => by
    rcases hat with e2 | e2
    · exact h.n12 g e2 e
    · have := (h.o2.lt g e).2
      omega
  have k3 : w'.ownsRow w0.heap.size 29 32 v3 L3.length (L3.flatten.map bv) := World.ownsRow.kept h.o3 hg (by
    cases e : v3.ownBlock with
    | none => exact .inl rfl
    | some q => exact .inr (fun e2 => h.n13 q e2.symm e))
  have m3 : v3.ownBlock ≠ some g := fun e => by
    rcases hat with e2 | e2
    · exact h.n13 g e2 e
    · have := (h.o3.lt g e).2
      omega
  have hp : w'.grownBy (w'.setCell ⟨b, 1, none⟩ (.slice (some ⟨g, 0, none⟩) (L1.length + 1) cap)) (some b) := only_put (only_refl _ _) 1 _
  have hb := h.hb
  have ha := h.ha
  have ho' : w'.ownsRow w0.heap.size 29 32 (.slice (some ⟨g, 0, none⟩) (L1.length + 1) cap) (L1 ++ [x]).length ((L1 ++ [x]).flatten.map bv) := by
    rw [List.length_append]
    exact ho
  refine ⟨g, cap, w', hr, hbx.cell 1, hbx.free 1, hout.grown hp (fun e => by injection e with e; omega), hbx.put 1 _, hrd.other hp (by omega), World.ownsRow.kept ho' hp (.inr (Box.own_ne hbx ho' (by decide))), World.ownsRow.kept k2 hp (.inr (Box.own_ne hbx k2 (by decide))), World.ownsRow.kept k3 hp (.inr (Box.own_ne hbx k3 (by decide))), (fun g' e => by injection e with e; subst e; exact m2), (fun g' e => by injection e with e; subst e; exact m3), h.n23, only_new hfar hp (by omega), ha, hb⟩
theorem RrW.push2 {w0 w : World} {a b q : Nat} {t : TypeId} {n : Int} {v1 v2 v3 : Value} {L1 L2 L3 : List (List UInt8)} {s : List UInt8 × Bool} {x : List UInt8} (h : RrW w0 a b n v1 v2 v3 L1 L2 L3 s w) (hx : x.length = 32) (hq : Box w q t (x.map bv).toArray) (hl : L2.length ≤ 64) :
    ∃ g cap w', (apAll #[68, 68] 68 #[v2, .slice (some ⟨q, 0, none⟩) 1 1]).run Tryz.prog w = .ok (.slice (some ⟨g, 0, none⟩) (L2.length + 1) cap) w' ∧ w'.cell? ⟨b, 2, none⟩ = some v2 ∧ w'.frozen? ⟨b, 2, none⟩ = false ∧
      RrW w0 a b n v1 (.slice (some ⟨g, 0, none⟩) (L2.length + 1) cap) v3 L1 (L2 ++ [x]) L3 s (w'.setCell ⟨b, 2, none⟩ (.slice (some ⟨g, 0, none⟩) (L2.length + 1) cap)) := by
  obtain ⟨g, cap, w', hr, ho, hg, hat⟩ := push_lies rfl h.o2 hx hq (by omega) h.far.size
  have hbel := below_own h.o2 hg h.far.size
  have hout : Box w' w0.heap.size 72 zsig := h.out.grown hg (fun e => (Box.own_ne h.out h.o2 (by decide)) e.symm)
  have hbx : Box w' b 72 #[.int .i64 n, v1, v2, v3] := h.box.grown hg (fun e => (Box.own_ne h.box h.o2 (by decide)) e.symm)
  have hrd : RRd w' a s.1 s.2 := h.rd.below hbel h.ha
  have hfar := only_low h.far hbel
  have k1 : w'.ownsRow w0.heap.size 29 32 v1 L1.length (L1.flatten.map bv) := World.ownsRow.kept h.o1 hg (by
    cases e : v1.ownBlock with
    | none => exact .inl rfl
    | some q => exact .inr (fun e2 => (fun g e e2 => h.n12 g e2 e) q e2.symm e))
  have m1 : v1.ownBlock ≠ some g := fun e => by
    rcases hat with e2 | e2
    · exact (fun g e e2 => h.n12 g e2 e) g e2 e
    · have := (h.o1.lt g e).2
      omega
  have k3 : w'.ownsRow w0.heap.size 29 32 v3 L3.length (L3.flatten.map bv) := World.ownsRow.kept h.o3 hg (by
    cases e : v3.ownBlock with
    | none => exact .inl rfl
    | some q => exact .inr (fun e2 => h.n23 q e2.symm e))
  have m3 : v3.ownBlock ≠ some g := fun e => by
    rcases hat with e2 | e2
    · exact h.n23 g e2 e
    · have := (h.o3.lt g e).2
      omega
  have hp : w'.grownBy (w'.setCell ⟨b, 2, none⟩ (.slice (some ⟨g, 0, none⟩) (L2.length + 1) cap)) (some b) := only_put (only_refl _ _) 2 _
  have hb := h.hb
  have ha := h.ha
  have ho' : w'.ownsRow w0.heap.size 29 32 (.slice (some ⟨g, 0, none⟩) (L2.length + 1) cap) (L2 ++ [x]).length ((L2 ++ [x]).flatten.map bv) := by
    rw [List.length_append]
    exact ho
  refine ⟨g, cap, w', hr, hbx.cell 2, hbx.free 2, hout.grown hp (fun e => by injection e with e; omega), hbx.put 2 _, hrd.other hp (by omega), World.ownsRow.kept k1 hp (.inr (Box.own_ne hbx k1 (by decide))), World.ownsRow.kept ho' hp (.inr (Box.own_ne hbx ho' (by decide))), World.ownsRow.kept k3 hp (.inr (Box.own_ne hbx k3 (by decide))), (fun g' e e2 => by injection e2 with e2; subst e2; exact m1 e), h.n13, (fun g' e => by injection e with e; subst e; exact m3), only_new hfar hp (by omega), ha, hb⟩
theorem RrW.push3 {w0 w : World} {a b q : Nat} {t : TypeId} {n : Int} {v1 v2 v3 : Value} {L1 L2 L3 : List (List UInt8)} {s : List UInt8 × Bool} {x : List UInt8} (h : RrW w0 a b n v1 v2 v3 L1 L2 L3 s w) (hx : x.length = 32) (hq : Box w q t (x.map bv).toArray) (hl : L3.length ≤ 64) :
    ∃ g cap w', (apAll #[68, 68] 68 #[v3, .slice (some ⟨q, 0, none⟩) 1 1]).run Tryz.prog w = .ok (.slice (some ⟨g, 0, none⟩) (L3.length + 1) cap) w' ∧ w'.cell? ⟨b, 3, none⟩ = some v3 ∧ w'.frozen? ⟨b, 3, none⟩ = false ∧
      RrW w0 a b n v1 v2 (.slice (some ⟨g, 0, none⟩) (L3.length + 1) cap) L1 L2 (L3 ++ [x]) s (w'.setCell ⟨b, 3, none⟩ (.slice (some ⟨g, 0, none⟩) (L3.length + 1) cap)) := by
  obtain ⟨g, cap, w', hr, ho, hg, hat⟩ := push_lies rfl h.o3 hx hq (by omega) h.far.size
  have hbel := below_own h.o3 hg h.far.size
  have hout : Box w' w0.heap.size 72 zsig := h.out.grown hg (fun e => (Box.own_ne h.out h.o3 (by decide)) e.symm)
  have hbx : Box w' b 72 #[.int .i64 n, v1, v2, v3] := h.box.grown hg (fun e => (Box.own_ne h.box h.o3 (by decide)) e.symm)
  have hrd : RRd w' a s.1 s.2 := h.rd.below hbel h.ha
  have hfar := only_low h.far hbel
  have k1 : w'.ownsRow w0.heap.size 29 32 v1 L1.length (L1.flatten.map bv) := World.ownsRow.kept h.o1 hg (by
    cases e : v1.ownBlock with
    | none => exact .inl rfl
    | some q => exact .inr (fun e2 => (fun g e e2 => h.n13 g e2 e) q e2.symm e))
  have m1 : v1.ownBlock ≠ some g := fun e => by
    rcases hat with e2 | e2
    · exact (fun g e e2 => h.n13 g e2 e) g e2 e
    · have := (h.o1.lt g e).2
      omega
  have k2 : w'.ownsRow w0.heap.size 29 32 v2 L2.length (L2.flatten.map bv) := World.ownsRow.kept h.o2 hg (by
    cases e : v2.ownBlock with
    | none => exact .inl rfl
    | some q => exact .inr (fun e2 => (fun g e e2 => h.n23 g e2 e) q e2.symm e))
  have m2 : v2.ownBlock ≠ some g := fun e => by
    rcases hat with e2 | e2
    · exact (fun g e e2 => h.n23 g e2 e) g e2 e
    · have := (h.o2.lt g e).2
      omega
  have hp : w'.grownBy (w'.setCell ⟨b, 3, none⟩ (.slice (some ⟨g, 0, none⟩) (L3.length + 1) cap)) (some b) := only_put (only_refl _ _) 3 _
  have hb := h.hb
  have ha := h.ha
  have ho' : w'.ownsRow w0.heap.size 29 32 (.slice (some ⟨g, 0, none⟩) (L3.length + 1) cap) (L3 ++ [x]).length ((L3 ++ [x]).flatten.map bv) := by
    rw [List.length_append]
    exact ho
  refine ⟨g, cap, w', hr, hbx.cell 3, hbx.free 3, hout.grown hp (fun e => by injection e with e; omega), hbx.put 3 _, hrd.other hp (by omega), World.ownsRow.kept k1 hp (.inr (Box.own_ne hbx k1 (by decide))), World.ownsRow.kept k2 hp (.inr (Box.own_ne hbx k2 (by decide))), World.ownsRow.kept ho' hp (.inr (Box.own_ne hbx ho' (by decide))), h.n12, (fun g' e e2 => by injection e2 with e2; subst e2; exact m1 e), (fun g' e e2 => by injection e2 with e2; subst e2; exact m2 e), only_new hfar hp (by omega), ha, hb⟩

theorem tk_nil {n : Nat} {l : List UInt8} {b : Bool} (h : (tk n l b).2.2 = true) : (tk n l b).2.1 = [] := by
  unfold tk at h ⊢
  by_cases hc : b = false ∧ n ≤ l.length
  · rw [if_pos hc] at h
    cases h
  · rw [if_neg hc]
theorem rdL_nil {l : List UInt8} {b : Bool} (h : (rdL l b).2.2 = true) : (rdL l b).2.1 = [] := by
  unfold rdL inV at h ⊢
  split at h
  · rename_i hc
    rw [if_pos hc]
  · rename_i hc
    rw [if_neg hc]
    exact tk_nil h
theorem stT_nil {k : Nat} {l : List UInt8} {b : Bool} (hl : b = true → l = []) (h : (stT k l b).2 = true) : stT k l b = ([], true) := by
  cases k with
  | zero =>
    have hb : b = true := h
    subst hb
    rw [hl rfl]
    rfl
  | succ k =>
    have h2 : (tk 32 (stT k l b).1 (stT k l b).2).2.1 = [] := tk_nil h
    exact Prod.ext h2 h
/-- Behind a fault at k all is a fault. -/
theorem stT_past {k m : Nat} (hkm : k ≤ m) {l : List UInt8} {b : Bool} (h : stT k l b = ([], true)) : stT m l b = ([], true) := by
  obtain ⟨j, rfl⟩ : ∃ j, m = k + j := ⟨m - k, by omega⟩
  rw [stT_add, h]
  exact stT_bad' j
theorem dgs_succ (n : Nat) (l : List UInt8) (b : Bool) : dgsT (n + 1) l b = dgsT n l b ++ [dgT l b n] := by
  unfold dgsT
  rw [List.range_succ, List.map_append]
  rfl

/-- And where its lists lie. -/
def RKReadNew (w : World) (a : Nat) (l : List UInt8) (b : Bool) (e : Ending) (w' : World) : Prop :=
  ∃ A B C x y z, e = .returned (.agg (sigV (rdN l b) A (rdX l b).length x B (rdY l b).length y C (rdP l b).length z)) ∧ Digs w' w'.heap.size A (rdX l b) ∧ Digs w' w'.heap.size B (rdY l b) ∧ Digs w' w'.heap.size C (rdP l b) ∧ RRd w' a (rdF l b).1 (rdF l b).2 ∧ w.grownBy w' (some a) ∧ (NewD w.heap.size A (rdX l b) ∧ NewD w.heap.size B (rdY l b) ∧ NewD w.heap.size C (rdP l b))
theorem own_newd {w : World} {B c : Nat} {A : Option Addr} {ds : List (List UInt8)} (h : w.ownsRow B 29 32 (.slice A ds.length c) ds.length (ds.flatten.map bv)) : NewD B A ds := by
  rcases h.2 with ⟨e, h0⟩ | ⟨g, cap, cur, e, hB, _⟩
  · left
    injection e with _ e2
    exact List.eq_nil_of_length_eq_zero e2
  · right
    injection e with e1
    exact ⟨g, e1, hB⟩

section
attribute [local go_sem ↓] ldDigest_def stDigest_def apAll_def bsAll_def
set_option maxRecDepth 100000 in
set_option maxHeartbeats 4000000 in
theorem rkread_new (a : Nat) (l : List UInt8) (b : Bool) (w : World) (h : RRd w a l b) :
    Calls Tryz.prog 117 #[.pointer (some ⟨a, 0, none⟩)] w (RKReadNew w a l b) := by
  have HA : Hid (a < w.heap.size) := h.lt
  have HO0 : Hid (Box (w.alloc (.cells zsig 72)) w.heap.size 72 zsig) := Box.made _ _ _
  have HR0 : Hid (RRd (w.alloc (.cells zsig 72)) a l b) := Box.alloc h _
  have HG0 : Hid (w.grownBy (w.alloc (.cells zsig 72)) (some a)) := World.grownBy_alloc w _ _
  have HZ0 : Hid ((w.alloc (.cells zsig 72)).heap.size = w.heap.size + 1) := Lib.hid (by simp)
  have HNM := Lib.hid (rnum_any a l b _ HR0.out)
  have HRN : Hid ((rdL l b).2.2 = true → (rdL l b).2.1 = []) := Lib.hid (fun e => rdL_nil e)
  have HC6 := Lib.hid (rdC_le l b)
  have HRF : Hid (rdF l b = stT (64 + rdC l b) (rdL l b).2.1 (rdL l b).2.2) := Lib.hid rfl
  have HXX : Hid ((rdF l b).2 = false → rdN l b = numV l b ∧ rdX l b = dgsT 32 (rdL l b).2.1 (rdL l b).2.2 ∧ rdY l b = dgsT 32 (stT 32 (rdL l b).2.1 (rdL l b).2.2).1 (stT 32 (rdL l b).2.1 (rdL l b).2.2).2 ∧ rdP l b = dgsT (rdC l b) (stT 64 (rdL l b).2.1 (rdL l b).2.2).1 (stT 64 (rdL l b).2.1 (rdL l b).2.2).2) := Lib.hid (fun hf => by
    unfold rdN rdX rdY rdP
    rw [hf, if_neg (by simp), if_neg (by simp), if_neg (by simp), if_neg (by simp)]
    exact ⟨rfl, rfl, rfl, rfl⟩)
  have HIN : Hid (∀ w' b' n v1 v2 v3 L1 L2 L3, RrW w a b' n v1 v2 v3 L1 L2 L3 (tk 8 l b).2 w' → Calls Tryz.prog 75 #[.pointer (some ⟨a, 0, none⟩), .int .i64 0, .int .i64 6] w' fun e w'' => e = .returned (.int .i64 (rdC l b : Int)) ∧ RrW w a b' n v1 v2 v3 L1 L2 L3 (rdL l b).2 w'') := fun w' b' n v1 v2 v3 L1 L2 L3 hw => (rin_any a 0 6 _ _ w' hw.rd).mono fun e w'' ⟨he, hr, hg⟩ => ⟨by rw [he]; exact congrArg (fun n => Ending.returned (.int .i64 n)) (rdC_int l b), hw.turn hg hr⟩
  have HGD : Hid (∀ w' (s : List UInt8 × Bool), RRd w' a s.1 s.2 → Calls Tryz.prog 20 #[.pointer (some ⟨a, 0, none⟩)] w' fun e w'' => e = .returned (.bool !s.2) ∧ w' = w'') := fun w' s hw => rgood_any a s.1 s.2 w' hw
  obtain ⟨s2, hs2⟩ : ∃ s2, (rdL l b).2 = s2 := ⟨_, rfl⟩
  rw [hs2] at HIN HRF HXX HRN
  obtain ⟨N, hN⟩ : ∃ N, numV l b = N := ⟨_, rfl⟩
  obtain ⟨M, hM⟩ : ∃ M, rdC l b = M := ⟨_, rfl⟩
  rw [hN] at HNM HXX
  rw [hM] at HIN HRF HXX HC6
  clear hs2 hN hM h
  have HZS := Lib.hid (sig_size N none 0 0 none 0 0 none 0 0)
  have HOS := Lib.hid (sig_one N none 0 0 none 0 0 none 0 0)
  go_enter Tryz.func117, Tryz.ntmps117
  go_upto_region 1 with fail
  change Code.wp _ _ _ _ (w.alloc (.cells zsig 72))
  generalize w.alloc (.cells zsig 72) = w1 at *
  go_upto_region 2 with (first
    | (go_at_call 114; (with_reducible refine (HNM.out).mono ?_); rintro e w2 ⟨rfl, hr, hg⟩; have HR2 := Lib.hid hr; have HG2 := Lib.hid hg; clear hr hg)
    | (((with_reducible show wpList _ _ _ ((⟨none, Op.store _ (.tmp 3) (.tmp 9), _, _, _, _⟩ : Oper) :: _) _ _)); refine wpList_store_box rfl 72 (.tmp 3) (.tmp 9) rfl w2.heap.size (sigV N none 0 0 none 0 0 none 0 0) rfl rfl 72 zsig (Box.made w2 _ _) rfl HZS.out HOS.out ?_; intro w3 hb3 hg3; have HX3 := Lib.hid hb3; have HB3 := Lib.hid (((Below.refl w2.heap.size w2).alloc (Nat.le_refl _) (.cells zsig 72)).trans (below_only hg3 (Nat.le_refl _) (by simp))); clear hb3 hg3))
  obtain ⟨t3, ht3⟩ : ∃ t3, w2.heap.size = t3 := ⟨_, rfl⟩
  have HW3 : Hid (RrW w a t3 N (.slice none 0 0) (.slice none 0 0) (.slice none 0 0) [] [] [] (tk 8 l b).2 w3) := by
    have hz := HZ0.out
    have ha := HA.out
    have h2 := HG2.out.size
    have hO2 := HO0.out.grown HG2.out (fun e => by injection e with e; omega)
    rw [← ht3]
    exact ⟨hO2.below HB3.out hO2.lt, HX3.out, HR2.out.below HB3.out HR2.out.lt, World.ownsRow_nil _ _ _ _, World.ownsRow_nil _ _ _ _, World.ownsRow_nil _ _ _ _, (fun g e => by cases e), (fun g e => by cases e), (fun g e => by cases e), only_trans (only_trans HG0.out HG2.out) (only_below HB3.out (some a)), ha, by omega⟩
  rw [ht3]
  clear ht3 HNM HO0 HR0 HG0 HZ0 HR2 HG2 HX3 HB3 HZS HOS
  go_upto_region 4 with (go_at_call 75; (with_reducible refine (HIN.out _ _ _ _ _ _ _ _ _ HW3.out).mono ?_); rintro e w4 ⟨rfl, hw⟩; have HW4 := Lib.hid hw; clear hw)
  clear HW3 HIN
  have hM6 : M ≤ 6 := HC6.out
  have HXE : Hid (∀ k, dgsT (min (k + 1) 32) s2.1 s2.2 = (if k < 32 then dgsT (min k 32) s2.1 s2.2 ++ [dgT s2.1 s2.2 k] else dgsT (min k 32) s2.1 s2.2)) := Lib.hid (fun k => by
    split
    · rw [Nat.min_eq_left (by omega), Nat.min_eq_left (by omega), dgs_succ]
    · rw [Nat.min_eq_right (by omega), Nat.min_eq_right (by omega)])
  have HYE : Hid (∀ k, dgsT (min (k + 1 - 32) 32) (stT 32 s2.1 s2.2).1 (stT 32 s2.1 s2.2).2 = (if 32 ≤ k ∧ k < 64 then dgsT (min (k - 32) 32) (stT 32 s2.1 s2.2).1 (stT 32 s2.1 s2.2).2 ++ [dgT s2.1 s2.2 k] else dgsT (min (k - 32) 32) (stT 32 s2.1 s2.2).1 (stT 32 s2.1 s2.2).2)) := Lib.hid (fun k => by
    split
    · rename_i hk
      rw [Nat.min_eq_left (by omega), Nat.min_eq_left (by omega), show k + 1 - 32 = k - 32 + 1 by omega, dgs_succ, ← dgT_add, show 32 + (k - 32) = k by omega]
    · rename_i hk
      congr 1
      omega)
  have HPE : Hid (∀ k, dgsT (k + 1 - 64) (stT 64 s2.1 s2.2).1 (stT 64 s2.1 s2.2).2 = (if 64 ≤ k then dgsT (k - 64) (stT 64 s2.1 s2.2).1 (stT 64 s2.1 s2.2).2 ++ [dgT s2.1 s2.2 k] else dgsT (k - 64) (stT 64 s2.1 s2.2).1 (stT 64 s2.1 s2.2).2)) := Lib.hid (fun k => by
    split
    · rw [show k + 1 - 64 = k - 64 + 1 by omega, dgs_succ, ← dgT_add, show 64 + (k - 64) = k by omega]
    · congr 1
      omega)
  have HW0 : Hid (RrW w a t3 N (.slice none 0 0) (.slice none 0 0) (.slice none 0 0) (dgsT (min 0 32) s2.1 s2.2) (dgsT (min (0 - 32) 32) (stT 32 s2.1 s2.2).1 (stT 32 s2.1 s2.2).2) (dgsT (0 - 64) (stT 64 s2.1 s2.2).1 (stT 64 s2.1 s2.2).2) (stT 0 s2.1 s2.2) w4) := HW4.out
  clear HW4
  go_loopw [5, 6] (fun i _ wr => ∃ (k : Nat) (v1 v2 v3 : Value), k ≤ 64 + M ∧ i = .int .i64 (k : Int) ∧ Hid (RrW w a t3 N v1 v2 v3 (dgsT (min k 32) s2.1 s2.2) (dgsT (min (k - 32) 32) (stT 32 s2.1 s2.2).1 (stT 32 s2.1 s2.2).2) (dgsT (k - 64) (stT 64 s2.1 s2.2).1 (stT 64 s2.1 s2.2).2) (stT k s2.1 s2.2) wr)) (fun i _ _ => 64 + M - (intOf i).toNat)
  case atStart => exact ⟨0, _, _, _, Nat.zero_le _, rfl, HW0⟩
  case round =>
    clear HW0
    obtain ⟨k, v1, v2, v3, hk, rfl, HW⟩ := hrel
    have HGK := Lib.hid (HGD.out _ (stT k s2.1 s2.2) HW.out.rd)
    by_cases hlt : k < 64 + M
    · have e15 : decide ((k : Int) < 64 + (M : Int)) = true := decide_eq_true (by omega)
      obtain ⟨bd, hbd⟩ : ∃ bd, (stT k s2.1 s2.2).2 = bd := ⟨_, rfl⟩
      rw [hbd] at HGK
      rcases bd with _ | _
      · clear hbd
        have HDG : Hid (Calls Tryz.prog 76 #[.pointer (some ⟨a, 0, none⟩)] wr fun e w' => e = .returned (.agg ((dgT s2.1 s2.2 k).map bv).toArray) ∧ RrW w a t3 N v1 v2 v3 (dgsT (min k 32) s2.1 s2.2) (dgsT (min (k - 32) 32) (stT 32 s2.1 s2.2).1 (stT 32 s2.1 s2.2).2) (dgsT (k - 64) (stT 64 s2.1 s2.2).1 (stT 64 s2.1 s2.2).2) (stT (k + 1) s2.1 s2.2) w') := (rdigest_any a _ _ wr HW.out.rd).mono fun e w' ⟨he, hr, hg⟩ => ⟨he, HW.out.turn hg hr⟩
        have HDL : Hid ((dgT s2.1 s2.2 k).length = 32) := digV_len _ _
        have HX := Lib.hid (HXE.out k)
        have HY := Lib.hid (HYE.out k)
        have HP := Lib.hid (HPE.out k)
        have HL1 := Lib.hid (dgs_len (min k 32) s2.1 s2.2)
        have HL2 := Lib.hid (dgs_len (min (k - 32) 32) (stT 32 s2.1 s2.2).1 (stT 32 s2.1 s2.2).2)
        have HL3 := Lib.hid (dgs_len (k - 64) (stT 64 s2.1 s2.2).1 (stT 64 s2.1 s2.2).2)
        clear HW HXX HRF HRN HXE HYE HPE
        obtain ⟨L1', hL1'⟩ : ∃ L, dgsT (min (k + 1) 32) s2.1 s2.2 = L := ⟨_, rfl⟩
        obtain ⟨L2', hL2'⟩ : ∃ L, dgsT (min (k + 1 - 32) 32) (stT 32 s2.1 s2.2).1 (stT 32 s2.1 s2.2).2 = L := ⟨_, rfl⟩
        obtain ⟨L3', hL3'⟩ : ∃ L, dgsT (k + 1 - 64) (stT 64 s2.1 s2.2).1 (stT 64 s2.1 s2.2).2 = L := ⟨_, rfl⟩
        obtain ⟨s', hs'⟩ : ∃ s', stT (k + 1) s2.1 s2.2 = s' := ⟨_, rfl⟩
        rw [hL1'] at HX
        rw [hL2'] at HY
        rw [hL3'] at HP
        rw [hs'] at HDG
        have HNX : Hid (∀ v1 v2 v3 w', RrW w a t3 N v1 v2 v3 L1' L2' L3' s' w' → RrW w a t3 N v1 v2 v3 (dgsT (min (k + 1) 32) s2.1 s2.2) (dgsT (min (k + 1 - 32) 32) (stT 32 s2.1 s2.2).1 (stT 32 s2.1 s2.2).2) (dgsT (k + 1 - 64) (stT 64 s2.1 s2.2).1 (stT 64 s2.1 s2.2).2) (stT (k + 1) s2.1 s2.2) w') := Lib.hid (fun v1 v2 v3 w' hw => by
          rw [hL1', hL2', hL3', hs']
          exact hw)
        clear hL1' hL2' hL3' hs'
        generalize dgsT (min k 32) s2.1 s2.2 = L1 at *
        generalize dgsT (min (k - 32) 32) (stT 32 s2.1 s2.2).1 (stT 32 s2.1 s2.2).2 = L2 at *
        generalize dgsT (k - 64) (stT 64 s2.1 s2.2).1 (stT 64 s2.1 s2.2).2 = L3 at *
        generalize dgT s2.1 s2.2 k = x at *
        have HSM := Lib.hid (dig_same x HDL.out)
        have HSZ := Lib.hid (dig_size x HDL.out)
        have HLX := Lib.hid (dig_list x HDL.out)
        have hbs := build_one x HDL.out
        go_upto_region 7 with (first
          | (go_at_call 20; (with_reducible refine (HGK.out).mono ?_); rintro e w5 ⟨rfl, rfl⟩)
          | (go_at_call 76; (with_reducible refine (HDG.out).mono ?_); rintro e w6 ⟨rfl, hw⟩; have HW6 := Lib.hid hw; clear hw)
          | (((with_reducible show wpList _ _ _ ((⟨none, Op.store _ (.tmp 6) (.tmp 23), _, _, _, _⟩ : Oper) :: _) _ _)); refine wpList_store_box rfl 29 (.tmp 6) (.tmp 23) rfl w6.heap.size (x.map bv).toArray rfl rfl 29 zs32 (Box.made w6 _ _) HSM.out HSZ.out (bv_one _) ?_; intro w7 hb7 hg7; have HQ7 := Lib.hid hb7; have HW7 := Lib.hid (HW6.out.call (((Below.refl w6.heap.size w6).alloc (Nat.le_refl _) (.cells zs32 29)).trans (below_only hg7 (Nat.le_refl _) (by simp)))); clear hb7 hg7))
        clear HGK HDG HW6
        have HW8 := Lib.hid (HW7.out.call ((Below.refl w7.heap.size w7).alloc (Nat.le_refl _) (.cells (x.map bv).toArray 29)))
        have HB8 : Hid (Box (w7.alloc (.cells (x.map bv).toArray 29)) w7.heap.size 29 (x.map bv).toArray) := Box.made _ _ _
        by_cases hk1 : k < 32
        · have e25 : decide ((k : Int) < 32) = true := decide_eq_true (by omega)
          have c1 := HW7.out.box.cell 1
          simp only [List.getElem?_toArray, List.getElem?_cons_zero, List.getElem?_cons_succ] at c1
          obtain ⟨g, cap, w9, hap, hc9, hf9, hw9⟩ := HW8.out.push1 HDL.out HB8.out (by rw [HL1.out]; omega)
          have HW9 := Lib.hid hw9
          clear hw9
          obtain ⟨u1, hu1⟩ : ∃ u : Value, u = .slice (some ⟨g, 0, none⟩) (L1.length + 1) cap := ⟨_, rfl⟩
          go_wp2_with ((with_reducible show wpList _ _ _ ((⟨some 29, _, _, _, _, _⟩ : Oper) :: _) _ _); refine wpList_load_mid rfl 29 (.tmp 6) rfl w6.heap.size 0 rfl (x.map bv) _ HQ7.out.range Tryz.underlying29 rfl HLX.out ?_)
          clear hap hc9 hf9 c1 hbs
          generalize w9.setCell ⟨t3, 1, none⟩ (.slice (some ⟨g, 0, none⟩) (L1.length + 1) cap) = w10 at *
          have hx := HX.out
          have hy := HY.out
          have hp := HP.out
          rw [if_pos hk1] at hx
          rw [if_neg (by omega)] at hy
          rw [if_neg (by omega)] at hp
          have HW10 := Lib.hid (HNX.out (.slice (some ⟨g, 0, none⟩) (L1.length + 1) cap) v2 v3 w10 (by rw [hx, hy, hp]; exact HW9.out))
          clear hx hy hp
          go_roundw
          case rel => exact ⟨k + 1, (.slice (some ⟨g, 0, none⟩) (L1.length + 1) cap), v2, v3, hlt, by go_num, HW10⟩
          case measure => simp [intOf]; omega
        by_cases hk2 : k < 64
        · have e25 : decide ((k : Int) < 32) = false := decide_eq_false (by omega)
          have e35 : decide ((k : Int) < 64) = true := decide_eq_true (by omega)
          have c2 := HW7.out.box.cell 2
          simp only [List.getElem?_toArray, List.getElem?_cons_zero, List.getElem?_cons_succ] at c2
          obtain ⟨g, cap, w9, hap, hc9, hf9, hw9⟩ := HW8.out.push2 HDL.out HB8.out (by rw [HL2.out]; omega)
          have HW9 := Lib.hid hw9
          clear hw9
          obtain ⟨u2, hu2⟩ : ∃ u : Value, u = .slice (some ⟨g, 0, none⟩) (L2.length + 1) cap := ⟨_, rfl⟩
          go_wp2_with ((with_reducible show wpList _ _ _ ((⟨some 39, _, _, _, _, _⟩ : Oper) :: _) _ _); refine wpList_load_mid rfl 29 (.tmp 6) rfl w6.heap.size 0 rfl (x.map bv) _ HQ7.out.range Tryz.underlying29 rfl HLX.out ?_)
          clear hap hc9 hf9 c2 hbs
          generalize w9.setCell ⟨t3, 2, none⟩ (.slice (some ⟨g, 0, none⟩) (L2.length + 1) cap) = w10 at *
          have hx := HX.out
          have hy := HY.out
          have hp := HP.out
          rw [if_neg (by omega)] at hx
          rw [if_pos (by omega)] at hy
          rw [if_neg (by omega)] at hp
          have HW10 := Lib.hid (HNX.out v1 (.slice (some ⟨g, 0, none⟩) (L2.length + 1) cap) v3 w10 (by rw [hx, hy, hp]; exact HW9.out))
          clear hx hy hp
          go_roundw
          case rel => exact ⟨k + 1, v1, (.slice (some ⟨g, 0, none⟩) (L2.length + 1) cap), v3, hlt, by go_num, HW10⟩
          case measure => simp [intOf]; omega
        have e25 : decide ((k : Int) < 32) = false := decide_eq_false (by omega)
        have e35 : decide ((k : Int) < 64) = false := decide_eq_false (by omega)
        have c3 := HW7.out.box.cell 3
        simp only [List.getElem?_toArray, List.getElem?_cons_zero, List.getElem?_cons_succ] at c3
        obtain ⟨g, cap, w9, hap, hc9, hf9, hw9⟩ := HW8.out.push3 HDL.out HB8.out (by rw [HL3.out]; omega)
        have HW9 := Lib.hid hw9
        clear hw9
        obtain ⟨u3, hu3⟩ : ∃ u : Value, u = .slice (some ⟨g, 0, none⟩) (L3.length + 1) cap := ⟨_, rfl⟩
        go_wp2_with ((with_reducible show wpList _ _ _ ((⟨some 46, _, _, _, _, _⟩ : Oper) :: _) _ _); refine wpList_load_mid rfl 29 (.tmp 6) rfl w6.heap.size 0 rfl (x.map bv) _ HQ7.out.range Tryz.underlying29 rfl HLX.out ?_)
        clear hap hc9 hf9 c3 hbs
        generalize w9.setCell ⟨t3, 3, none⟩ (.slice (some ⟨g, 0, none⟩) (L3.length + 1) cap) = w10 at *
        have hx := HX.out
        have hy := HY.out
        have hp := HP.out
        rw [if_neg (by omega)] at hx
        rw [if_neg (by omega)] at hy
        rw [if_pos (by omega)] at hp
        have HW10 := Lib.hid (HNX.out v1 v2 (.slice (some ⟨g, 0, none⟩) (L3.length + 1) cap) w10 (by rw [hx, hy, hp]; exact HW9.out))
        clear hx hy hp
        go_roundw
        case rel => exact ⟨k + 1, v1, v2, (.slice (some ⟨g, 0, none⟩) (L3.length + 1) cap), hlt, by go_num, HW10⟩
        case measure => simp [intOf]; omega
      · have HNL : Hid (stT k s2.1 s2.2 = ([], true)) := Lib.hid (stT_nil HRN.out hbd)
        have HRE : Hid (rdF l b = ([], true)) := by
          show _ = _
          rw [HRF.out]
          exact stT_past (by omega) HNL.out
        have HRW : Hid (RRd wr a [] true) := by
          have h := HW.out.rd
          rw [HNL.out] at h
          exact h
        have HOW := Lib.hid HW.out.out
        have HGW := Lib.hid HW.out.far
        clear HNL HRF HRN HXX HXE HYE HPE HW hbd
        go_wp2_with (first
          | (go_at_call 20; (with_reducible refine (HGK.out).mono ?_); rintro e w11 ⟨rfl, rfl⟩)
          | (((with_reducible show wpList _ _ _ ((⟨none, Op.store _ (.tmp 2) (.tmp 53), _, _, _, _⟩ : Oper) :: _) _ _)); refine wpList_store_box rfl 72 (.tmp 2) (.tmp 53) rfl w.heap.size zsig rfl rfl 72 zsig HOW.out rfl (sig_size 0 none 0 0 none 0 0 none 0 0) (sig_one 0 none 0 0 none 0 0 none 0 0) ?_; intro w12 hb12 hg12))
        have ha := HA.out
        obtain ⟨z1, z2, z3, z4⟩ := read_bad (l := l) (b := b) (by rw [HRE.out])
        refine bodyPost_ret (v := .agg zsig) (results_cell_row rfl _ w12 w.heap.size 72 zsig (0, 0) _ rfl hb12 Tryz.underlying72 rfl (sig_size 0 none 0 0 none 0 0 none 0 0)) rfl ?_
        refine ⟨none, none, none, 0, 0, 0, ?_, ?_, ?_, ?_, ?_, only_new HGW.out hg12 (Nat.le_refl _), .inl z2, .inl z3, .inl z4⟩
        · rw [z1, z2, z3, z4]
          rfl
        · rw [z2]
          exact Digs.empty _ _ _
        · rw [z3]
          exact Digs.empty _ _ _
        · rw [z4]
          exact Digs.empty _ _ _
        · rw [HRE.out]
          exact HRW.out.other hg12 (by omega)
    · obtain rfl : k = 64 + M := by omega
      have e15 : decide (((64 + M : Nat) : Int) < 64 + (M : Int)) = false := decide_eq_false (by omega)
      have e16 : ((64 + M : Nat) : Int) = 64 + (M : Int) := by omega
      obtain ⟨gd, hgd⟩ : ∃ gd, (rdF l b).2 = gd := ⟨_, rfl⟩
      have HSE : Hid (stT (64 + M) s2.1 s2.2 = rdF l b) := Lib.hid HRF.out.symm
      rw [HSE.out] at HGK HW
      have hgd2 := hgd
      rw [hgd] at HGK
      rcases gd with _ | _
      · obtain ⟨x1, x2, x3, x4⟩ := HXX.out hgd2
        have HL1 : Hid (rdX l b = dgsT (min (64 + M) 32) s2.1 s2.2) := by
          show _ = _
          rw [x2, Nat.min_eq_right (by omega)]
        have HL2 : Hid (rdY l b = dgsT (min (64 + M - 32) 32) (stT 32 s2.1 s2.2).1 (stT 32 s2.1 s2.2).2) := by
          show _ = _
          rw [x3, Nat.min_eq_right (by omega)]
        have HL3 : Hid (rdP l b = dgsT (64 + M - 64) (stT 64 s2.1 s2.2).1 (stT 64 s2.1 s2.2).2) := by
          show _ = _
          rw [x4, show 64 + M - 64 = M by omega]
        have HN1 := Lib.hid x1
        have HA1 : Hid (AllD (rdX l b)) := by
          show AllD _
          rw [x2]
          exact dgs_all _ _ _
        have HA2 : Hid (AllD (rdY l b)) := by
          show AllD _
          rw [x3]
          exact dgs_all _ _ _
        have HA3 : Hid (AllD (rdP l b)) := by
          show AllD _
          rw [x4]
          exact dgs_all _ _ _
        rw [← HL1.out, ← HL2.out, ← HL3.out] at HW
        clear x1 x2 x3 x4 HL1 HL2 HL3 HXX HXE HYE HPE HRF HRN hgd hgd2 HSE
        obtain ⟨A1, c1, rfl⟩ := own_slice_s HW.out.o1
        obtain ⟨A2, c2, rfl⟩ := own_slice_s HW.out.o2
        obtain ⟨A3, c3, rfl⟩ := own_slice_s HW.out.o3
        have d1 := OwnD.digs HW.out.o1 HA1.out
        have d2 := OwnD.digs HW.out.o2 HA2.out
        have d3 := OwnD.digs HW.out.o3 HA3.out
        have HD1 := Lib.hid d1
        have HD2 := Lib.hid d2
        have HD3 := Lib.hid d3
        have HN1' := Lib.hid (own_newd HW.out.o1)
        have HN2' := Lib.hid (own_newd HW.out.o2)
        have HN3' := Lib.hid (own_newd HW.out.o3)
        have HBX : Hid (Box wr t3 72 (sigV N A1 (rdX l b).length c1 A2 (rdY l b).length c2 A3 (rdP l b).length c3)) := HW.out.box
        have HRW := Lib.hid HW.out.rd
        have HOW := Lib.hid HW.out.out
        have HGW := Lib.hid HW.out.far
        have HLG := Lib.hid (sig_list N A1 (rdX l b).length c1 A2 (rdY l b).length c2 A3 (rdP l b).length c3)
        have HZG := Lib.hid (sig_size N A1 (rdX l b).length c1 A2 (rdY l b).length c2 A3 (rdP l b).length c3)
        have HOG := Lib.hid (sig_one N A1 (rdX l b).length c1 A2 (rdY l b).length c2 A3 (rdP l b).length c3)
        clear d1 d2 d3 HW
        go_wp2_with (first
          | (go_at_call 20; (with_reducible refine (HGK.out).mono ?_); rintro e w11 ⟨rfl, rfl⟩)
          | ((with_reducible show wpList _ _ _ ((⟨some 54, _, _, _, _, _⟩ : Oper) :: _) _ _); refine wpList_load_mid rfl 72 (.tmp 3) rfl t3 0 rfl (sigV N A1 (rdX l b).length c1 A2 (rdY l b).length c2 A3 (rdP l b).length c3).toList _ (Box.range HBX.out) Tryz.underlying72 rfl HLG.out ?_)
          | (((with_reducible show wpList _ _ _ ((⟨none, Op.store _ (.tmp 2) (.tmp 54), _, _, _, _⟩ : Oper) :: _) _ _)); refine wpList_store_box rfl 72 (.tmp 2) (.tmp 54) rfl w.heap.size (sigV N A1 (rdX l b).length c1 A2 (rdY l b).length c2 A3 (rdP l b).length c3) rfl rfl 72 zsig HOW.out rfl HZG.out HOG.out ?_; intro w12 hb12 hg12))
        have ha := HA.out
        have hnb := sig_nobyte 0 none 0 0 none 0 0 none 0 0
        refine bodyPost_ret (v := .agg (sigV N A1 (rdX l b).length c1 A2 (rdY l b).length c2 A3 (rdP l b).length c3)) (results_cell_row rfl _ w12 w.heap.size 72 (sigV N A1 (rdX l b).length c1 A2 (rdY l b).length c2 A3 (rdP l b).length c3) (0, 0) _ rfl hb12 Tryz.underlying72 rfl HZG.out) rfl ?_
        exact ⟨A1, A2, A3, c1, c2, c3, by rw [HN1.out], HD1.out.aside HOW.out hnb hg12, HD2.out.aside HOW.out hnb hg12, HD3.out.aside HOW.out hnb hg12, HRW.out.other hg12 (by omega), only_new HGW.out hg12 (Nat.le_refl _), HN1'.out, HN2'.out, HN3'.out⟩
      · have HNL : Hid (rdF l b = ([], true)) := by
          show _ = _
          rw [← HSE.out]
          exact stT_nil HRN.out (by rw [HSE.out]; exact hgd)
        have HRE := HNL
        have HRW : Hid (RRd wr a [] true) := by
          have h := HW.out.rd
          rw [HNL.out] at h
          exact h
        have HOW := Lib.hid HW.out.out
        have HGW := Lib.hid HW.out.far
        clear HNL HRF HRN HXX HXE HYE HPE HW hgd hgd2 HSE
        go_wp2_with (first
          | (go_at_call 20; (with_reducible refine (HGK.out).mono ?_); rintro e w11 ⟨rfl, rfl⟩)
          | (((with_reducible show wpList _ _ _ ((⟨none, Op.store _ (.tmp 2) (.tmp 53), _, _, _, _⟩ : Oper) :: _) _ _)); refine wpList_store_box rfl 72 (.tmp 2) (.tmp 53) rfl w.heap.size zsig rfl rfl 72 zsig HOW.out rfl (sig_size 0 none 0 0 none 0 0 none 0 0) (sig_one 0 none 0 0 none 0 0 none 0 0) ?_; intro w12 hb12 hg12))
        have ha := HA.out
        obtain ⟨z1, z2, z3, z4⟩ := read_bad (l := l) (b := b) (by rw [HRE.out])
        refine bodyPost_ret (v := .agg zsig) (results_cell_row rfl _ w12 w.heap.size 72 zsig (0, 0) _ rfl hb12 Tryz.underlying72 rfl (sig_size 0 none 0 0 none 0 0 none 0 0)) rfl ?_
        refine ⟨none, none, none, 0, 0, 0, ?_, ?_, ?_, ?_, ?_, only_new HGW.out hg12 (Nat.le_refl _), .inl z2, .inl z3, .inl z4⟩
        · rw [z1, z2, z3, z4]
          rfl
        · rw [z2]
          exact Digs.empty _ _ _
        · rw [z3]
          exact Digs.empty _ _ _
        · rw [z4]
          exact Digs.empty _ _ _
        · rw [HRE.out]
          exact HRW.out.other hg12 (by omega)
end
end Go.Proofs.YtbclepdcngaonaaGreatDoor

namespace Go.Proofs.YtbclepdcngaonaaGreatDoor
open Go.RowKit

set_option maxRecDepth 100000 in
set_option maxHeartbeats 1000000 in
theorem kfull_two (g x y a b : Nat) (A B : Option Addr) (w : World) (h : Box w g 68 #[.slice A x a, .slice B y b]) :
    Calls Tryz.prog 131 #[.slice (some ⟨g, 0, none⟩) 2 2] w fun e w' => e = .returned (.bool (decide (x = 32) && decide (y = 32))) ∧ w' = w := by
  have c0 := h.cell 0
  have c1 := h.cell 1
  simp only [List.getElem?_toArray, List.getElem?_cons_zero, List.getElem?_cons_succ] at c0 c1
  clear h
  go_enter Tryz.func131, Tryz.ntmps131
  go_upto_region 2 with fail
  go_loopw [4, 7] (fun _ i wr => ∃ k : Nat, k ≤ 2 ∧ i = .int .i64 (k : Int) ∧ Hid (0 < k → x = 32) ∧ Hid (1 < k → y = 32) ∧ wr = w) (fun _ i _ => 2 - (intOf i).toNat)
  case atStart => exact ⟨0, by omega, rfl, by exact Lib.hid (fun h => by omega), by exact Lib.hid (fun h => by omega), rfl⟩
  case round =>
    obtain ⟨k, hk, rfl, HX, HY, rfl⟩ := hrel
    have hk3 : k = 0 ∨ k = 1 ∨ k = 2 := by omega
    rcases hk3 with rfl | rfl | rfl
    · by_cases hx : x = 32
      · have e1 : ((x : Int) == 32) = true := by rw [beq_iff_eq]; omega
        have e2 : ((x : Int) != 32) = false := by rw [bne_eq_false_iff_eq]; omega
        have HX1 : Hid (x = 32) := hx
        clear hx
        go_wp2
        go_roundw
        case rel => exact ⟨1, by omega, rfl, by exact Lib.hid (fun _ => HX1.out), by exact Lib.hid (fun h => by omega), by first | rfl | trivial⟩
        case measure => simp [intOf]
      · have e1 : ((x : Int) == 32) = false := by rw [beq_eq_false_iff_ne]; omega
        have e2 : ((x : Int) != 32) = true := by rw [bne_iff_ne]; omega
        go_wp2
        go_ret
        exact ⟨ret_val (by rw [decide_eq_false hx]; rfl), rfl⟩
    · have HX1 := Lib.hid (HX.out (by omega))
      by_cases hy : y = 32
      · have e1 : ((y : Int) == 32) = true := by rw [beq_iff_eq]; omega
        have e2 : ((y : Int) != 32) = false := by rw [bne_eq_false_iff_eq]; omega
        have HY1 : Hid (y = 32) := hy
        clear hy
        go_wp2
        go_roundw
        case rel => exact ⟨2, by omega, rfl, by exact Lib.hid (fun _ => HX1.out), by exact Lib.hid (fun _ => HY1.out), by first | rfl | trivial⟩
        case measure => simp [intOf]
      · have e1 : ((y : Int) == 32) = false := by rw [beq_eq_false_iff_ne]; omega
        have e2 : ((y : Int) != 32) = true := by rw [bne_iff_ne]; omega
        go_wp2
        go_ret
        exact ⟨ret_val (by rw [decide_eq_false hy, decide_eq_true HX1.out]; rfl), rfl⟩
    · have HX1 := Lib.hid (HX.out (by omega))
      have HY1 := Lib.hid (HY.out (by omega))
      go_wp2
      go_ret
      exact ⟨ret_val (by rw [decide_eq_true HY1.out, decide_eq_true HX1.out]; rfl), rfl⟩

end Go.Proofs.YtbclepdcngaonaaGreatDoor

namespace Go.Proofs.YtbclepdcngaonaaGreatDoor
open Go.RowKit

attribute [local go_sem ↓] ldDigest_def stDigest_def

/-- What is written behind k lists. -/
def tT (nb mb : List UInt8) (X Y P : List (List UInt8)) : Nat → List UInt8
  | 0 => nb ++ mb
  | 1 => (nb ++ mb) ++ X.flatten
  | 2 => ((nb ++ mb) ++ X.flatten) ++ Y.flatten
  | _ => (((nb ++ mb) ++ X.flatten) ++ Y.flatten) ++ P.flatten
theorem tT_size {nb mb : List UInt8} {X Y P : List (List UInt8)} (h : (tT nb mb X Y P 3).length ≤ 2256) : (tT nb mb X Y P 0).length ≤ 2256 ∧ (tT nb mb X Y P 1).length ≤ 2256 ∧ (tT nb mb X Y P 2).length ≤ 2256 := by
  simp only [tT, List.length_append] at *
  omega
theorem take_flat_le (D : List (List UInt8)) (j : Nat) : (D.take j).flatten.length ≤ D.flatten.length := by
  conv => rhs; rw [← List.take_append_drop j D, List.flatten_append, List.length_append]
  omega
set_option maxRecDepth 100000 in
set_option maxHeartbeats 2000000 in
theorem rkwrite_not (n : Int) (X Y P : List (List UInt8)) (A B C : Option Addr) (x y z : Nat) (hf : fitsT X Y P = false) (w : World) :
    Calls Tryz.prog 102 #[.agg (sigV n A X.length x B Y.length y C P.length z)] w fun e w' => e = .returned (.tuple #[str [], .bool false]) ∧ Below w.heap.size w w' := by
  have hB : Box (w.alloc (.cells (sigV n A X.length x B Y.length y C P.length z) 72)) w.heap.size 72 (sigV n A X.length x B Y.length y C P.length z) := Box.made _ _ _
  have HF : Hid (Below w.heap.size w (w.alloc (.cells (sigV n A X.length x B Y.length y C P.length z) 72))) := (Below.refl _ _).alloc (Nat.le_refl _) _
  have c1 := hB.cell 1
  have c2 := hB.cell 2
  have c3 := hB.cell 3
  simp only [List.getElem?_toArray, List.getElem?_cons_zero, List.getElem?_cons_succ] at c1 c2 c3
  unfold fitsT at hf
  rw [decide_eq_false_iff_not] at hf
  have HN := Lib.hid hf
  clear hB hf
  go_enter Tryz.func102, Tryz.ntmps102
  go_upto_region 1 with fail
  change Code.wp _ _ _ _ (w.alloc (.cells (sigV n A X.length x B Y.length y C P.length z) 72))
  generalize w.alloc (.cells (sigV n A X.length x B Y.length y C P.length z) 72) = w1 at *
  generalize X.length = lx at *
  generalize Y.length = ly at *
  generalize P.length = lp at *
  by_cases hx : lx = 32
  · have e2 : ((lx : Int) == 32) = true := by rw [beq_iff_eq]; omega
    have e4 : ((lx : Int) != 32) = false := by rw [bne_eq_false_iff_eq]; omega
    by_cases hy : ly = 32
    · have e6 : ((ly : Int) == 32) = true := by rw [beq_iff_eq]; omega
      have e8 : ((ly : Int) != 32) = false := by rw [bne_eq_false_iff_eq]; omega
      have e9 : decide ((6 : Int) < (lp : Int)) = true := decide_eq_true (by have := HN.out; omega)
      go_wp2
      go_ret2
      exact ⟨rfl, HF.out⟩
    · have e6 : ((ly : Int) == 32) = false := by rw [beq_eq_false_iff_ne]; omega
      have e8 : ((ly : Int) != 32) = true := by rw [bne_iff_ne]; omega
      go_wp2
      go_ret2
      exact ⟨rfl, HF.out⟩
  · have e2 : ((lx : Int) == 32) = false := by rw [beq_eq_false_iff_ne]; omega
    have e4 : ((lx : Int) != 32) = true := by rw [bne_iff_ne]; omega
    go_wp2
    go_ret2
    exact ⟨rfl, HF.out⟩

set_option maxRecDepth 100000 in
set_option maxHeartbeats 4000000 in
theorem rkwrite_any (n : Int) (hn : -9223372036854775808 ≤ n ∧ n ≤ 9223372036854775807) (X Y P : List (List UInt8)) (A B C : Option Addr) (x y z : Nat) (hf : fitsT X Y P = true) (w : World) (hA : Digs w w.heap.size A X) (hB : Digs w w.heap.size B Y) (hC : Digs w w.heap.size C P) :
    Calls Tryz.prog 102 #[.agg (sigV n A X.length x B Y.length y C P.length z)] w fun e w' => e = .returned (.tuple #[str (sigBytes n X Y P), .bool true]) ∧ Below w.heap.size w w' := by
  have HG : Hid (Box (w.alloc (.cells (sigV n A X.length x B Y.length y C P.length z) 72)) w.heap.size 72 (sigV n A X.length x B Y.length y C P.length z)) := Box.made _ _ _
  have HF : Hid (Below w.heap.size w (w.alloc (.cells (sigV n A X.length x B Y.length y C P.length z) 72))) := (Below.refl _ _).alloc (Nat.le_refl _) _
  have HDA := Lib.hid (hA.far HF.out)
  have HDB := Lib.hid (hB.far HF.out)
  have HDC := Lib.hid (hC.far HF.out)
  have hfd := hf
  unfold fitsT at hfd
  rw [decide_eq_true_iff] at hfd
  have HFT : Hid (X.length = 32 ∧ Y.length = 32 ∧ P.length ≤ 6) := hfd
  obtain ⟨f1, f2, f3⟩ := hfd
  have e1 : ((X.length : Int) == 32) = true := by rw [beq_iff_eq]; omega
  have e2 : ((X.length : Int) != 32) = false := by rw [bne_eq_false_iff_eq]; omega
  have e3 : ((Y.length : Int) == 32) = true := by rw [beq_iff_eq]; omega
  have e4 : ((Y.length : Int) != 32) = false := by rw [bne_eq_false_iff_eq]; omega
  have e5 : decide ((6 : Int) < (P.length : Int)) = false := decide_eq_false (by omega)
  have HSL := Lib.hid (sig_len (n := n) hA.all hB.all hC.all hf)
  have HN1 : Hid (∀ w', Calls Tryz.prog 66 #[.int .i64 n] w' fun e w'' => e = .returned (str (numBytes n)) ∧ Below w'.heap.size w' w'') := fun w' => refnum_any n hn.1 hn.2 w'
  have HN2 : Hid (∀ w', Calls Tryz.prog 66 #[.int .i64 (P.length : Int)] w' fun e w'' => e = .returned (str (numBytes (P.length : Int))) ∧ Below w'.heap.size w' w'') := fun w' => refnum_any (P.length : Int) (by omega) (by omega) w'
  have HLA : Hid (X.flatten.length = 32 * X.length) := hA.all.flat
  have HLB : Hid (Y.flatten.length = 32 * Y.length) := hB.all.flat
  have HLC : Hid (P.flatten.length = 32 * P.length) := hC.all.flat
  clear hA hB hC f1 f2 f3 hf
  go_enter Tryz.func102, Tryz.ntmps102
  go_upto_region 1 with fail
  change Code.wp _ _ _ _ (w.alloc (.cells (sigV n A X.length x B Y.length y C P.length z) 72))
  generalize w.alloc (.cells (sigV n A X.length x B Y.length y C P.length z) 72) = w1 at *
  have c1 := HG.out.cell 1
  have c2 := HG.out.cell 2
  have c3 := HG.out.cell 3
  simp only [List.getElem?_toArray, List.getElem?_cons_zero, List.getElem?_cons_succ] at c1 c2 c3
  go_upto_region 3 with fail
  clear c1 c2 c3 e1 e2 e3 e4 e5
  have HCS : Hid (∀ w', Below w1.heap.size w1 w' → w'.cell? ⟨w.heap.size, 0, none⟩ = some (.int .i64 n) ∧ w'.cell? ⟨w.heap.size, 1, none⟩ = some (.slice A X.length x) ∧ w'.cell? ⟨w.heap.size, 2, none⟩ = some (.slice B Y.length y) ∧ w'.cell? ⟨w.heap.size, 3, none⟩ = some (.slice C P.length z)) := fun w' hb => ⟨(HG.out.below hb HG.out.lt).cell 0, (HG.out.below hb HG.out.lt).cell 1, (HG.out.below hb HG.out.lt).cell 2, (HG.out.below hb HG.out.lt).cell 3⟩
  have HB1d : Hid (Below w1.heap.size w1 w1.drew) := (Below.refl _ _).drew
  refine wp_region_held_drew (S := fun w' => Below w1.heap.size w1 w') (by kernel_rfl) HB1d.out (fun hS => ?_)
  clear HB1d
  (refine wpAnyH_take (i := 0) (v := .pointer (some ⟨w.heap.size, 0, none⟩)) rfl (by kernel_rfl) (by kernel_rfl) (by kernel_rfl) (fun _ _ _ h => h) (Or.inl ⟨by kernel_rfl, fun w hSw => by go_simp⟩) hS ?_)
  (try simp only [Act.put])
  (refine wpAnyH_take (i := 1) (v := .int .i64 n) rfl (by kernel_rfl) (by kernel_rfl) (by kernel_rfl) (fun _ _ _ h => h) (Or.inl ⟨by kernel_rfl, fun w hSw => by have hc := (HCS.out w hSw).1; go_simp⟩) hS ?_)
  (try simp only [Act.put])
  (refine wpAnyH_take (i := 3) (v := .pointer (some ⟨w.heap.size, 3, none⟩)) rfl (by kernel_rfl) (by kernel_rfl) (by kernel_rfl) (fun _ _ _ h => h) (Or.inl ⟨by kernel_rfl, fun w hSw => by go_simp⟩) hS ?_)
  (try simp only [Act.put])
  (refine wpAnyH_take (i := 4) (v := .slice C P.length z) rfl (by kernel_rfl) (by kernel_rfl) (by kernel_rfl) (fun _ _ _ h => h) (Or.inl ⟨by kernel_rfl, fun w hSw => by have hc := (HCS.out w hSw).2.2.2; go_simp⟩) hS ?_)
  (try simp only [Act.put])
  (refine wpAnyH_take (i := 5) (v := .int .i64 (P.length : Int)) rfl (by kernel_rfl) (by kernel_rfl) (by kernel_rfl) (fun _ _ _ h => h) (Or.inl ⟨by kernel_rfl, fun w hSw => by go_simp⟩) hS ?_)
  (try simp only [Act.put])
  refine wpAnyH_ready (rs := [2]) (by decide +kernel) (by simp) (AllReadyH.cons rfl (fun K hK => ?_) AllReadyH.nil)
  go_simp
  (go_at_call_of 66 (Value.int .i64 n); (with_reducible refine (HN1.out _).mono ?_); rintro e w2 ⟨rfl, hb⟩)
  refine hK.out _ _ (hS.trans (hb.mono hS.size)) (fun hS => ?_)
  clear hK K
  (try simp only [Act.put])
  clear hb
  refine wpAnyH_ready (rs := [6]) (by decide +kernel) (by simp) (AllReadyH.cons rfl (fun K hK => ?_) AllReadyH.nil)
  go_simp
  (go_at_call_of 66 (Value.int .i64 (P.length : Int)); (with_reducible refine (HN2.out _).mono ?_); rintro e w3 ⟨rfl, hb⟩)
  refine hK.out _ _ (hS.trans (hb.mono hS.size)) (fun hS => ?_)
  clear hK K
  (try simp only [Act.put])
  clear hb
  have HSE : Hid (sigBytes n X Y P = tT (numBytes n) (numBytes (P.length : Int)) X Y P 3) := by
    show _ = _
    unfold sigBytes tT
    simp
  have hl1 := numBytes_len n
  have hl2 := numBytes_len (P.length : Int)
  obtain ⟨S0, hS0⟩ : ∃ S0 : ByteArray, S0 = ⟨(numBytes n ++ numBytes (P.length : Int)).toArray⟩ := ⟨_, rfl⟩
  have hcat := bytes_cat (numBytes n) (numBytes (P.length : Int))
  rw [← hS0] at hcat
  have HSZ0 : Hid (S0.size = 16) := by
    show _ = _
    rw [hS0]
    show (numBytes n ++ numBytes (P.length : Int)).toArray.size = 16
    rw [List.size_toArray, List.length_append, hl1, hl2]
  have HS0 := Lib.hid hS0
  clear hS0
  generalize numBytes n = nb at *
  generalize numBytes (P.length : Int) = mb at *
  refine wpAnyH_ready (rs := [7]) (by decide +kernel) (by simp) (AllReadyH.cons rfl (fun K hK => ?_) AllReadyH.nil)
  go_simp
  refine hK.out _ _ (hS) (fun hS => ?_)
  clear hK K
  (try simp only [Act.put])
  refine wpAnyH_ready (rs := [8]) (by decide +kernel) (by simp) (AllReadyH.cons rfl (fun K hK => ?_) AllReadyH.nil)
  go_simp
  refine hK.out _ _ (hS) (fun hS => ?_)
  clear hK K
  (try simp only [Act.put])
  refine wpAnyH_done (by kernel_rfl) ?_ _
  have HB3 := Lib.hid hS
  clear hS hcat hl1 hl2
  have k1 := (HCS.out _ HB3.out).2.1
  have k2 := (HCS.out _ HB3.out).2.2.1
  have k3 := (HCS.out _ HB3.out).2.2.2
  have HBL : Hid (Box (w3.alloc (.cells #[.slice A X.length x, .slice B Y.length y, .slice C P.length z] 68)) w3.heap.size 68 #[.slice A X.length x, .slice B Y.length y, .slice C P.length z]) := Box.made _ _ _
  have HB4 : Hid (Below w1.heap.size w1 (w3.alloc (.cells #[.slice A X.length x, .slice B Y.length y, .slice C P.length z] 68))) := HB3.out.alloc HB3.out.size _
  go_upto_region 5 with fail
  clear k1 k2 k3 HCS HG HN1 HN2
  generalize w3.alloc (.cells #[.slice A X.length x, .slice B Y.length y, .slice C P.length z] 68) = w4 at *
  have HTL : Hid ((tT nb mb X Y P 3).length ≤ 2256) := by
    show _ ≤ _
    rw [← HSE.out]
    exact HSL.out
  have HDA4 := Lib.hid (HDA.out.far HB4.out)
  have HDB4 := Lib.hid (HDB.out.far HB4.out)
  have HDC4 := Lib.hid (HDC.out.far HB4.out)
  have HCL : Hid (∀ w', Below w4.heap.size w4 w' → w'.cell? ⟨w3.heap.size, 0, none⟩ = some (.slice A X.length x) ∧ w'.cell? ⟨w3.heap.size, 1, none⟩ = some (.slice B Y.length y) ∧ w'.cell? ⟨w3.heap.size, 2, none⟩ = some (.slice C P.length z)) := fun w' hb => ⟨(HBL.out.below hb HBL.out.lt).cell 0, (HBL.out.below hb HBL.out.lt).cell 1, (HBL.out.below hb HBL.out.lt).cell 2⟩
  have hxb : X.length ≤ 32 ∧ Y.length ≤ 32 ∧ P.length ≤ 32 := by
    have := HFT.out
    omega
  obtain ⟨hxb1, hxb2, hxb3⟩ := hxb
  clear HDA HDB HDC HBL HB3
  go_loopw [4, 6, 8, 45] (fun s _ _ i wr => ∃ (k : Nat) (S : ByteArray), k ≤ 3 ∧ s = .string S ∧ S.size ≤ 2256 ∧ i = .int .i64 (k : Int) ∧ Hid (S = ⟨(tT nb mb X Y P k).toArray⟩) ∧ Hid (Below w4.heap.size w4 wr)) (fun _ _ _ i _ => 3 - (intOf i).toNat)
  case atStart => exact ⟨0, S0, by omega, rfl, by rw [HSZ0.out]; decide, rfl, HS0, Below.refl _ _⟩
  case round =>
    clear HS0 HSZ0
    obtain ⟨k, S, hk, rfl, hS, rfl, HS, HW⟩ := hrel
    have hk4 : k = 0 ∨ k = 1 ∨ k = 2 ∨ k = 3 := by omega
    rcases hk4 with rfl | rfl | rfl | rfl
    · rw [show ((0 : Nat) : Int) = 0 from rfl]
      have cl := (HCL.out _ HW.out).1
      go_upto_region 8 with fail
      clear cl
      have HTA : Hid ((tT nb mb X Y P 0).length ≤ 2256 ∧ tT nb mb X Y P (0 + 1) = tT nb mb X Y P 0 ++ X.flatten ∧ (tT nb mb X Y P (0 + 1)).length ≤ 2256) := ⟨(tT_size HTL.out).1, rfl, (tT_size HTL.out).2.1⟩
      go_loopw [4, 8, 51] (fun s _ i wr2 => ∃ (j : Nat) (S2 : ByteArray), j ≤ X.length ∧ s = .string S2 ∧ S2.size ≤ 2256 ∧ i = .int .i64 (j : Int) ∧ Hid (S2 = ⟨(tT nb mb X Y P 0 ++ (X.take j).flatten).toArray⟩) ∧ Hid (Below w4.heap.size w4 wr2)) (fun _ _ i _ => X.length - (intOf i).toNat)
      case atStart => exact ⟨0, S, Nat.zero_le _, rfl, hS, rfl, by rw [List.take_zero, List.flatten_nil, List.append_nil]; exact HS, HW⟩
      case round =>
        clear HS HW hS
        obtain ⟨j, S2, hj, rfl, hS2, rfl, HS2, HW2⟩ := hrel
        by_cases hlt : j < X.length
        · obtain ⟨g1, o1, rfl, _, _⟩ := HDA4.out.some_ (by omega)
          have HRX := Lib.hid ((HDA4.out.far HW2.out).at_ hlt)
          have HXL := Lib.hid (HDA4.out.all.get hlt [])
          have HE2 : Hid (S2 ++ ⟨(X.getD j []).toArray⟩ = ⟨(tT nb mb X Y P 0 ++ (X.take (j + 1)).flatten).toArray⟩) := by
            show _ = _
            rw [HS2.out, bytes_cat, flat_take_succ X j hlt, List.append_assoc]
          have HLEN : Hid ((⟨(tT nb mb X Y P 0 ++ (X.take (j + 1)).flatten).toArray⟩ : ByteArray).size ≤ 2256) := by
            show (tT nb mb X Y P 0 ++ (X.take (j + 1)).flatten).toArray.size ≤ 2256
            have h1 := take_flat_le X (j + 1)
            have h2 := HTA.out.2.2
            rw [HTA.out.2.1, List.length_append] at h2
            rw [List.size_toArray, List.length_append]
            omega
          obtain ⟨S3, hS3⟩ : ∃ S3 : ByteArray, S3 = ⟨(tT nb mb X Y P 0 ++ (X.take (j + 1)).flatten).toArray⟩ := ⟨_, rfl⟩
          rw [← hS3] at HE2 HLEN
          have HS3 := Lib.hid hS3
          clear hS3 HS2
          have HDG : Hid (∀ w', Calls Tryz.prog 68 #[.agg ((X.getD j []).map bv).toArray] w' fun e w'' => e = .returned (str (X.getD j [])) ∧ Below w'.heap.size w' w'') := fun w' => digstr_any _ HXL.out w'
          have hzl : (X.getD j []).length ≤ 32 := Nat.le_of_eq HXL.out
          obtain ⟨oa, hoa⟩ : ∃ oa, o1 + j * 32 = oa := ⟨_, rfl⟩
          rw [hoa] at HRX
          generalize X.getD j [] = d at *
          have HLX := Lib.hid (dig_list d HXL.out)
          have HSM := Lib.hid (dig_same d HXL.out)
          have HSZ := Lib.hid (dig_size d HXL.out)
          have i1 : (j : Int) < (X.length : Int) := by omega
          have hx2 := HE2.out
          go_wp2_with (first
            | ((with_reducible show wpList _ _ _ ((⟨some 54, _, _, _, _, _⟩ : Oper) :: _) _ _); refine wpList_load_mid rfl 29 (.tmp 53) rfl g1 oa rfl (d.map bv) _ HRX.out Tryz.underlying29 rfl HLX.out ?_)
            | (((with_reducible show wpList _ _ _ ((⟨none, Op.store _ (.tmp 8) (.tmp 54), _, _, _, _⟩ : Oper) :: _) _ _)); refine wpList_store_box rfl 29 (.tmp 8) (.tmp 54) rfl wr.heap.size (d.map bv).toArray rfl rfl 29 zs32 (Box.made wr _ _) HSM.out HSZ.out (bv_one _) ?_; intro w7 hb7 hg7; have HQ7 := Lib.hid hb7; have HW7 := Lib.hid (HW2.out.trans ((((Below.refl wr.heap.size wr).alloc (Nat.le_refl _) (.cells zs32 29)).trans (below_only hg7 (Nat.le_refl _) (by simp))).mono HW2.out.size)); clear hb7 hg7)
            | ((with_reducible show wpList _ _ _ ((⟨some 56, _, _, _, _, _⟩ : Oper) :: _) _ _); refine wpList_load_mid rfl 29 (.tmp 8) rfl wr.heap.size 0 rfl (d.map bv) _ HQ7.out.range Tryz.underlying29 rfl HLX.out ?_)
            | (go_at_call 68; (with_reducible refine (HDG.out _).mono ?_); rintro e w8 ⟨rfl, hb⟩; have HW8 := Lib.hid (HW7.out.trans (hb.mono HW7.out.size)); clear hb))
          go_roundw
          case rel => exact ⟨j + 1, S3, hlt, by first | rfl | exact congrArg Value.string HE2.out, HLEN.out, by go_num, HS3, HW8⟩
          case measure => simp [intOf]; omega
        · obtain rfl : j = X.length := by omega
          have HS3 : Hid (S2 = ⟨(tT nb mb X Y P (0 + 1)).toArray⟩) := by
            show _ = _
            rw [HS2.out, HTA.out.2.1, List.take_length]
          clear HS2
          go_wp2
          go_roundw
          case rel => exact ⟨0 + 1, S2, by omega, rfl, hS2, by first | rfl | go_num, HS3, HW2⟩
          case measure => simp [intOf]
    · rw [show ((1 : Nat) : Int) = 1 from rfl]
      have cl := (HCL.out _ HW.out).2.1
      go_upto_region 8 with fail
      clear cl
      have HTA : Hid ((tT nb mb X Y P 1).length ≤ 2256 ∧ tT nb mb X Y P (1 + 1) = tT nb mb X Y P 1 ++ Y.flatten ∧ (tT nb mb X Y P (1 + 1)).length ≤ 2256) := ⟨(tT_size HTL.out).2.1, rfl, (tT_size HTL.out).2.2⟩
      go_loopw [4, 8, 51] (fun s _ i wr2 => ∃ (j : Nat) (S2 : ByteArray), j ≤ Y.length ∧ s = .string S2 ∧ S2.size ≤ 2256 ∧ i = .int .i64 (j : Int) ∧ Hid (S2 = ⟨(tT nb mb X Y P 1 ++ (Y.take j).flatten).toArray⟩) ∧ Hid (Below w4.heap.size w4 wr2)) (fun _ _ i _ => Y.length - (intOf i).toNat)
      case atStart => exact ⟨0, S, Nat.zero_le _, rfl, hS, rfl, by rw [List.take_zero, List.flatten_nil, List.append_nil]; exact HS, HW⟩
      case round =>
        clear HS HW hS
        obtain ⟨j, S2, hj, rfl, hS2, rfl, HS2, HW2⟩ := hrel
        by_cases hlt : j < Y.length
        · obtain ⟨g1, o1, rfl, _, _⟩ := HDB4.out.some_ (by omega)
          have HRX := Lib.hid ((HDB4.out.far HW2.out).at_ hlt)
          have HXL := Lib.hid (HDB4.out.all.get hlt [])
          have HE2 : Hid (S2 ++ ⟨(Y.getD j []).toArray⟩ = ⟨(tT nb mb X Y P 1 ++ (Y.take (j + 1)).flatten).toArray⟩) := by
            show _ = _
            rw [HS2.out, bytes_cat, flat_take_succ Y j hlt, List.append_assoc]
          have HLEN : Hid ((⟨(tT nb mb X Y P 1 ++ (Y.take (j + 1)).flatten).toArray⟩ : ByteArray).size ≤ 2256) := by
            show (tT nb mb X Y P 1 ++ (Y.take (j + 1)).flatten).toArray.size ≤ 2256
            have h1 := take_flat_le Y (j + 1)
            have h2 := HTA.out.2.2
            rw [HTA.out.2.1, List.length_append] at h2
            rw [List.size_toArray, List.length_append]
            omega
          obtain ⟨S3, hS3⟩ : ∃ S3 : ByteArray, S3 = ⟨(tT nb mb X Y P 1 ++ (Y.take (j + 1)).flatten).toArray⟩ := ⟨_, rfl⟩
          rw [← hS3] at HE2 HLEN
          have HS3 := Lib.hid hS3
          clear hS3 HS2
          have HDG : Hid (∀ w', Calls Tryz.prog 68 #[.agg ((Y.getD j []).map bv).toArray] w' fun e w'' => e = .returned (str (Y.getD j [])) ∧ Below w'.heap.size w' w'') := fun w' => digstr_any _ HXL.out w'
          have hzl : (Y.getD j []).length ≤ 32 := Nat.le_of_eq HXL.out
          obtain ⟨oa, hoa⟩ : ∃ oa, o1 + j * 32 = oa := ⟨_, rfl⟩
          rw [hoa] at HRX
          generalize Y.getD j [] = d at *
          have HLX := Lib.hid (dig_list d HXL.out)
          have HSM := Lib.hid (dig_same d HXL.out)
          have HSZ := Lib.hid (dig_size d HXL.out)
          have i1 : (j : Int) < (Y.length : Int) := by omega
          have hx2 := HE2.out
          go_wp2_with (first
            | ((with_reducible show wpList _ _ _ ((⟨some 54, _, _, _, _, _⟩ : Oper) :: _) _ _); refine wpList_load_mid rfl 29 (.tmp 53) rfl g1 oa rfl (d.map bv) _ HRX.out Tryz.underlying29 rfl HLX.out ?_)
            | (((with_reducible show wpList _ _ _ ((⟨none, Op.store _ (.tmp 8) (.tmp 54), _, _, _, _⟩ : Oper) :: _) _ _)); refine wpList_store_box rfl 29 (.tmp 8) (.tmp 54) rfl wr.heap.size (d.map bv).toArray rfl rfl 29 zs32 (Box.made wr _ _) HSM.out HSZ.out (bv_one _) ?_; intro w7 hb7 hg7; have HQ7 := Lib.hid hb7; have HW7 := Lib.hid (HW2.out.trans ((((Below.refl wr.heap.size wr).alloc (Nat.le_refl _) (.cells zs32 29)).trans (below_only hg7 (Nat.le_refl _) (by simp))).mono HW2.out.size)); clear hb7 hg7)
            | ((with_reducible show wpList _ _ _ ((⟨some 56, _, _, _, _, _⟩ : Oper) :: _) _ _); refine wpList_load_mid rfl 29 (.tmp 8) rfl wr.heap.size 0 rfl (d.map bv) _ HQ7.out.range Tryz.underlying29 rfl HLX.out ?_)
            | (go_at_call 68; (with_reducible refine (HDG.out _).mono ?_); rintro e w8 ⟨rfl, hb⟩; have HW8 := Lib.hid (HW7.out.trans (hb.mono HW7.out.size)); clear hb))
          go_roundw
          case rel => exact ⟨j + 1, S3, hlt, by first | rfl | exact congrArg Value.string HE2.out, HLEN.out, by go_num, HS3, HW8⟩
          case measure => simp [intOf]; omega
        · obtain rfl : j = Y.length := by omega
          have HS3 : Hid (S2 = ⟨(tT nb mb X Y P (1 + 1)).toArray⟩) := by
            show _ = _
            rw [HS2.out, HTA.out.2.1, List.take_length]
          clear HS2
          go_wp2
          go_roundw
          case rel => exact ⟨1 + 1, S2, by omega, rfl, hS2, by first | rfl | go_num, HS3, HW2⟩
          case measure => simp [intOf]
    · rw [show ((2 : Nat) : Int) = 2 from rfl]
      have cl := (HCL.out _ HW.out).2.2
      go_upto_region 8 with fail
      clear cl
      have HTA : Hid ((tT nb mb X Y P 2).length ≤ 2256 ∧ tT nb mb X Y P (2 + 1) = tT nb mb X Y P 2 ++ P.flatten ∧ (tT nb mb X Y P (2 + 1)).length ≤ 2256) := ⟨(tT_size HTL.out).2.2, rfl, HTL.out⟩
      go_loopw [4, 8, 51] (fun s _ i wr2 => ∃ (j : Nat) (S2 : ByteArray), j ≤ P.length ∧ s = .string S2 ∧ S2.size ≤ 2256 ∧ i = .int .i64 (j : Int) ∧ Hid (S2 = ⟨(tT nb mb X Y P 2 ++ (P.take j).flatten).toArray⟩) ∧ Hid (Below w4.heap.size w4 wr2)) (fun _ _ i _ => P.length - (intOf i).toNat)
      case atStart => exact ⟨0, S, Nat.zero_le _, rfl, hS, rfl, by rw [List.take_zero, List.flatten_nil, List.append_nil]; exact HS, HW⟩
      case round =>
        clear HS HW hS
        obtain ⟨j, S2, hj, rfl, hS2, rfl, HS2, HW2⟩ := hrel
        by_cases hlt : j < P.length
        · obtain ⟨g1, o1, rfl, _, _⟩ := HDC4.out.some_ (by omega)
          have HRX := Lib.hid ((HDC4.out.far HW2.out).at_ hlt)
          have HXL := Lib.hid (HDC4.out.all.get hlt [])
          have HE2 : Hid (S2 ++ ⟨(P.getD j []).toArray⟩ = ⟨(tT nb mb X Y P 2 ++ (P.take (j + 1)).flatten).toArray⟩) := by
            show _ = _
            rw [HS2.out, bytes_cat, flat_take_succ P j hlt, List.append_assoc]
          have HLEN : Hid ((⟨(tT nb mb X Y P 2 ++ (P.take (j + 1)).flatten).toArray⟩ : ByteArray).size ≤ 2256) := by
            show (tT nb mb X Y P 2 ++ (P.take (j + 1)).flatten).toArray.size ≤ 2256
            have h1 := take_flat_le P (j + 1)
            have h2 := HTA.out.2.2
            rw [HTA.out.2.1, List.length_append] at h2
            rw [List.size_toArray, List.length_append]
            omega
          obtain ⟨S3, hS3⟩ : ∃ S3 : ByteArray, S3 = ⟨(tT nb mb X Y P 2 ++ (P.take (j + 1)).flatten).toArray⟩ := ⟨_, rfl⟩
          rw [← hS3] at HE2 HLEN
          have HS3 := Lib.hid hS3
          clear hS3 HS2
          have HDG : Hid (∀ w', Calls Tryz.prog 68 #[.agg ((P.getD j []).map bv).toArray] w' fun e w'' => e = .returned (str (P.getD j [])) ∧ Below w'.heap.size w' w'') := fun w' => digstr_any _ HXL.out w'
          have hzl : (P.getD j []).length ≤ 32 := Nat.le_of_eq HXL.out
          obtain ⟨oa, hoa⟩ : ∃ oa, o1 + j * 32 = oa := ⟨_, rfl⟩
          rw [hoa] at HRX
          generalize P.getD j [] = d at *
          have HLX := Lib.hid (dig_list d HXL.out)
          have HSM := Lib.hid (dig_same d HXL.out)
          have HSZ := Lib.hid (dig_size d HXL.out)
          have i1 : (j : Int) < (P.length : Int) := by omega
          have hx2 := HE2.out
          go_wp2_with (first
            | ((with_reducible show wpList _ _ _ ((⟨some 54, _, _, _, _, _⟩ : Oper) :: _) _ _); refine wpList_load_mid rfl 29 (.tmp 53) rfl g1 oa rfl (d.map bv) _ HRX.out Tryz.underlying29 rfl HLX.out ?_)
            | (((with_reducible show wpList _ _ _ ((⟨none, Op.store _ (.tmp 8) (.tmp 54), _, _, _, _⟩ : Oper) :: _) _ _)); refine wpList_store_box rfl 29 (.tmp 8) (.tmp 54) rfl wr.heap.size (d.map bv).toArray rfl rfl 29 zs32 (Box.made wr _ _) HSM.out HSZ.out (bv_one _) ?_; intro w7 hb7 hg7; have HQ7 := Lib.hid hb7; have HW7 := Lib.hid (HW2.out.trans ((((Below.refl wr.heap.size wr).alloc (Nat.le_refl _) (.cells zs32 29)).trans (below_only hg7 (Nat.le_refl _) (by simp))).mono HW2.out.size)); clear hb7 hg7)
            | ((with_reducible show wpList _ _ _ ((⟨some 56, _, _, _, _, _⟩ : Oper) :: _) _ _); refine wpList_load_mid rfl 29 (.tmp 8) rfl wr.heap.size 0 rfl (d.map bv) _ HQ7.out.range Tryz.underlying29 rfl HLX.out ?_)
            | (go_at_call 68; (with_reducible refine (HDG.out _).mono ?_); rintro e w8 ⟨rfl, hb⟩; have HW8 := Lib.hid (HW7.out.trans (hb.mono HW7.out.size)); clear hb))
          go_roundw
          case rel => exact ⟨j + 1, S3, hlt, by first | rfl | exact congrArg Value.string HE2.out, HLEN.out, by go_num, HS3, HW8⟩
          case measure => simp [intOf]; omega
        · obtain rfl : j = P.length := by omega
          have HS3 : Hid (S2 = ⟨(tT nb mb X Y P (2 + 1)).toArray⟩) := by
            show _ = _
            rw [HS2.out, HTA.out.2.1, List.take_length]
          clear HS2
          go_wp2
          go_roundw
          case rel => exact ⟨2 + 1, S2, by omega, rfl, hS2, by first | rfl | go_num, HS3, HW2⟩
          case measure => simp [intOf]
    · have HRV : Hid (Value.string S = str (sigBytes n X Y P)) := by
        show _ = _
        rw [HS.out, HSE.out]
      have HFF := Lib.hid (HF.out.trans ((HB4.out.trans (HW.out.mono HB4.out.size)).mono HF.out.size))
      clear HS
      go_wp2
      go_ret2
      exact ⟨congrArg (fun v => Ending.returned (.tuple #[v, .bool true])) HRV.out, HFF.out⟩
end Go.Proofs.YtbclepdcngaonaaGreatDoor

namespace Go.Proofs.YtbclepdcngaonaaGreatDoor
open Go.RowKit

set_option maxRecDepth 100000 in
set_option maxHeartbeats 2000000 in
theorem ksame_any (n n' : Int) (X Y P X' Y' P' : List (List UInt8)) (A B C A' B' C' : Option Addr) (a b c a' b' c' : Nat) (w : World) (hA : Digs w w.heap.size A X) (hB : Digs w w.heap.size B Y) (hC : Digs w w.heap.size C P) (hA' : Digs w w.heap.size A' X') (hB' : Digs w w.heap.size B' Y') (hC' : Digs w w.heap.size C' P')
    (hx : X.length ≤ 1099511627776) (hy : Y.length ≤ 1099511627776) (hz : P.length ≤ 1099511627776) :
    Calls Tryz.prog 106 #[.agg (sigV n A X.length a B Y.length b C P.length c), .agg (sigV n' A' X'.length a' B' Y'.length b' C' P'.length c')] w fun e w' => e = .returned (.bool (decide (n = n') && (decide (X = X') && decide (Y = Y')) && decide (P = P'))) ∧ Below w.heap.size w w' := by
  obtain ⟨w1, hw1⟩ : ∃ w1, w1 = (w.alloc (.cells (sigV n A X.length a B Y.length b C P.length c) 72)).alloc (.cells (sigV n' A' X'.length a' B' Y'.length b' C' P'.length c') 72) := ⟨_, rfl⟩
  have HX : Hid (Box w1 w.heap.size 72 (sigV n A X.length a B Y.length b C P.length c)) := by
    rw [hw1]
    exact (Box.made w _ _).alloc _
  have HY : Hid (Box w1 (w.heap.size + 1) 72 (sigV n' A' X'.length a' B' Y'.length b' C' P'.length c')) := by
    rw [hw1]
    exact Box.made_at (by simp) _ _
  have HF : Hid (Below w.heap.size w w1) := by
    rw [hw1]
    exact ((Below.refl _ _).alloc (Nat.le_refl _) _).alloc (by simp) _
  have HS1 : Hid (∀ w', Below w1.heap.size w1 w' → Calls Tryz.prog 132 #[.agg #[.slice A X.length a, .slice B Y.length b], .agg #[.slice A' X'.length a', .slice B' Y'.length b']] w' fun e w'' => e = .returned (.bool (decide (X = X') && decide (Y = Y'))) ∧ Below w'.heap.size w' w'') := fun w' hb => rsame_any X Y X' Y' A B A' B' a b a' b' w' ((hA.far HF.out).far hb) ((hB.far HF.out).far hb) ((hA'.far HF.out).far hb) ((hB'.far HF.out).far hb) hx hy
  have HS2 : Hid (∀ w', Below w1.heap.size w1 w' → Calls Tryz.prog 133 #[.slice C P.length c, .slice C' P'.length c'] w' fun e w'' => e = .returned (.bool (decide (P = P'))) ∧ Below w'.heap.size w' w'') := fun w' hb => same_any P P' C C' c c' w' ((hC.far HF.out).far hb) ((hC'.far HF.out).far hb) hz
  have HCS : Hid (∀ w', Below w1.heap.size w1 w' → w'.cell? ⟨w.heap.size, 3, none⟩ = some (.slice C P.length c) ∧ w'.cell? ⟨w.heap.size + 1, 3, none⟩ = some (.slice C' P'.length c')) := fun w' hb => ⟨(HX.out.below hb HX.out.lt).cell 3, (HY.out.below hb HY.out.lt).cell 3⟩
  have x0 := HX.out.cell 0
  have x1 := HX.out.cell 1
  have x2 := HX.out.cell 2
  have y0 := HY.out.cell 0
  have y1 := HY.out.cell 1
  have y2 := HY.out.cell 2
  simp only [List.getElem?_toArray, List.getElem?_cons_zero, List.getElem?_cons_succ] at x0 x1 x2 y0 y1 y2
  clear hA hB hC hA' hB' hC' hx hy hz
  obtain ⟨q, hq⟩ : ∃ q, (decide (n = n') && (decide (X = X') && decide (Y = Y')) && decide (P = P')) = q := ⟨_, rfl⟩
  rw [hq]
  have HQ := Lib.hid hq
  clear hq
  generalize (decide (X = X') && decide (Y = Y')) = o at *
  generalize decide (P = P') = p at *
  go_enter Tryz.func106, Tryz.ntmps106
  go_upto_region 1 with fail
  change Code.wp _ _ _ _ ((w.alloc (.cells (sigV n A X.length a B Y.length b C P.length c) 72)).alloc (.cells (sigV n' A' X'.length a' B' Y'.length b' C' P'.length c') 72))
  rw [← hw1]
  clear hw1
  by_cases hn : n = n'
  · have hn1 : (n == n') = true := by simpa using hn
    rcases o with _ | _
    · go_wp2_with (go_at_call 132; (with_reducible refine (HS1.out _ (Below.refl _ _)).mono ?_); rintro e w2 ⟨rfl, hb⟩; have HB2 := Lib.hid hb; clear hb)
      go_ret
      exact ⟨ret_val (by rw [← HQ.out, decide_eq_true hn]; rfl), HF.out.trans (HB2.out.mono HF.out.size)⟩
    · go_wp2_with (first
        | (go_at_call 132; (with_reducible refine (HS1.out _ (Below.refl _ _)).mono ?_); rintro e w2 ⟨rfl, hb⟩; have HB2 := Lib.hid hb; have x3 := (HCS.out _ hb).1; have y3 := (HCS.out _ hb).2; clear hb)
        | (go_at_call 133; (with_reducible refine (HS2.out _ HB2.out).mono ?_); rintro e w3 ⟨rfl, hb⟩; have HB3 := Lib.hid (HB2.out.trans (hb.mono HB2.out.size)); clear hb))
      go_ret
      exact ⟨ret_val (by rw [← HQ.out, decide_eq_true hn]; simp), HF.out.trans (HB3.out.mono HF.out.size)⟩
  · have hn1 : (n == n') = false := by simpa using hn
    go_wp2
    go_ret
    exact ⟨ret_val (by rw [← HQ.out, decide_eq_false hn]; rfl), HF.out⟩
end Go.Proofs.YtbclepdcngaonaaGreatDoor
