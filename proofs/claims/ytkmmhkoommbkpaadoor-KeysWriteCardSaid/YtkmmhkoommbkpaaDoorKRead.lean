/-
  Signatures read: keys.digests, keys.Read.
-/
import Derived.Test.YtkmmhkoommbkpaaDoorKRKey
import Derived.Test.YtkmmhkoommbkpaaDoorKRdPlain
import Derived.Test.YtkmmhkoommbkpaaDoorOB
namespace Go.Proofs.YtkmmhkoommbkpaaDoor
open Go.RowKit

attribute [local go_sem ↓] ldDigest_def stDigest_def

/-- What the walk of digests carries of memory. -/
structure DrW (w0 : World) (a g : Nat) (D : List (List UInt8)) (k : Nat) (s : List UInt8 × Bool) (w : World) : Prop where
  fill : Box w g 23 (fillD D k)
  rd : Rd w a s.1 s.2
  far : w0.grownBy w (some a)
theorem DrW.turn {w0 w w' : World} {a g k : Nat} {D : List (List UInt8)} {s s' : List UInt8 × Bool} (h : DrW w0 a g D k s w) (hne : g ≠ a) (hg : w.grownBy w' (some a)) (hr : Rd w' a s'.1 s'.2) : DrW w0 a g D k s' w' :=
  ⟨h.fill.grown hg (fun e => hne (by injection e)), hr, only_trans h.far hg⟩
theorem DrW.put {w0 w : World} {a g k : Nat} {D : List (List UInt8)} {s : List UInt8 × Bool} (h : DrW w0 a g D k s w) (hag : a < g) (hg0 : w0.heap.size ≤ g) (hD : AllD D) (hk : k < D.length) : DrW w0 a g D (k + 1) s (w.setCells g (k * 32) ((D.getD k []).map bv)) := by
  have ho := only_cells (g := g) ((D.getD k []).map bv) (k * 32) w
  exact ⟨h.fill.fill_put hD hk, h.rd.only ho hag, only_new h.far ho hg0⟩

set_option maxRecDepth 100000 in
set_option maxHeartbeats 1000000 in
theorem kdigs_any (a m : Nat) (hm : m ≤ 64) (l : List UInt8) (bad : Bool) (w : World) (h : Rd w a l bad) :
    Calls Tryd.prog 53 #[.pointer (some ⟨a, 0, none⟩), .int .i64 (m : Int)] w fun e w' => ∃ g, e = .returned (.slice (some ⟨g, 0, none⟩) m m) ∧ Box w' g 23 ((dgsT m l bad).flatten.map bv).toArray ∧ Rd w' a (stT m l bad).1 (stT m l bad).2 ∧ w.grownBy w' (some a) ∧ w.heap.size ≤ g := by
  have HA : Hid (a < w.heap.size) := h.lt
  have HL : Hid ((dgsT m l bad).length = m) := Lib.hid (dgs_len m l bad)
  have HD := Lib.hid (dgs_all m l bad)
  have HX : Hid (∀ i, i < m → (dgsT m l bad).getD i [] = dgT l bad i) := Lib.hid (fun i hi => dgs_at hi l bad)
  have HW0 : Hid (DrW w a w.heap.size (dgsT m l bad) 0 (stT 0 l bad) (w.alloc (.cells (zerosD (m * 32)).toArray 23))) := by
    refine ⟨?_, h.alloc _, World.grownBy_alloc w _ _⟩
    rw [fillD_zero, HL.out]
    exact Box.made _ _ _
  have hmk := make_digs m (by omega)
  clear h
  generalize dgsT m l bad = D at *
  go_enter Tryd.func53, Tryd.ntmps53
  go_upto_region 3 with fail
  clear hmk
  generalize w.alloc (.cells (zerosD (m * 32)).toArray 23) = w1 at *
  go_loopw [6, 10] (fun _ i wr => ∃ k : Nat, k ≤ m ∧ i = .int .i64 (k : Int) ∧ Hid (DrW w a w.heap.size D k (stT k l bad) wr)) (fun _ i _ => m - (intOf i).toNat)
  case atStart => exact ⟨0, Nat.zero_le _, rfl, HW0⟩
  case round =>
    clear HW0
    obtain ⟨k, hk, rfl, HW⟩ := hrel
    by_cases hlt : k < m
    · have hdg := digest_any a (stT k l bad).1 (stT k l bad).2 wr HW.out.rd
      have HDG : Hid (Calls Tryd.prog 77 #[.pointer (some ⟨a, 0, none⟩)] wr fun e w' => e = .returned (.agg ((D.getD k []).map bv).toArray) ∧ DrW w a w.heap.size D k (stT (k + 1) l bad) w') := hdg.mono fun e w' ⟨he, hr, hg⟩ => by
        refine ⟨?_, HW.out.turn (by have := HA.out; omega) hg hr⟩
        rw [HX.out k hlt]
        exact he
      have HXD := Lib.hid (HD.out.get (by rw [HL.out]; exact hlt) [])
      have HPUT : Hid (∀ w', DrW w a w.heap.size D k (stT (k + 1) l bad) w' → DrW w a w.heap.size D (k + 1) (stT (k + 1) l bad) (w'.setCells w.heap.size (k * 32) ((D.getD k []).map bv))) := fun w' hw => hw.put HA.out (Nat.le_refl _) HD.out (by rw [HL.out]; exact hlt)
      have HFS := Lib.hid (fillD_size HD.out (k := k) (by rw [HL.out]; exact hk))
      have i3 : (k : Int) < (m : Int) := by omega
      clear hdg HW HX
      generalize D.getD k [] = d at *
      generalize hs' : stT (k + 1) l bad = s' at *
      have HS' := Lib.hid hs'
      clear hs'
      go_wp2_with (go_at_call 77; (with_reducible refine (HDG.out).mono ?_); rintro e w6 ⟨rfl, hw⟩; have HW6 := Lib.hid hw; clear hw; have hst := HW6.out.fill.store_mid (o := k * 32) (by rw [HFS.out, HL.out]; omega) d HXD.out)
      have HW7 := Lib.hid (HPUT.out _ HW6.out)
      clear hst
      generalize w6.setCells w.heap.size (k * 32) (d.map bv) = w7 at *
      go_roundw
      case rel => exact ⟨k + 1, hlt, by go_num, by rw [HS'.out]; exact HW7⟩
      case measure => simp [intOf]; omega
    · obtain rfl : k = m := by omega
      have hbx := HW.out.fill
      have hfa := fillD_all D
      rw [HL.out] at hfa
      rw [hfa] at hbx
      have HBX := Lib.hid hbx
      clear hbx hfa
      go_wp2
      go_ret
      exact ⟨w.heap.size, rfl, HBX.out, HW.out.rd, HW.out.far, Nat.le_refl _⟩

/-- What the walk of Read carries of memory: the signature that is filled, the result, the reader. -/
structure RdW (w0 : World) (a r b : Nat) (cs : Array Value) (s : List UInt8 × Bool) (w : World) : Prop where
  out : Box w r 30 zsig
  box : Box w b 30 cs
  rd : Rd w a s.1 s.2
  far : w0.grownBy w (some a)
  ha : a < w0.heap.size
  hr : w0.heap.size ≤ r
  hb : w0.heap.size ≤ b
  ne : r ≠ b
theorem RdW.turn {w0 w w' : World} {a r b : Nat} {cs : Array Value} {s s' : List UInt8 × Bool} (h : RdW w0 a r b cs s w) (hg : w.grownBy w' (some a)) (hr : Rd w' a s'.1 s'.2) : RdW w0 a r b cs s' w' := by
  have h1 := h.ha
  have h2 := h.hr
  have h3 := h.hb
  exact ⟨h.out.grown hg (fun e => by injection e with e; omega), h.box.grown hg (fun e => by injection e with e; omega), hr, only_trans h.far hg, h1, h2, h3, h.ne⟩
theorem RdW.put {w0 w : World} {a r b : Nat} {cs : Array Value} {s : List UInt8 × Bool} (h : RdW w0 a r b cs s w) (i : Nat) (v : Value) : RdW w0 a r b (cs.setIfInBounds i v) s (w.setCell ⟨b, i, none⟩ v) := by
  have h1 := h.ha
  have h3 := h.hb
  have hp : w.grownBy (w.setCell ⟨b, i, none⟩ v) (some b) := only_put (only_refl _ _) i v
  exact ⟨h.out.grown hp (fun e => h.ne (by injection e)), h.box.put i v, h.rd.only hp (by omega), only_new h.far hp h3, h1, h.hr, h3, h.ne⟩
/-- A list that was read, in later worlds. -/
theorem Box.past {w w' : World} {g a : Nat} {D : List (List UInt8)} (h : Box w g 23 (D.flatten.map bv).toArray) (hg : w.grownBy w' (some a)) (hne : g ≠ a) : Box w' g 23 (D.flatten.map bv).toArray := h.grown hg (fun e => hne (by injection e))

/-- What Read answers. -/
def KReadIs (w : World) (a : Nat) (l : List UInt8) (b : Bool) (e : Ending) (w' : World) : Prop :=
  ∃ A B C x y z, e = .returned (.agg (sigV (rdN l b) A (rdX l b).length x B (rdY l b).length y C (rdP l b).length z)) ∧ Digs w' w'.heap.size A (rdX l b) ∧ Digs w' w'.heap.size B (rdY l b) ∧ Digs w' w'.heap.size C (rdP l b) ∧ (rdP l b).length ≤ z ∧ Rd w' a (rdF l b).1 (rdF l b).2 ∧ w.grownBy w' (some a)
theorem read_bad {l : List UInt8} {b : Bool} (h : (rdF l b).2 = true) : rdN l b = 0 ∧ rdX l b = [] ∧ rdY l b = [] ∧ rdP l b = [] := by
  unfold rdN rdX rdY rdP
  rw [if_pos h, if_pos h, if_pos h, if_pos h]
  exact ⟨rfl, rfl, rfl, rfl⟩

set_option maxRecDepth 100000 in
set_option maxHeartbeats 2000000 in
theorem kread_any (a : Nat) (l : List UInt8) (b : Bool) (w : World) (h : Rd w a l b) :
    Calls Tryd.prog 22 #[.pointer (some ⟨a, 0, none⟩)] w (KReadIs w a l b) := by
  have HW0 : Hid (RdW w a w.heap.size (w.heap.size + 1) zsig (l, b) ((w.alloc (.cells zsig 30)).alloc (.cells zsig 30))) :=
    ⟨(Box.made _ _ _).alloc _, Box.made_at (by simp) _ _, (h.alloc _).alloc _, only_trans (World.grownBy_alloc w _ _) (World.grownBy_alloc _ _ _), h.lt, Nat.le_refl _, by omega, by omega⟩
  have HNM : Hid (∀ w', RdW w a w.heap.size (w.heap.size + 1) zsig (l, b) w' → Calls Tryd.prog 51 #[.pointer (some ⟨a, 0, none⟩)] w' fun e w'' => e = .returned (.int .i64 (numV l b)) ∧ RdW w a w.heap.size (w.heap.size + 1) zsig (tk 8 l b).2 w'') := fun w' hw => (num_any a l b w' hw.rd).mono fun e w'' ⟨he, hr, hg⟩ => ⟨he, hw.turn hg hr⟩
  have HIN : Hid (∀ w' cs, RdW w a w.heap.size (w.heap.size + 1) cs (tk 8 l b).2 w' → Calls Tryd.prog 52 #[.pointer (some ⟨a, 0, none⟩), .int .i64 0, .int .i64 6] w' fun e w'' => e = .returned (.int .i64 (rdC l b : Int)) ∧ RdW w a w.heap.size (w.heap.size + 1) cs (rdL l b).2 w'') := fun w' cs hw => (in_any a 0 6 _ _ w' hw.rd).mono fun e w'' ⟨he, hr, hg⟩ => ⟨by rw [he]; exact congrArg (fun n => Ending.returned (.int .i64 n)) (rdC_int l b), hw.turn hg hr⟩
  have HDG : Hid (∀ w' cs (m : Nat) (s : List UInt8 × Bool), m ≤ 64 → RdW w a w.heap.size (w.heap.size + 1) cs s w' → Calls Tryd.prog 53 #[.pointer (some ⟨a, 0, none⟩), .int .i64 (m : Int)] w' fun e w'' => ∃ g, e = .returned (.slice (some ⟨g, 0, none⟩) m m) ∧ Box w'' g 23 ((dgsT m s.1 s.2).flatten.map bv).toArray ∧ RdW w a w.heap.size (w.heap.size + 1) cs (stT m s.1 s.2) w'' ∧ w'.grownBy w'' (some a) ∧ w'.heap.size ≤ g) := fun w' cs m s hm hw => (kdigs_any a m hm s.1 s.2 w' hw.rd).mono fun e w'' ⟨g, he, hb, hr, hg, hge⟩ => ⟨g, he, hb, hw.turn hg hr, hg, hge⟩
  have HGD : Hid (∀ w' s cs, RdW w a w.heap.size (w.heap.size + 1) cs s w' → Calls Tryd.prog 24 #[.pointer (some ⟨a, 0, none⟩)] w' fun e w'' => e = .returned (.bool !s.2) ∧ w' = w'') := fun w' s cs hw => good_any a s.1 s.2 w' hw.rd
  have HA : Hid (a < w.heap.size) := h.lt
  have HC6 := Lib.hid (rdC_le l b)
  have HE : Hid (stT (rdC l b) (stT 32 (stT 32 (rdL l b).2.1 (rdL l b).2.2).1 (stT 32 (rdL l b).2.1 (rdL l b).2.2).2).1 (stT 32 (stT 32 (rdL l b).2.1 (rdL l b).2.2).1 (stT 32 (rdL l b).2.1 (rdL l b).2.2).2).2 = rdF l b) := by
    show _ = _
    have e : stT 64 (rdL l b).2.1 (rdL l b).2.2 = stT 32 (stT 32 (rdL l b).2.1 (rdL l b).2.2).1 (stT 32 (rdL l b).2.1 (rdL l b).2.2).2 := stT_add 32 _ _ 32
    rw [← e]
    unfold rdF
    rw [stT_add 64]
  clear h
  go_enter Tryd.func22, Tryd.ntmps22
  go_upto_region 2 with fail
  change Code.wp _ _ _ _ ((w.alloc (.cells zsig 30)).alloc (.cells zsig 30))
  generalize (w.alloc (.cells zsig 30)).alloc (.cells zsig 30) = w1 at *
  have HDG32 : Hid (∀ w' cs (s : List UInt8 × Bool), RdW w a w.heap.size (w.heap.size + 1) cs s w' → Calls Tryd.prog 53 #[.pointer (some ⟨a, 0, none⟩), .int .i64 32] w' fun e w'' => ∃ g, e = .returned (.slice (some ⟨g, 0, none⟩) 32 32) ∧ Box w'' g 23 ((dgsT 32 s.1 s.2).flatten.map bv).toArray ∧ RdW w a w.heap.size (w.heap.size + 1) cs (stT 32 s.1 s.2) w'' ∧ w'.grownBy w'' (some a) ∧ w'.heap.size ≤ g) := fun w' cs s hw => HDG.out w' cs 32 s (by decide) hw
  obtain ⟨s2, hs2⟩ : ∃ s2, (rdL l b).2 = s2 := ⟨_, rfl⟩
  rw [hs2] at HIN HE
  have HX0 : Hid ((rdF l b).2 = false → rdN l b = numV l b ∧ rdX l b = dgsT 32 s2.1 s2.2 ∧ rdY l b = dgsT 32 (stT 32 s2.1 s2.2).1 (stT 32 s2.1 s2.2).2 ∧ rdP l b = dgsT (rdC l b) (stT 32 (stT 32 s2.1 s2.2).1 (stT 32 s2.1 s2.2).2).1 (stT 32 (stT 32 s2.1 s2.2).1 (stT 32 s2.1 s2.2).2).2) := Lib.hid (fun hf => by
    have e : stT 64 s2.1 s2.2 = stT 32 (stT 32 s2.1 s2.2).1 (stT 32 s2.1 s2.2).2 := stT_add 32 _ _ 32
    unfold rdN rdX rdY rdP
    rw [hs2, hf, if_neg (by simp), if_neg (by simp), if_neg (by simp), if_neg (by simp), e]
    exact ⟨rfl, rfl, rfl, rfl⟩)
  clear hs2
  obtain ⟨N, hN⟩ : ∃ N, numV l b = N := ⟨_, rfl⟩
  obtain ⟨M, hM⟩ : ∃ M, rdC l b = M := ⟨_, rfl⟩
  rw [hN] at HNM HX0
  rw [hM] at HIN HE HX0 HC6
  clear hN hM
  go_upto_region 3 with (go_at_call 51; (with_reducible refine (HNM.out _ HW0.out).mono ?_); rintro e w2 ⟨rfl, hw⟩; have m0 : w2.cell? ⟨w.heap.size + 1, 0, none⟩ = some (.int .i64 0) := hw.box.cell 0; have f0 := hw.box.free 0; have HW2 := Lib.hid hw; clear hw)
  have HW3 : Hid (RdW w a w.heap.size (w.heap.size + 1) (sigV N none 0 0 none 0 0 none 0 0) (tk 8 l b).2 (w2.setCell ⟨w.heap.size + 1, 0, none⟩ (.int .i64 N))) := HW2.out.put 0 _
  clear m0 f0 HW2 HW0 HNM
  generalize w2.setCell ⟨w.heap.size + 1, 0, none⟩ (.int .i64 N) = w3 at *
  go_upto_region 4 with (go_at_call 52; (with_reducible refine (HIN.out _ _ HW3.out).mono ?_); rintro e w4 ⟨rfl, hw⟩; have HW4 := Lib.hid hw; clear hw)
  clear HW3 HIN
  go_upto_region 5 with (go_at_call 53; (with_reducible refine (HDG32.out _ _ _ HW4.out).mono ?_); rintro e w5 ⟨g1, rfl, hx, hw, hg, hge⟩; have m1 : w5.cell? ⟨w.heap.size + 1, 1, none⟩ = some (.slice none 0 0) := hw.box.cell 1; have f1 := hw.box.free 1; have HW5 := Lib.hid hw; have HX5 := Lib.hid hx; have HG1 := Lib.hid (show g1 ≠ a by have h1 := HW4.out.far.size; have h2 := HA.out; omega); clear hw hx hg hge)
  have HW6 : Hid (RdW w a w.heap.size (w.heap.size + 1) (sigV N (some ⟨g1, 0, none⟩) 32 32 none 0 0 none 0 0) (stT 32 s2.1 s2.2) (w5.setCell ⟨w.heap.size + 1, 1, none⟩ (.slice (some ⟨g1, 0, none⟩) 32 32))) := HW5.out.put 1 _
  have HX6 := Lib.hid (HX5.out.aside (p := ⟨w.heap.size + 1, 1, none⟩) (Box.apart HX5.out HW5.out.box (by decide)) (.slice (some ⟨g1, 0, none⟩) 32 32))
  clear m1 f1 HW4 HW5 HX5
  generalize w5.setCell ⟨w.heap.size + 1, 1, none⟩ (.slice (some ⟨g1, 0, none⟩) 32 32) = w6 at *
  go_upto_region 6 with (go_at_call 53; (with_reducible refine (HDG32.out _ _ _ HW6.out).mono ?_); rintro e w7 ⟨g2, rfl, hx, hw, hg, hge⟩; have m2 : w7.cell? ⟨w.heap.size + 1, 2, none⟩ = some (.slice none 0 0) := hw.box.cell 2; have f2 := hw.box.free 2; have HW7 := Lib.hid hw; have HY7 := Lib.hid hx; have HX7 := Lib.hid (HX6.out.past hg HG1.out); have HG2 := Lib.hid (show g2 ≠ a by have h1 := HW6.out.far.size; have h2 := HA.out; omega); clear hw hx hg hge)
  have HW8 : Hid (RdW w a w.heap.size (w.heap.size + 1) (sigV N (some ⟨g1, 0, none⟩) 32 32 (some ⟨g2, 0, none⟩) 32 32 none 0 0) (stT 32 (stT 32 s2.1 s2.2).1 (stT 32 s2.1 s2.2).2) (w7.setCell ⟨w.heap.size + 1, 2, none⟩ (.slice (some ⟨g2, 0, none⟩) 32 32))) := HW7.out.put 2 _
  have HX8 := Lib.hid (HX7.out.aside (p := ⟨w.heap.size + 1, 2, none⟩) (Box.apart HX7.out HW7.out.box (by decide)) (.slice (some ⟨g2, 0, none⟩) 32 32))
  have HY8 := Lib.hid (HY7.out.aside (p := ⟨w.heap.size + 1, 2, none⟩) (Box.apart HY7.out HW7.out.box (by decide)) (.slice (some ⟨g2, 0, none⟩) 32 32))
  clear m2 f2 HW6 HW7 HX6 HX7 HY7
  generalize w7.setCell ⟨w.heap.size + 1, 2, none⟩ (.slice (some ⟨g2, 0, none⟩) 32 32) = w8 at *
  have HDM := Lib.hid (HDG.out w8 _ M _ (by have := HC6.out; omega) HW8.out)
  go_upto_region 7 with (go_at_call 53; (with_reducible refine (HDM.out).mono ?_); rintro e w9 ⟨g3, rfl, hx, hw, hg, hge⟩; have m3 : w9.cell? ⟨w.heap.size + 1, 3, none⟩ = some (.slice none 0 0) := hw.box.cell 3; have f3 := hw.box.free 3; have HW9 := Lib.hid hw; have HP9 := Lib.hid hx; have HX9 := Lib.hid (HX8.out.past hg HG1.out); have HY9 := Lib.hid (HY8.out.past hg HG2.out); clear hw hx hg hge)
  have HW10 : Hid (RdW w a w.heap.size (w.heap.size + 1) (sigV N (some ⟨g1, 0, none⟩) 32 32 (some ⟨g2, 0, none⟩) 32 32 (some ⟨g3, 0, none⟩) M M) (stT M (stT 32 (stT 32 s2.1 s2.2).1 (stT 32 s2.1 s2.2).2).1 (stT 32 (stT 32 s2.1 s2.2).1 (stT 32 s2.1 s2.2).2).2) (w9.setCell ⟨w.heap.size + 1, 3, none⟩ (.slice (some ⟨g3, 0, none⟩) M M))) := HW9.out.put 3 _
  have HX10 := Lib.hid (HX9.out.aside (p := ⟨w.heap.size + 1, 3, none⟩) (Box.apart HX9.out HW9.out.box (by decide)) (.slice (some ⟨g3, 0, none⟩) M M))
  have HY10 := Lib.hid (HY9.out.aside (p := ⟨w.heap.size + 1, 3, none⟩) (Box.apart HY9.out HW9.out.box (by decide)) (.slice (some ⟨g3, 0, none⟩) M M))
  have HP10 := Lib.hid (HP9.out.aside (p := ⟨w.heap.size + 1, 3, none⟩) (Box.apart HP9.out HW9.out.box (by decide)) (.slice (some ⟨g3, 0, none⟩) M M))
  rw [HE.out] at HW10
  clear m3 f3 HW8 HW9 HX8 HX9 HY8 HY9 HP9 HDM HDG HDG32 HE
  generalize w9.setCell ⟨w.heap.size + 1, 3, none⟩ (.slice (some ⟨g3, 0, none⟩) M M) = w10 at *
  obtain ⟨gd, hgd⟩ : ∃ gd, (rdF l b).2 = gd := ⟨_, rfl⟩
  have HGD2 := Lib.hid (HGD.out _ _ _ HW10.out)
  rw [hgd] at HGD2
  rcases gd with _ | _
  · obtain ⟨x1, x2, x3, x4⟩ := HX0.out hgd
    have HXX : Hid (rdN l b = N ∧ rdX l b = dgsT 32 s2.1 s2.2 ∧ rdY l b = dgsT 32 (stT 32 s2.1 s2.2).1 (stT 32 s2.1 s2.2).2 ∧ rdP l b = dgsT M (stT 32 (stT 32 s2.1 s2.2).1 (stT 32 s2.1 s2.2).2).1 (stT 32 (stT 32 s2.1 s2.2).1 (stT 32 s2.1 s2.2).2).2) := ⟨x1, x2, x3, x4⟩
    have HLG := Lib.hid (sig_list N (some ⟨g1, 0, none⟩) 32 32 (some ⟨g2, 0, none⟩) 32 32 (some ⟨g3, 0, none⟩) M M)
    have HZG := Lib.hid (sig_size N (some ⟨g1, 0, none⟩) 32 32 (some ⟨g2, 0, none⟩) 32 32 (some ⟨g3, 0, none⟩) M M)
    have HOG := Lib.hid (sig_one N (some ⟨g1, 0, none⟩) 32 32 (some ⟨g2, 0, none⟩) 32 32 (some ⟨g3, 0, none⟩) M M)
    clear x1 x2 x3 x4 HX0 hgd HGD
    go_wp2_with (first
      | (go_at_call 24; (with_reducible refine (HGD2.out).mono ?_); rintro e w11 ⟨rfl, rfl⟩)
      | ((with_reducible show wpList _ _ _ ((⟨some 26, _, _, _, _, _⟩ : Oper) :: _) _ _); refine wpList_load_mid rfl 30 (.tmp 3) rfl (w.heap.size + 1) 0 rfl (sigV N (some ⟨g1, 0, none⟩) 32 32 (some ⟨g2, 0, none⟩) 32 32 (some ⟨g3, 0, none⟩) M M).toList _ (Box.range HW10.out.box) Tryd.underlying30 rfl HLG.out ?_)
      | (((with_reducible show wpList _ _ _ ((⟨none, Op.store _ (.tmp 2) (.tmp 26), _, _, _, _⟩ : Oper) :: _) _ _)); refine wpList_store_box rfl 30 (.tmp 2) (.tmp 26) rfl w.heap.size (sigV N (some ⟨g1, 0, none⟩) 32 32 (some ⟨g2, 0, none⟩) 32 32 (some ⟨g3, 0, none⟩) M M) rfl rfl 30 zsig HW10.out.out rfl HZG.out HOG.out ?_; intro w12 hb12 hg12))
    refine bodyPost_ret (v := .agg (sigV N (some ⟨g1, 0, none⟩) 32 32 (some ⟨g2, 0, none⟩) 32 32 (some ⟨g3, 0, none⟩) M M)) (results_cell_row rfl _ w12 w.heap.size 30 (sigV N (some ⟨g1, 0, none⟩) 32 32 (some ⟨g2, 0, none⟩) 32 32 (some ⟨g3, 0, none⟩) M M) (0, 0) _ rfl hb12 Tryd.underlying30 rfl HZG.out) rfl ?_
    obtain ⟨x1, x2, x3, x4⟩ := HXX.out
    have hnb := sig_nobyte 0 none 0 0 none 0 0 none 0 0
    have d1 : Digs w10 w10.heap.size (some ⟨g1, 0, none⟩) (rdX l b) := by rw [x2]; exact ⟨dgs_all _ _ _, Sees.of_box HX10.out HX10.out.lt⟩
    have d2 : Digs w10 w10.heap.size (some ⟨g2, 0, none⟩) (rdY l b) := by rw [x3]; exact ⟨dgs_all _ _ _, Sees.of_box HY10.out HY10.out.lt⟩
    have d3 : Digs w10 w10.heap.size (some ⟨g3, 0, none⟩) (rdP l b) := by rw [x4]; exact ⟨dgs_all _ _ _, Sees.of_box HP10.out HP10.out.lt⟩
    refine ⟨some ⟨g1, 0, none⟩, some ⟨g2, 0, none⟩, some ⟨g3, 0, none⟩, 32, 32, M, ?_, d1.aside HW10.out.out hnb hg12, d2.aside HW10.out.out hnb hg12, d3.aside HW10.out.out hnb hg12, ?_, HW10.out.rd.only hg12 HA.out, only_new HW10.out.far hg12 (Nat.le_refl _)⟩
    · rw [x1, x2, x3, x4, dgs_len, dgs_len, dgs_len]
    · rw [x4, dgs_len]
      exact Nat.le_refl _
  · obtain ⟨z1, z2, z3, z4⟩ := read_bad hgd
    have HZ : Hid (rdN l b = 0 ∧ rdX l b = [] ∧ rdY l b = [] ∧ rdP l b = []) := ⟨z1, z2, z3, z4⟩
    clear z1 z2 z3 z4 hgd HX0
    go_wp2_with (first
      | (go_at_call 24; (with_reducible refine (HGD2.out).mono ?_); rintro e w11 ⟨rfl, rfl⟩)
      | (((with_reducible show wpList _ _ _ ((⟨none, Op.store _ (.tmp 2) (.tmp 25), _, _, _, _⟩ : Oper) :: _) _ _)); refine wpList_store_box rfl 30 (.tmp 2) (.tmp 25) rfl w.heap.size zsig rfl rfl 30 zsig HW10.out.out rfl (sig_size 0 none 0 0 none 0 0 none 0 0) (sig_one 0 none 0 0 none 0 0 none 0 0) ?_; intro w12 hb12 hg12))
    obtain ⟨z1, z2, z3, z4⟩ := HZ.out
    refine bodyPost_ret (v := .agg zsig) (results_cell_row rfl _ w12 w.heap.size 30 zsig (0, 0) _ rfl hb12 Tryd.underlying30 rfl (sig_size 0 none 0 0 none 0 0 none 0 0)) rfl ?_
    refine ⟨none, none, none, 0, 0, 0, ?_, ?_, ?_, ?_, ?_, HW10.out.rd.only hg12 HA.out, only_new HW10.out.far hg12 (Nat.le_refl _)⟩
    · rw [z1, z2, z3, z4]
      rfl
    · rw [z2]
      exact Digs.empty _ _ _
    · rw [z3]
      exact Digs.empty _ _ _
    · rw [z4]
      exact Digs.empty _ _ _
    · rw [z4]
      exact Nat.le_refl _
end Go.Proofs.YtkmmhkoommbkpaaDoor
