/-
  What the laws of layer 4 ask first: that a signature checks, and doesn't under another leaf (wapentakelaw04.alive).
-/
import Derived.Test.YtdgedhaiefingaaDoorOOf
import Derived.Test.YtdgedhaiefingaaDoorOSign
import Derived.Deep.RegionHeld3
namespace Go.Proofs.YtdgedhaiefingaaDoor
open Go.RowKit

attribute [local go_sem ↓] ldDigest_def

/-- A signature in memory, checked: for its own digest. -/
theorem check_sign (seed : List UInt8) (leaf : Int) (d p : List UInt8) (hd : d.length = 32) (hp : p.length = 32) (g h : Nat) (c c' : Nat) (w : World) (b1 : Box w g 23 ((openT seed leaf d).flatten.map bv).toArray) (b2 : Box w h 23 ((shutT seed leaf d).flatten.map bv).toArray) (hR : Roots w) :
    Calls Tryd.prog 13 #[.agg (p.map bv).toArray, .agg (d.map bv).toArray, .agg (onceV g h c c')] w fun e w' => e = .returned (.bool (decide (pubT seed leaf = p))) ∧ Below w.heap.size w w' := by
  obtain ⟨h1, h2⟩ := sign_lens seed leaf d
  have hA : Digs w w.heap.size (some ⟨g, 0, none⟩) (openT seed leaf d) := ⟨open_all seed leaf d, Sees.of_box b1 b1.lt⟩
  have hB : Digs w w.heap.size (some ⟨h, 0, none⟩) (shutT seed leaf d) := ⟨shut_all seed leaf d, Sees.of_box b2 b2.lt⟩
  have h := check_any p d hp hd (openT seed leaf d) (shutT seed leaf d) (some ⟨g, 0, none⟩) (some ⟨h, 0, none⟩) c c' w hA hB hR
  rw [h1, h2, of_sign] at h
  unfold goodO at h
  rw [decide_eq_true (show (openT seed leaf d).length = 32 ∧ (shutT seed leaf d).length = 32 from ⟨h1, h2⟩), Bool.true_and] at h
  exact h

def twoDig : List UInt8 := 2 :: List.replicate 31 0

/-- Two digests in blocks of their own. -/
structure DuoW (w0 : World) (b : Nat) (x y : Array Value) (w : World) : Prop where
  x : Box w b 23 x
  y : Box w (b + 1) 23 y
  far : Below w0.heap.size w0 w
theorem DuoW.call {w0 w w' : World} {b : Nat} {x y : Array Value} (h : DuoW w0 b x y w) (hb : Below w.heap.size w w') : DuoW w0 b x y w' := ⟨h.x.below hb h.x.lt, h.y.below hb h.y.lt, h.far.trans (hb.mono h.far.size)⟩

set_option maxRecDepth 100000 in
set_option maxHeartbeats 2000000 in
theorem alive_any (w : World) (hR : Roots w) : Calls Tryd.prog 6 #[] w fun e w' => e = .returned (.bool true) ∧ Below w.heap.size w w' := by
  have HR := Lib.hid hR
  clear hR
  have hlx : oneSeed.length = 32 := rfl
  have hly : twoDig.length = 32 := rfl
  have HNE : Hid (¬ pubT oneSeed 0 = pubT oneSeed 1) := Lib.hid pub_apart
  have vx : (oneSeed.map bv).toArray = #[.int .u8 1, .int .u8 0, .int .u8 0, .int .u8 0, .int .u8 0, .int .u8 0, .int .u8 0, .int .u8 0, .int .u8 0, .int .u8 0, .int .u8 0, .int .u8 0, .int .u8 0, .int .u8 0, .int .u8 0, .int .u8 0, .int .u8 0, .int .u8 0, .int .u8 0, .int .u8 0, .int .u8 0, .int .u8 0, .int .u8 0, .int .u8 0, .int .u8 0, .int .u8 0, .int .u8 0, .int .u8 0, .int .u8 0, .int .u8 0, .int .u8 0, .int .u8 0] := rfl
  have vy : (twoDig.map bv).toArray = #[.int .u8 2, .int .u8 0, .int .u8 0, .int .u8 0, .int .u8 0, .int .u8 0, .int .u8 0, .int .u8 0, .int .u8 0, .int .u8 0, .int .u8 0, .int .u8 0, .int .u8 0, .int .u8 0, .int .u8 0, .int .u8 0, .int .u8 0, .int .u8 0, .int .u8 0, .int .u8 0, .int .u8 0, .int .u8 0, .int .u8 0, .int .u8 0, .int .u8 0, .int .u8 0, .int .u8 0, .int .u8 0, .int .u8 0, .int .u8 0, .int .u8 0, .int .u8 0] := rfl
  have HVX := Lib.hid vx
  have HVY := Lib.hid vy
  clear vx vy
  have HSX := Lib.hid (dig_same oneSeed hlx)
  have HSY := Lib.hid (dig_same twoDig hly)
  have HZX := Lib.hid (dig_size oneSeed hlx)
  have HZY := Lib.hid (dig_size twoDig hly)
  have HP0 : Hid (∀ w', Below w.heap.size w w' → Calls Tryd.prog 7 #[.agg (oneSeed.map bv).toArray, .int .i64 0] w' fun e w'' => e = .returned (.agg ((pubT oneSeed 0).map bv).toArray) ∧ Below w'.heap.size w' w'') := fun w' hb => public_any oneSeed hlx 0 w' (HR.out.of_below hb)
  have HP1 : Hid (∀ w', Below w.heap.size w w' → Calls Tryd.prog 7 #[.agg (oneSeed.map bv).toArray, .int .i64 1] w' fun e w'' => e = .returned (.agg ((pubT oneSeed 1).map bv).toArray) ∧ Below w'.heap.size w' w'') := fun w' hb => public_any oneSeed hlx 1 w' (HR.out.of_below hb)
  have HSG : Hid (∀ w', Below w.heap.size w w' → Calls Tryd.prog 10 #[.agg (oneSeed.map bv).toArray, .int .i64 0, .agg (twoDig.map bv).toArray] w' (SignIs w' (openT oneSeed 0 twoDig) (shutT oneSeed 0 twoDig))) := fun w' hb => sign_any oneSeed hlx 0 twoDig hly w' (HR.out.of_below hb)
  have HC0 : Hid (∀ w' g h, Below w.heap.size w w' → Box w' g 23 ((openT oneSeed 0 twoDig).flatten.map bv).toArray → Box w' h 23 ((shutT oneSeed 0 twoDig).flatten.map bv).toArray → Calls Tryd.prog 13 #[.agg ((pubT oneSeed 0).map bv).toArray, .agg (twoDig.map bv).toArray, .agg (onceV g h 32 32)] w' fun e w'' => e = .returned (.bool true) ∧ Below w'.heap.size w' w'') := fun w' g h hb b1 b2 => by
    have h := check_sign oneSeed 0 twoDig (pubT oneSeed 0) hly rfl g h 32 32 w' b1 b2 (HR.out.of_below hb)
    rw [decide_eq_true rfl] at h
    exact h
  have HC1 : Hid (∀ w' g h, Below w.heap.size w w' → Box w' g 23 ((openT oneSeed 0 twoDig).flatten.map bv).toArray → Box w' h 23 ((shutT oneSeed 0 twoDig).flatten.map bv).toArray → Calls Tryd.prog 13 #[.agg ((pubT oneSeed 1).map bv).toArray, .agg (twoDig.map bv).toArray, .agg (onceV g h 32 32)] w' fun e w'' => e = .returned (.bool false) ∧ Below w'.heap.size w' w'') := fun w' g h hb b1 b2 => by
    have h := check_sign oneSeed 0 twoDig (pubT oneSeed 1) hly rfl g h 32 32 w' b1 b2 (HR.out.of_below hb)
    rw [decide_eq_false HNE.out] at h
    exact h
  have hn1 := dig_list oneSeed hlx
  have hn2 := dig_list twoDig hly
  clear HNE hlx hly HR
  generalize pubT oneSeed 0 = p0 at *
  generalize pubT oneSeed 1 = p1 at *
  generalize openT oneSeed 0 twoDig = X at *
  generalize shutT oneSeed 0 twoDig = Y at *
  generalize oneSeed = s at *
  generalize twoDig = d at *
  have HW0 : Hid (DuoW w w.heap.size zs32 zs32 ((w.alloc (.cells zs32 23)).alloc (.cells zs32 23))) := ⟨(Box.made w _ _).alloc _, Box.made_at (by simp) _ _, ((Below.refl _ _).alloc (Nat.le_refl _) _).alloc (by simp) _⟩
  go_enter Tryd.func6, Tryd.ntmps6
  go_upto_region 2 with (first
    | (((with_reducible show wpList _ _ _ ((⟨none, Op.store _ (.tmp 1) (.tmp 3), _, _, _, _⟩ : Oper) :: _) _ _)); refine wpList_store_box rfl 23 (.tmp 1) (.tmp 3) rfl w.heap.size (s.map bv).toArray rfl (congrArg Value.agg HVX.out.symm) 23 zs32 HW0.out.x HSX.out HZX.out (bv_one _) ?_; intro w2 hb2 hg2; have HW2 : Hid (DuoW w w.heap.size (s.map bv).toArray zs32 w2) := ⟨hb2, HW0.out.y.grown hg2 (fun e => by injection e with e; omega), HW0.out.far.trans (below_only hg2 (Nat.le_refl _) HW0.out.far.size)⟩; clear hb2 hg2)
    | (((with_reducible show wpList _ _ _ ((⟨none, Op.store _ (.tmp 2) (.tmp 4), _, _, _, _⟩ : Oper) :: _) _ _)); refine wpList_store_box rfl 23 (.tmp 2) (.tmp 4) rfl (w.heap.size + 1) (d.map bv).toArray rfl (congrArg Value.agg HVY.out.symm) 23 zs32 HW2.out.y HSY.out HZY.out (bv_one _) ?_; intro w3 hb3 hg3; have HW3 : Hid (DuoW w w.heap.size (s.map bv).toArray (d.map bv).toArray w3) := ⟨HW2.out.x.grown hg3 (fun e => by injection e with e; omega), hb3, HW2.out.far.trans (below_only hg3 (by omega) HW2.out.far.size)⟩; clear hb3 hg3))
  simp only [Act.put]
  clear HW0 HW2 HSX HSY HZX HZY HVX HVY
  have hund := Tryd.underlying23
  have HS0 : Hid (DuoW w w.heap.size (s.map bv).toArray (d.map bv).toArray w3.drew) := HW3.out.call (Below.refl _ _).drew
  refine wp_region_held_drew (S := DuoW w w.heap.size (s.map bv).toArray (d.map bv).toArray) (by kernel_rfl) HS0.out (fun hS => ?_)
  clear HW3 HS0
  generalize w3.drew = w4 at *
  (refine wpAnyH_take (i := 0) (v := .agg (s.map bv).toArray) rfl (by kernel_rfl) (by kernel_rfl) (by kernel_rfl) (fun _ _ _ h => h) (yieldsIf_load_mid (by kernel_rfl) 23 (.tmp 1) rfl w.heap.size (0) (by kernel_rfl) (s.map bv) _ (fun w h => h.x.range) hund rfl hn1) hS ?_)
  (try simp only [Act.put])
  (refine wpAnyH_take (i := 2) (v := .agg (d.map bv).toArray) rfl (by kernel_rfl) (by kernel_rfl) (by kernel_rfl) (fun _ _ _ h => h) (yieldsIf_load_mid (by kernel_rfl) 23 (.tmp 2) rfl (w.heap.size + 1) (0) (by kernel_rfl) (d.map bv) _ (fun w h => h.y.range) hund rfl hn2) hS ?_)
  (try simp only [Act.put])
  (refine wpAnyH_take (i := 3) (v := .agg (s.map bv).toArray) rfl (by kernel_rfl) (by kernel_rfl) (by kernel_rfl) (fun _ _ _ h => h) (yieldsIf_load_mid (by kernel_rfl) 23 (.tmp 1) rfl w.heap.size (0) (by kernel_rfl) (s.map bv) _ (fun w h => h.x.range) hund rfl hn1) hS ?_)
  (try simp only [Act.put])
  (refine wpAnyH_take (i := 4) (v := .agg (d.map bv).toArray) rfl (by kernel_rfl) (by kernel_rfl) (by kernel_rfl) (fun _ _ _ h => h) (yieldsIf_load_mid (by kernel_rfl) 23 (.tmp 2) rfl (w.heap.size + 1) (0) (by kernel_rfl) (d.map bv) _ (fun w h => h.y.range) hund rfl hn2) hS ?_)
  (try simp only [Act.put])
  refine wpAnyH_ready (rs := [1]) (by decide +kernel) (by simp) (AllReadyH.cons rfl (fun K hK => ?_) AllReadyH.nil)
  go_simp
  (go_at_call 7; (with_reducible refine (HP0.out _ hS.far).mono ?_); rintro e w5 ⟨rfl, hb⟩)
  refine hK.out _ _ (hS.call hb) (fun hS => ?_)
  clear hK K
  (try simp only [Act.put])
  clear hb
  refine wpAnyH_ready (rs := [5]) (by decide +kernel) (by simp) (AllReadyH.cons rfl (fun K hK => ?_) AllReadyH.nil)
  go_simp
  (go_at_call 10; (with_reducible refine (HSG.out _ hS.far).mono ?_); rintro e w6 ⟨g6, h6, rfl, b1, b2, _, _, _, hb⟩)
  have HB6 := Lib.hid (And.intro b1 b2)
  clear b1 b2
  refine hK.out _ _ (hS.call hb) (fun hS => ?_)
  clear hK K
  (try simp only [Act.put])
  clear hb
  refine wpAnyH_ready (rs := [6]) (by decide +kernel) (by simp) (AllReadyH.cons rfl (fun K hK => ?_) AllReadyH.nil)
  go_simp
  (go_at_call 13; (with_reducible refine (HC0.out _ _ _ hS.far HB6.out.1 HB6.out.2).mono ?_); rintro e w7 ⟨rfl, hb⟩)
  refine hK.out _ _ (hS.call hb) (fun hS => ?_)
  clear hK K
  (try simp only [Act.put])
  clear hb
  refine wpAnyH_ready (rs := [7]) (by decide +kernel) (by simp) (AllReadyH.cons rfl (fun K hK => ?_) AllReadyH.nil)
  go_simp
  refine hK.out _ _ (hS) (fun hS => ?_)
  clear hK K
  (try simp only [Act.put])
  (refine wpAnyH_take (i := 8) (v := .agg (s.map bv).toArray) rfl (by kernel_rfl) (by kernel_rfl) (by kernel_rfl) (fun _ _ _ h => h) (yieldsIf_load_mid (by kernel_rfl) 23 (.tmp 1) rfl w.heap.size (0) (by kernel_rfl) (s.map bv) _ (fun w h => h.x.range) hund rfl hn1) hS ?_)
  (try simp only [Act.put])
  (refine wpAnyH_take (i := 10) (v := .agg (d.map bv).toArray) rfl (by kernel_rfl) (by kernel_rfl) (by kernel_rfl) (fun _ _ _ h => h) (yieldsIf_load_mid (by kernel_rfl) 23 (.tmp 2) rfl (w.heap.size + 1) (0) (by kernel_rfl) (d.map bv) _ (fun w h => h.y.range) hund rfl hn2) hS ?_)
  (try simp only [Act.put])
  (refine wpAnyH_take (i := 11) (v := .agg (s.map bv).toArray) rfl (by kernel_rfl) (by kernel_rfl) (by kernel_rfl) (fun _ _ _ h => h) (yieldsIf_load_mid (by kernel_rfl) 23 (.tmp 1) rfl w.heap.size (0) (by kernel_rfl) (s.map bv) _ (fun w h => h.x.range) hund rfl hn1) hS ?_)
  (try simp only [Act.put])
  (refine wpAnyH_take (i := 12) (v := .agg (d.map bv).toArray) rfl (by kernel_rfl) (by kernel_rfl) (by kernel_rfl) (fun _ _ _ h => h) (yieldsIf_load_mid (by kernel_rfl) 23 (.tmp 2) rfl (w.heap.size + 1) (0) (by kernel_rfl) (d.map bv) _ (fun w h => h.y.range) hund rfl hn2) hS ?_)
  (try simp only [Act.put])
  refine wpAnyH_ready (rs := [9]) (by decide +kernel) (by simp) (AllReadyH.cons rfl (fun K hK => ?_) AllReadyH.nil)
  go_simp
  (go_at_call 7; (with_reducible refine (HP1.out _ hS.far).mono ?_); rintro e w8 ⟨rfl, hb⟩)
  refine hK.out _ _ (hS.call hb) (fun hS => ?_)
  clear hK K
  (try simp only [Act.put])
  clear hb
  refine wpAnyH_ready (rs := [13]) (by decide +kernel) (by simp) (AllReadyH.cons rfl (fun K hK => ?_) AllReadyH.nil)
  go_simp
  (go_at_call 10; (with_reducible refine (HSG.out _ hS.far).mono ?_); rintro e w9 ⟨g9, h9, rfl, b1, b2, _, _, _, hb⟩)
  have HB9 := Lib.hid (And.intro b1 b2)
  clear b1 b2
  refine hK.out _ _ (hS.call hb) (fun hS => ?_)
  clear hK K
  (try simp only [Act.put])
  clear hb
  refine wpAnyH_ready (rs := [14]) (by decide +kernel) (by simp) (AllReadyH.cons rfl (fun K hK => ?_) AllReadyH.nil)
  go_simp
  (go_at_call 13; (with_reducible refine (HC1.out _ _ _ hS.far HB9.out.1 HB9.out.2).mono ?_); rintro e w10 ⟨rfl, hb⟩)
  refine hK.out _ _ (hS.call hb) (fun hS => ?_)
  clear hK K
  (try simp only [Act.put])
  clear hb
  refine wpAnyH_ready (rs := [15]) (by decide +kernel) (by simp) (AllReadyH.cons rfl (fun K hK => ?_) AllReadyH.nil)
  go_simp
  refine hK.out _ _ (hS) (fun hS => ?_)
  clear hK K
  (try simp only [Act.put])
  refine wpAnyH_ready (rs := [16]) (by decide +kernel) (by simp) (AllReadyH.cons rfl (fun K hK => ?_) AllReadyH.nil)
  go_simp
  refine hK.out _ _ (hS) (fun hS => ?_)
  clear hK K
  (try simp only [Act.put])
  refine wpAnyH_ready (rs := [17]) (by decide +kernel) (by simp) (AllReadyH.cons rfl (fun K hK => ?_) AllReadyH.nil)
  go_simp
  refine hK.out _ _ (hS) (fun hS => ?_)
  clear hK K
  (try simp only [Act.put])
  refine wpAnyH_done (by kernel_rfl) ?_ _
  have HF := Lib.hid hS.far
  clear hS
  go_wp2
  go_ret
  exact ⟨rfl, HF.out⟩
end Go.Proofs.YtdgedhaiefingaaDoor
