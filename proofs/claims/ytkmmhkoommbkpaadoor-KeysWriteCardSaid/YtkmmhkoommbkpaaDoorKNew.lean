/-
  A tree of keys is made: keys.New.
-/
import Derived.Test.YtkmmhkoommbkpaaDoorKSmall
import Derived.Test.YtkmmhkoommbkpaaDoorKKit
import Derived.Test.YtkmmhkoommbkpaaDoorOD
namespace Go.Proofs.YtkmmhkoommbkpaaDoor
open Go.RowKit

attribute [local go_sem ↓] ldDigest_def stDigest_def

abbrev zkey : Array Value := (List.replicate 32 (Value.int .u8 0) ++ [Value.int .i64 0]).toArray
theorem keyT_len (seed : List UInt8) (h : Nat) : (keyT seed h).length = 32 := (leaves_all seed h).root

/-- A tree in memory: the struct's block a, the leaves' block g. -/
structure TreeW (w : World) (a g : Nat) (seed : List UInt8) (h : Nat) : Prop where
  tree : Box w a 66 (treeV seed (keyT seed h) h (.slice (some ⟨g, 0, none⟩) (2 ^ h) (2 ^ h)))
  leaves : Box w g 23 ((leavesT seed h).flatten.map bv).toArray
theorem TreeW.below {w w' : World} {B a g : Nat} {seed : List UInt8} {h : Nat} (t : TreeW w a g seed h) (hb : Below B w w') (ha : a < B) (hg : g < B) : TreeW w' a g seed h := ⟨t.tree.below hb ha, t.leaves.below hb hg⟩
theorem TreeW.call {w w' : World} {a g : Nat} {seed : List UInt8} {h : Nat} (t : TreeW w a g seed h) (hb : Below w.heap.size w w') : TreeW w' a g seed h := t.below hb t.tree.lt t.leaves.lt

/-- What New answers. -/
def NewIs (w : World) (seed : List UInt8) (h : Nat) (e : Ending) (w' : World) : Prop :=
  ∃ a g, e = .returned (.tuple #[.pointer (some ⟨a, 0, none⟩), .int .i64 0]) ∧ TreeW w' a g seed h ∧ Below w.heap.size w w' ∧ w.heap.size ≤ a ∧ w.heap.size ≤ g

/-- What the walk of New carries of memory. -/
structure NwW (w1 : World) (g : Nat) (X : List (List UInt8)) (k : Nat) (w : World) : Prop where
  fill : Box w g 23 (fillD X k)
  far : Below w1.heap.size w1 w
  hg : w1.heap.size ≤ g
theorem NwW.call {w1 w w' : World} {g k : Nat} {X : List (List UInt8)} (s : NwW w1 g X k w) (hb : Below w.heap.size w w') : NwW w1 g X k w' := ⟨s.fill.below hb s.fill.lt, s.far.trans (hb.mono s.far.size), s.hg⟩
theorem NwW.put {w1 w : World} {g k : Nat} {X : List (List UInt8)} (s : NwW w1 g X k w) (hX : AllD X) (hk : k < X.length) : NwW w1 g X (k + 1) (w.setCells g (k * 32) ((X.getD k []).map bv)) := ⟨s.fill.fill_put hX hk, below_cells s.far s.hg s.far.size _ _, s.hg⟩

theorem new_not (seed : List UInt8) (h : Int) (hh : (decide (0 ≤ h) && decide (h ≤ 6)) = false) (w : World) :
    Calls Tryd.prog 10 #[.agg (seed.map bv).toArray, .int .i64 h] w fun e w' => e = .returned (.tuple #[.pointer none, .int .i64 1]) ∧ Below w.heap.size w w' := by
  have HF : Hid (Below w.heap.size w (w.alloc (.cells (seed.map bv).toArray 23))) := (Below.refl _ _).alloc (Nat.le_refl _) _
  go_enter Tryd.func10, Tryd.ntmps10
  go_upto_region 1 with fail
  change Code.wp _ _ _ _ (w.alloc (.cells (seed.map bv).toArray 23))
  generalize w.alloc (.cells (seed.map bv).toArray 23) = w1 at *
  have hg := grows_any h w1
  rw [hh] at hg
  have HG := Lib.hid hg
  clear hg hh
  go_wp2_with (go_at_call 30; (with_reducible refine (HG.out).mono ?_); rintro e w2 ⟨rfl, rfl⟩)
  go_ret2
  exact ⟨rfl, HF.out⟩

set_option maxRecDepth 100000 in
set_option maxHeartbeats 2000000 in
theorem new_any (seed : List UInt8) (hs : seed.length = 32) (h : Nat) (hh : h ≤ 6) (w : World) (hR : Roots w) :
    Calls Tryd.prog 10 #[.agg (seed.map bv).toArray, .int .i64 (h : Int)] w (NewIs w seed h) := by
  have HB : Hid (Box (w.alloc (.cells (seed.map bv).toArray 23)) w.heap.size 23 (seed.map bv).toArray) := Box.made _ _ _
  have HF : Hid (Below w.heap.size w (w.alloc (.cells (seed.map bv).toArray 23))) := (Below.refl _ _).alloc (Nat.le_refl _) _
  have HZ : Hid ((w.alloc (.cells (seed.map bv).toArray 23)).heap.size = w.heap.size + 1) := Lib.hid (by simp)
  have HR := Lib.hid (hR.of_below HF.out)
  have HXL : Hid ((leavesT seed h).length = 2 ^ h) := Lib.hid (leaves_len seed h)
  have HXA := Lib.hid (leaves_all seed h)
  have HXG : Hid (∀ k, k < 2 ^ h → (leavesT seed h).getD k [] = leafT (pubT seed (k : Int))) := Lib.hid (fun k hk => leaves_at seed h hk)
  have hpow : 2 ^ h ≤ 64 := Nat.le_trans (Nat.pow_le_pow_right (by decide) hh) (by decide)
  have HCT : Hid (∀ w, Calls Tryd.prog 31 #[.int .i64 (h : Int)] w fun e w' => e = .returned (.int .i64 (((leavesT seed h).length : Nat) : Int)) ∧ w' = w) := fun w => by rw [HXL.out]; exact count_any h hh w
  have HGR : Hid (∀ w, Calls Tryd.prog 30 #[.int .i64 (h : Int)] w fun e w' => e = .returned (.bool true) ∧ w' = w) := fun w => by
    have h1 := grows_any h w
    rw [show (decide (0 ≤ (h : Int)) && decide ((h : Int) ≤ 6)) = true by simp; omega] at h1
    exact h1
  have HK : Hid (keyT seed h = rootT (leavesT seed h)) := Lib.hid rfl
  have HKL := Lib.hid (keyT_len seed h)
  have HSL := Lib.hid hs
  rw [← HXL.out] at hpow
  have HT : Hid (∀ (w' : World) (a g : Nat), Box w' a 66 (treeV seed (keyT seed h) h (.slice (some ⟨g, 0, none⟩) (leavesT seed h).length (leavesT seed h).length)) → Box w' g 23 ((leavesT seed h).flatten.map bv).toArray → Below w.heap.size w w' → w.heap.size ≤ a → w.heap.size ≤ g → NewIs w seed h (.returned (.tuple #[.pointer (some ⟨a, 0, none⟩), .int .i64 0])) w') := fun w' a g b1 b2 b3 b4 b5 => by
    rw [HXL.out] at b1
    exact ⟨a, g, rfl, ⟨b1, b2⟩, b3, b4, b5⟩
  have HXP : Hid (∀ k, k < (leavesT seed h).length → (leavesT seed h).getD k [] = leafT (pubT seed (k : Int))) := Lib.hid (fun k hk => HXG.out k (by rw [← HXL.out]; exact hk))
  clear hs hR HXL HXG
  generalize leavesT seed h = X at *
  generalize keyT seed h = r at *
  have hmk := make_digs X.length (by omega)
  go_enter Tryd.func10, Tryd.ntmps10
  go_upto_region 1 with fail
  change Code.wp _ _ _ _ (w.alloc (.cells (seed.map bv).toArray 23))
  generalize w.alloc (.cells (seed.map bv).toArray 23) = w1 at *
  go_upto_region 5 with (first
    | (go_at_call 30; (with_reducible refine (HGR.out _).mono ?_); rintro e w2 ⟨rfl, rfl⟩)
    | (go_at_call 31; (with_reducible refine (HCT.out _).mono ?_); rintro e w3 ⟨rfl, rfl⟩))
  have HW0 : Hid (NwW w3 w3.heap.size X 0 (w3.alloc (.cells (zerosD (X.length * 32)).toArray 23))) := ⟨by rw [fillD_zero]; exact Box.made _ _ _, (Below.refl _ _).alloc (Nat.le_refl _) _, Nat.le_refl _⟩
  generalize w3.alloc (.cells (zerosD (X.length * 32)).toArray 23) = w4 at *
  clear hmk
  go_loopw [7, 17] (fun _ i wr => ∃ k : Nat, k ≤ X.length ∧ i = .int .i64 (k : Int) ∧ Hid (NwW w3 w3.heap.size X k wr)) (fun _ i _ => X.length - (intOf i).toNat)
  case atStart => exact ⟨0, Nat.zero_le _, rfl, HW0⟩
  case round =>
    clear HW0
    obtain ⟨k, hk, rfl, HW⟩ := hrel
    by_cases hlt : k < X.length
    · have HPB : Hid (∀ w', Below w3.heap.size w3 w' → Calls Tryd.prog 33 #[.agg (seed.map bv).toArray, .int .i64 (k : Int)] w' fun e w'' => e = .returned (.agg ((pubT seed (k : Int)).map bv).toArray) ∧ Below w'.heap.size w' w'') := fun w' hb => public_any seed HSL.out k w' (HR.out.of_below hb)
      have HLF : Hid (∀ w', Below w3.heap.size w3 w' → Calls Tryd.prog 32 #[.agg ((pubT seed (k : Int)).map bv).toArray] w' fun e w'' => e = .returned (.agg ((X.getD k []).map bv).toArray) ∧ Below w'.heap.size w' w'') := fun w' hb => by
        rw [HXP.out k hlt]
        exact kleaf_any _ rfl w' (HR.out.of_below hb)
      have HXD := Lib.hid (HXA.out.get hlt [])
      have lS := (HB.out.below HW.out.far HB.out.lt).load_digest HSL.out
      have HPUT : Hid (∀ w', NwW w3 w3.heap.size X k w' → NwW w3 w3.heap.size X (k + 1) (w'.setCells w3.heap.size (k * 32) ((X.getD k []).map bv))) := fun w' h => h.put HXA.out hlt
      have HFS := Lib.hid (fillD_size HXA.out hk)
      have i3 : (k : Int) < (X.length : Int) := by omega
      generalize X.getD k [] = d at *
      generalize pubT seed (k : Int) = p at *
      go_wp2_with (first
        | (go_at_call 33; (with_reducible refine (HPB.out _ HW.out.far).mono ?_); rintro e w5 ⟨rfl, hb⟩; have HW5 := Lib.hid (HW.out.call hb); clear hb)
        | (go_at_call 32; (with_reducible refine (HLF.out _ HW5.out.far).mono ?_); rintro e w6 ⟨rfl, hb⟩; have HW6 := Lib.hid (HW5.out.call hb); clear hb; have hst := HW6.out.fill.store_mid (o := k * 32) (by rw [HFS.out]; omega) d HXD.out))
      have HW7 := Lib.hid (HPUT.out _ HW6.out)
      clear hst lS
      generalize w6.setCells w3.heap.size (k * 32) (d.map bv) = w7 at *
      go_roundw
      case rel => exact ⟨k + 1, hlt, by go_num, HW7⟩
      case measure => simp [intOf]; omega
    · obtain rfl : k = X.length := by omega
      have hbx := HW.out.fill
      rw [fillD_all] at hbx
      have HQ : Hid (Digs wr wr.heap.size (some ⟨w3.heap.size, 0, none⟩) X) := ⟨HXA.out, Sees.of_box hbx hbx.lt⟩
      have HBX := Lib.hid hbx
      have HRT := Lib.hid (root_any X (some ⟨w3.heap.size, 0, none⟩) X.length wr HQ.out (by omega) (HR.out.of_below HW.out.far))
      rw [← HK.out] at HRT
      have HKB := Lib.hid (built_key HKL.out (h : Int))
      have HTB := Lib.hid (built_tree HSL.out HKL.out (h : Int) (some ⟨w3.heap.size, 0, none⟩) X.length X.length)
      have HKS := Lib.hid (key_size HKL.out (h : Int))
      have HKT := Lib.hid (key_list HKL.out (h : Int))
      have HZK : Hid ((keyV r (h : Int)).size = zkey.size) := by
        show _ = _
        unfold keyV
        rw [List.size_toArray, keyL_len HKL.out]
        rfl
      have HON := Lib.hid (keyL_one r (h : Int))
      have HLS := Lib.hid (dig_list seed HSL.out)
      have hfr : Hid (Below w3.heap.size w3 wr) := HW.out.far
      have hgw := HW.out.hg
      clear hbx HQ HW HCT HGR HXP hlt hk
      go_wp2_with (first
        | (go_at_call 34; (with_reducible refine (HRT.out).mono ?_); rintro e w5 ⟨rfl, hb⟩; have HB5 := Lib.hid hb; clear hb)
        | ((with_reducible show wpList _ _ _ ((⟨some 31, _, _, _, _, _⟩ : Oper) :: _) _ _); refine wpList_build_list rfl 35 [(0, .tmp 29), (1, .tmp 30)] rfl [(0, .agg (r.map bv).toArray), (1, .int .i64 (h : Int))] rfl (keyV r (h : Int)) HKB.out ?_)
        | (((with_reducible show wpList _ _ _ ((⟨none, Op.store _ (.tmp 8) (.tmp 31), _, _, _, _⟩ : Oper) :: _) _ _)); refine wpList_store_box rfl 35 (.tmp 8) (.tmp 31) rfl w5.heap.size (keyV r (h : Int)) rfl rfl 35 zkey (Box.made w5 _ _) HZK.out HKS.out HON.out ?_; intro w6 hb6 hg6; have HB6 := Lib.hid (HB5.out.trans (((Below.refl w5.heap.size w5).alloc (Nat.le_refl _) (.cells zkey 35)).trans (below_only hg6 (Nat.le_refl _) (by simp)) |>.mono HB5.out.size)); have HX6 := Lib.hid hb6; clear hb6 hg6)
        | ((with_reducible show wpList _ _ _ ((⟨some 32, _, _, _, _, _⟩ : Oper) :: _) _ _); refine wpList_load_mid rfl 23 (.tmp 2) rfl w.heap.size 0 rfl (seed.map bv) _ ((HB.out.below hfr.out HB.out.lt).below HB6.out (HB.out.below hfr.out HB.out.lt).lt).range Tryd.underlying23 rfl HLS.out ?_)
        | ((with_reducible show wpList _ _ _ ((⟨some 33, _, _, _, _, _⟩ : Oper) :: _) _ _); refine wpList_load_mid rfl 35 (.tmp 8) rfl w5.heap.size 0 rfl (keyL r (h : Int)) _ HX6.out.range Tryd.underlying35 rfl HKT.out ?_)
        | ((with_reducible show wpList _ _ _ ((⟨some 35, _, _, _, _, _⟩ : Oper) :: _) _ _); refine wpList_build_list rfl 66 [(0, .tmp 32), (1, .tmp 33), (2, .tmp 34)] rfl [(0, .agg (seed.map bv).toArray), (1, .agg (keyV r (h : Int))), (2, .slice (some ⟨w3.heap.size, 0, none⟩) X.length X.length)] rfl (treeV seed r (h : Int) (.slice (some ⟨w3.heap.size, 0, none⟩) X.length X.length)) HTB.out ?_))
      go_ret2
      have hz := HZ.out
      have hB6 := (HF.out.trans (hfr.out.mono HF.out.size)).trans (HB6.out.mono (HF.out.trans (hfr.out.mono HF.out.size)).size)
      have hb9 := ((HBX.out.below HB6.out HBX.out.lt).alloc (.cells (treeV seed r (h : Int) (.slice (some ⟨w3.heap.size, 0, none⟩) X.length X.length)) 66))
      exact HT.out _ _ _ (Box.made _ _ _) hb9 (hB6.alloc hB6.size _) hB6.size (by omega)
end Go.Proofs.YtkmmhkoommbkpaaDoor
