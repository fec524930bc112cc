/-
  What the laws of layer 3 share: that the package does what the document tells of one example.
-/
import Derived.Test.YtkpekglpknbodaaDoorTRef
import Derived.Test.YtkpekglpknbodaaDoorTCheck
import Derived.Test.YtkpekglpknbodaaDoorTLeaf
import Derived.Test.YtkpekglpknbodaaDoorTBuild
import Derived.Deep.RegionHeld3
import Derived.Lib.SlBytesConst
namespace Go.Proofs.YtkpekglpknbodaaDoor
open Go.RowKit

attribute [local go_sem ↓] bsAll_def

theorem sees_const (w : World) (x : UInt8) : Sees (w.alloc (.cells #[bv x] 5 (1, 2))) (w.alloc (.cells #[bv x] 5 (1, 2))).heap.size (some ⟨w.heap.size, 0, none⟩) (([x] : List UInt8).map bv) := by
  refine .inr ⟨w.heap.size, 0, rfl, by simp, fun j u hu => ?_⟩
  rw [Nat.zero_add, World.cell?_alloc_mark, List.getElem?_toArray]
  exact hu
theorem leafc_any (x : UInt8) (w : World) (hR : Roots w) :
    Calls Tryd.prog 12 #[.slice (some ⟨w.heap.size, 0, none⟩) 1 1] (w.alloc (.cells #[bv x] 5 (1, 2))) fun e w' => e = .returned (.agg ((shaOf [0, x]).map bv).toArray) ∧ Below w.heap.size w w' := by
  have hF : Below w.heap.size w (w.alloc (.cells #[bv x] 5 (1, 2))) := (Below.refl _ _).alloc (Nat.le_refl _) _
  refine (leaf_any [x] (some ⟨w.heap.size, 0, none⟩) 1 _ (sees_const w x) (Nat.le_refl 1) (by simp [maxLen]) (by simp) (hR.of_below hF)).mono ?_
  rintro e w' ⟨rfl, hb⟩
  exact ⟨rfl, hF.trans (hb.mono hF.size)⟩

theorem digs_made (w : World) {ds : List (List UInt8)} (h : AllD ds) : Digs (w.alloc (.cells (ds.flatten.map bv).toArray 29)) (w.alloc (.cells (ds.flatten.map bv).toArray 29)).heap.size (some ⟨w.heap.size, 0, none⟩) ds := by
  have hX : Box (w.alloc (.cells (ds.flatten.map bv).toArray 29)) w.heap.size 29 (ds.flatten.map bv).toArray := Box.made _ _ _
  exact ⟨h, by simpa using Sees.of_box hX hX.lt⟩
theorem root_three (a b c : List UInt8) : rootT [a, b, c] = pT (pT a b) c := by
  unfold rootT
  rw [top_up pT _ (by simp)]
  show top pT _ [pT a b, c] = _
  rw [top_up pT _ (by simp)]
  show top pT _ [pT (pT a b) c] = _
  rw [top_one pT _ (by simp)]
  rfl

abbrev zs32 : Array Value := (List.replicate 32 (Value.int .u8 0)).toArray
/-- Three digests in blocks of their own. -/
structure TriW (w0 : World) (b : Nat) (x y z : Array Value) (w : World) : Prop where
  x : Box w b 29 x
  y : Box w (b + 1) 29 y
  z : Box w (b + 1 + 1) 29 z
  far : Below w0.heap.size w0 w
  high : w0.heap.size ≤ b
theorem TriW.call {w0 w w' : World} {b : Nat} {x y z : Array Value} (h : TriW w0 b x y z w) (hb : Below w.heap.size w w') : TriW w0 b x y z w' := ⟨h.x.below hb h.x.lt, h.y.below hb h.y.lt, h.z.below hb h.z.lt, h.far.trans (hb.mono h.far.size), h.high⟩
theorem TriW.drew {w0 w : World} {b : Nat} {x y z : Array Value} (h : TriW w0 b x y z w) : TriW w0 b x y z w.drew := ⟨h.x, h.y, h.z, h.far.drew, h.high⟩
theorem TriW.made {w0 w : World} (h : Below w0.heap.size w0 w) (x y z : Array Value) : TriW w0 w.heap.size x y z (((w.alloc (.cells x 29)).alloc (.cells y 29)).alloc (.cells z 29)) :=
  ⟨((Box.made w _ _).alloc _).alloc _, (Box.made_at (by simp) _ _).alloc _, Box.made_at (by simp) _ _, h.trans ((((Below.refl _ _).alloc (Nat.le_refl _) _).alloc (by simp) _).alloc (by simp; omega) _ |>.mono h.size), h.size⟩
theorem TriW.put1 {w0 w w' : World} {b : Nat} {x y z v : Array Value} (h : TriW w0 b x y z w) (hb : Box w' b 29 v) (hg : w.grownBy w' (some b)) : TriW w0 b v y z w' :=
  ⟨hb, h.y.grown hg (fun e => by injection e with e; omega), h.z.grown hg (fun e => by injection e with e; omega), h.far.trans (below_only hg h.high h.far.size), h.high⟩
theorem TriW.put2 {w0 w w' : World} {b : Nat} {x y z v : Array Value} (h : TriW w0 b x y z w) (hb : Box w' (b + 1) 29 v) (hg : w.grownBy w' (some (b + 1))) : TriW w0 b x v z w' :=
  ⟨h.x.grown hg (fun e => by injection e with e; omega), hb, h.z.grown hg (fun e => by injection e with e; omega), h.far.trans (below_only hg (Nat.le_trans h.high (Nat.le_succ _)) h.far.size), h.high⟩
theorem TriW.put3 {w0 w w' : World} {b : Nat} {x y z v : Array Value} (h : TriW w0 b x y z w) (hb : Box w' (b + 1 + 1) 29 v) (hg : w.grownBy w' (some (b + 1 + 1))) : TriW w0 b x y v w' :=
  ⟨h.x.grown hg (fun e => by injection e with e; omega), h.y.grown hg (fun e => by injection e with e; omega), hb, h.far.trans (below_only hg (by have := h.high; omega) h.far.size), h.high⟩
theorem Box.range {w : World} {g : Nat} {t : TypeId} {cs : List Value} (h : Box w g t cs.toArray) : w.rangeAt g 0 cs := fun j v hv => by
  rw [Nat.zero_add, h.cell, List.getElem?_toArray]
  exact hv
theorem dig_list (d : List UInt8) (hd : d.length = 32) : (Tryd.prog.info? 29).map (·.size) = some (d.map bv).length := by
  rw [List.length_map, hd]
  kernel_rfl
/-- Three loads that answer. -/
theorem TriW.loads {w0 w : World} {b : Nat} {x y z : List UInt8} (h : TriW w0 b (x.map bv).toArray (y.map bv).toArray (z.map bv).toArray w) :
    w.rangeAt b 0 (x.map bv) ∧ w.rangeAt (b + 1) 0 (y.map bv) ∧ w.rangeAt (b + 1 + 1) 0 (z.map bv) :=
  ⟨h.x.range, h.y.range, h.z.range⟩
theorem TriW.alloc {w0 w : World} {b : Nat} {x y z : Array Value} (h : TriW w0 b x y z w) (o : Obj) : TriW w0 b x y z (w.alloc o) := h.call ((Below.refl _ _).alloc (Nat.le_refl _) o)
theorem dig_same (d : List UInt8) (hd : d.length = 32) : (d.map bv).toArray.size = zs32.size := by
  rw [List.size_toArray, List.length_map, hd]
  rfl

set_option maxRecDepth 100000 in
set_option maxHeartbeats 2000000 in
theorem alive_any (w : World) (hR : Roots w) : Calls Tryd.prog 9 #[] w fun e w' => e = .returned (.bool true) ∧ Below w.heap.size w w' := by
  have hcv := fun (w : World) (C : Array Value) (n c : Nat) => Lib.run_convert_bytes_const (P := Tryd.prog) w 22 5 C n c Tryd.underlying22 Tryd.underlying5
  have HR := Lib.hid hR
  have HLa : Hid (∀ w, Roots w → Calls Tryd.prog 12 #[.slice (some ⟨w.heap.size, 0, none⟩) 1 1] (w.alloc (.cells #[.int .u8 97] 5 (1, 2))) fun e w' => e = .returned (.agg ((shaOf [0, 97]).map bv).toArray) ∧ Below w.heap.size w w') := fun w h => leafc_any 97 w h
  have HLb : Hid (∀ w, Roots w → Calls Tryd.prog 12 #[.slice (some ⟨w.heap.size, 0, none⟩) 1 1] (w.alloc (.cells #[.int .u8 98] 5 (1, 2))) fun e w' => e = .returned (.agg ((shaOf [0, 98]).map bv).toArray) ∧ Below w.heap.size w w') := fun w h => leafc_any 98 w h
  have HLc : Hid (∀ w, Roots w → Calls Tryd.prog 12 #[.slice (some ⟨w.heap.size, 0, none⟩) 1 1] (w.alloc (.cells #[.int .u8 99] 5 (1, 2))) fun e w' => e = .returned (.agg ((shaOf [0, 99]).map bv).toArray) ∧ Below w.heap.size w w') := fun w h => leafc_any 99 w h
  obtain ⟨da, hda⟩ : ∃ d, d = shaOf [0, 97] := ⟨_, rfl⟩
  obtain ⟨db, hdb⟩ : ∃ d, d = shaOf [0, 98] := ⟨_, rfl⟩
  obtain ⟨dc, hdc⟩ : ∃ d, d = shaOf [0, 99] := ⟨_, rfl⟩
  have hla : da.length = 32 := by rw [hda]; rfl
  have hlb : db.length = 32 := by rw [hdb]; rfl
  have hlc : dc.length = 32 := by rw [hdc]; rfl
  rw [← hda] at HLa
  rw [← hdb] at HLb
  rw [← hdc] at HLc
  have HS1 := Lib.hid (dig_same da hla)
  have HS2 := Lib.hid (dig_same db hlb)
  have HS3 := Lib.hid (dig_same dc hlc)
  have HZ1 := Lib.hid (dig_size da hla)
  have HZ2 := Lib.hid (dig_size db hlb)
  have HZ3 := Lib.hid (dig_size dc hlc)
  clear hda hdb hdc hR
  go_enter Tryd.func9, Tryd.ntmps9
  go_upto_region 2 with (first
    | (go_at_call 12; refine (HLc.out _ (HR.out.of_below HF2.out)).mono ?_; rintro e w3 ⟨rfl, hb3⟩; have HF3 := Lib.hid (HF2.out.trans (hb3.mono HF2.out.size)); clear hb3)
    | (go_at_call 12; refine (HLb.out _ (HR.out.of_below HF1.out)).mono ?_; rintro e w2 ⟨rfl, hb2⟩; have HF2 := Lib.hid (HF1.out.trans (hb2.mono HF1.out.size)); clear hb2)
    | (go_at_call 12; refine (HLa.out _ HR.out).mono ?_; rintro e w1 ⟨rfl, hb1⟩; have HF1 := Lib.hid hb1; clear hb1)
    | (((with_reducible show wpList _ _ _ ((⟨none, Op.store _ (.tmp 1) (.tmp 6), _, _, _, _⟩ : Oper) :: _) _ _)); refine wpList_store_box rfl 29 (.tmp 1) (.tmp 6) rfl w3.heap.size (da.map bv).toArray rfl rfl 29 zs32 (TriW.made HF3.out zs32 zs32 zs32).x HS1.out HZ1.out (bv_one _) ?_; intro w4 hb4 hg4; have HT1 := Lib.hid ((TriW.made HF3.out zs32 zs32 zs32).put1 hb4 hg4); clear hb4 hg4)
    | (((with_reducible show wpList _ _ _ ((⟨none, Op.store _ (.tmp 2) (.tmp 9), _, _, _, _⟩ : Oper) :: _) _ _)); refine wpList_store_box rfl 29 (.tmp 2) (.tmp 9) rfl (w3.heap.size + 1) (db.map bv).toArray rfl rfl 29 zs32 HT1.out.y HS2.out HZ2.out (bv_one _) ?_; intro w5 hb5 hg5; have HT2 := Lib.hid (HT1.out.put2 hb5 hg5); clear hb5 hg5)
    | (((with_reducible show wpList _ _ _ ((⟨none, Op.store _ (.tmp 3) (.tmp 12), _, _, _, _⟩ : Oper) :: _) _ _)); refine wpList_store_box rfl 29 (.tmp 3) (.tmp 12) rfl (w3.heap.size + 1 + 1) (dc.map bv).toArray rfl rfl 29 zs32 HT2.out.z HS3.out HZ3.out (bv_one _) ?_; intro w6 hb6 hg6; have HT3 := Lib.hid (HT2.out.put3 hb6 hg6); clear hb6 hg6))
  simp only [Act.put]
  have HS := Lib.hid HT3.out.drew
  clear HT1 HT2 HT3 HLa HLb HLc hcv HS1 HS2 HS3 HZ1 HZ2 HZ3
  generalize w3.heap.size = b at *
  have hall : AllD [da, db, dc] := fun d hd => by
    rcases List.mem_cons.1 hd with rfl | hd
    · exact hla
    · rcases List.mem_cons.1 hd with rfl | hd
      · exact hlb
      · obtain rfl := List.mem_singleton.1 hd
        exact hlc
  have hrt := root_three da db dc
  have HRoot : Hid (∀ (w' : World) (A : Option Addr), Digs w' w'.heap.size A [da, db, dc] → Roots w' → Calls Tryd.prog 14 #[.slice A 3 3] w' fun e w'' => e = .returned (.agg ((pT (pT da db) dc).map bv).toArray) ∧ Below w'.heap.size w' w'') := by
    intro w' A hD hR
    have h := root_any [da, db, dc] A 3 w' hD (by simp) hR
    rw [hrt] at h
    exact h
  have HP1 : Hid (∀ w', Calls Tryd.prog 19 #[.agg (da.map bv).toArray, .agg (db.map bv).toArray] w' fun e w'' => e = .returned (.agg ((pT da db).map bv).toArray) ∧ Below w'.heap.size w' w'') := fun w' => rpair_any da db hla hlb w'
  have HP2 : Hid (∀ w', Calls Tryd.prog 19 #[.agg ((pT da db).map bv).toArray, .agg (dc.map bv).toArray] w' fun e w'' => e = .returned (.agg ((pT (pT da db) dc).map bv).toArray) ∧ Below w'.heap.size w' w'') := fun w' => rpair_any (pT da db) dc rfl hlc w'
  have HCK : Hid (∀ w', Roots w' → Calls Tryd.prog 18 #[.agg (dc.map bv).toArray, .agg (dc.map bv).toArray, .int .i64 0, .int .i64 1, .slice none 0 0] w' fun e w'' => e = .returned (.bool true) ∧ Below w'.heap.size w' w'') := by
    intro w' hR
    have h := check_any dc dc hlc hlc 0 1 (by decide) (by decide) [] none 0 w' (Digs.empty _ _ _) (Nat.le_refl _) hR
    rw [show checkT dc dc 0 1 [] = true by unfold checkT; rw [ends_one pT (by decide)]; simp] at h
    exact h
  have hd0 : (pT (pT da db) dc).length = 32 := rfl
  have hdm : Hid (∀ w : World, Digs (w.alloc (.cells (([da, db, dc] : List (List UInt8)).flatten.map bv).toArray 29)) (w.alloc (.cells (([da, db, dc] : List (List UInt8)).flatten.map bv).toArray 29)).heap.size (some ⟨w.heap.size, 0, none⟩) [da, db, dc]) := fun w => digs_made w hall
  have hbs : ∀ w : World, (bsAll 3 #[(0, .agg (da.map bv).toArray), (1, .agg (db.map bv).toArray), (2, .agg (dc.map bv).toArray)]).run Tryd.prog w = .ok (.slice (some ⟨w.heap.size, 0, none⟩) 3 3) (w.alloc (.cells (([da, db, dc] : List (List UInt8)).flatten.map bv).toArray 29)) := fun w => build_digs [da, db, dc] hall (by simp) (by simp) w
  generalize (([da, db, dc] : List (List UInt8)).flatten.map bv).toArray = X at *
  generalize pT (pT da db) dc = dd at *
  generalize pT da db = dab at *
  have hde : ∀ w, (Op.equalIn 10000 29 (.agg (dd.map bv).toArray) (.agg (dd.map bv).toArray)).run Tryd.prog w = .ok true w := fun w => by
    rw [dig_eq _ _ hd0 hd0 w]
    simp
  have hn1 := dig_list da hla
  have hn2 := dig_list db hlb
  have hn3 := dig_list dc hlc
  have hund := Tryd.underlying29
  have HDM0 : Hid (Digs (w6.drew.alloc (.cells X 29)) (w6.drew.alloc (.cells X 29)).heap.size (some ⟨w6.heap.size, 0, none⟩) [da, db, dc]) := hdm.out w6.drew
  clear hall hrt hd0
  refine wp_region_held_drew (S := TriW w b (da.map bv).toArray (db.map bv).toArray (dc.map bv).toArray) (by kernel_rfl) HS.out (fun hHeld => ?_)
  clear HS HDM0
  generalize w6.drew = w9 at *
  refine wpAnyH_take (i := 0) (v := .agg (da.map bv).toArray) rfl (by kernel_rfl) (by kernel_rfl) (by kernel_rfl) (fun _ _ _ h => h) (yieldsIf_load_mid (by rfl) 29 (.tmp 1) rfl b 0 rfl (da.map bv) _ (fun _ h => h.x.range) hund rfl hn1) hHeld ?_
  simp only [Act.put, List.setIfInBounds_toArray]
  refine wpAnyH_take (i := 1) (v := .agg (db.map bv).toArray) rfl (by kernel_rfl) (by kernel_rfl) (by kernel_rfl) (fun _ _ _ h => h) (yieldsIf_load_mid (by rfl) 29 (.tmp 2) rfl (b + 1) 0 rfl (db.map bv) _ (fun _ h => h.y.range) hund rfl hn2) hHeld ?_
  simp only [Act.put]
  refine wpAnyH_take (i := 2) (v := .agg (dc.map bv).toArray) rfl (by kernel_rfl) (by kernel_rfl) (by kernel_rfl) (fun _ _ _ h => h) (yieldsIf_load_mid (by rfl) 29 (.tmp 3) rfl (b + 1 + 1) 0 rfl (dc.map bv) _ (fun _ h => h.z.range) hund rfl hn3) hHeld ?_
  simp only [Act.put]
  refine wpAnyH_take (i := 5) (v := .agg (da.map bv).toArray) rfl (by kernel_rfl) (by kernel_rfl) (by kernel_rfl) (fun _ _ _ h => h) (yieldsIf_load_mid (by rfl) 29 (.tmp 1) rfl b 0 rfl (da.map bv) _ (fun _ h => h.x.range) hund rfl hn1) hHeld ?_
  simp only [Act.put]
  refine wpAnyH_take (i := 6) (v := .agg (db.map bv).toArray) rfl (by kernel_rfl) (by kernel_rfl) (by kernel_rfl) (fun _ _ _ h => h) (yieldsIf_load_mid (by rfl) 29 (.tmp 2) rfl (b + 1) 0 rfl (db.map bv) _ (fun _ h => h.y.range) hund rfl hn2) hHeld ?_
  simp only [Act.put]
  refine wpAnyH_take (i := 8) (v := .agg (dc.map bv).toArray) rfl (by kernel_rfl) (by kernel_rfl) (by kernel_rfl) (fun _ _ _ h => h) (yieldsIf_load_mid (by rfl) 29 (.tmp 3) rfl (b + 1 + 1) 0 rfl (dc.map bv) _ (fun _ h => h.z.range) hund rfl hn3) hHeld ?_
  simp only [Act.put]
  all_goals (first | (refine wpAnyH_ready (rs := [3, 7]) (by decide +kernel) (by simp) (AllReadyH.cons rfl (fun K hK => ?_) (AllReadyH.cons rfl (fun K hK => ?_) AllReadyH.nil))) | (refine wpAnyH_ready (rs := [4, 7]) (by decide +kernel) (by simp) (AllReadyH.cons rfl (fun K hK => ?_) (AllReadyH.cons rfl (fun K hK => ?_) AllReadyH.nil))) | (refine wpAnyH_ready (rs := [3, 9]) (by decide +kernel) (by simp) (AllReadyH.cons rfl (fun K hK => ?_) (AllReadyH.cons rfl (fun K hK => ?_) AllReadyH.nil))) | (refine wpAnyH_ready (rs := [4, 9]) (by decide +kernel) (by simp) (AllReadyH.cons rfl (fun K hK => ?_) (AllReadyH.cons rfl (fun K hK => ?_) AllReadyH.nil))) | (refine wpAnyH_ready (rs := [7]) (by decide +kernel) (by simp) (AllReadyH.cons rfl (fun K hK => ?_) AllReadyH.nil)) | (refine wpAnyH_ready (rs := [9]) (by decide +kernel) (by simp) (AllReadyH.cons rfl (fun K hK => ?_) AllReadyH.nil)) | (refine wpAnyH_ready (rs := [3]) (by decide +kernel) (by simp) (AllReadyH.cons rfl (fun K hK => ?_) AllReadyH.nil)) | (refine wpAnyH_ready (rs := [4]) (by decide +kernel) (by simp) (AllReadyH.cons rfl (fun K hK => ?_) AllReadyH.nil)))
  all_goals go_simp
  all_goals (first
    | (go_at_call 19; (first | (with_reducible refine (HP1.out _).mono ?_) | (with_reducible refine (HP2.out _).mono ?_)); rintro e w7 ⟨rfl, hb7⟩; (first | (with_reducible have HDS := Lib.hid (HDS.out.far hb7)) | (with_reducible have HDS := Lib.hid ((hdm.out _).far hb7)) | skip); refine hK.out _ _ (hHeld.call hb7) (fun hHeld => ?_); clear hb7)
    | (go_at_call 14; (first | (with_reducible refine (HRoot.out _ _ HDS.out (HR.out.of_below hHeld.far)).mono ?_) | (with_reducible refine (HRoot.out _ _ (hdm.out _) (HR.out.of_below hHeld.far)).mono ?_)); rintro e w7 ⟨rfl, hb7⟩; refine hK.out _ _ (hHeld.call hb7) (fun hHeld => ?_); clear hb7)
    | (with_reducible refine hK.out _ _ (hHeld.alloc _) (fun hHeld => ?_)))
  all_goals clear hK K
  all_goals (try simp only [Act.put])
  all_goals (first | (refine wpAnyH_ready (rs := [3, 7]) (by decide +kernel) (by simp) (AllReadyH.cons rfl (fun K hK => ?_) (AllReadyH.cons rfl (fun K hK => ?_) AllReadyH.nil))) | (refine wpAnyH_ready (rs := [4, 7]) (by decide +kernel) (by simp) (AllReadyH.cons rfl (fun K hK => ?_) (AllReadyH.cons rfl (fun K hK => ?_) AllReadyH.nil))) | (refine wpAnyH_ready (rs := [3, 9]) (by decide +kernel) (by simp) (AllReadyH.cons rfl (fun K hK => ?_) (AllReadyH.cons rfl (fun K hK => ?_) AllReadyH.nil))) | (refine wpAnyH_ready (rs := [4, 9]) (by decide +kernel) (by simp) (AllReadyH.cons rfl (fun K hK => ?_) (AllReadyH.cons rfl (fun K hK => ?_) AllReadyH.nil))) | (refine wpAnyH_ready (rs := [7]) (by decide +kernel) (by simp) (AllReadyH.cons rfl (fun K hK => ?_) AllReadyH.nil)) | (refine wpAnyH_ready (rs := [9]) (by decide +kernel) (by simp) (AllReadyH.cons rfl (fun K hK => ?_) AllReadyH.nil)) | (refine wpAnyH_ready (rs := [3]) (by decide +kernel) (by simp) (AllReadyH.cons rfl (fun K hK => ?_) AllReadyH.nil)) | (refine wpAnyH_ready (rs := [4]) (by decide +kernel) (by simp) (AllReadyH.cons rfl (fun K hK => ?_) AllReadyH.nil)))
  all_goals go_simp
  all_goals (first
    | (go_at_call 19; (first | (with_reducible refine (HP1.out _).mono ?_) | (with_reducible refine (HP2.out _).mono ?_)); rintro e w7 ⟨rfl, hb7⟩; (first | (with_reducible have HDS := Lib.hid (HDS.out.far hb7)) | (with_reducible have HDS := Lib.hid ((hdm.out _).far hb7)) | skip); refine hK.out _ _ (hHeld.call hb7) (fun hHeld => ?_); clear hb7)
    | (go_at_call 14; (first | (with_reducible refine (HRoot.out _ _ HDS.out (HR.out.of_below hHeld.far)).mono ?_) | (with_reducible refine (HRoot.out _ _ (hdm.out _) (HR.out.of_below hHeld.far)).mono ?_)); rintro e w7 ⟨rfl, hb7⟩; refine hK.out _ _ (hHeld.call hb7) (fun hHeld => ?_); clear hb7)
    | (with_reducible refine hK.out _ _ (hHeld.alloc _) (fun hHeld => ?_)))
  all_goals clear hK K
  all_goals (try simp only [Act.put])
  all_goals (first | (refine wpAnyH_ready (rs := [3, 7]) (by decide +kernel) (by simp) (AllReadyH.cons rfl (fun K hK => ?_) (AllReadyH.cons rfl (fun K hK => ?_) AllReadyH.nil))) | (refine wpAnyH_ready (rs := [4, 7]) (by decide +kernel) (by simp) (AllReadyH.cons rfl (fun K hK => ?_) (AllReadyH.cons rfl (fun K hK => ?_) AllReadyH.nil))) | (refine wpAnyH_ready (rs := [3, 9]) (by decide +kernel) (by simp) (AllReadyH.cons rfl (fun K hK => ?_) (AllReadyH.cons rfl (fun K hK => ?_) AllReadyH.nil))) | (refine wpAnyH_ready (rs := [4, 9]) (by decide +kernel) (by simp) (AllReadyH.cons rfl (fun K hK => ?_) (AllReadyH.cons rfl (fun K hK => ?_) AllReadyH.nil))) | (refine wpAnyH_ready (rs := [7]) (by decide +kernel) (by simp) (AllReadyH.cons rfl (fun K hK => ?_) AllReadyH.nil)) | (refine wpAnyH_ready (rs := [9]) (by decide +kernel) (by simp) (AllReadyH.cons rfl (fun K hK => ?_) AllReadyH.nil)) | (refine wpAnyH_ready (rs := [3]) (by decide +kernel) (by simp) (AllReadyH.cons rfl (fun K hK => ?_) AllReadyH.nil)) | (refine wpAnyH_ready (rs := [4]) (by decide +kernel) (by simp) (AllReadyH.cons rfl (fun K hK => ?_) AllReadyH.nil)))
  all_goals go_simp
  all_goals (first
    | (go_at_call 19; (first | (with_reducible refine (HP1.out _).mono ?_) | (with_reducible refine (HP2.out _).mono ?_)); rintro e w7 ⟨rfl, hb7⟩; (first | (with_reducible have HDS := Lib.hid (HDS.out.far hb7)) | (with_reducible have HDS := Lib.hid ((hdm.out _).far hb7)) | skip); refine hK.out _ _ (hHeld.call hb7) (fun hHeld => ?_); clear hb7)
    | (go_at_call 14; (first | (with_reducible refine (HRoot.out _ _ HDS.out (HR.out.of_below hHeld.far)).mono ?_) | (with_reducible refine (HRoot.out _ _ (hdm.out _) (HR.out.of_below hHeld.far)).mono ?_)); rintro e w7 ⟨rfl, hb7⟩; refine hK.out _ _ (hHeld.call hb7) (fun hHeld => ?_); clear hb7)
    | (with_reducible refine hK.out _ _ (hHeld.alloc _) (fun hHeld => ?_)))
  all_goals clear hK K
  all_goals (try simp only [Act.put])
  all_goals (first | (refine wpAnyH_ready (rs := [3, 7]) (by decide +kernel) (by simp) (AllReadyH.cons rfl (fun K hK => ?_) (AllReadyH.cons rfl (fun K hK => ?_) AllReadyH.nil))) | (refine wpAnyH_ready (rs := [4, 7]) (by decide +kernel) (by simp) (AllReadyH.cons rfl (fun K hK => ?_) (AllReadyH.cons rfl (fun K hK => ?_) AllReadyH.nil))) | (refine wpAnyH_ready (rs := [3, 9]) (by decide +kernel) (by simp) (AllReadyH.cons rfl (fun K hK => ?_) (AllReadyH.cons rfl (fun K hK => ?_) AllReadyH.nil))) | (refine wpAnyH_ready (rs := [4, 9]) (by decide +kernel) (by simp) (AllReadyH.cons rfl (fun K hK => ?_) (AllReadyH.cons rfl (fun K hK => ?_) AllReadyH.nil))) | (refine wpAnyH_ready (rs := [7]) (by decide +kernel) (by simp) (AllReadyH.cons rfl (fun K hK => ?_) AllReadyH.nil)) | (refine wpAnyH_ready (rs := [9]) (by decide +kernel) (by simp) (AllReadyH.cons rfl (fun K hK => ?_) AllReadyH.nil)) | (refine wpAnyH_ready (rs := [3]) (by decide +kernel) (by simp) (AllReadyH.cons rfl (fun K hK => ?_) AllReadyH.nil)) | (refine wpAnyH_ready (rs := [4]) (by decide +kernel) (by simp) (AllReadyH.cons rfl (fun K hK => ?_) AllReadyH.nil)))
  all_goals go_simp
  all_goals (first
    | (go_at_call 19; (first | (with_reducible refine (HP1.out _).mono ?_) | (with_reducible refine (HP2.out _).mono ?_)); rintro e w7 ⟨rfl, hb7⟩; (first | (with_reducible have HDS := Lib.hid (HDS.out.far hb7)) | (with_reducible have HDS := Lib.hid ((hdm.out _).far hb7)) | skip); refine hK.out _ _ (hHeld.call hb7) (fun hHeld => ?_); clear hb7)
    | (go_at_call 14; (first | (with_reducible refine (HRoot.out _ _ HDS.out (HR.out.of_below hHeld.far)).mono ?_) | (with_reducible refine (HRoot.out _ _ (hdm.out _) (HR.out.of_below hHeld.far)).mono ?_)); rintro e w7 ⟨rfl, hb7⟩; refine hK.out _ _ (hHeld.call hb7) (fun hHeld => ?_); clear hb7)
    | (with_reducible refine hK.out _ _ (hHeld.alloc _) (fun hHeld => ?_)))
  all_goals clear hK K
  all_goals (try simp only [Act.put])
  all_goals (refine wpAnyH_ready (rs := [10]) (by decide +kernel) (by simp) (AllReadyH.cons rfl (fun K hK => ?_) AllReadyH.nil))
  all_goals go_simp
  all_goals (refine hK.out _ _ hHeld (fun hHeld => ?_))
  all_goals clear hK K
  all_goals (try simp only [Act.put])
  all_goals (refine wpAnyH_ready (rs := [11]) (by decide +kernel) (by simp) (AllReadyH.cons rfl (fun K hK => ?_) AllReadyH.nil))
  all_goals go_simp
  all_goals (refine hK.out _ _ hHeld (fun hHeld => ?_))
  all_goals clear hK K
  all_goals (try simp only [Act.put])
  all_goals (refine wpAnyH_take (i := 12) (v := .agg (dc.map bv).toArray) rfl (by kernel_rfl) (by kernel_rfl) (by kernel_rfl) (fun _ _ _ h => h) (yieldsIf_load_mid (by rfl) 29 (.tmp 3) rfl (b + 1 + 1) 0 rfl (dc.map bv) _ (fun _ h => h.z.range) hund rfl hn3) hHeld ?_)
  all_goals simp only [Act.put]
  all_goals (refine wpAnyH_take (i := 13) (v := .agg (dc.map bv).toArray) rfl (by kernel_rfl) (by kernel_rfl) (by kernel_rfl) (fun _ _ _ h => h) (yieldsIf_load_mid (by rfl) 29 (.tmp 3) rfl (b + 1 + 1) 0 rfl (dc.map bv) _ (fun _ h => h.z.range) hund rfl hn3) hHeld ?_)
  all_goals simp only [Act.put]
  all_goals (refine wpAnyH_ready (rs := [14]) (by decide +kernel) (by simp) (AllReadyH.cons rfl (fun K hK => ?_) AllReadyH.nil))
  all_goals go_simp
  all_goals (go_at_call 18; (with_reducible refine (HCK.out _ (HR.out.of_below hHeld.far)).mono ?_); rintro e w8 ⟨rfl, hb8⟩; refine hK.out _ _ (hHeld.call hb8) (fun hHeld => ?_); clear hb8)
  all_goals clear hK K
  all_goals (try simp only [Act.put])
  all_goals (refine wpAnyH_ready (rs := [15]) (by decide +kernel) (by simp) (AllReadyH.cons rfl (fun K hK => ?_) AllReadyH.nil))
  all_goals go_simp
  all_goals (refine hK.out _ _ hHeld (fun hHeld => ?_))
  all_goals clear hK K
  all_goals (try simp only [Act.put])
  all_goals (refine wpAnyH_ready (rs := [16]) (by decide +kernel) (by simp) (AllReadyH.cons rfl (fun K hK => ?_) AllReadyH.nil))
  all_goals go_simp
  all_goals (refine hK.out _ _ hHeld (fun hHeld => ?_))
  all_goals clear hK K
  all_goals (try simp only [Act.put])
  all_goals (refine wpAnyH_done (by kernel_rfl) ?_ _)
  all_goals (go_wp2; go_ret; exact ⟨rfl, hHeld.far⟩)
end Go.Proofs.YtkpekglpknbodaaDoor
