/-
  A piece checked: chunk.Check, wapentakeref11.Top, wapentakeref11.Check.
  Pieces put together, on plain lists: which counts at a place, how many there are, the bytes one behind the other.
  Pieces by their places: chunk.placed.
  Pieces put together: chunk.Join.
-/
import Derived.Test.YtlogceoeodjeoaaDoorHA
import Derived.Test.YtlogceoeodjeoaaDoorTR
import Derived.Test.YtlogceoeodjeoaaDoorOC
import Derived.Lib.QuietBelow
import Derived.BigQuiet
import Derived.Deep.RegionHeld3
import Derived.Maps.Ext
import Derived.Maps.OwnSet
import Derived.Test.YtlogceoeodjeoaaDoorHE
import Derived.Lib.AppendStr
namespace Go.Proofs.YtlogceoeodjeoaaDoor
open Go.RowKit Go.Sort

set_option maxRecDepth 100000 in
theorem conv_cap (l : List UInt8) (hl : l.length ≤ 1099511627776) (w : World) : ∃ cap w', (convert 9 46 (str l)).run Tryd.prog w = .ok (.slice (some ⟨w.heap.size, 0, none⟩) l.length cap) w' ∧ l.length ≤ cap ∧ cap ≤ maxLen ∧ Sees w' w'.heap.size (some ⟨w.heap.size, 0, none⟩) (l.map bv) ∧ Below w.heap.size w w' := by
  have hr := Lib.run_convert_string_bytes (P := Tryd.prog) w 9 46 5 ⟨l.toArray⟩ Tryd.underlying9 Tryd.underlying46 Tryd.underlying5
  obtain ⟨cap, w', h1, h2, h3⟩ := conv_str l w
  have hsz : (ByteArray.mk l.toArray).size = l.length := by show l.toArray.size = _; rw [List.size_toArray]
  rw [hsz] at hr
  have e := hr.symm.trans h1
  injection e with e1 e2
  injection e1 with _ _ e3
  refine ⟨cap, w', h1, ?_, ?_, h2, h3⟩
  · rw [← e3]; exact grownCap_ge w l.length 0 _
  · rw [← e3]; exact grownCap_le_maxLen w l.length 0 _ (by unfold maxLen; omega)

/-- Is a piece one of the state of a digest? -/
def pinB (p : PcX) : Bool := decide (0 ≤ p.pos) && decide (p.pos < p.cnt)
def pcB (root : List UInt8) (p : PcX) : Bool := decide (stD p.cnt p.tree = root) && (pinB p && checkT p.tree (shaOf (0 :: p.data.data.toList)) p.pos.toNat p.cnt.toNat p.path)

attribute [local go_sem ↓] ldDigest_def stDigest_def eqDigest_def ldPc_def stPc_def

set_option maxRecDepth 100000 in
set_option maxHeartbeats 1000000 in
theorem tcheck_any (root leaf : List UInt8) (hr : root.length = 32) (hlf : leaf.length = 32) (x y : Int) (hy : y ≤ 9223372036854775807) (ps : List (List UInt8)) (A : Option Addr) (c : Nat) (w : World) (hD : Digs w w.heap.size A ps) (hcap : ps.length ≤ c) (hR : Roots w) :
    Calls Tryd.prog 18 #[.agg (root.map bv).toArray, .agg (leaf.map bv).toArray, .int .i64 x, .int .i64 y, .slice A ps.length c] w fun e w' => e = .returned (.bool ((decide (0 ≤ x) && decide (x < y)) && checkT root leaf x.toNat y.toNat ps)) ∧ Below w.heap.size w w' := by
  by_cases h : (decide (0 ≤ x) && decide (x < y)) = true
  · have h2 := h
    simp only [Bool.and_eq_true, decide_eq_true_iff] at h2
    have h3 := check_any root leaf hr hlf x.toNat y.toNat (by omega) (by omega) ps A c w hD hcap hR
    rw [show ((x.toNat : Nat) : Int) = x by omega, show ((y.toNat : Nat) : Int) = y by omega] at h3
    rw [h, Bool.true_and]
    exact h3
  · rw [Bool.not_eq_true] at h
    rw [h, Bool.false_and]
    exact check_not root leaf x y A ps.length c h w

/-- What stands while Top goes on. -/
structure TpW (w0 : World) (r : List UInt8) (w : World) : Prop where
  far : Below w0.heap.size w0 w
  box : Box w w0.heap.size 23 (r.map bv).toArray
set_option maxRecDepth 100000 in
theorem TpW.call {w0 w w' : World} {r : List UInt8} (h : TpW w0 r w) (hb : Below w.heap.size w w') : TpW w0 r w' := ⟨h.far.trans (hb.mono h.far.size), h.box.below hb h.box.lt⟩
set_option maxRecDepth 100000 in
theorem TpW.put {w0 w w' : World} {r : List UInt8} (h : TpW w0 r w) (hg : w.grownBy w' (some (w0.heap.size + 1))) : TpW w0 r w' := ⟨h.far.trans (below_only hg (by omega) h.far.size), h.box.grown hg (by simp)⟩
set_option maxRecDepth 100000 in
set_option maxHeartbeats 2000000 in
theorem rtop_any (n : Int) (hn : R64 n) {r : List UInt8} (hr : r.length = 32) (w : World) :
    Calls Tryd.prog 20 #[.int .i64 n, .agg (r.map bv).toArray] w fun e w' => e = .returned (.agg ((stD n r).map bv).toArray) ∧ Below w.heap.size w w' := by
  obtain ⟨w1, hw1⟩ : ∃ w1, w1 = (w.alloc (.cells (r.map bv).toArray 23)).alloc (.cells zs32 23) := ⟨_, rfl⟩
  have HS : Hid (Box w1 w.heap.size 23 (r.map bv).toArray) := by rw [hw1]; exact (Box.made w _ _).alloc _
  have HO : Hid (Box w1 (w.heap.size + 1) 23 zs32) := by rw [hw1]; exact Box.made_at (by simp) _ _
  have HF : Hid (Below w.heap.size w w1) := by rw [hw1]; exact ((Below.refl _ _).alloc (Nat.le_refl _) _).alloc (by simp) _
  have HD : Hid (stD n r = shaOf (stMark ++ (numBytes n ++ r))) := Lib.hid rfl
  have HDL := Lib.hid (stD_len n r)
  have HRL := Lib.hid hr
  have HN := Lib.hid (fun w' => refnum_any n hn.1 hn.2 w')
  have HG := Lib.hid (fun w' => digstr_any r hr w')
  have HNL := Lib.hid (numBytes_len n)
  generalize stD n r = d at *
  generalize numBytes n = nb at *
  have HT : Hid (∀ w', Calls Tryd.prog 43 #[.string ⟨(stMark ++ (nb ++ r)).toArray⟩] w' fun e w'' => e = .returned (.agg (d.map bv).toArray) ∧ Below w'.heap.size w' w'') := Lib.hid (fun w' => by
    rw [HD.out]
    exact text_any (stMark ++ (nb ++ r)) (by rw [List.length_append, List.length_append, HNL.out, HRL.out]; decide) w')
  have e1 : (ByteArray.mk #[115, 116, 97, 116, 101]) ++ ByteArray.mk nb.toArray = ⟨(stMark ++ nb).toArray⟩ := by
    rw [show (ByteArray.mk #[115, 116, 97, 116, 101]) = ⟨stMark.toArray⟩ from rfl, bytes_cat]
  have e2 : (ByteArray.mk (stMark ++ nb).toArray) ++ ByteArray.mk r.toArray = ⟨(stMark ++ (nb ++ r)).toArray⟩ := by rw [bytes_cat, List.append_assoc]
  have z1 : (ByteArray.mk nb.toArray).size = 8 := by show nb.toArray.size = _; rw [List.size_toArray, HNL.out]
  have z2 : (ByteArray.mk (stMark ++ nb).toArray).size = 13 := by show (stMark ++ nb).toArray.size = _; rw [List.size_toArray, List.length_append, HNL.out]; rfl
  have z3 : (ByteArray.mk r.toArray).size = 32 := by show r.toArray.size = _; rw [List.size_toArray, HRL.out]
  clear hr hn
  go_enter Tryd.func20, Tryd.ntmps20
  go_upto_region 1 with fail
  change Code.wp _ _ _ _ ((w.alloc (.cells (r.map bv).toArray 23)).alloc (.cells zs32 23))
  rw [← hw1]
  clear hw1
  have hund := Tryd.underlying23
  have hone : (Tryd.prog.info? 23).map (·.size) = some (r.map bv).length := by rw [List.length_map, HRL.out]; kernel_rfl
  have HB1 : Hid (TpW w r w1.drew) := Lib.hid ⟨HF.out.drew, HS.out⟩
  have HO1 : Hid (Box w1.drew (w.heap.size + 1) 23 zs32) := HO
  refine wp_region_held_drew (S := TpW w r) (by kernel_rfl) HB1.out (fun hS => ?_)
  clear HB1 HS HF HO
  (refine wpAnyH_take (i := 0) (v := .int .i64 n) rfl (by kernel_rfl) (by kernel_rfl) (by kernel_rfl) (fun _ _ _ h => h) (Or.inl ⟨by kernel_rfl, fun w hSw => by go_simp⟩) hS ?_)
  (try simp only [Act.put])
  (refine wpAnyH_take (i := 3) (v := .agg (r.map bv).toArray) rfl (by kernel_rfl) (by kernel_rfl) (by kernel_rfl) (fun _ _ _ h => h) (yieldsIf_load_mid (by kernel_rfl) 23 (.tmp 3) rfl w.heap.size (0) (by kernel_rfl) (r.map bv) _ (fun w h => h.box.range) hund rfl hone) hS ?_)
  (try simp only [Act.put])
  refine wpAnyH_ready (rs := [1]) (by decide +kernel) (by simp) (AllReadyH.cons rfl (fun K hK => ?_) AllReadyH.nil)
  go_simp
  (go_at_call 44; (with_reducible refine (HN.out _).mono ?_); rintro e u1 ⟨rfl, hb⟩)
  have HO2 := Lib.hid (HO1.out.below hb HO1.out.lt)
  refine hK.out _ _ (hS.call hb) (fun hS => ?_)
  clear hK K
  (try simp only [Act.put])
  clear hb
  (refine wpAnyH_take (i := 2) (v := .string ⟨(stMark ++ nb).toArray⟩) rfl (by kernel_rfl) (by kernel_rfl) (by kernel_rfl) (fun _ _ _ h => h) (Or.inl ⟨by kernel_rfl, fun w hSw => by go_simp⟩) hS ?_)
  (try simp only [Act.put])
  refine wpAnyH_ready (rs := [4]) (by decide +kernel) (by simp) (AllReadyH.cons rfl (fun K hK => ?_) AllReadyH.nil)
  go_simp
  (go_at_call 45; (with_reducible refine (HG.out _).mono ?_); rintro e u4 ⟨rfl, hb⟩)
  have HO3 := Lib.hid (HO2.out.below hb HO2.out.lt)
  refine hK.out _ _ (hS.call hb) (fun hS => ?_)
  clear hK K
  (try simp only [Act.put])
  clear hb
  (refine wpAnyH_take (i := 5) (v := .string ⟨(stMark ++ (nb ++ r)).toArray⟩) rfl (by kernel_rfl) (by kernel_rfl) (by kernel_rfl) (fun _ _ _ h => h) (Or.inl ⟨by kernel_rfl, fun w hSw => by go_simp⟩) hS ?_)
  (try simp only [Act.put])
  refine wpAnyH_ready (rs := [6]) (by decide +kernel) (by simp) (AllReadyH.cons rfl (fun K hK => ?_) AllReadyH.nil)
  go_simp
  (go_at_call 43; (with_reducible refine (HT.out _).mono ?_); rintro e u6 ⟨rfl, hb⟩)
  have HO4 := Lib.hid (HO3.out.below hb HO3.out.lt)
  refine hK.out _ _ (hS.call hb) (fun hS => ?_)
  clear hK K
  (try simp only [Act.put])
  clear hb
  refine wpAnyH_ready (rs := [7]) (by decide +kernel) (by simp) (AllReadyH.cons rfl (fun K hK => ?_) AllReadyH.nil)
  have hst := HO4.out.store_digest rfl d HDL.out
  have HB9 := Lib.hid (HO4.out.cells_dig rfl HDL.out)
  go_simp
  refine hK.out _ _ (hS.put (only_cells (d.map bv) 0 _)) (fun hS => ?_)
  clear hK K
  (try simp only [Act.put])
  refine wpAnyH_done (by kernel_rfl) ?_ _
  have HF9 := Lib.hid hS.far
  clear hst hS
  go_wp2
  exact ret_dig rfl rfl rfl HB9.out HDL.out ⟨rfl, HF9.out⟩

set_option maxRecDepth 100000 in
set_option maxHeartbeats 4000000 in
theorem pcheck_any (root : List UInt8) (hr : root.length = 32) (p : PcM) (hc : R64 p.x.cnt) (hd : p.x.data.size ≤ 1073741824) (w : World) (hP : Digs w w.heap.size p.A p.x.path) (hz : p.x.path.length ≤ p.z) (hR : Roots w):
    Calls Tryd.prog 7 #[.agg (root.map bv).toArray, .agg p.cells.toArray] w fun e w' => e = .returned (.bool (pcB root p.x)) ∧ Below w.heap.size w w' := by
  obtain ⟨w1, hw1⟩ : ∃ w1, w1 = (w.alloc (.cells (root.map bv).toArray 23)).alloc (.cells p.cells.toArray 29) := ⟨_, rfl⟩
  have HS : Hid (Box w1 w.heap.size 23 (root.map bv).toArray) := by rw [hw1]; exact (Box.made w _ _).alloc _
  have HO : Hid (Box w1 (w.heap.size + 1) 29 p.cells.toArray) := by rw [hw1]; exact Box.made_at (by simp) _ _
  have HF : Hid (Below w.heap.size w w1) := by rw [hw1]; exact ((Below.refl _ _).alloc (Nat.le_refl _) _).alloc (by simp) _
  have HD1 : Hid (∀ w', Below w1.heap.size w1 w' → Digs w' w'.heap.size p.A p.x.path) := Lib.hid (fun w' hb => (hP.far HF.out).far hb)
  have HB : Hid (pcB root p.x = (decide (stD p.x.cnt p.x.tree = root) && ((decide (0 ≤ p.x.pos) && decide (p.x.pos < p.x.cnt)) && checkT p.x.tree (shaOf (0 :: p.x.data.data.toList)) p.x.pos.toNat p.x.cnt.toNat p.x.path))) := Lib.hid (by unfold pcB pinB; rfl)
  have HDL := Lib.hid (stD_len p.x.cnt p.x.tree)
  have HTL := Lib.hid p.x.len
  have HRL := Lib.hid hr
  have HZ := Lib.hid hz
  have HCN := Lib.hid hc
  have H0 : Hid (∀ w', Below w1.heap.size w1 w' → Box w' (w.heap.size + 1) 29 p.cells.toArray) := Lib.hid (fun w' hb => HO.out.below hb HO.out.lt)
  have HC0 : Hid (∀ w', Below w1.heap.size w1 w' → w'.cell? ⟨w.heap.size + 1, 0, none⟩ = some (.int .i64 p.x.pos)) := Lib.hid (fun w' hb => (H0.out w' hb).pc0)
  have HC1 : Hid (∀ w', Below w1.heap.size w1 w' → w'.cell? ⟨w.heap.size + 1, 1, none⟩ = some (.int .i64 p.x.cnt)) := Lib.hid (fun w' hb => (H0.out w' hb).pc1)
  have HC34 : Hid (∀ w', Below w1.heap.size w1 w' → w'.cell? ⟨w.heap.size + 1, 34, none⟩ = some (.string p.x.data)) := Lib.hid (fun w' hb => (H0.out w' hb).pc34)
  have HC35 : Hid (∀ w', Below w1.heap.size w1 w' → w'.cell? ⟨w.heap.size + 1, 35, none⟩ = some (.slice p.A p.x.path.length p.z)) := Lib.hid (fun w' hb => (H0.out w' hb).pc35)
  have HT2 : Hid (∀ w', Below w1.heap.size w1 w' → w'.rangeAt (w.heap.size + 1) 2 (p.x.tree.map bv)) := Lib.hid (fun w' hb => (H0.out w' hb).pc_tree)
  have HR0 : Hid (∀ w', Below w1.heap.size w1 w' → w'.rangeAt w.heap.size 0 (root.map bv)) := Lib.hid (fun w' hb => Box.range (HS.out.below hb HS.out.lt))
  obtain ⟨dl, hdl⟩ : ∃ dl : List UInt8, p.x.data = ⟨dl.toArray⟩ := ⟨p.x.data.data.toList, by cases p.x.data; simp⟩
  have hdl2 : p.x.data.data.toList = dl := by rw [hdl]
  rw [hdl2] at HB
  rw [hdl] at HC34 hd
  have HDS : Hid (dl.length ≤ 1073741824) := Lib.hid (by have : (ByteArray.mk dl.toArray).size = dl.length := (by show dl.toArray.size = _; rw [List.size_toArray]); omega)
  have hund := Tryd.underlying23
  have hone : (Tryd.prog.info? 23).map (·.size) = some (p.x.tree.map bv).length := by rw [List.length_map, HTL.out]; kernel_rfl
  have honr : (Tryd.prog.info? 23).map (·.size) = some (root.map bv).length := by rw [List.length_map, HRL.out]; kernel_rfl
  have HQ : Hid (∀ w', (eqDigest (.agg ((stD p.x.cnt p.x.tree).map bv).toArray) (.agg (root.map bv).toArray)).run Tryd.prog w' = .ok (decide (stD p.x.cnt p.x.tree = root)) w') := Lib.hid (fun w' => eq_digest _ _ HDL.out HRL.out w')
  have HDG : Hid (∀ w', Below w1.heap.size w1 w' → Calls Tryd.prog 17 #[.int .i64 p.x.cnt, .agg (p.x.tree.map bv).toArray] w' fun e w'' => e = .returned (.agg ((stD p.x.cnt p.x.tree).map bv).toArray) ∧ Below w'.heap.size w' w'') := Lib.hid (fun w' hb => dgt_any p.x.cnt HTL.out w' (hR.of_below (HF.out.trans (hb.mono HF.out.size))))
  have HLF : Hid (∀ (w' : World) (cA : Option Addr) (cc : Nat), Below w1.heap.size w1 w' → Sees w' w'.heap.size cA (dl.map bv) → dl.length ≤ cc → cc ≤ maxLen → Calls Tryd.prog 19 #[.slice cA dl.length cc] w' fun e w'' => e = .returned (.agg ((shaOf (0 :: dl)).map bv).toArray) ∧ Below w'.heap.size w' w'') := Lib.hid (fun w' cA cc hb h1 h2 h3 => leaf_any dl cA cc w' h1 h2 h3 (by have := HDS.out; omega) (hR.of_below (HF.out.trans (hb.mono HF.out.size))))
  have HSL : Hid ((shaOf (0 :: dl)).length = 32) := Lib.hid (sha_len (0 :: dl))
  generalize shaOf (0 :: dl) = lf at *
  have HCK : Hid (∀ w', Below w1.heap.size w1 w' → Calls Tryd.prog 18 #[.agg (p.x.tree.map bv).toArray, .agg (lf.map bv).toArray, .int .i64 p.x.pos, .int .i64 p.x.cnt, .slice p.A p.x.path.length p.z] w' fun e w'' => e = .returned (.bool ((decide (0 ≤ p.x.pos) && decide (p.x.pos < p.x.cnt)) && checkT p.x.tree lf p.x.pos.toNat p.x.cnt.toNat p.x.path)) ∧ Below w'.heap.size w' w'') := Lib.hid (fun w' hb => tcheck_any p.x.tree lf HTL.out HSL.out p.x.pos p.x.cnt HCN.out.2 p.x.path p.A p.z w' (HD1.out w' hb) HZ.out (hR.of_below (HF.out.trans (hb.mono HF.out.size))))
  generalize ((decide (0 ≤ p.x.pos) && decide (p.x.pos < p.x.cnt)) && checkT p.x.tree lf p.x.pos.toNat p.x.cnt.toNat p.x.path) = ck at *
  generalize pcB root p.x = res at *
  generalize stD p.x.cnt p.x.tree = dg at *
  clear hr hc hd hP hz hR hdl hdl2 HS HO HD1
  go_enter Tryd.func7, Tryd.ntmps7
  go_upto_region 1 with fail
  change Code.wp _ _ _ _ ((w.alloc (.cells (root.map bv).toArray 23)).alloc (.cells p.cells.toArray 29))
  rw [← hw1]
  clear hw1 H0
  have HB1 : Hid (Below w1.heap.size w1 w1.drew) := (Below.refl _ _).drew
  refine wp_region_held_drew (S := fun w' => Below w1.heap.size w1 w') (by kernel_rfl) HB1.out (fun hS => ?_)
  clear HB1
  cases hb : decide (dg = root)
  · have HQ2 : Hid (∀ w', (eqDigest (.agg (dg.map bv).toArray) (.agg (root.map bv).toArray)).run Tryd.prog w' = .ok false w') := Lib.hid (fun w' => by rw [HQ.out w', hb])
    have HRS : Hid (res = false) := Lib.hid (by rw [HB.out, hb]; rfl)
    clear HQ hb HB
    (refine take_at8 (i := 0) (d := 5) (v := .pointer (some ⟨w.heap.size + 1, 1, none⟩)) rfl (by kernel_rfl) (by kernel_rfl) (by kernel_rfl) (fun _ _ _ h => h) rfl (Or.inl ⟨by kernel_rfl, fun w hSw => by go_simp⟩) hS ?_)
    (refine take_at8 (i := 1) (d := 6) (v := .int .i64 p.x.cnt) rfl (by kernel_rfl) (by kernel_rfl) (by kernel_rfl) (fun _ _ _ h => h) rfl (Or.inl ⟨by kernel_rfl, fun w hSw => by have hc := HC1.out w hSw; go_simp⟩) hS ?_)
    (refine take_at8 (i := 2) (d := 7) (v := .pointer (some ⟨w.heap.size + 1, 2, none⟩)) rfl (by kernel_rfl) (by kernel_rfl) (by kernel_rfl) (fun _ _ _ h => h) rfl (Or.inl ⟨by kernel_rfl, fun w hSw => by go_simp⟩) hS ?_)
    (refine take_at8 (i := 3) (d := 8) (v := .agg (p.x.tree.map bv).toArray) rfl (by kernel_rfl) (by kernel_rfl) (by kernel_rfl) (fun _ _ _ h => h) rfl (yieldsIf_load_mid (by kernel_rfl) 23 (.tmp 7) rfl (w.heap.size + 1) (2) (by kernel_rfl) (p.x.tree.map bv) _ (fun w h => HT2.out w h) hund rfl hone) hS ?_)
    (refine take_at8 (i := 5) (d := 10) (v := .agg (root.map bv).toArray) rfl (by kernel_rfl) (by kernel_rfl) (by kernel_rfl) (fun _ _ _ h => h) rfl (yieldsIf_load_mid (by kernel_rfl) 23 (.tmp 2) rfl w.heap.size (0) (by kernel_rfl) (root.map bv) _ (fun w h => HR0.out w h) hund rfl honr) hS ?_)
    refine wpAnyH_ready (rs := [4]) (by decide +kernel) (by simp) (AllReadyH.cons rfl (fun K hK => ?_) AllReadyH.nil)
    go_simp
    (go_at_call 17; (with_reducible refine (HDG.out _ hS).mono ?_); rintro e u4 ⟨rfl, hb⟩)
    refine hK.out _ _ (hS.trans (hb.mono hS.size)) (fun hS => ?_)
    clear hK K
    (try simp only [Act.put])
    clear hb
    (refine take_at8 (i := 6) (d := 11) (v := .bool false) rfl (by kernel_rfl) (by kernel_rfl) (by kernel_rfl) (fun _ _ _ h => h) rfl (Or.inl ⟨by kernel_rfl, fun w hSw => by have hc := HQ2.out w; go_simp⟩) hS ?_)
    (refine take_at8 (i := 7) (d := 12) (v := .bool false) rfl (by kernel_rfl) (by kernel_rfl) (by kernel_rfl) (fun _ _ _ h => h) rfl (Or.inl ⟨by kernel_rfl, fun w hSw => by go_simp⟩) hS ?_)
    (refine take_at8 (i := 8) (d := 13) (v := undef) rfl (by kernel_rfl) (by kernel_rfl) (by kernel_rfl) (fun _ _ _ h => h) rfl (Or.inr ⟨by kernel_rfl, rfl⟩) hS ?_)
    (refine take_at8 (i := 9) (d := 14) (v := undef) rfl (by kernel_rfl) (by kernel_rfl) (by kernel_rfl) (fun _ _ _ h => h) rfl (Or.inr ⟨by kernel_rfl, rfl⟩) hS ?_)
    (refine take_at8 (i := 10) (d := 15) (v := undef) rfl (by kernel_rfl) (by kernel_rfl) (by kernel_rfl) (fun _ _ _ h => h) rfl (Or.inr ⟨by kernel_rfl, rfl⟩) hS ?_)
    (refine take_at8 (i := 11) (d := 16) (v := undef) rfl (by kernel_rfl) (by kernel_rfl) (by kernel_rfl) (fun _ _ _ h => h) rfl (Or.inr ⟨by kernel_rfl, rfl⟩) hS ?_)
    (refine take_at8 (i := 12) (d := 17) (v := undef) rfl (by kernel_rfl) (by kernel_rfl) (by kernel_rfl) (fun _ _ _ h => h) rfl (Or.inr ⟨by kernel_rfl, rfl⟩) hS ?_)
    (refine take_at8 (i := 13) (d := 18) (v := undef) rfl (by kernel_rfl) (by kernel_rfl) (by kernel_rfl) (fun _ _ _ h => h) rfl (Or.inr ⟨by kernel_rfl, rfl⟩) hS ?_)
    (refine take_at8 (i := 14) (d := 19) (v := undef) rfl (by kernel_rfl) (by kernel_rfl) (by kernel_rfl) (fun _ _ _ h => h) rfl (Or.inr ⟨by kernel_rfl, rfl⟩) hS ?_)
    (refine take_at8 (i := 15) (d := 20) (v := undef) rfl (by kernel_rfl) (by kernel_rfl) (by kernel_rfl) (fun _ _ _ h => h) rfl (Or.inr ⟨by kernel_rfl, rfl⟩) hS ?_)
    (refine take_at8 (i := 16) (d := 21) (v := undef) rfl (by kernel_rfl) (by kernel_rfl) (by kernel_rfl) (fun _ _ _ h => h) rfl (Or.inr ⟨by kernel_rfl, rfl⟩) hS ?_)
    (refine take_at8 (i := 17) (d := 22) (v := undef) rfl (by kernel_rfl) (by kernel_rfl) (by kernel_rfl) (fun _ _ _ h => h) rfl (Or.inr ⟨by kernel_rfl, rfl⟩) hS ?_)
    (refine take_at8 (i := 18) (d := 23) (v := undef) rfl (by kernel_rfl) (by kernel_rfl) (by kernel_rfl) (fun _ _ _ h => h) rfl (Or.inr ⟨by kernel_rfl, rfl⟩) hS ?_)
    (refine take_at8 (i := 19) (d := 24) (v := undef) rfl (by kernel_rfl) (by kernel_rfl) (by kernel_rfl) (fun _ _ _ h => h) rfl (Or.inr ⟨by kernel_rfl, rfl⟩) hS ?_)
    (refine take_at8 (i := 20) (d := 25) (v := undef) rfl (by kernel_rfl) (by kernel_rfl) (by kernel_rfl) (fun _ _ _ h => h) rfl (Or.inr ⟨by kernel_rfl, rfl⟩) hS ?_)
    (refine take_at8 (i := 21) (d := 26) (v := .bool false) rfl (by kernel_rfl) (by kernel_rfl) (by kernel_rfl) (fun _ _ _ h => h) rfl (Or.inl ⟨by kernel_rfl, fun w hSw => by go_simp⟩) hS ?_)
    refine wpAnyH_ready (rs := [22]) (by decide +kernel) (by simp) (AllReadyH.cons rfl (fun K hK => ?_) AllReadyH.nil)
    go_simp
    refine hK.out _ _ (hS) (fun hS => ?_)
    clear hK K
    (try simp only [Act.put])
    refine wpAnyH_done (by kernel_rfl) ?_ _
    have HFG := Lib.hid (HF.out.trans (hS.mono HF.out.size))
    clear hS
    go_simp
    go_wp2
    go_ret
    exact ⟨by rw [HRS.out]; rfl, HFG.out⟩
  · have HQ2 : Hid (∀ w', (eqDigest (.agg (dg.map bv).toArray) (.agg (root.map bv).toArray)).run Tryd.prog w' = .ok true w') := Lib.hid (fun w' => by rw [HQ.out w', hb])
    have HRS : Hid (res = ck) := Lib.hid (by rw [HB.out, hb]; rfl)
    clear HQ hb HB
    (refine take_at8 (i := 0) (d := 5) (v := .pointer (some ⟨w.heap.size + 1, 1, none⟩)) rfl (by kernel_rfl) (by kernel_rfl) (by kernel_rfl) (fun _ _ _ h => h) rfl (Or.inl ⟨by kernel_rfl, fun w hSw => by go_simp⟩) hS ?_)
    (refine take_at8 (i := 1) (d := 6) (v := .int .i64 p.x.cnt) rfl (by kernel_rfl) (by kernel_rfl) (by kernel_rfl) (fun _ _ _ h => h) rfl (Or.inl ⟨by kernel_rfl, fun w hSw => by have hc := HC1.out w hSw; go_simp⟩) hS ?_)
    (refine take_at8 (i := 2) (d := 7) (v := .pointer (some ⟨w.heap.size + 1, 2, none⟩)) rfl (by kernel_rfl) (by kernel_rfl) (by kernel_rfl) (fun _ _ _ h => h) rfl (Or.inl ⟨by kernel_rfl, fun w hSw => by go_simp⟩) hS ?_)
    (refine take_at8 (i := 3) (d := 8) (v := .agg (p.x.tree.map bv).toArray) rfl (by kernel_rfl) (by kernel_rfl) (by kernel_rfl) (fun _ _ _ h => h) rfl (yieldsIf_load_mid (by kernel_rfl) 23 (.tmp 7) rfl (w.heap.size + 1) (2) (by kernel_rfl) (p.x.tree.map bv) _ (fun w h => HT2.out w h) hund rfl hone) hS ?_)
    (refine take_at8 (i := 5) (d := 10) (v := .agg (root.map bv).toArray) rfl (by kernel_rfl) (by kernel_rfl) (by kernel_rfl) (fun _ _ _ h => h) rfl (yieldsIf_load_mid (by kernel_rfl) 23 (.tmp 2) rfl w.heap.size (0) (by kernel_rfl) (root.map bv) _ (fun w h => HR0.out w h) hund rfl honr) hS ?_)
    refine wpAnyH_ready (rs := [4]) (by decide +kernel) (by simp) (AllReadyH.cons rfl (fun K hK => ?_) AllReadyH.nil)
    go_simp
    (go_at_call 17; (with_reducible refine (HDG.out _ hS).mono ?_); rintro e u4 ⟨rfl, hb⟩)
    obtain ⟨cap, u12, hcv, hc1, hc2, hse, hb12⟩ := conv_cap dl (by have := HDS.out; omega) u4
    have HS12 := Lib.hid hse
    have HC12 : Hid (dl.length ≤ cap ∧ cap ≤ maxLen) := ⟨hc1, hc2⟩
    have HB12 := Lib.hid hb12
    clear hse hc1 hc2 hb12
    refine hK.out _ _ (hS.trans (hb.mono hS.size)) (fun hS => ?_)
    clear hK K
    (try simp only [Act.put])
    clear hb
    (refine take_at8 (i := 6) (d := 11) (v := .bool true) rfl (by kernel_rfl) (by kernel_rfl) (by kernel_rfl) (fun _ _ _ h => h) rfl (Or.inl ⟨by kernel_rfl, fun w hSw => by have hc := HQ2.out w; go_simp⟩) hS ?_)
    (refine take_at8 (i := 7) (d := 12) (v := .bool true) rfl (by kernel_rfl) (by kernel_rfl) (by kernel_rfl) (fun _ _ _ h => h) rfl (Or.inl ⟨by kernel_rfl, fun w hSw => by go_simp⟩) hS ?_)
    (refine take_at8 (i := 8) (d := 13) (v := .pointer (some ⟨w.heap.size + 1, 2, none⟩)) rfl (by kernel_rfl) (by kernel_rfl) (by kernel_rfl) (fun _ _ _ h => h) rfl (Or.inl ⟨by kernel_rfl, fun w hSw => by go_simp⟩) hS ?_)
    (refine take_at8 (i := 9) (d := 14) (v := .agg (p.x.tree.map bv).toArray) rfl (by kernel_rfl) (by kernel_rfl) (by kernel_rfl) (fun _ _ _ h => h) rfl (yieldsIf_load_mid (by kernel_rfl) 23 (.tmp 13) rfl (w.heap.size + 1) (2) (by kernel_rfl) (p.x.tree.map bv) _ (fun w h => HT2.out w h) hund rfl hone) hS ?_)
    (refine take_at8 (i := 10) (d := 15) (v := .pointer (some ⟨w.heap.size + 1, 34, none⟩)) rfl (by kernel_rfl) (by kernel_rfl) (by kernel_rfl) (fun _ _ _ h => h) rfl (Or.inl ⟨by kernel_rfl, fun w hSw => by go_simp⟩) hS ?_)
    (refine take_at8 (i := 11) (d := 16) (v := .string ⟨dl.toArray⟩) rfl (by kernel_rfl) (by kernel_rfl) (by kernel_rfl) (fun _ _ _ h => h) rfl (Or.inl ⟨by kernel_rfl, fun w hSw => by have hc := HC34.out w hSw; go_simp⟩) hS ?_)
    (refine take_at8 (i := 14) (d := 19) (v := .pointer (some ⟨w.heap.size + 1, 0, none⟩)) rfl (by kernel_rfl) (by kernel_rfl) (by kernel_rfl) (fun _ _ _ h => h) rfl (Or.inl ⟨by kernel_rfl, fun w hSw => by go_simp⟩) hS ?_)
    (refine take_at8 (i := 15) (d := 20) (v := .int .i64 p.x.pos) rfl (by kernel_rfl) (by kernel_rfl) (by kernel_rfl) (fun _ _ _ h => h) rfl (Or.inl ⟨by kernel_rfl, fun w hSw => by have hc := HC0.out w hSw; go_simp⟩) hS ?_)
    (refine take_at8 (i := 16) (d := 21) (v := .pointer (some ⟨w.heap.size + 1, 1, none⟩)) rfl (by kernel_rfl) (by kernel_rfl) (by kernel_rfl) (fun _ _ _ h => h) rfl (Or.inl ⟨by kernel_rfl, fun w hSw => by go_simp⟩) hS ?_)
    (refine take_at8 (i := 17) (d := 22) (v := .int .i64 p.x.cnt) rfl (by kernel_rfl) (by kernel_rfl) (by kernel_rfl) (fun _ _ _ h => h) rfl (Or.inl ⟨by kernel_rfl, fun w hSw => by have hc := HC1.out w hSw; go_simp⟩) hS ?_)
    (refine take_at8 (i := 18) (d := 23) (v := .pointer (some ⟨w.heap.size + 1, 35, none⟩)) rfl (by kernel_rfl) (by kernel_rfl) (by kernel_rfl) (fun _ _ _ h => h) rfl (Or.inl ⟨by kernel_rfl, fun w hSw => by go_simp⟩) hS ?_)
    (refine take_at8 (i := 19) (d := 24) (v := .slice p.A p.x.path.length p.z) rfl (by kernel_rfl) (by kernel_rfl) (by kernel_rfl) (fun _ _ _ h => h) rfl (Or.inl ⟨by kernel_rfl, fun w hSw => by have hc := HC35.out w hSw; go_simp⟩) hS ?_)
    refine wpAnyH_ready (rs := [12]) (by decide +kernel) (by simp) (AllReadyH.cons rfl (fun K hK => ?_) AllReadyH.nil)
    go_simp
    refine hK.out _ _ (hS.trans (HB12.out.mono hS.size)) (fun hS => ?_)
    clear hK K
    (try simp only [Act.put])
    refine wpAnyH_ready (rs := [13]) (by decide +kernel) (by simp) (AllReadyH.cons rfl (fun K hK => ?_) AllReadyH.nil)
    go_simp
    (go_at_call 19; (with_reducible refine (HLF.out _ (some ⟨u4.heap.size, 0, none⟩) cap hS HS12.out HC12.out.1 HC12.out.2).mono ?_); rintro e u13 ⟨rfl, hb⟩)
    refine hK.out _ _ (hS.trans (hb.mono hS.size)) (fun hS => ?_)
    clear hK K
    (try simp only [Act.put])
    clear hb
    refine wpAnyH_ready (rs := [20]) (by decide +kernel) (by simp) (AllReadyH.cons rfl (fun K hK => ?_) AllReadyH.nil)
    go_simp
    (go_at_call 18; (with_reducible refine (HCK.out _ hS).mono ?_); rintro e u20 ⟨rfl, hb⟩)
    refine hK.out _ _ (hS.trans (hb.mono hS.size)) (fun hS => ?_)
    clear hK K
    (try simp only [Act.put])
    clear hb
    (refine take_at8 (i := 21) (d := 26) (v := .bool ck) rfl (by kernel_rfl) (by kernel_rfl) (by kernel_rfl) (fun _ _ _ h => h) rfl (Or.inl ⟨by kernel_rfl, fun w hSw => by go_simp⟩) hS ?_)
    refine wpAnyH_ready (rs := [22]) (by decide +kernel) (by simp) (AllReadyH.cons rfl (fun K hK => ?_) AllReadyH.nil)
    go_simp
    refine hK.out _ _ (hS) (fun hS => ?_)
    clear hK K
    (try simp only [Act.put])
    refine wpAnyH_done (by kernel_rfl) ?_ _
    have HFG := Lib.hid (HF.out.trans (hS.mono HF.out.size))
    clear hS
    go_simp
    go_wp2
    go_ret
    exact ⟨by rw [HRS.out]; rfl, HFG.out⟩
end Go.Proofs.YtlogceoeodjeoaaDoor

namespace Go.Proofs.YtlogceoeodjeoaaDoor
open Go.RowKit Go.Maps

/-- The last one of a place that is one of the digest's; the last one's number; behind a list's first pieces. -/
def lastM (root : List UInt8) : List PcM → Int → Option PcM
  | [], _ => none
  | p :: L, i => match lastM root L i with
    | some q => some q
    | none => if pcB root p.x && decide (p.x.pos = i) then some p else none
set_option maxRecDepth 100000 in
theorem lastM_snoc (root : List UInt8) (p : PcM) (i : Int) : ∀ L : List PcM, lastM root (L ++ [p]) i = if pcB root p.x && decide (p.x.pos = i) then some p else lastM root L i
  | [] => by
    rw [List.nil_append]
    unfold lastM
    show (match lastM root [] i with | some q => some q | none => _) = _
    unfold lastM
    rfl
  | q :: L => by
    rw [List.cons_append]
    conv => lhs; unfold lastM
    rw [lastM_snoc root p i L]
    conv => rhs; unfold lastM
    cases h : (pcB root p.x && decide (p.x.pos = i))
    · rfl
    · rfl
def cntF (root : List UInt8) (L : List PcM) : Int := L.foldl (fun c p => if pcB root p.x then p.x.cnt else c) 0
set_option maxRecDepth 100000 in
theorem cntF_nil (root : List UInt8) : cntF root [] = 0 := rfl
set_option maxRecDepth 100000 in
theorem cntF_snoc (root : List UInt8) (L : List PcM) (p : PcM) : cntF root (L ++ [p]) = if pcB root p.x then p.x.cnt else cntF root L := by unfold cntF; rw [List.foldl_append]; rfl
set_option maxRecDepth 100000 in
theorem pcB_in {root : List UInt8} {p : PcX} (h : pcB root p = true) : 0 ≤ p.pos ∧ p.pos < p.cnt := by
  unfold pcB pinB at h
  simp only [Bool.and_eq_true, decide_eq_true_iff] at h
  exact h.2.1
/-- The bytes at a place. -/
def datL (p : PcM) : List UInt8 := p.x.data.data.toList
def datF (root : List UInt8) (L : List PcM) (i : Nat) : List UInt8 := ((lastM root L (i : Int)).map datL).getD []
def hasF (root : List UInt8) (L : List PcM) (i : Nat) : Bool := (lastM root L (i : Int)).isSome
def catF (root : List UInt8) (L : List PcM) : Nat → List UInt8
  | 0 => []
  | k + 1 => catF root L k ++ datF root L k
def allF (root : List UInt8) (L : List PcM) (k : Nat) : Prop := ∀ i, i < k → hasF root L i = true
def nHas (root : List UInt8) (L : List PcM) : Nat → Nat
  | 0 => 0
  | k + 1 => nHas root L k + (if hasF root L k then 1 else 0)
def totL (L : List PcM) : Nat := (L.map (fun p => (datL p).length)).sum
set_option maxRecDepth 100000 in
theorem lastM_other {root : List UInt8} {L : List PcM} {p : PcM} {i : Int} (h : p.x.pos ≠ i) : lastM root (L ++ [p]) i = lastM root L i := by
  rw [lastM_snoc, decide_eq_false h]
  simp
set_option maxRecDepth 100000 in
theorem cat_nil (root : List UInt8) : ∀ k, (catF root [] k).length = 0 ∧ nHas root [] k = 0
  | 0 => ⟨rfl, rfl⟩
  | k + 1 => by
    obtain ⟨h1, h2⟩ := cat_nil root k
    have e : lastM root [] (k : Int) = none := by unfold lastM; rfl
    refine ⟨?_, ?_⟩
    · unfold catF datF
      rw [List.length_append, h1, e]
      rfl
    · unfold nHas hasF
      rw [h2, e]
      rfl
set_option maxRecDepth 100000 in
theorem cat_same {root : List UInt8} {L : List PcM} {p : PcM} : ∀ k, (∀ i : Nat, i < k → p.x.pos ≠ (i : Int)) → (catF root (L ++ [p]) k).length = (catF root L k).length ∧ nHas root (L ++ [p]) k = nHas root L k
  | 0, _ => ⟨rfl, rfl⟩
  | k + 1, h => by
    obtain ⟨h1, h2⟩ := cat_same k (fun i hi => h i (by omega))
    have e := lastM_other (root := root) (L := L) (h k (by omega))
    unfold catF nHas
    unfold datF hasF
    rw [List.length_append, List.length_append, h1, h2, e]
    exact ⟨rfl, rfl⟩
set_option maxRecDepth 100000 in
theorem cat_step {root : List UInt8} {L : List PcM} {p : PcM} : ∀ k, (catF root (L ++ [p]) k).length ≤ (catF root L k).length + (datL p).length ∧ nHas root (L ++ [p]) k ≤ nHas root L k + 1
  | 0 => ⟨Nat.zero_le _, Nat.zero_le _⟩
  | k + 1 => by
    by_cases e : p.x.pos = (k : Int)
    · obtain ⟨h1, h2⟩ := cat_same (root := root) (L := L) (p := p) k (fun i hi h => by omega)
      unfold catF nHas
      unfold datF hasF
      rw [List.length_append, List.length_append, h1, h2, lastM_snoc, decide_eq_true e, Bool.and_true]
      cases pcB root p.x
      · simp only [Bool.false_eq_true, if_false]
        omega
      · simp only [if_true, Option.map_some, Option.getD_some, Option.isSome_some]
        omega
    · obtain ⟨h1, h2⟩ := cat_step (root := root) (L := L) (p := p) k
      have e2 := lastM_other (root := root) (L := L) e
      unfold catF nHas
      unfold datF hasF
      rw [List.length_append, List.length_append, e2]
      omega
set_option maxRecDepth 100000 in
theorem list_snoc {α : Type} {P : List α → Prop} (h0 : P []) (h1 : ∀ L x, P L → P (L ++ [x])) (L : List α) : P L := by
  have : ∀ n (L : List α), L.length = n → P L := by
    intro n
    induction n with
    | zero =>
      intro L h
      rw [List.eq_nil_of_length_eq_zero h]
      exact h0
    | succ n ih =>
      intro L h
      have hne : L ≠ [] := fun e => by rw [e] at h; cases h
      rw [← List.dropLast_concat_getLast hne]
      exact h1 _ _ (ih _ (by rw [List.length_dropLast, h]; rfl))
  exact this _ L rfl
set_option maxRecDepth 100000 in
theorem cat_le (root : List UInt8) (L : List PcM) : ∀ k, (catF root L k).length ≤ totL L ∧ nHas root L k ≤ L.length := by
  refine list_snoc (P := fun L => ∀ k, (catF root L k).length ≤ totL L ∧ nHas root L k ≤ L.length) ?_ ?_ L
  · intro k
    obtain ⟨h1, h2⟩ := cat_nil root k
    omega
  · intro L p ih k
    obtain ⟨h1, h2⟩ := cat_step (root := root) (L := L) (p := p) k
    obtain ⟨h3, h4⟩ := ih k
    have e : totL (L ++ [p]) = totL L + (datL p).length := by unfold totL; rw [List.map_append, List.sum_append]; simp
    rw [e, List.length_append, List.length_singleton]
    omega
set_option maxRecDepth 100000 in
theorem nHas_all {root : List UInt8} {L : List PcM} : ∀ k, allF root L k → nHas root L k = k
  | 0, _ => rfl
  | k + 1, h => by
    unfold nHas
    rw [nHas_all k (fun i hi => h i (by omega)), h k (by omega)]
    rfl
set_option maxRecDepth 100000 in
theorem all_le {root : List UInt8} {L : List PcM} {k : Nat} (h : allF root L k) : k ≤ L.length := by
  have h1 := nHas_all k h
  have h2 := (cat_le root L k).2
  omega
end Go.Proofs.YtlogceoeodjeoaaDoor

namespace Go.Proofs.YtlogceoeodjeoaaDoor
open Go.RowKit Go.Maps

set_option maxRecDepth 100000 in
theorem wf_int {a : Int} (h : R64 a) : (Lit.int .i64 a).wf = true := by
  obtain ⟨h1, h2⟩ := h
  have e1 : IntKind.i64.min = -9223372036854775808 := by decide
  have e2 : IntKind.i64.max = 9223372036854775807 := by decide
  simp [Lit.wf, e1, e2]
  omega
set_option maxRecDepth 100000 in
theorem ikeyed : Keyed Tryd.prog 3 := int_keyed Tryd.underlying3
set_option maxRecDepth 100000 in
theorem ikey {a : Int} (h : R64 a) : keyOf Tryd.prog 3 (.int .i64 a) = some (.int .i64 a) := keyOf_int_mk Tryd.underlying3 (wf_int h)
noncomputable def anyE (v : Value) : Option (DataW Value × List MemPlace) := some (.held v, [])
noncomputable def upPc (m k v : Value) : Sem Unit := Instr.mapUpdate 55 m k v
set_option maxRecDepth 100000 in
theorem upPc_def (m k v : Value) : Instr.mapUpdate 55 m k v = upPc m k v := rfl
noncomputable def lkPc (m k : Value) : Sem Value := Instr.lookup 55 m k true
set_option maxRecDepth 100000 in
theorem lkPc_def (m k : Value) : Instr.lookup 55 m k true = lkPc m k := rfl

/-- What memory says of a piece. -/
structure PcOk (p : PcM) : Prop where
  pos : R64 p.x.pos
  cnt : R64 p.x.cnt
  size : p.x.data.size ≤ 1073741824
  cap : p.x.path.length ≤ p.z
/-- The map in block mb has, of each place, the last piece of a list. -/
structure MapW (root : List UInt8) (mb : Nat) (L : List PcM) (w : World) : Prop where
  map : ∃ D n, w.ownsMap Tryd.prog 3 anyE mb n D ∧ n ≤ L.length ∧ ∀ i, (∀ m, lastM root L i = some m → ∀ z, D.atKey (.int .i64 i) z = .held (.agg m.cells.toArray)) ∧ (lastM root L i = none → has D (.int .i64 i) = false)
set_option maxRecDepth 100000 in
theorem MapW.call {root : List UInt8} {mb : Nat} {L : List PcM} {w w' : World} (h : MapW root mb L w) (hb : Below w.heap.size w w') : MapW root mb L w' := by
  obtain ⟨D, n, h1, h2, h3⟩ := h.map
  exact ⟨D, n, h1.kept (only_below hb none) (by simp), h2, h3⟩
set_option maxRecDepth 100000 in
theorem MapW.lt {root : List UInt8} {mb : Nat} {L : List PcM} {w : World} (h : MapW root mb L w) : mb < w.heap.size := by
  obtain ⟨D, n, h1, _⟩ := h.map
  exact h1.lt
set_option maxRecDepth 100000 in
theorem MapW.ne {root : List UInt8} {mb g : Nat} {t : TypeId} {cs : Array Value} {L : List PcM} {w : World} (h : MapW root mb L w) (hb : Box w g t cs) : g ≠ mb := by
  obtain ⟨D, n, ⟨es, clock, h1, _⟩, _⟩ := h.map
  intro e
  subst e
  unfold Box at hb
  rw [hb] at h1
  cases h1
set_option maxRecDepth 100000 in
theorem MapW.new (root : List UInt8) (w : World) : MapW root w.heap.size [] (w.alloc (.map #[] 0)) :=
  ⟨.map [], 0, World.ownsMap_made w _ _ _, Nat.le_refl _, fun i => ⟨fun m hm => (by unfold lastM at hm; cases hm), fun _ => rfl⟩⟩
set_option maxRecDepth 100000 in
/-- A piece that doesn't count. -/
theorem MapW.skip {root : List UInt8} {mb : Nat} {L : List PcM} {p : PcM} {w : World} (h : MapW root mb L w) (hp : pcB root p.x = false) : MapW root mb (L ++ [p]) w := by
  obtain ⟨D, n, h1, h2, h3⟩ := h.map
  refine ⟨D, n, h1, by rw [List.length_append]; omega, fun i => ?_⟩
  rw [lastM_snoc, hp, Bool.false_and]
  exact h3 i
set_option maxRecDepth 100000 in
theorem MapW.put {root : List UInt8} {mb : Nat} {L : List PcM} {p : PcM} {w : World} (h : MapW root mb L w) (hp : pcB root p.x = true) (ho : R64 p.x.pos) (hl : L.length < maxLen) :
    ∃ w', (upPc (.map (some mb)) (.int .i64 p.x.pos) (.agg p.cells.toArray)).run Tryd.prog w = .ok () w' ∧ MapW root mb (L ++ [p]) w' ∧ w.grownBy w' (some mb) := by
  obtain ⟨D, n, h1, h2, h3⟩ := h.map
  obtain ⟨w', hr, h4, h5⟩ := h1.store ikeyed Tryd.underlying55 (by omega) (ikey ho) (val := .agg p.cells.toArray) (d := .held (.agg p.cells.toArray)) (ps := []) rfl
  refine ⟨w', hr, ⟨_, _, h4, by rw [List.length_append, List.length_singleton]; omega, fun i => ?_⟩, h5.grown⟩
  rw [lastM_snoc, hp, Bool.true_and]
  by_cases e : p.x.pos = i
  · rw [decide_eq_true e, if_pos rfl, ← e]
    refine ⟨fun m hm z => ?_, fun hm => by cases hm⟩
    injection hm with hm
    subst hm
    exact atKey_put_same h1.isMap (show WideAt.IsKeyLit (.int .i64 p.x.pos) from trivial) _ z
  · rw [decide_eq_false e, if_neg (by simp)]
    have hne : (Lit.int .i64 i) ≠ .int .i64 p.x.pos := fun h => by injection h with _ h; exact e h.symm
    exact ⟨fun m hm z => by rw [atKey_put_other hne]; exact (h3 i).1 m hm z, fun hm => by rw [has_put_other hne]; exact (h3 i).2 hm⟩
set_option maxRecDepth 100000 in
theorem zero_pc (w : World) : (zeroValue 29).run Tryd.prog w = .ok (.agg zpcV) w := by kernel_rfl
set_option maxRecDepth 100000 in
theorem MapW.look {root : List UInt8} {mb : Nat} {L : List PcM} {w : World} (h : MapW root mb L w) {i : Int} (hi : R64 i) : (lkPc (.map (some mb)) (.int .i64 i)).run Tryd.prog w = .ok (.tuple #[.agg ((lastM root L i).getD zpc).cells.toArray, .bool (lastM root L i).isSome]) w := by
  obtain ⟨D, n, h1, _, h3⟩ := h.map
  obtain ⟨v, ps, hr, hv⟩ := h1.look_ok ikeyed Tryd.underlying55 (zero_pc w) (zd := .held (.agg zpcV)) (zp := []) rfl (ikey hi)
  obtain ⟨h4, h5⟩ := h3 i
  cases e : lastM root L i with
  | some m =>
    have h6 := h4 m e
    rw [has_true_of_atKey h6] at hr
    rw [h6] at hv
    obtain rfl : v = .agg m.cells.toArray := by
      simp only [anyE, Option.some.injEq, Prod.mk.injEq, DataW.held.injEq] at hv
      exact hv.1
    exact hr
  | none =>
    have h6 := h5 e
    rw [h6] at hr
    rw [atKey_of_not_has h6] at hv
    obtain rfl : v = .agg zpcV := by
      simp only [anyE, Option.some.injEq, Prod.mk.injEq, DataW.held.injEq] at hv
      exact hv.1
    exact hr

attribute [local go_sem ↓] ldDigest_def stDigest_def ldPc_def stPc_def upPc_def
set_option maxRecDepth 100000 in
set_option maxHeartbeats 4000000 in
theorem placedm_any (root : List UInt8) (hr : root.length = 32) (ps : List PcM) (A : Option Addr) (c : Nat) (hn : ps.length ≤ 1073741824) (w : World) (hP : PcsSee w w.heap.size A ps) (hok : ∀ p ∈ ps, PcOk p) (hR : Roots w) :
    Calls Tryd.prog 23 #[.agg (root.map bv).toArray, .slice A ps.length c] w fun e w' => ∃ mb, e = .returned (.tuple #[.map (some mb), .int .i64 (cntF root ps)]) ∧ MapW root mb ps w' ∧ Below w.heap.size w w' := by
  obtain ⟨w1, hw1⟩ : ∃ w1, w1 = w.alloc (.cells (root.map bv).toArray 23) := ⟨_, rfl⟩
  have HS : Hid (Box w1 w.heap.size 23 (root.map bv).toArray) := by rw [hw1]; exact Box.made _ _ _
  have HF : Hid (Below w.heap.size w w1) := by rw [hw1]; exact (Below.refl _ _).alloc (Nat.le_refl _) _
  have HP := Lib.hid (hP.far HF.out)
  have HOK := Lib.hid hok
  have HRL := Lib.hid hr
  have HN := Lib.hid hn
  have HRW : Hid (∀ w', Below w1.heap.size w1 w' → Roots w') := Lib.hid (fun w' hb => hR.of_below (HF.out.trans (hb.mono HF.out.size)))
  have hmm := @run_makeMap Tryd.prog
  clear hr hn hP hok hR
  go_enter Tryd.func23, Tryd.ntmps23
  go_upto_region 1 with fail
  change Code.wp _ _ _ _ (w.alloc (.cells (root.map bv).toArray 23))
  rw [← hw1]
  clear hw1
  have HM2 := Lib.hid (MapW.new root w1)
  have HB2 : Hid (Below w1.heap.size w1 (w1.alloc (.map #[] 0))) := (Below.refl _ _).alloc (Nat.le_refl _) _
  go_upto_region 2 with fail
  clear hmm
  generalize w1.alloc (.map #[] 0) = w2 at *
  have HMB : Hid (w1.heap.size = w1.heap.size) := Lib.hid rfl
  clear HMB
  go_upto_region 3 with fail
  go_loopw [7, 13] (fun n i wr => ∃ (k : Nat) (x : Int), k ≤ ps.length ∧ n = .int .i64 x ∧ i = .int .i64 (k : Int) ∧ Hid (x = cntF root (ps.take k)) ∧ Hid (MapW root w1.heap.size (ps.take k) wr) ∧ Hid (Below w1.heap.size w1 wr)) (fun _ i _ => ps.length - (intOf i).toNat)
  case atStart => exact ⟨0, 0, Nat.zero_le _, rfl, rfl, Lib.hid rfl, HM2, HB2⟩
  case round =>
    clear HM2 HB2
    obtain ⟨k, x, hk, rfl, rfl, HX, HM, HB⟩ := hrel
    by_cases hlt : k < ps.length
    · have HLT := Lib.hid hlt
      obtain ⟨g, o, hA, _, hr⟩ := EK.See.range (EK.See.far HP.out.see HB.out) hlt
      have lk : (ldPc (.pointer (some ⟨g, o + k * 36, none⟩))).run Tryd.prog wr = .ok (.agg (ps[k]'hlt).cells.toArray) wr := range_pc (hr k hlt)
      obtain ⟨w3, hst0, hb3, hbl3⟩ := laid_pc wr (ps[k]'hlt)
      have hst := hst0
      unfold zpcV at hst
      have HM3 := Lib.hid (HM.out.call hbl3)
      have HB3 := Lib.hid (HB.out.trans (hbl3.mono HB.out.size))
      have HQ3 := Lib.hid hb3
      have ls : (ldDigest (.pointer (some ⟨w.heap.size, 0, none⟩))).run Tryd.prog w3 = .ok (.agg (root.map bv).toArray) w3 := range_load (HS.out.below HB3.out HS.out.lt).range HRL.out
      have lp : (ldPc (.pointer (some ⟨wr.heap.size, 0, none⟩))).run Tryd.prog w3 = .ok (.agg (ps[k]'hlt).cells.toArray) w3 := hb3.ld_pc
      have HPO := Lib.hid (HOK.out _ (List.getElem_mem hlt))
      have HCK := Lib.hid (pcheck_any root HRL.out (ps[k]'hlt) HPO.out.cnt HPO.out.size w3 ((HP.out.paths _ (List.getElem_mem hlt)).far HB3.out) HPO.out.cap (HRW.out w3 HB3.out))
      have HTK : Hid (ps.take (k + 1) = ps.take k ++ [ps[k]'hlt]) := Lib.hid (List.take_succ_eq_append_getElem hlt)
      have HLK : Hid ((ps.take k).length < maxLen) := Lib.hid (by rw [List.length_take]; have := HN.out; unfold maxLen; omega)
      rw [hA]
      have i1 : (k : Int) < (ps.length : Int) := by omega
      have i0 : (0 : Int) ≤ (k : Int) := by omega
      have wk : IntKind.i64.wrap ((k : Int) + 1) = ((k + 1 : Nat) : Int) := by rw [IntKind.wrap_i64]; have := HN.out; omega
      generalize ps[k]'hlt = m at *
      obtain ⟨b, hb⟩ : ∃ b, pcB root m.x = b := ⟨_, rfl⟩
      rw [hb] at HCK
      have HPB := Lib.hid hb
      clear hr hst0 hb3 hbl3 hb
      cases b with
      | false =>
        have HX2 : Hid (x = cntF root (ps.take (k + 1))) := Lib.hid (by rw [HTK.out, cntF_snoc, HPB.out, HX.out]; rfl)
        go_wp2_with (go_at_call 7; (with_reducible refine (HCK.out).mono ?_); rintro e w4 ⟨rfl, hb4⟩; have HM4 : Hid (MapW root w1.heap.size (ps.take (k + 1)) w4) := Lib.hid (by rw [HTK.out]; exact (HM3.out.call hb4).skip HPB.out); have HB4 := Lib.hid (HB3.out.trans (hb4.mono HB3.out.size)); clear hb4)
        go_roundw
        case rel => exact ⟨k + 1, _, HLT.out, rfl, by go_num, HX2, HM4, HB4⟩
        case measure => have := HLT.out; simp [intOf]; omega
      | true =>
        have HX2 : Hid (m.x.cnt = cntF root (ps.take (k + 1))) := Lib.hid (by rw [HTK.out, cntF_snoc, HPB.out]; rfl)
        go_upto_region 6 with (go_at_call 7; (with_reducible refine (HCK.out).mono ?_); rintro e w4 ⟨rfl, hb4⟩; have HM4 := Lib.hid (HM3.out.call hb4); have HB4 := Lib.hid (HB3.out.trans (hb4.mono HB3.out.size)); have HQ4 := Lib.hid (HQ3.out.below hb4 HQ3.out.lt); clear hb4)
        clear HCK HM3 HB3 HQ3 HM HB lk ls lp hst HX
        generalize wr.heap.size = q at *
        have HB5 : Hid (Below w1.heap.size w1 w4.drew) := Lib.hid HB4.out.drew
        have HM5 : Hid (MapW root w1.heap.size (ps.take k) w4.drew) := Lib.hid (HM4.out.call (Below.refl _ _).drew)
        have HQ5 : Hid (Box w4.drew q 29 m.cells.toArray) := HQ4
        obtain ⟨w6, hup, hm6, hg6⟩ := HM5.out.put HPB.out HPO.out.pos HLK.out
        have HM6 : Hid (MapW root w1.heap.size (ps.take (k + 1)) w6) := Lib.hid (by rw [HTK.out]; exact hm6)
        have HB6 : Hid (Below w1.heap.size w1 w6) := Lib.hid (HB5.out.trans (below_only hg6 (Nat.le_refl _) HB5.out.size))
        have HQ6 : Hid (Box w6 q 29 m.cells.toArray) := Lib.hid (HQ5.out.grown hg6 (by intro e; injection e with e; exact HM5.out.ne HQ5.out e))
        clear hm6 hg6 HM4 HB4 HQ4 HB5 HM5
        have hone := m.size
        have hund := Tryd.underlying29
        refine wp_region_held_drew (S := fun w' => Box w' q 29 m.cells.toArray) (by kernel_rfl) HQ5.out (fun hS => ?_)
        (refine take_at8 (i := 0) (d := 20) (v := .map (some w1.heap.size)) rfl (by kernel_rfl) (by kernel_rfl) (by kernel_rfl) (fun _ _ _ h => h) rfl (Or.inl ⟨by kernel_rfl, fun w hSw => by go_simp⟩) hS ?_)
        (refine take_at8 (i := 1) (d := 21) (v := .pointer (some ⟨q, 0, none⟩)) rfl (by kernel_rfl) (by kernel_rfl) (by kernel_rfl) (fun _ _ _ h => h) rfl (Or.inl ⟨by kernel_rfl, fun w hSw => by go_simp⟩) hS ?_)
        (refine take_at8 (i := 2) (d := 22) (v := .int .i64 m.x.pos) rfl (by kernel_rfl) (by kernel_rfl) (by kernel_rfl) (fun _ _ _ h => h) rfl (Or.inl ⟨by kernel_rfl, fun w hSw => by have hc := hSw.pc0; go_simp⟩) hS ?_)
        (refine take_at8 (i := 3) (d := 23) (v := .agg m.cells.toArray) rfl (by kernel_rfl) (by kernel_rfl) (by kernel_rfl) (fun _ _ _ h => h) rfl (yieldsIf_load_mid (by kernel_rfl) 29 (.tmp 9) rfl q (0) (by kernel_rfl) (m.cells) _ (fun w h => h.range) hund rfl hone) hS ?_)
        (refine take_at8 (i := 4) (d := 24) (v := .pointer (some ⟨q, 1, none⟩)) rfl (by kernel_rfl) (by kernel_rfl) (by kernel_rfl) (fun _ _ _ h => h) rfl (Or.inl ⟨by kernel_rfl, fun w hSw => by go_simp⟩) hS ?_)
        (refine take_at8 (i := 5) (d := 25) (v := .int .i64 m.x.cnt) rfl (by kernel_rfl) (by kernel_rfl) (by kernel_rfl) (fun _ _ _ h => h) rfl (Or.inl ⟨by kernel_rfl, fun w hSw => by have hc := hSw.pc1; go_simp⟩) hS ?_)
        refine wpAnyH_ready (rs := [6]) (by decide +kernel) (by simp) (AllReadyH.cons rfl (fun K hK => ?_) AllReadyH.nil)
        go_simp
        refine hK.out _ _ (HQ6.out) (fun hS => ?_)
        clear hK K
        (try simp only [Act.put])
        refine wpAnyH_ready (rs := [7]) (by decide +kernel) (by simp) (AllReadyH.cons rfl (fun K hK => ?_) AllReadyH.nil)
        go_simp
        refine hK.out _ _ (hS) (fun hS => ?_)
        clear hK K
        (try simp only [Act.put])
        refine wpAnyH_done (by kernel_rfl) ?_ _
        clear hup hS HQ5 HQ6
        go_simp
        go_wp2
        go_roundw
        case rel => exact ⟨k + 1, _, HLT.out, rfl, by go_num, HX2, HM6, HB6⟩
        case measure => have := HLT.out; simp [intOf]; omega
    · have i1 : ¬ (k : Int) < (ps.length : Int) := by omega
      have hke : k = ps.length := by omega
      subst hke
      rw [List.take_length] at HX HM
      clear hk hlt
      go_wp2
      go_ret2
      exact ⟨w1.heap.size, by rw [← HX.out]; rfl, HM.out, HF.out.trans (HB.out.mono HF.out.size)⟩
end Go.Proofs.YtlogceoeodjeoaaDoor

namespace Go.Proofs.YtlogceoeodjeoaaDoor
open Go.RowKit Go.Maps

set_option maxRecDepth 100000 in
theorem cntF_in (root : List UInt8) (L : List PcM) (h : ∀ p ∈ L, R64 p.x.cnt) : 0 ≤ cntF root L ∧ cntF root L ≤ 9223372036854775807 := by
  revert h
  refine list_snoc (P := fun L => (∀ p ∈ L, R64 p.x.cnt) → 0 ≤ cntF root L ∧ cntF root L ≤ 9223372036854775807) ?_ ?_ L
  · intro _
    rw [cntF_nil]
    omega
  · intro L p ih h
    rw [cntF_snoc]
    have h1 := h p (by simp)
    have h2 := ih (fun q hq => h q (by simp [hq]))
    cases hb : pcB root p.x
    · rw [if_neg (by simp)]
      exact h2
    · rw [if_pos rfl]
      have h3 := pcB_in hb
      have h4 := h1.2
      omega
set_option maxRecDepth 100000 in
theorem MapW.turn {root : List UInt8} {mb : Nat} {L : List PcM} {w w' : World} {row : Option Nat} (h : MapW root mb L w) (hg : w.grownBy w' row) (hne : some mb ≠ row) : MapW root mb L w' := by
  obtain ⟨D, n, h1, h2, h3⟩ := h.map
  exact ⟨D, n, h1.kept hg hne, h2, h3⟩
set_option maxRecDepth 100000 in
/-- A row of bytes that grows by a text. -/
theorem push_text {w : World} {base : Nat} {v : Value} {xs : List UInt8} (hown : w.ownsRow base 5 1 v xs.length (xs.map bv)) (dl : List UInt8) (hl : xs.length + dl.length ≤ 1099511627776) (hbase : base ≤ w.heap.size) :
    ∃ v' w', (apAll #[46, 9] 46 #[v, str dl]).run Tryd.prog w = .ok v' w' ∧ w'.ownsRow base 5 1 v' (xs ++ dl).length ((xs ++ dl).map bv) ∧ w.grownBy w' v.ownBlock := by
  obtain ⟨i0, hi0, hz0, hz1, hz2⟩ := info_parts wr_byte_info
  have hsz : (ByteArray.mk dl.toArray).size = dl.length := by show dl.toArray.size = _; rw [List.size_toArray]
  obtain ⟨v', w', hr, ho, hg, _⟩ := Lib.run_append_own_string (P := Tryd.prog) w base 46 9 46 5 i0 Tryd.underlying46 Tryd.underlying9 hi0 hz0 hz1 hz2 v _ _ hown ⟨dl.toArray⟩ (by rw [hsz]; unfold maxLen; omega) (by rw [hsz]; omega) hbase
  refine ⟨v', w', hr, ?_, hg⟩
  rw [hsz] at ho
  rw [List.length_append, List.map_append]
  exact ho

/-! ### A state's rows lie in no state's box -/
set_option maxRecDepth 100000 in
theorem sees_off {w w' : World} {B B' g : Nat} {t : TypeId} {A : Option Addr} {xs : List Value} (pn rn mn : Nat) (pA rA mA : Option Addr) (pc rc mc : Nat) (ep : Int) (hX : Box w g t (stV pA pn pc rA rn rc ep mA mn mc)) (h : Sees w B A xs)
    (hno : xs = [] ∨ (∃ s, xs[0]? = some (.string s)) ∨ (∃ k a k' b, xs[0]? = some (.int k a) ∧ xs[1]? = some (.int k' b))) (hg : w.grownBy w' (some g)) (hB : B ≤ B') : Sees w' B' A xs := by
  rcases h with h | ⟨b, o, rfl, hb, hc⟩
  · exact .inl h
  · refine .inr ⟨b, o, rfl, Nat.lt_of_lt_of_le hb hB, fun j u hu => hg.cell (hc j u hu) ?_⟩
    intro e
    injection e with e
    have e : b = g := e
    subst e
    rcases hno with rfl | ⟨s, h0⟩ | ⟨k, a, k', b', h0, h1⟩
    · cases hu
    · have h2 := hc 0 _ h0
      rw [hX.cell] at h2
      rcases o with _ | _ | _ | _ | o <;> simp [stV] at h2
    · have h2 := hc 0 _ h0
      have h3 := hc 1 _ h1
      rw [hX.cell] at h2 h3
      rcases o with _ | _ | _ | _ | o <;> simp [stV] at h2 h3
set_option maxRecDepth 100000 in
theorem flat_cons (α : Type) (K : EK α) (x : α) (xs : List α) : K.flat (x :: xs) = K.enc x ++ K.flat xs := by
  exact List.flatMap_cons
set_option maxRecDepth 100000 in
theorem StM.See.off {s : StM} {w w' : World} {g : Nat} {t : TypeId} {pA rA mA : Option Addr} {pn pc rn rc mn mc : Nat} {ep : Int} (h : s.See w w.heap.size) (hX : Box w g t (stV pA pn pc rA rn rc ep mA mn mc)) (hg : w.grownBy w' (some g)) : s.See w' w'.heap.size := by
  refine ⟨sees_off _ _ _ _ _ _ _ _ _ _ hX h.ps ?_ hg hg.size, sees_off _ _ _ _ _ _ _ _ _ _ hX h.rs ?_ hg hg.size, fun r hr => sees_off _ _ _ _ _ _ _ _ _ _ hX (h.vals r hr) ?_ hg hg.size, sees_off _ _ _ _ _ _ _ _ _ _ hX h.ms ?_ hg hg.size⟩
  · rcases s.ps with _ | ⟨x, xs⟩
    · exact .inl rfl
    · rw [flat_cons]
      exact .inr (.inl ⟨x.key, rfl⟩)
  · rcases s.rs with _ | ⟨x, xs⟩
    · exact .inl rfl
    · rw [flat_cons]
      exact .inr (.inr ⟨_, _, _, _, rfl, rfl⟩)
  · rcases r.x.vals with _ | ⟨x, xs⟩
    · exact .inl rfl
    · rw [flat_cons]
      exact .inr (.inl ⟨x, rfl⟩)
  · rcases s.ms with _ | ⟨x, xs⟩
    · exact .inl rfl
    · rw [flat_cons]
      show _ ∨ _ ∨ ∃ k a k' b, (MemX.cells x ++ _)[0]? = _ ∧ (MemX.cells x ++ _)[1]? = _
      unfold MemX.cells memL keyL
      rcases x.root with _ | ⟨r0, rs⟩
      · exact .inr (.inr ⟨_, _, _, _, rfl, rfl⟩)
      · exact .inr (.inr ⟨_, _, _, _, rfl, rfl⟩)
/-- Does a list have all pieces? -/
def JnOk (root : List UInt8) (L : List PcM) : Prop := cntF root L ≠ 0 ∧ allF root L (cntF root L).toNat
/-- What Join answers of pieces. -/
def JnIs (root : List UInt8) (L : List PcM) (E : Int) (V : List MemX) (P Q : Nat) (T : Nat → List PairX) (S2 : Nat → List UInt8 × Bool) (T2 : Nat → List RepX) (w : World) (e : Ending) (w' : World) : Prop :=
  ∃ (m : StM) (x : Int), e = .returned (.tuple #[.agg m.cells, .int .i64 x]) ∧ ((JnOk root L ∧ ((StOk P Q T S2 T2 ∧ x = 0 ∧ m.pl = ⟨T P, T2 Q, E, V⟩) ∨ (¬ StOk P Q T S2 T2 ∧ x = 4 ∧ m.pl = ⟨[], [], 0, []⟩))) ∨ (¬ JnOk root L ∧ x = 10 ∧ m.pl = ⟨[], [], 0, []⟩)) ∧ m.See w' w'.heap.size ∧ Below w.heap.size w w'
set_option maxRecDepth 100000 in
theorem catF_succ (root : List UInt8) (L : List PcM) (k : Nat) : catF root L (k + 1) = catF root L k ++ datF root L k := by rw [catF]
set_option maxRecDepth 100000 in
theorem catF_zero (root : List UInt8) (L : List PcM) : catF root L 0 = [] := by rw [catF]

/-- What the walk of Join carries of memory. -/
structure JnW (root : List UInt8) (L : List PcM) (w0 : World) (B r mb : Nat) (v : Value) (xs : List UInt8) (w : World) : Prop where
  out : Box w r 37 (stV none 0 0 none 0 0 0 none 0 0)
  map : MapW root mb L w
  own : w.ownsRow B 5 1 v xs.length (xs.map bv)
  far : Below w0.heap.size w0 w
  hmb : mb < B
  h0 : w0.heap.size ≤ B
  hr : w0.heap.size ≤ r
  hB : B ≤ w.heap.size
section
variable {root : List UInt8} {L : List PcM} {w0 w w' : World} {B r mb : Nat} {v : Value} {xs : List UInt8}
set_option maxRecDepth 100000 in
theorem JnW.call (h : JnW root L w0 B r mb v xs w) (hb : Below w.heap.size w w') : JnW root L w0 B r mb v xs w' :=
  ⟨h.out.below hb h.out.lt, h.map.call hb, World.ownsRow.kept h.own (only_below hb none) (by cases v.ownBlock <;> simp), h.far.trans (hb.mono h.far.size), h.hmb, h.h0, h.hr, Nat.le_trans h.hB hb.size⟩
set_option maxRecDepth 100000 in
theorem JnW.push (h : JnW root L w0 B r mb v xs w) (dl : List UInt8) (hl : xs.length + dl.length ≤ 1099511627776) :
    ∃ v' w', (apAll #[46, 9] 46 #[v, str dl]).run Tryd.prog w = .ok v' w' ∧ JnW root L w0 B r mb v' (xs ++ dl) w' := by
  obtain ⟨v', w', hr, ho, hg⟩ := push_text h.own dl hl h.hB
  have hbl := below_own h.own hg h.hB
  exact ⟨v', w', hr, box_own h.out h.own (by decide) hg, h.map.turn hg (fun e => by have := (h.own.lt mb e.symm).1; have := h.hmb; omega), ho, h.far.trans (hbl.mono h.h0), h.hmb, h.h0, h.hr, Nat.le_trans h.hB hg.size⟩
set_option maxRecDepth 100000 in
theorem JnW.zero (h : JnW root L w0 B r mb v xs w) : ∃ wz, (stSt (.pointer (some ⟨r, 0, none⟩)) (.agg (stV none 0 0 none 0 0 0 none 0 0))).run Tryd.prog w = .ok () wz ∧ Box wz r 37 (stV none 0 0 none 0 0 0 none 0 0) ∧ Below w0.heap.size w0 wz := by
  obtain ⟨wz, hst, hb, hg⟩ := h.out.s_st rfl none 0 0 none 0 0 0 none 0 0
  exact ⟨wz, hst, hb, h.far.trans (below_only hg h.hr h.far.size)⟩
end

attribute [local go_sem ↓] ldDigest_def stDigest_def ldPc_def stPc_def lkPc_def ldSt_def stSt_def apAll_def
set_option maxRecDepth 100000 in
set_option maxHeartbeats 4000000 in
theorem pjoin_any (root : List UInt8) (hr : root.length = 32) (ps : List PcM) (A : Option Addr) (c : Nat) (hn : ps.length ≤ 1073741824) (ht : totL ps ≤ 1073741824) (w : World) (hP : PcsSee w w.heap.size A ps) (hok : ∀ p ∈ ps, PcOk p) (hR : Roots w)
    {E : Int} {V : List MemX} (hE : E = crE (catF root ps (cntF root ps).toNat) false) (hV : V = crMs (catF root ps (cntF root ps).toNat) false)
    {F : List UInt8 × Bool} {P Q : Nat} {g0 g1 : Int × List UInt8 × Bool} {S : Nat → List UInt8 × Bool} {T : Nat → List PairX} {S2 : Nat → List UInt8 × Bool} {T2 : Nat → List RepX} (hf : SfFacts (catF root ps (cntF root ps).toNat) F P Q g0 g1 S T S2 T2) :
    Calls Tryd.prog 9 #[.agg (root.map bv).toArray, .slice A ps.length c] w (JnIs root ps E V P Q T S2 T2 w) := by
  obtain ⟨w1, hw1⟩ : ∃ w1, w1 = (w.alloc (.cells (root.map bv).toArray 23)).alloc (.cells (stV none 0 0 none 0 0 0 none 0 0) 37) := ⟨_, rfl⟩
  have HS : Hid (Box w1 w.heap.size 23 (root.map bv).toArray) := by rw [hw1]; exact (Box.made w _ _).alloc _
  have HO : Hid (Box w1 (w.heap.size + 1) 37 (stV none 0 0 none 0 0 0 none 0 0)) := by rw [hw1]; exact Box.made_at (by simp) _ _
  have HF : Hid (Below w.heap.size w w1) := by rw [hw1]; exact ((Below.refl _ _).alloc (Nat.le_refl _) _).alloc (by simp) _
  have HPL := Lib.hid (placedm_any root hr ps A c hn w1 (hP.far HF.out) hok (hR.of_below HF.out))
  have HST : Hid (∀ (A : Option Addr) (c : Nat) (w' : World), Sees w' w'.heap.size A ((catF root ps (cntF root ps).toNat).map bv) → Calls Tryd.prog 24 #[.slice A (catF root ps (cntF root ps).toNat).length c] w' (SfIs E V P Q T S2 T2 w')) := Lib.hid (fun A c w' h => state_gen _ A c w' h (by have := (cat_le root ps (cntF root ps).toNat).1; omega) hE hV hf)
  have HCN := Lib.hid (cntF_in root ps (fun p hp => (hok p hp).cnt))
  have HCL : Hid (∀ k, (catF root ps k).length ≤ 1073741824) := Lib.hid (fun k => by have := (cat_le root ps k).1; omega)
  have ls : (ldDigest (.pointer (some ⟨w.heap.size, 0, none⟩))).run Tryd.prog w1 = .ok (.agg (root.map bv).toArray) w1 := range_load HS.out.range hr
  clear hr hn ht hP hok hR hE hV hf HS
  go_enter Tryd.func9, Tryd.ntmps9
  go_upto_region 1 with fail
  change Code.wp _ _ _ _ ((w.alloc (.cells (root.map bv).toArray 23)).alloc (.cells (stV none 0 0 none 0 0 0 none 0 0) 37))
  rw [← hw1]
  clear hw1
  go_upto_region 2 with (go_at_call 23; (with_reducible refine (HPL.out).mono ?_); rintro e w2 ⟨mb, rfl, hm, hb⟩; have HM2 := Lib.hid hm; have HB2 := Lib.hid hb; clear hm hb)
  have HW2 : Hid (JnW root ps w w2.heap.size (w.heap.size + 1) mb (.slice none 0 0) [] w2) := Lib.hid ⟨HO.out.below HB2.out HO.out.lt, HM2.out, World.ownsRow_nil _ _ _ _, HF.out.trans (HB2.out.mono HF.out.size), HM2.out.lt, Nat.le_trans HF.out.size HB2.out.size, Nat.le_succ _, Nat.le_refl _⟩
  clear HPL HM2 HB2 HO HF ls
  have hbd0 := fun w' => bd_state0 w'
  obtain ⟨n, hn⟩ : ∃ n : Nat, (cntF root ps) = (n : Int) := ⟨(cntF root ps).toNat, by have := HCN.out; omega⟩
  have HNE := Lib.hid hn
  have HNT : Hid ((cntF root ps).toNat = n) := Lib.hid (by rw [hn]; rfl)
  have HJ1 : Hid (n ≠ 0 → allF root ps n → JnOk root ps) := Lib.hid (fun h1 h2 => ⟨by rw [hn]; omega, by rw [HNT.out]; exact h2⟩)
  have HJ2 : Hid (JnOk root ps → n ≠ 0 ∧ allF root ps n) := Lib.hid (fun h => ⟨fun e => h.1 (by rw [hn, e]; rfl), by rw [← HNT.out]; exact h.2⟩)
  rw [HNT.out] at HST
  have HNB : Hid (n ≤ 9223372036854775807) := Lib.hid (by have := HCN.out; omega)
  rw [hn]
  clear hn HCN HNE HNT
  by_cases hz : n = 0
  · have z1 : ((n : Int) == 0) = true := by rw [hz]; rfl
    have HNO : Hid (¬ JnOk root ps) := Lib.hid (fun h => (HJ2.out h).1 hz)
    obtain ⟨wz, hst, hb, hbz⟩ := HW2.out.zero
    have HBZ := Lib.hid hb
    have HFZ := Lib.hid hbz
    clear hb hbz HJ1 HJ2 HST HCL HNB hz
    go_wp2
    exact ret_st2 rfl rfl rfl rfl HBZ.out ⟨⟨[], none, 0, [], none, 0, 0, [], none, 0⟩, 10, rfl, .inr ⟨HNO.out, rfl, rfl⟩, ⟨.inl rfl, .inl rfl, fun m hm => (by cases hm), .inl rfl⟩, HFZ.out⟩
  have z1 : ((n : Int) == 0) = false := by simp; omega
  have HNZ := Lib.hid hz
  clear hz
  go_upto_region 6 with fail
  clear z1
  go_loopw [8, 22] (fun v0 i wr => ∃ (k : Nat) (v : Value), k ≤ n ∧ v = v0 ∧ i = .int .i64 (k : Int) ∧ Hid (allF root ps k) ∧ Hid (JnW root ps w w2.heap.size (w.heap.size + 1) mb v (catF root ps k) wr)) (fun _ i _ => n - (intOf i).toNat)
  case atStart => exact ⟨0, _, Nat.zero_le _, rfl, rfl, Lib.hid (fun i h => absurd h (by omega)), Lib.hid (by rw [catF_zero]; exact HW2.out)⟩
  case round =>
    clear HW2
    obtain ⟨k, v, hk, rfl, rfl, HA, HW⟩ := hrel
    by_cases hlt : k < n
    · have HLT := Lib.hid hlt
      have i1 : (k : Int) < (n : Int) := by omega
      have wk : IntKind.i64.wrap ((k : Int) + 1) = ((k + 1 : Nat) : Int) := by rw [IntKind.wrap_i64]; have := HNB.out; omega
      have lk := HW.out.map.look (i := (k : Int)) (by unfold R64; have := HNB.out; omega)
      have HWN : Hid (∀ w', Below wr.heap.size wr w' → JnW root ps w w2.heap.size (w.heap.size + 1) mb v (catF root ps k) w') := Lib.hid (fun w' hb => HW.out.call hb)
      cases hlm : lastM root ps (k : Int) with
      | none =>
        rw [hlm] at lk
        simp only [Option.getD_none, Option.isSome_none] at lk
        obtain ⟨w3, hst, hb3, hbl3⟩ := laid_pc wr zpc
        have HW3 := Lib.hid (HWN.out w3 hbl3)
        have HNO : Hid (¬ JnOk root ps) := Lib.hid (fun h => by
          have h1 := (HJ2.out h).2 k HLT.out
          unfold hasF at h1
          rw [hlm] at h1
          cases h1)
        obtain ⟨wz, hstz, hb, hbz⟩ := HW3.out.zero
        have HBZ := Lib.hid hb
        have HFZ := Lib.hid hbz
        unfold zpcV at hst
        clear hb hbz hb3 hbl3 hlm HA HJ1 HJ2 HST HCL HNB HWN HW HW3
        go_wp2
        exact ret_st2 rfl rfl rfl rfl HBZ.out ⟨⟨[], none, 0, [], none, 0, 0, [], none, 0⟩, 10, rfl, .inr ⟨HNO.out, rfl, rfl⟩, ⟨.inl rfl, .inl rfl, fun m hm => (by cases hm), .inl rfl⟩, HFZ.out⟩
      | some m =>
        rw [hlm] at lk
        simp only [Option.getD_some, Option.isSome_some] at lk
        obtain ⟨w3, hst, hb3, hbl3⟩ := laid_pc wr m
        have HW3 := Lib.hid (HWN.out w3 hbl3)
        have HA2 : Hid (allF root ps (k + 1)) := Lib.hid (fun i hi => by
          by_cases e : i = k
          · subst e
            unfold hasF
            rw [hlm]
            rfl
          · exact HA.out i (by omega))
        have HDT : Hid (catF root ps (k + 1) = catF root ps k ++ datL m) := Lib.hid (by rw [catF_succ]; unfold datF; rw [hlm]; rfl)
        have HLN : Hid ((catF root ps k).length + (datL m).length ≤ 1099511627776) := Lib.hid (by have := HCL.out (k + 1); rw [HDT.out, List.length_append] at this; omega)
        have d34 : w3.cell? ⟨wr.heap.size, 34, none⟩ = some (str (datL m)) := by
          rw [hb3.pc34]
          unfold datL
          cases m.x.data
          simp
        obtain ⟨v', w4, hap, hw4⟩ := HW3.out.push (datL m) HLN.out
        have HW4 : Hid (JnW root ps w w2.heap.size (w.heap.size + 1) mb v' (catF root ps (k + 1)) w4) := Lib.hid (by rw [HDT.out]; exact hw4)
        unfold zpcV at hst
        clear hb3 hbl3 hlm HA HJ1 HJ2 HST HCL HWN HW HW3 hw4 HLN HDT
        generalize datL m = dl at *
        go_wp2
        go_roundw
        case rel => exact ⟨k + 1, _, HLT.out, rfl, by go_num, HA2, HW4⟩
        case measure => have := HLT.out; simp [intOf]; omega
    · have i1 : ¬ (k : Int) < (n : Int) := by omega
      have hke : k = n := by omega
      subst hke
      have HOK : Hid (JnOk root ps) := Lib.hid (HJ1.out HNZ.out HA.out)
      obtain ⟨bA, bc, rfl⟩ := own_slice_s HW.out.own
      have HSA := Lib.hid (HST.out bA bc wr (Sees.of_own HW.out.own))
      clear HJ1 HJ2 HA HST HCL hk hlt
      unfold SfIs at HSA
      have HRS : Hid (∀ (w5 : World) (m : StM), JnW root ps w w2.heap.size (w.heap.size + 1) mb (.slice bA (catF root ps k).length bc) (catF root ps k) w5 → m.See w5 w5.heap.size → ∃ wz, (stSt (.pointer (some ⟨w.heap.size + 1, 0, none⟩)) (.agg (stV m.pA m.ps.length m.pc m.rA m.rs.length m.rc m.ep m.mA m.ms.length m.mc))).run Tryd.prog w5 = .ok () wz ∧ Box wz (w.heap.size + 1) 37 (stV m.pA m.ps.length m.pc m.rA m.rs.length m.rc m.ep m.mA m.ms.length m.mc) ∧ m.See wz wz.heap.size ∧ Below w.heap.size w wz) := Lib.hid (fun w5 m hw hse => by
        obtain ⟨wz, h1, h2, h3⟩ := hw.out.s_st rfl m.pA m.ps.length m.pc m.rA m.rs.length m.rc m.ep m.mA m.ms.length m.mc
        exact ⟨wz, h1, h2, hse.off hw.out h3, hw.far.trans (below_only h3 hw.hr hw.far.size)⟩)
      go_wp2_with (go_at_call 24; (with_reducible refine (HSA.out).mono ?_); rintro e w5 ⟨m, x, rfl, hmx, hse, hb5⟩; obtain ⟨mps, mpA, mpc, mrs, mrA, mrc, mep, mms, mmA, mmc⟩ := m; have HMX := Lib.hid hmx; obtain ⟨wz, hstz, hbz, hsz, hfz⟩ := HRS.out w5 _ (HW.out.call hb5) hse; have HBZ := Lib.hid hbz; have HSZ := Lib.hid hsz; have HFZ := Lib.hid hfz; clear hmx hse hb5 hbz hsz hfz)
      refine ret_st2 rfl rfl rfl rfl HBZ.out ⟨⟨mps, mpA, mpc, mrs, mrA, mrc, mep, mms, mmA, mmc⟩, x, rfl, .inl ⟨HOK.out, HMX.out⟩, HSZ.out, HFZ.out⟩
end Go.Proofs.YtlogceoeodjeoaaDoor
