/-
  TreePaths, the walk: for every input the law returns true, and nothing that was there is turned.
-/
import Derived.Test.YtkpekglpknbodaaDoorTKeeps
import Derived.Test.YtkpekglpknbodaaDoorTRCheck
namespace Go.Proofs.YtkpekglpknbodaaDoor
open Go.RowKit Go.Sort

attribute [local go_sem ↓] ldDigest_def stDigest_def

theorem flat_split {ps : List (List UInt8)} {k : Nat} (hk : k < ps.length) : ps.flatten = (ps.take k).flatten ++ (ps.getD k [] ++ (ps.drop (k + 1)).flatten) := by
  conv => lhs; rw [← List.take_append_drop k ps, List.drop_eq_getElem_cons hk]
  rw [List.flatten_append, List.flatten_cons, List.getD_eq_getElem?_getD, List.getElem?_eq_getElem hk]
  rfl
/-- A block that begins with digests. -/
structure SwW (w : World) (g : Nat) (ps : List (List UInt8)) (rest : List Value) : Prop where
  box : Box w g 29 (ps.flatten.map bv ++ rest).toArray
  all : AllD ps
theorem SwW.digs {w : World} {g : Nat} {ps : List (List UInt8)} {rest : List Value} (h : SwW w g ps rest) : Digs w w.heap.size (some ⟨g, 0, none⟩) ps := by
  refine ⟨h.all, ?_⟩
  have hs := (Sees.of_box h.box h.box.lt).take (ps.flatten.map bv).length
  rw [List.toList_toArray, List.take_left'] at hs
  · exact hs
  · rfl
theorem SwW.call {w w' : World} {g : Nat} {ps : List (List UInt8)} {rest : List Value} (h : SwW w g ps rest) (hb : Below w.heap.size w w') : SwW w' g ps rest := ⟨h.box.below hb h.box.lt, h.all⟩
theorem AllD.set {ps : List (List UInt8)} (h : AllD ps) (k : Nat) {d : List UInt8} (hd : d.length = 32) : AllD (ps.set k d) := fun x hx => (List.mem_or_eq_of_mem_set hx).elim (h x) (fun e => by rw [e]; exact hd)
theorem SwW.put {w : World} {g : Nat} {ps : List (List UInt8)} {rest : List Value} (h : SwW w g ps rest) {k : Nat} (hk : k < ps.length) {d : List UInt8} (hd : d.length = 32) :
    (stDigest (.pointer (some ⟨g, k * 32, none⟩)) (.agg (d.map bv).toArray)).run Tryd.prog w = .ok () (w.setCells g (k * 32) (d.map bv)) ∧ SwW (w.setCells g (k * 32) (d.map bv)) g (ps.set k d) rest := by
  have hg := h.all.get hk []
  have hf := (h.all.take k).flat
  rw [List.length_take] at hf
  have hb := h.box
  have e1 : ps.flatten.map bv ++ rest = (ps.take k).flatten.map bv ++ ((ps.getD k []).map bv ++ ((ps.drop (k + 1)).flatten.map bv ++ rest)) := by
    conv => lhs; rw [flat_split hk]
    simp [List.append_assoc]
  have e2 : (ps.set k d).flatten.map bv ++ rest = (ps.take k).flatten.map bv ++ (d.map bv ++ ((ps.drop (k + 1)).flatten.map bv ++ rest)) := by
    rw [List.set_eq_take_append_cons_drop, if_pos hk]
    simp [List.append_assoc]
  rw [e1] at hb
  have hp := hb.put_mid (o := k * 32) (vs := d.map bv) (by rw [List.length_map, hf]; omega) (by rw [List.length_map, List.length_map, hd, hg])
  refine ⟨hb.store_mid (by simp only [List.size_toArray, List.length_append, List.length_map, hf, hg]; omega) d hd, ?_, h.all.set k hd⟩
  rw [e2]
  exact hp

set_option maxRecDepth 100000 in
set_option maxHeartbeats 1000000 in
theorem paths_walk (ds : List (List UInt8)) (A : Option Addr) (c : Nat) (x z : Int) (w : World) (hD : Digs w w.heap.size A ds) (hz : z ≤ 9223372036854775807) (hR : Roots w) :
    Calls Tryd.prog 8 #[.slice A ds.length c, .int .i64 x, .int .i64 z] w fun e w' => e = .returned (.bool true) ∧ Below w.heap.size w w' := by
  have HAL := Lib.hid (alive_any w hR)
  have HD := Lib.hid hD
  have HR := Lib.hid hR
  clear hD hR
  go_enter Tryd.func8, Tryd.ntmps8
  by_cases h1 : (100 : Int) < (ds.length : Int)
  · have h1' : decide ((100 : Int) < (ds.length : Int)) = true := decide_eq_true h1
    go_wp2_with (go_at_call 9; refine (HAL.out).mono ?_; rintro e w2 ⟨rfl, hb2⟩; have HF2 := Lib.hid hb2; clear hb2)
    go_ret
    exact ⟨rfl, HF2.out⟩
  have h1' : decide ((100 : Int) < (ds.length : Int)) = false := decide_eq_false h1
  by_cases h2 : x < 0
  · have h2' : decide (x < 0) = true := decide_eq_true h2
    go_wp2_with (go_at_call 9; refine (HAL.out).mono ?_; rintro e w2 ⟨rfl, hb2⟩; have HF2 := Lib.hid hb2; clear hb2)
    go_ret
    exact ⟨rfl, HF2.out⟩
  have h2' : decide (x < 0) = false := decide_eq_false h2
  by_cases h3 : (ds.length : Int) ≤ x
  · have h3' : decide ((ds.length : Int) ≤ x) = true := decide_eq_true h3
    go_wp2_with (go_at_call 9; refine (HAL.out).mono ?_; rintro e w2 ⟨rfl, hb2⟩; have HF2 := Lib.hid hb2; clear hb2)
    go_ret
    exact ⟨rfl, HF2.out⟩
  have h3' : decide ((ds.length : Int) ≤ x) = false := decide_eq_false h3
  obtain ⟨n, rfl⟩ : ∃ n : Nat, x = (n : Int) := ⟨x.toNat, by omega⟩
  have hnl : n < ds.length := by omega
  go_upto_region 5 with (go_at_call 9; refine (HAL.out).mono ?_; rintro e w2 ⟨rfl, hb2⟩; have HF2 := Lib.hid hb2; have HD2 := Lib.hid (HD.out.far hb2); clear hb2)
  have HPA := Lib.hid (path_any ds A c n hnl w2 HD2.out (by omega) (HR.out.of_below HF2.out))
  have hpow := pathT_pow ds n hnl
  have hps := pathT_short ds n hnl
  have hall := HD2.out.all.path n
  generalize hP : pathT ds n = ps at *
  have HP := Lib.hid hP
  clear hP
  have h8 : ps.length < 8 := by
    rcases Nat.lt_or_ge ps.length 8 with h | h
    · exact h
    · have := Nat.pow_le_pow_right (n := 2) (by decide) h
      omega
  obtain ⟨q, hq⟩ : ∃ q : Nat, q = 2 ^ ps.length := ⟨_, rfl⟩
  rw [← hq] at hpow
  have e2 : wrap64 (2 ^ min ps.length 64) = (q : Int) := by
    rw [Nat.min_eq_left (by omega), show (2 : Int) ^ ps.length = (q : Int) by rw [hq]; simp]
    exact IntWalk.wrap64_in _ (by omega)
  have e2b : wrap64 (2 ^ ps.length) = (q : Int) := by
    rw [show (2 : Int) ^ ps.length = (q : Int) by rw [hq]; simp]
    exact IntWalk.wrap64_in _ (by omega)
  have h4' : decide (2 * (ds.length : Int) ≤ (q : Int)) = false := decide_eq_false (by omega)
  clear hpow hps hq
  go_upto_region 6 with (go_at_call 10; refine (HPA.out).mono ?_; rintro e w6 ⟨Ap, cp, rfl, hp6⟩; have HP6 := Lib.hid hp6; clear hp6)
  by_cases h5 : z < 0
  · have h5' : decide (z < 0) = true := decide_eq_true h5
    go_upto_region 8 with fail
    go_quiet (fail)
    have HF7 := Lib.hid (below_drewN (HF2.out.trans (HP6.out.far.mono HF2.out.size)) nq)
    go_wp2
    go_ret
    exact ⟨rfl, HF7.out⟩
  have h5' : decide (z < 0) = false := decide_eq_false h5
  by_cases h6 : (ps.length : Int) - 1 ≤ z
  · have h6' : decide ((ps.length : Int) - 1 ≤ z) = true := decide_eq_true h6
    go_upto_region 8 with fail
    go_quiet (fail)
    have HF7 := Lib.hid (below_drewN (HF2.out.trans (HP6.out.far.mono HF2.out.size)) nq)
    go_wp2
    go_ret
    exact ⟨rfl, HF7.out⟩
  have h6' : decide ((ps.length : Int) - 1 ≤ z) = false := decide_eq_false h6
  obtain ⟨j, rfl⟩ : ∃ j : Nat, z = (j : Int) := ⟨z.toNat, by omega⟩
  obtain ⟨g, rest, rfl, hg2, hsw⟩ : ∃ g rest, Ap = some ⟨g, 0, none⟩ ∧ w2.heap.size ≤ g ∧ SwW w6 g ps rest := by
    have ho := HP6.out.own
    rcases ho.2 with ⟨_, h2⟩ | ⟨g, cap, cur, h1, hg, hh, hn, _, hc, ht⟩
    · omega
    · injection h1 with e1 e2 e3
      refine ⟨g, cur.toList.drop (ps.length * 32), e1, hg, ?_, hall⟩
      rw [← ht, List.take_append_drop]
      exact hh
  have HSW := Lib.hid hsw
  have hj : j + 1 < ps.length := by omega
  have hDP := hsw.digs
  have lA := fun m => digs_loads hDP (k := j) (by omega) m
  have lB := fun m => digs_loads hDP (k := j + 1) hj m
  simp only [Nat.zero_add] at lA lB
  have hxa := hall.get (k := j) (by omega) []
  have hxb := hall.get (k := j + 1) hj []
  have hde := fun w => dig_eq (ps.getD j []) (ps.getD (j + 1) []) hxa hxb w
  have i1 : (j : Int) < (ps.length : Int) := by omega
  have i2 : (j : Int) + 1 < (ps.length : Int) := by omega
  have i3 : (0 : Int) ≤ (j : Int) := by omega
  have i4 : (0 : Int) ≤ (j : Int) + 1 := by omega
  have t1 : ((j : Int) + 1).toNat = j + 1 := by omega
  have t2 : IntKind.i64.wrap ((j : Int) + 1) = (j : Int) + 1 := IntWalk.i64_in _ (by omega)
  clear hDP hsw
  by_cases hab : ps.getD j [] = ps.getD (j + 1) []
  · rw [decide_eq_true hab] at hde
    generalize ps.getD j [] = xa at *
    generalize ps.getD (j + 1) [] = xb at *
    clear hab
    go_upto_region 8 with fail
    go_quiet (fail)
    have HF7 := Lib.hid (below_drewN (HF2.out.trans (HP6.out.far.mono HF2.out.size)) nq)
    clear lA lB hde
    go_wp2
    go_ret
    exact ⟨rfl, HF7.out⟩
  · rw [decide_eq_false hab] at hde
    generalize hxa' : ps.getD j [] = xa at *
    generalize hxb' : ps.getD (j + 1) [] = xb at *
    have HXA := Lib.hid hxa'
    have HXB := Lib.hid hxb'
    clear hab hxa' hxb'
    go_upto_region 8 with fail
    go_quiet (fail)
    clear lA lB hde
    have HW7 : Hid (Below w6.heap.size w6 (w6.drewN nq)) := below_drewN (Below.refl _ _) nq
    have HB6 := Lib.hid (HF2.out.trans (HP6.out.far.mono HF2.out.size))
    have HSW7 := Lib.hid (HSW.out.call HW7.out)
    have HF7 := Lib.hid (HB6.out.trans (HW7.out.mono HB6.out.size))
    have HCP := Lib.hid HP6.out.own
    clear HW7 HSW HP6 HB6
    generalize w6.drewN nq = w7 at *
    have HRT := Lib.hid (root_any ds A c w7 (HD.out.far HF7.out) (by omega) (HR.out.of_below HF7.out))
    have HRL := Lib.hid HD.out.all.root
    generalize hr : rootT ds = r at *
    have HRE := Lib.hid hr
    clear hr
    have HSZ := Lib.hid (dig_size r HRL.out)
    have HSM := Lib.hid (dig_same r HRL.out)
    go_upto_region 11 with (first
      | (go_at_call 14; refine (HRT.out).mono ?_; rintro e w8 ⟨rfl, hb8⟩; have HB8 := Lib.hid hb8; clear hb8)
      | (((with_reducible show wpList _ _ _ ((⟨none, Op.store _ (.tmp 9) (.tmp 65), _, _, _, _⟩ : Oper) :: _) _ _)); refine wpList_store_box rfl 29 (.tmp 9) (.tmp 65) rfl w8.heap.size (r.map bv).toArray rfl rfl 29 zs32 (Box.made w8 _ _) HSM.out HSZ.out (bv_one _) ?_; intro w9 hb9 hg9; have HX9 := Lib.hid hb9; have HB9 := Lib.hid (((Below.refl w8.heap.size w8).alloc (Nat.le_refl _) (.cells zs32 29)).trans (below_only hg9 (Nat.le_refl _) (by simp))); clear hb9 hg9))
    simp only [Act.put]
    have HSW9 := Lib.hid ((HSW7.out.call HB8.out).call HB9.out)
    have HF9 := Lib.hid ((HF7.out.trans (HB8.out.mono HF7.out.size)).trans (HB9.out.mono (Nat.le_trans HF7.out.size HB8.out.size)))
    have HGL : Hid (g < w8.heap.size) := Nat.lt_of_lt_of_le HSW7.out.box.lt HB8.out.size
    have HSD : Hid (SwW w9.drew g ps rest) := ⟨HSW9.out.box, HSW9.out.all⟩
    have lA := HSD.out.digs.load (k := j) (by omega)
    have lB := HSD.out.digs.load (k := j + 1) hj
    simp only [Nat.zero_add] at lA lB
    rw [HXA.out] at lA
    rw [HXB.out] at lB
    obtain ⟨hst1, hsw1⟩ := HSD.out.put (k := j) (by omega) hxb
    have hj2 : j + 1 < (ps.set j xb).length := by rw [List.length_set]; exact hj
    obtain ⟨hst2, hsw2⟩ := hsw1.put (k := j + 1) hj2 hxa
    have HSW2 := Lib.hid hsw2
    have hgw : w.heap.size ≤ g := Nat.le_trans HF2.out.size hg2
    have hne : some w8.heap.size ≠ some g := fun e => by
      have := HGL.out
      injection e with e
      omega
    have HX11 : Hid (Box ((w9.drew.setCells g (j * 32) (xb.map bv)).setCells g ((j + 1) * 32) (xa.map bv)) w8.heap.size 29 (r.map bv).toArray) := (HX9.out.drew.grown (only_cells _ _ _) hne).grown (only_cells _ _ _) hne
    have HF11 : Hid (Below w.heap.size w ((w9.drew.setCells g (j * 32) (xb.map bv)).setCells g ((j + 1) * 32) (xa.map bv))) := by
      have h1 := below_cells HF9.out.drew hgw HF9.out.drew.size (j * 32) (xb.map bv)
      exact below_cells h1 hgw h1.size _ _
    have HPC : Hid (ps.length ≤ cp) := by
      have ho := HCP.out
      rcases ho.2 with ⟨h1, _⟩ | ⟨_, cap, _, h1, _, _, hn, _⟩
      · cases h1
      · injection h1 with _ _ e3
        rw [e3]
        exact hn
    clear hsw1 hsw2 hne hgw hj2
    go_region_with (fail)
    all_goals
      clear lA lB hst1 hst2
      generalize ((w9.drew.setCells g (j * 32) (xb.map bv)).setCells g ((j + 1) * 32) (xa.map bv)) = w11 at *
      have hlen : ((ps.set j xb).set (j + 1) xa).length = ps.length := by rw [List.length_set, List.length_set]
      generalize (ps.set j xb).set (j + 1) xa = qs at *
      obtain ⟨g1, o1, rfl, _, _⟩ := HD.out.some_ (by omega)
      have kR := fun k os => HX11.out.load_grown HRL.out k os
      have kL := fun k os => (HD.out.far HF11.out).load_grown hnl k os
      have hlf := HD.out.all.get hnl []
      have cC := fun (k : Nat) (os : Array Obj) => Calls.regrown_of (check_any r (ds.getD n []) HRL.out hlf n ds.length hnl (by omega) qs (some ⟨g, 0, none⟩) cp (grow (redrawn w11 k) os) (HSW2.out.digs.far (below_regrown w11 k os)) (by rw [hlen]; exact HPC.out) (HR.out.of_below (HF11.out.trans ((below_regrown w11 k os).mono HF11.out.size))))
      have cR := fun (k : Nat) (os : Array Obj) => Calls.regrown_of (rcheck_any r (ds.getD n []) n ds.length qs (some ⟨g, 0, none⟩) cp (grow (redrawn w11 k) os) HRL.out hlf hnl (by omega) (HSW2.out.digs.far (below_regrown w11 k os)) (by rw [hlen]; exact HPC.out))
      simp only [hlen] at cC cR
      generalize ds.getD n [] = lf at *
      generalize checkT r lf n ds.length qs = ck at *
      have CC := Lib.hid cC
      have CR := Lib.hid cR
      have i1 : (n : Int) < (ds.length : Int) := by omega
      have i0 : (0 : Int) ≤ (n : Int) := by omega
      clear cC cR hlen
      go_upto_region 12 with fail
      refine wp_region_quiet_below (by kernel_rfl) (by kernel_rfl) ?_
      repeat (quiet_step (first | (go_at_call 18; with_reducible exact CC.out _ _) | (go_at_call 17; with_reducible exact CR.out _ _)))
      refine wpQuiet_nil ?_
      intro _ hw'
      obtain ⟨⟨dq, osq⟩, hw''⟩ := hw'
      subst hw''
      clear kR kL
      go_wp2
      go_ret
      exact ⟨by first | rfl | exact ret_val (congrArg Value.bool (beq_self_eq_true _)), HF11.out.trans ((below_regrown w11 dq osq).mono HF11.out.size)⟩
end Go.Proofs.YtkpekglpknbodaaDoor
