/-
  TreeRoots, the walk: for every input the law returns true, and nothing that was there is turned.
-/
import Derived.Test.YtkpekglpknbodaaDoorTKeeps
import Derived.Test.YtkpekglpknbodaaDoorTRCheck
namespace Go.Proofs.YtkpekglpknbodaaDoor
open Go.RowKit Go.Sort

attribute [local go_sem ↓] ldDigest_def stDigest_def

set_option maxRecDepth 100000 in
set_option maxHeartbeats 1000000 in
theorem troots_walk (l : List UInt8) (Ab : Option Addr) (cb : Nat) (ds : List (List UInt8)) (A : Option Addr) (c : Nat) (x : Int) (w : World) (hS : Sees w w.heap.size Ab (l.map bv)) (hcb : l.length ≤ cb) (hmb : cb ≤ maxLen) (hD : Digs w w.heap.size A ds) (hR : Roots w) :
    Calls Tryd.prog 3 #[.slice Ab l.length cb, .slice A ds.length c, .int .i64 x] w fun e w' => e = .returned (.bool true) ∧ Below w.heap.size w w' := by
  have HAL := Lib.hid (alive_any w hR)
  have HD := Lib.hid hD
  have HR := Lib.hid hR
  have HS := Lib.hid hS
  have HMB := Lib.hid hmb
  clear hD hR hS hmb
  go_enter Tryd.func3, Tryd.ntmps3
  by_cases h1 : (4096 : Int) < (l.length : Int)
  · have h1' : decide ((4096 : Int) < (l.length : Int)) = true := decide_eq_true h1
    go_wp2_with (go_at_call 9; refine (HAL.out).mono ?_; rintro e w2 ⟨rfl, hb2⟩; have HF2 := Lib.hid hb2; clear hb2)
    go_ret
    exact ⟨rfl, HF2.out⟩
  have h1' : decide ((4096 : Int) < (l.length : Int)) = false := decide_eq_false h1
  by_cases h2 : (100 : Int) < (ds.length : Int)
  · have h2' : decide ((100 : Int) < (ds.length : Int)) = true := decide_eq_true h2
    go_wp2_with (go_at_call 9; refine (HAL.out).mono ?_; rintro e w2 ⟨rfl, hb2⟩; have HF2 := Lib.hid hb2; clear hb2)
    go_ret
    exact ⟨rfl, HF2.out⟩
  have h2' : decide ((100 : Int) < (ds.length : Int)) = false := decide_eq_false h2
  go_upto_region 5 with (go_at_call 9; refine (HAL.out).mono ?_; rintro e w2 ⟨rfl, hb2⟩; have HF2 := Lib.hid hb2; have HD2 := Lib.hid (HD.out.far hb2); clear hb2)
  have facts : Hid (∀ w7 : World, Below w.heap.size w w7 → (∀ (k : Nat) (os : Array Obj), (convert 22 9 (.slice Ab l.length cb)).run Tryd.prog (grow (redrawn w7 k) os) = .ok (str l) (grow (redrawn w7 k) os)) ∧
      (∀ (k : Nat) (os : Array Obj), Calls Tryd.prog 12 #[.slice Ab l.length cb] (grow (redrawn w7 k) os) fun e w'' => e = .returned (.agg ((shaOf (0 :: l)).map bv).toArray) ∧ ∃ p : Regrown, w'' = grow (redrawn w7 p.d) p.os) ∧
      (∀ (k : Nat) (os : Array Obj), Calls Tryd.prog 13 #[str l] (grow (redrawn w7 k) os) fun e w'' => e = .returned (.agg ((shaOf (0 :: l)).map bv).toArray) ∧ ∃ p : Regrown, w'' = grow (redrawn w7 p.d) p.os) ∧
      (∀ (k : Nat) (os : Array Obj), Calls Tryd.prog 14 #[.slice A ds.length c] (grow (redrawn w7 k) os) fun e w'' => e = .returned (.agg ((rootT ds).map bv).toArray) ∧ ∃ p : Regrown, w'' = grow (redrawn w7 p.d) p.os) ∧
      (∀ (k : Nat) (os : Array Obj), Calls Tryd.prog 15 #[.slice A ds.length c] (grow (redrawn w7 k) os) fun e w'' => e = .returned (.agg ((rootT ds).map bv).toArray) ∧ ∃ p : Regrown, w'' = grow (redrawn w7 p.d) p.os)) := by
    intro w7 hb
    have hb' := fun (k : Nat) (os : Array Obj) => hb.trans ((below_regrown w7 k os).mono hb.size)
    have hs' := fun (k : Nat) (os : Array Obj) => (HS.out.below (hb' k os)).more (hb' k os).size
    refine ⟨fun k os => convert_sees (P := Tryd.prog) 22 5 9 Tryd.underlying22 Tryd.underlying5 Tryd.underlying9 (hs' k os) cb, fun k os => Calls.regrown_of (leaf_any l Ab cb _ (hs' k os) hcb HMB.out (by omega) (HR.out.of_below (hb' k os))), fun k os => Calls.regrown_of (rleaf_any l (by omega) _), fun k os => Calls.regrown_of (root_any ds A c _ (HD.out.far (hb' k os)) (by omega) (HR.out.of_below (hb' k os))), fun k os => Calls.regrown_of (rroot_any ds A c _ (HD.out.far (hb' k os)) (by omega))⟩
  have hr1 : (shaOf (0 :: l)).length = 32 := rfl
  have hr2 := HD.out.all.root
  generalize shaOf (0 :: l) = d1 at *
  generalize rootT ds = d2 at *
  have hde1 : ∀ w, (Op.equalIn 10000 29 (.agg (d1.map bv).toArray) (.agg (d1.map bv).toArray)).run Tryd.prog w = .ok true w := fun w => by
    rw [dig_eq _ _ hr1 hr1 w]
    simp
  have hde2 : ∀ w, (Op.equalIn 10000 29 (.agg (d2.map bv).toArray) (.agg (d2.map bv).toArray)).run Tryd.prog w = .ok true w := fun w => by
    rw [dig_eq _ _ hr2 hr2 w]
    simp
  clear hr1 hr2
  by_cases hp : 0 ≤ x ∧ x < (ds.length : Int)
  · obtain ⟨n, rfl⟩ : ∃ n : Nat, x = (n : Int) := ⟨x.toNat, by omega⟩
    have p1 : decide ((0 : Int) ≤ (n : Int)) = true := decide_eq_true hp.1
    have p2 : decide ((n : Int) < (ds.length : Int)) = true := decide_eq_true hp.2
    have HPA := Lib.hid (path_any ds A c n (by omega) w2 HD2.out (by omega) (HR.out.of_below HF2.out))
    have hps := pathT_short ds n (by omega)
    have HPAL := Lib.hid (HD.out.all.path n)
    have hRP := fun w7 (hb : Below w.heap.size w w7) => rpath_any ds A c n w7 (by omega) (HD.out.far hb) (by omega)
    generalize pathT ds n = ps at *
    have HRP := Lib.hid hRP
    clear hRP
    go_upto_region 10 with (first
      | (go_at_call 10; refine (HPA.out).mono ?_; rintro e w6 ⟨Ap, cp, rfl, hp6⟩; have HP6 := Lib.hid hp6; have HF6 := Lib.hid (HF2.out.trans (hp6.far.mono HF2.out.size)); clear hp6)
      | (go_at_call 11; refine (HRP.out w6 HF6.out).mono ?_; rintro e w7 ⟨Aq, cq, rfl, hq7, hb7⟩; have HQ7 := Lib.hid hq7; have HM7 := Lib.hid ((OwnD.digs HP6.out.own HPAL.out).far hb7); have HF7 := Lib.hid (HF6.out.trans (hb7.mono HF6.out.size)); clear hq7 hb7))
    obtain ⟨hcv, cL, cRL, cT, cRT⟩ := facts.out w7 HF7.out
    have CL := Lib.hid cL
    have CRL := Lib.hid cRL
    have CT := Lib.hid cT
    have CRT := Lib.hid cRT
    have CS : Hid (∀ (k : Nat) (os : Array Obj), Calls Tryd.prog 16 #[.slice Ap ps.length cp, .slice Aq ps.length cq] (grow (redrawn w7 k) os) fun e w'' => e = .returned (.bool true) ∧ ∃ p : Regrown, w'' = grow (redrawn w7 p.d) p.os) := fun k os => by
      refine Calls.regrown_of ?_
      have hs := same_any ps ps Ap Aq cp cq (grow (redrawn w7 k) os) (HM7.out.far (below_regrown w7 k os)) (HQ7.out.far (below_regrown w7 k os)) (by omega)
      rw [decide_eq_true rfl] at hs
      exact hs
    clear cL cRL cT cRT
    refine wp_region_quiet_below (by kernel_rfl) (by kernel_rfl) ?_
    repeat (quiet_step (first | (go_at_call 12; with_reducible exact CL.out _ _) | (go_at_call 13; with_reducible exact CRL.out _ _) | (go_at_call 14; with_reducible exact CT.out _ _) | (go_at_call 15; with_reducible exact CRT.out _ _) | (go_at_call 16; with_reducible exact CS.out _ _)))
    refine wpQuiet_nil ?_
    intro _ hw'
    obtain ⟨⟨dq, osq⟩, hw''⟩ := hw'
    subst hw''
    clear hcv hde1 hde2
    go_wp2
    go_ret
    exact ⟨rfl, HF7.out.trans ((below_regrown w7 dq osq).mono HF7.out.size)⟩
  · have hx : (decide ((0 : Int) ≤ x) && decide (x < (ds.length : Int))) = false := by
      rw [Bool.eq_false_iff]
      intro h
      rw [Bool.and_eq_true, decide_eq_true_eq, decide_eq_true_eq] at h
      exact hp h
    have HPA := Lib.hid (path_not x ds.length c A hx w2)
    by_cases h0 : 0 ≤ x
    · have p1 : decide ((0 : Int) ≤ x) = true := decide_eq_true h0
      have p2 : decide (x < (ds.length : Int)) = false := decide_eq_false (fun h => hp ⟨h0, h⟩)
      clear hx
      go_upto_region 10 with (go_at_call 10; refine (HPA.out).mono ?_; rintro e w6 ⟨rfl, rfl⟩)
      obtain ⟨hcv, cL, cRL, cT, cRT⟩ := facts.out w6 HF2.out
      have CL := Lib.hid cL
      have CRL := Lib.hid cRL
      have CT := Lib.hid cT
      have CRT := Lib.hid cRT
      have CS : Hid (∀ (k : Nat) (os : Array Obj), Calls Tryd.prog 16 #[.slice none 0 0, .slice none 0 0] (grow (redrawn w6 k) os) fun e w'' => e = .returned (.bool true) ∧ ∃ p : Regrown, w'' = grow (redrawn w6 p.d) p.os) := fun k os => by
        refine Calls.regrown_of ?_
        have hs := same_any [] [] none none 0 0 (grow (redrawn w6 k) os) (Digs.empty _ _ _) (Digs.empty _ _ _) (by simp)
        rw [decide_eq_true rfl] at hs
        exact hs
      clear cL cRL cT cRT
      refine wp_region_quiet_below (by kernel_rfl) (by kernel_rfl) ?_
      repeat (quiet_step (first | (go_at_call 12; with_reducible exact CL.out _ _) | (go_at_call 13; with_reducible exact CRL.out _ _) | (go_at_call 14; with_reducible exact CT.out _ _) | (go_at_call 15; with_reducible exact CRT.out _ _) | (go_at_call 16; with_reducible exact CS.out _ _)))
      refine wpQuiet_nil ?_
      intro _ hw'
      obtain ⟨⟨dq, osq⟩, hw''⟩ := hw'
      subst hw''
      clear hcv hde1 hde2
      go_wp2
      go_ret
      exact ⟨rfl, HF2.out.trans ((below_regrown w6 dq osq).mono HF2.out.size)⟩
    · have p1 : decide ((0 : Int) ≤ x) = false := decide_eq_false h0
      clear hx
      go_upto_region 10 with (go_at_call 10; refine (HPA.out).mono ?_; rintro e w6 ⟨rfl, rfl⟩)
      obtain ⟨hcv, cL, cRL, cT, cRT⟩ := facts.out w6 HF2.out
      have CL := Lib.hid cL
      have CRL := Lib.hid cRL
      have CT := Lib.hid cT
      have CRT := Lib.hid cRT
      have CS : Hid (∀ (k : Nat) (os : Array Obj), Calls Tryd.prog 16 #[.slice none 0 0, .slice none 0 0] (grow (redrawn w6 k) os) fun e w'' => e = .returned (.bool true) ∧ ∃ p : Regrown, w'' = grow (redrawn w6 p.d) p.os) := fun k os => by
        refine Calls.regrown_of ?_
        have hs := same_any [] [] none none 0 0 (grow (redrawn w6 k) os) (Digs.empty _ _ _) (Digs.empty _ _ _) (by simp)
        rw [decide_eq_true rfl] at hs
        exact hs
      clear cL cRL cT cRT
      refine wp_region_quiet_below (by kernel_rfl) (by kernel_rfl) ?_
      repeat (quiet_step (first | (go_at_call 12; with_reducible exact CL.out _ _) | (go_at_call 13; with_reducible exact CRL.out _ _) | (go_at_call 14; with_reducible exact CT.out _ _) | (go_at_call 15; with_reducible exact CRT.out _ _) | (go_at_call 16; with_reducible exact CS.out _ _)))
      refine wpQuiet_nil ?_
      intro _ hw'
      obtain ⟨⟨dq, osq⟩, hw''⟩ := hw'
      subst hw''
      clear hcv hde1 hde2
      go_wp2
      go_ret
      exact ⟨rfl, HF2.out.trans ((below_regrown w6 dq osq).mono HF2.out.size)⟩
end Go.Proofs.YtkpekglpknbodaaDoor
