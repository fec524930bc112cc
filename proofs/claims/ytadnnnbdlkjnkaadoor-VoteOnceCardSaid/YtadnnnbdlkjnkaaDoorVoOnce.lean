/-
  VoteOnce: the walk. Written by gen_voonce.py.
-/
import Derived.Test.YtadnnnbdlkjnkaaDoorVE
namespace Go.Proofs.YtadnnnbdlkjnkaaDoor
open Go.RowKit Go.Maps Go.Sort

/-! ### On plain lists -/
def isKR (kind round : Int) (x : VtX) : Bool := decide (x.kind = kind) && decide (x.round = round)
def hasKR (kind round : Int) (xs : List VtX) (f : Nat) : Bool := xs.any fun x => isKR kind round x && decide (x.frm = (f : Int))
def krN (kind round : Int) (xs : List VtX) : Nat := (xs.filter (isKR kind round)).length
def votedL (kind round : Int) (xs : List VtX) : List Value := (List.range 64).map fun f => .bool (hasKR kind round xs f)
set_option maxRecDepth 100000 in
theorem votedL_len (kind round : Int) (xs : List VtX) : (votedL kind round xs).length = 64 := by simp [votedL]
set_option maxRecDepth 100000 in
theorem votedL_at (kind round : Int) (xs : List VtX) {f : Nat} (hf : f < 64) : (votedL kind round xs)[f]? = some (.bool (hasKR kind round xs f)) := by
  unfold votedL
  rw [List.getElem?_map, List.getElem?_range hf]
  rfl
set_option maxRecDepth 100000 in
theorem votedL_bool (kind round : Int) (xs : List VtX) : ∀ v ∈ votedL kind round xs, ∃ b, v = .bool b := by
  intro v hv
  obtain ⟨f, _, rfl⟩ := List.mem_map.1 hv
  exact ⟨_, rfl⟩
set_option maxRecDepth 100000 in
theorem hasKR_iff {kind round : Int} {xs : List VtX} {f : Nat} : hasKR kind round xs f = true ↔ ∃ x ∈ xs, (x.kind = kind ∧ x.round = round) ∧ x.frm = (f : Int) := by
  unfold hasKR isKR
  rw [List.any_eq_true]
  simp only [Bool.and_eq_true, decide_eq_true_eq]
set_option maxRecDepth 100000 in
theorem hasPl_iff {xs : List VtX} {x : VtX} : hasPl xs x = true ↔ ∃ y ∈ xs, y.kind = x.kind ∧ y.round = x.round ∧ y.frm = x.frm := by
  unfold hasPl
  rw [List.any_eq_true]
  simp only [samePl_iff]
set_option maxRecDepth 100000 in
/-- A vote of another kind or round. -/
theorem kr_other {kind round : Int} (xs : List VtX) {x : VtX} (h : isKR kind round x = false) : votedL kind round (addX xs x) = votedL kind round xs ∧ krN kind round (addX xs x) = krN kind round xs := by
  unfold addX
  split
  · exact ⟨rfl, rfl⟩
  · constructor
    · unfold votedL hasKR
      refine List.map_congr_left fun f _ => ?_
      rw [List.any_append]
      simp [h]
    · unfold krN
      rw [List.filter_append, List.length_append]
      simp [h]
set_option maxRecDepth 100000 in
/-- A vote of a member that voted there. -/
theorem kr_old {kind round : Int} {xs : List VtX} {x : VtX} {f : Nat} (h : isKR kind round x = true) (hf : x.frm = (f : Int)) (hv : hasKR kind round xs f = true) : addX xs x = xs := by
  unfold isKR at h
  simp only [Bool.and_eq_true, decide_eq_true_eq] at h
  obtain ⟨y, hy, h1, h2⟩ := hasKR_iff.1 hv
  unfold addX
  rw [if_pos (hasPl_iff.2 ⟨y, hy, by rw [h1.1, h.1], by rw [h1.2, h.2], by rw [h2, hf]⟩)]
set_option maxRecDepth 100000 in
/-- A vote of a member that didn't. -/
theorem kr_new {kind round : Int} {xs : List VtX} {x : VtX} {f : Nat} (h : isKR kind round x = true) (hf : x.frm = (f : Int)) (hv : hasKR kind round xs f = false) : votedL kind round (addX xs x) = (votedL kind round xs).set f (.bool true) ∧ krN kind round (addX xs x) = krN kind round xs + 1 := by
  have h' := h
  unfold isKR at h'
  simp only [Bool.and_eq_true, decide_eq_true_eq] at h'
  have hp : hasPl xs x = false := by
    cases e : hasPl xs x with
    | false => rfl
    | true =>
      obtain ⟨y, hy, h1, h2, h3⟩ := hasPl_iff.1 e
      rw [hasKR_iff.2 ⟨y, hy, ⟨by rw [h1, h'.1], by rw [h2, h'.2]⟩, by rw [h3, hf]⟩] at hv
      cases hv
  unfold addX
  rw [hp, if_neg (by simp)]
  constructor
  · apply List.ext_getElem?
    intro j
    rw [List.getElem?_set, votedL_len]
    by_cases hj : f = j
    · subst hj
      rw [if_pos rfl]
      by_cases h64 : f < 64
      · rw [if_pos h64, votedL_at _ _ _ h64]
        congr 2
        exact hasKR_iff.2 ⟨x, by simp, h', hf⟩
      · rw [if_neg h64, List.getElem?_eq_none (by rw [votedL_len]; omega)]
    · rw [if_neg hj]
      by_cases h64 : j < 64
      · rw [votedL_at _ _ _ h64, votedL_at _ _ _ h64]
        congr 2
        unfold hasKR
        rw [List.any_append]
        have : decide (x.frm = (j : Int)) = false := decide_eq_false (by omega)
        simp [this]
      · rw [List.getElem?_eq_none (by rw [votedL_len]; omega), List.getElem?_eq_none (by rw [votedL_len]; omega)]
  · unfold krN
    rw [List.filter_append, List.length_append]
    simp [h]
/-- All counts together. -/
def sumF (kind round : Int) (xs : List VtX) (ds : List (List UInt8)) : Nat := (ds.map fun d => (forF kind round d xs).length).sum
set_option maxRecDepth 100000 in
theorem sum_one {kind round : Int} {x : VtX} : ∀ ds : List (List UInt8), ds.Nodup → (ds.map fun d => (forF kind round d [x]).length).sum = if isKR kind round x = true ∧ x.dig ∈ ds then 1 else 0
  | [], _ => by simp
  | d :: r, hn => by
    obtain ⟨h1, h2⟩ := List.nodup_cons.1 hn
    rw [List.map_cons, List.sum_cons, sum_one r h2]
    unfold forF isFor isKR
    by_cases hd : x.dig = d
    · subst hd
      by_cases hk : x.kind = kind <;> by_cases hr : x.round = round <;> simp [hk, hr, h1]
    · have : x.dig ∈ d :: r ↔ x.dig ∈ r := by
        rw [List.mem_cons]
        exact ⟨fun h => h.resolve_left hd, .inr⟩
      simp only [this]
      simp [hd]
set_option maxRecDepth 100000 in
theorem sum_all {kind round : Int} {ds : List (List UInt8)} (hn : ds.Nodup) : ∀ xs : List VtX, (∀ x ∈ xs, x.dig ∈ ds) → sumF kind round xs ds = krN kind round xs
  | [], _ => by
    unfold sumF krN forF
    simp
    induction ds with
    | nil => rfl
    | cons d r ih => simpa using ih (List.nodup_cons.1 hn).2
  | x :: r, h => by
    have ih := sum_all (kind := kind) (round := round) hn r fun y hy => h y (List.mem_cons_of_mem _ hy)
    have h1 := sum_one (kind := kind) (round := round) (x := x) ds hn
    have h2 : sumF kind round (x :: r) ds = (ds.map fun d => (forF kind round d [x]).length).sum + sumF kind round r ds := by
      unfold sumF
      clear ih h1 h hn
      induction ds with
      | nil => rfl
      | cons d l ihd =>
        rw [List.map_cons, List.sum_cons, List.map_cons, List.sum_cons, List.map_cons, List.sum_cons, ihd]
        have : (forF kind round d (x :: r)).length = (forF kind round d [x]).length + (forF kind round d r).length := by
          unfold forF
          rw [List.length_map, List.length_map, List.length_map, show x :: r = [x] ++ r from rfl, List.filter_append, List.length_append]
        omega
    rw [h2, h1, ih]
    unfold krN
    rw [List.filter_cons]
    cases hk : isKR kind round x
    · simp
    · simp [h x (List.mem_cons_self ..)]
      omega

/-! ### In memory -/
noncomputable def alBl (b : Bool) (v : Value) : Sem Value := Instr.alloc 26 b v
set_option maxRecDepth 100000 in
theorem alBl_def (b : Bool) (v : Value) : Instr.alloc 26 b v = alBl b v := rfl
def zbl : Array Value := (List.replicate 64 (Value.bool false)).toArray
set_option maxRecDepth 100000 in
theorem zero_bl (w : World) : (zeroValue 26).run Tryd.prog w = .ok (.agg zbl) w := by kernel_rfl
set_option maxRecDepth 100000 in
theorem al_bl (w : World) : (alBl true (.tuple #[])).run Tryd.prog w = .ok (.pointer (some ⟨w.heap.size, 0, none⟩)) (w.alloc (.cells zbl 26)) := by
  have h := zero_bl w
  unfold alBl Instr.alloc
  rw [Sem.run_bind, h]
  rfl
set_option maxRecDepth 100000 in
theorem zbl_is (kind round : Int) : zbl = (votedL kind round []).toArray := by
  unfold zbl votedL
  rw [show (fun f => Value.bool (hasKR kind round [] f)) = fun _ : Nat => Value.bool false from rfl, List.map_const']
  simp
set_option maxRecDepth 100000 in
theorem BoxIs.bools {w w' : World} {p mb : Nat} {vs : List VtM} (h : BoxIs w p mb vs) {g : Nat} {cs : Array Value} (hb : Box w g 26 cs) (hg : w.grownBy w' (some g)) : BoxIs w' p mb vs :=
  ⟨h.box.grown hg (fun e => by injection e with e; exact Box.apart h.box hb (by decide) e), h.map.grown hg (fun e => h.map.ne hb (by injection e with e; exact e.symm)), h.ok⟩
set_option maxRecDepth 100000 in
theorem own_map {κ : Type} {K : MKey κ} {w w' : World} {mb : Nat} {es : List (κ × Value)} (hm : MapIs K w mb es) {base n s : Nat} {e : TypeId} {v : Value} {xs : List Value} (h : w.ownsRow base e s v n xs) (hg : w.grownBy w' (some mb)) : w'.ownsRow base e s v n xs := by
  refine World.ownsRow.kept h hg ?_
  rcases h.2 with ⟨rfl, _⟩ | ⟨g, cap, cur, rfl, _, hb, _⟩
  · exact .inl rfl
  · exact .inr fun e => hm.ne (show Box w g _ _ from hb) (by simpa [Value.ownBlock] using e)
set_option maxRecDepth 100000 in
theorem laid_dg13 (w : World) {d : List UInt8} (hd : d.length = 32) : ∃ w', (stDigest (.pointer (some ⟨w.heap.size, 0, none⟩)) (.agg (d.map bv).toArray)).run Tryd.prog (w.alloc (.cells #[.int .u8 0, .int .u8 0, .int .u8 0, .int .u8 0, .int .u8 0, .int .u8 0, .int .u8 0, .int .u8 0, .int .u8 0, .int .u8 0, .int .u8 0, .int .u8 0, .int .u8 0, .int .u8 0, .int .u8 0, .int .u8 0, .int .u8 0, .int .u8 0, .int .u8 0, .int .u8 0, .int .u8 0, .int .u8 0, .int .u8 0, .int .u8 0, .int .u8 0, .int .u8 0, .int .u8 0, .int .u8 0, .int .u8 0, .int .u8 0, .int .u8 0, .int .u8 0] 29)) = .ok () w' ∧ Box w' w.heap.size 29 (d.map bv).toArray ∧ Below w.heap.size w w' := by
  have hb := Box.made w 29 zs32
  exact ⟨_, hb.store_digest rfl d hd, hb.cells_dig rfl hd, ((Below.refl _ _).alloc (Nat.le_refl _) _).trans (below_only (only_cells (g := w.heap.size) (d.map bv) 0 _) (Nat.le_refl _) (by simp))⟩
abbrev Dg13 := {d : List UInt8 // d.length = 32}
def dgs (ds : List Dg13) : List (List UInt8) := ds.map (·.1)

set_option maxRecDepth 100000 in
theorem sum_le {n : Nat} {g : List UInt8 → Nat} (h : ∀ d, g d ≤ n) : ∀ ds : List (List UInt8), (ds.map g).sum ≤ ds.length * n
  | [] => by simp
  | d :: r => by
    rw [List.map_cons, List.sum_cons, List.length_cons, Nat.add_mul, Nat.one_mul]
    have := sum_le h r
    have := h d
    omega
set_option maxRecDepth 100000 in
theorem dgs_take {ds : List Dg13} {i : Nat} (hil : i < ds.length) {d : List UInt8} : (dgs (ds.take (i + 1))).contains d = ((dgs (ds.take i)).contains d || decide ((ds[i]'hil).1 = d)) := by
  unfold dgs
  rw [List.take_succ_eq_append_getElem hil, List.map_append, Bool.eq_iff_iff, Bool.or_eq_true, List.contains_iff_mem, List.contains_iff_mem, List.mem_append, decide_eq_true_eq]
  refine or_congr Iff.rfl ?_
  rw [List.map_singleton, List.mem_singleton]
  exact eq_comm
set_option maxRecDepth 100000 in
theorem mem_addX_iff {xs : List VtX} {x y : VtX} (h : y ∈ addX xs x) : y ∈ xs ∨ y = x := by
  unfold addX at h
  split at h
  · exact .inl h
  · rcases List.mem_append.1 h with h | h
    · exact .inl h
    · exact .inr (List.mem_singleton.1 h)
set_option maxRecDepth 100000 in
theorem dgs_more {ds : List Dg13} {xs ys : List VtX} {m : VtX} {k : Nat} (h : (dgs ds).Nodup ∧ ds.length ≤ k ∧ ∀ x ∈ xs, x.dig ∈ dgs ds) (hc : (dgs ds).contains m.dig = false) (hy : ∀ y ∈ ys, y ∈ xs ∨ y = m) :
    (dgs (ds ++ [(⟨m.dig, m.len⟩ : Dg13)])).Nodup ∧ (ds ++ [(⟨m.dig, m.len⟩ : Dg13)]).length ≤ k + 1 ∧ ∀ y ∈ ys, y.dig ∈ dgs (ds ++ [(⟨m.dig, m.len⟩ : Dg13)]) := by
  have hn : m.dig ∉ dgs ds := fun hm => by
    rw [List.contains_iff_mem.2 hm] at hc
    cases hc
  refine ⟨?_, by rw [List.length_append, List.length_singleton]; omega, fun y hyy => ?_⟩
  · unfold dgs at hn h ⊢
    rw [List.map_append, List.nodup_append]
    refine ⟨h.1, by simp, ?_⟩
    rintro a ha b hb rfl
    simp at hb
    subst hb
    exact hn ha
  · unfold dgs at h ⊢
    rw [List.map_append]
    rcases hy y hyy with hx | rfl
    · exact List.mem_append.2 (.inl (h.2.2 y hx))
    · exact List.mem_append.2 (.inr (by simp))
set_option maxRecDepth 100000 in
/-- A box stands where a row of digests of one's own is written. -/
theorem BoxIs.own13 {w w' : World} {p mb : Nat} {vs : List VtM} (h : BoxIs w p mb vs) {base n : Nat} {v : Value} {xs : List Value} (ho : w.ownsRow base 29 32 v n xs) (hg : w.grownBy w' v.ownBlock) : BoxIs w' p mb vs := by
  refine ⟨box_own h.box ho (by decide) hg, h.map.grown hg (fun e => ?_), h.ok⟩
  rcases ho.2 with ⟨rfl, _⟩ | ⟨g, cap, cur, rfl, _, hb, _⟩
  · simp [Value.ownBlock] at e
  · exact h.map.ne (show Box w g _ _ from hb) (by simp [Value.ownBlock] at e; exact e.symm)
attribute [local go_sem ↓] ldVt_def stVt_def alVt_def alBl_def ldSg_def ldDigest_def stDigest_def eqDigest_def bsT_def apAll_def
set_option maxRecDepth 100000 in
set_option maxHeartbeats 16000000 in
theorem once_walk13 (vs : List VtM) (A : Option Addr) (c : Nat) (kind round : Int) (w : World) (hS : VtK.See w w.heap.size A vs) (hq : ∀ m ∈ vs, VtArg w m) (hn : vs.length ≤ 1099511627776) (hR : Roots w) :
    Calls Tryd.prog 3 #[.slice A vs.length c, .int .i64 kind, .int .i64 round] w fun e w' => e = .returned (.bool true) ∧ Below w.heap.size w w' := by
  have HAL := Lib.hid (alive_any13 w hR)
  have HS := Lib.hid hS
  have HQ := Lib.hid hq
  have HN := Lib.hid hn
  clear hS hq hn hR
  go_enter Tryd.func3, Tryd.ntmps3
  go_upto_region 3 with (go_at_call 5; (with_reducible refine (HAL.out).mono ?_); rintro e w2 ⟨rfl, hb⟩; have HF2 := Lib.hid hb; clear hb)
  clear HAL
  by_cases h60 : vs.length ≤ 60
  rotate_left
  · have i1 : (60 : Int) < (vs.length : Int) := by omega
    go_wp2
    go_ret
    exact ⟨rfl, HF2.out⟩
  have i1 : ¬ (60 : Int) < (vs.length : Int) := by omega
  have H60 := Lib.hid h60
  go_upto_region 6 with (go_at_call 6; (with_reducible refine (newbox_any _).mono ?_); rintro e w3 ⟨p, mb, rfl, hbx, lmb, _, hb⟩; have HB3 := Lib.hid hbx; have HF3 := Lib.hid (HF2.out.trans (hb.mono HF2.out.size)); have HLM := Lib.hid (Nat.le_trans HF2.out.size lmb); clear hbx hb lmb)
  clear HF2 i1 h60
  have hal := al_bl
  have HV4 : Hid (Box (w3.alloc (.cells zbl 26)) w3.heap.size 26 (votedL kind round []).toArray) := Lib.hid (by rw [← zbl_is]; exact Box.made _ _ _)
  have HB4 : Hid (BoxIs (w3.alloc (.cells zbl 26)) p mb []) := Lib.hid (HB3.out.call ((Below.refl _ _).alloc (Nat.le_refl _) _))
  have HF4 : Hid (Below w.heap.size w (w3.alloc (.cells zbl 26))) := Lib.hid (HF3.out.trans (((Below.refl _ _).alloc (Nat.le_refl _) _).mono HF3.out.size))
  have HVB : Hid (w.heap.size ≤ w3.heap.size) := Lib.hid HF3.out.size
  go_upto_region 7 with fail
  clear hal HB3 HF3
  generalize w3.alloc (.cells zbl 26) = w4 at *
  generalize w3.heap.size = vb at *
  go_wp2
  go_loopw [9, 10, 27] (fun mv sv i wr => ∃ (k M : Nat) (us : List VtM) (ds : List Dg13) (A2 : Option Addr) (n2 c2 : Nat), k ≤ vs.length ∧ mv = .int .i64 (M : Int) ∧ sv = .slice A2 n2 c2 ∧ i = .int .i64 (k : Int) ∧ Hid (BoxIs wr p mb us) ∧ Hid (us.length ≤ k ∧ M = krN kind round (us.map VtM.x) ∧ M ≤ k) ∧
    Hid (Box wr vb 26 (votedL kind round (us.map VtM.x)).toArray) ∧ Hid (DgK.Own wr w.heap.size (.slice A2 n2 c2) ds) ∧ Hid ((dgs ds).Nodup ∧ ds.length ≤ k ∧ ∀ x ∈ us.map VtM.x, x.dig ∈ dgs ds) ∧ Hid (Below w.heap.size w wr)) (fun _ _ i _ => vs.length - (intOf i).toNat)
  case atStart => exact ⟨0, 0, [], [], none, 0, 0, Nat.zero_le _, rfl, rfl, rfl, HB4, Lib.hid ⟨Nat.le_refl _, rfl, Nat.le_refl _⟩, HV4, Lib.hid (EK.own_nil _ _ _), Lib.hid ⟨List.nodup_nil, Nat.le_refl _, fun x hx => (by cases hx)⟩, HF4⟩
  case round =>
    clear HB4 HV4 HF4
    obtain ⟨k, M, us, ds, A2, n2, c2, hk, rfl, rfl, rfl, HB, HU, HV, HO, HD, HF⟩ := hrel
    by_cases hlt : k < vs.length
    rotate_left
    · have i1 : ¬ (k : Int) < (vs.length : Int) := by omega
      have HDN : Hid (n2 = ds.length) := Lib.hid (HO.out.bounds).1
      have HDL : Hid (ds.length ≤ 60) := Lib.hid (by have := HD.out.2.1; have := H60.out; omega)
      have HSU : Hid (sumF kind round (us.map VtM.x) (dgs ds) = M) := Lib.hid (by rw [HU.out.2.1]; exact sum_all HD.out.1 _ HD.out.2.2)
      have HUM : Hid (us.length < 1000000) := Lib.hid (by have := HU.out.1; have := H60.out; omega)
      have HDS := Lib.hid (EK.Own.see HO.out)
      obtain ⟨w5, hw5⟩ : ∃ w5, w5 = wr := ⟨_, rfl⟩
      have HBr : Hid (BoxIs w5 p mb us) := by rw [hw5]; exact HB
      have HFr : Hid (Below w.heap.size w w5) := by rw [hw5]; exact HF
      rw [← hw5] at HDS ⊢
      clear HB HF HV HO hw5
      go_upto_region 28 with fail
      go_wp2
      go_loopw [16, 87] (fun s j wx => ∃ i : Nat, i ≤ ds.length ∧ s = .int .i64 (sumF kind round (us.map VtM.x) (dgs (ds.take i)) : Int) ∧ j = .int .i64 (i : Int) ∧ Hid (Below w5.heap.size w5 wx)) (fun _ j _ => ds.length - (intOf j).toNat)
      case atStart => exact ⟨0, Nat.zero_le _, rfl, rfl, Lib.hid (Below.refl _ _)⟩
      case round =>
        obtain ⟨i, hi, rfl, rfl, HG⟩ := hrel
        by_cases hil : i < ds.length
        · have HIL := Lib.hid hil
          obtain ⟨gd, od, rfl, _, hrd⟩ := EK.See.range (EK.See.far HDS.out HG.out) hil
          have ldk : (ldDigest (.pointer (some ⟨gd, od + i * 32, none⟩))).run Tryd.prog wr = .ok (.agg (((ds[i]'hil).1).map bv).toArray) wr := range_load (hrd i hil) (ds[i]'hil).2
          have a1 : (i : Int) < (n2 : Int) := by have := HDN.out; omega
          have a0 : (0 : Int) ≤ (i : Int) := by omega
          have ak : IntKind.i64.wrap ((i : Int) + 1) = ((i + 1 : Nat) : Int) := by rw [IntKind.wrap_i64]; have := HDL.out; omega
          have HTK : Hid (sumF kind round (us.map VtM.x) (dgs (ds.take (i + 1))) = sumF kind round (us.map VtM.x) (dgs (ds.take i)) + (forF kind round (ds[i]'hil).1 (us.map VtM.x)).length) := Lib.hid (by
            unfold sumF dgs
            rw [List.take_succ_eq_append_getElem hil, List.map_append, List.map_append, List.sum_append]
            simp)
          have HTL : Hid (sumF kind round (us.map VtM.x) (dgs (ds.take i)) + (forF kind round (ds[i]'hil).1 (us.map VtM.x)).length ≤ 1000000000) := Lib.hid (by
            rw [← HTK.out]
            refine Nat.le_trans (sum_le (fun d => forF_le kind round d (us.map VtM.x)) _) ?_
            have h1 : (dgs (ds.take (i + 1))).length ≤ 60 := by unfold dgs; rw [List.length_map, List.length_take]; have := HDL.out; omega
            have h2 : (us.map VtM.x).length ≤ 60 := by rw [List.length_map]; have := HU.out.1; have := H60.out; omega
            exact Nat.le_trans (Nat.mul_le_mul h1 h2) (by decide))
          obtain ⟨wy, hsd, hbd, hbld⟩ := laid_dg13 wr (ds[i]'hil).2
          have ld1 := hbd.load_digest (ds[i]'hil).2
          have HBY := Lib.hid ((HBr.out.call (HG.out.trans (hbld.mono HG.out.size))))
          have HGY := Lib.hid (HG.out.trans (hbld.mono HG.out.size))
          have HCT := Lib.hid (count_box kind round (ds[i]'hil).2 HUM.out HBY.out)
          clear hrd hbd hbld
          generalize (forF kind round (ds[i]'hil).1 (us.map VtM.x)).length = cn at *
          generalize sumF kind round (us.map VtM.x) (dgs (ds.take i)) = sn at *
          have wsn : IntKind.i64.wrap ((sn : Int) + (cn : Int)) = ((sn + cn : Nat) : Int) := by rw [IntKind.wrap_i64]; have := HTL.out; omega
          generalize (ds[i]'hil).1 = dd at *
          go_wp2_with (go_at_call 10; (with_reducible refine (HCT.out).mono ?_); rintro e wz ⟨rfl, hb⟩; have HGZ := Lib.hid (HGY.out.trans (hb.mono HGY.out.size)); clear hb)
          go_roundw
          case rel => exact ⟨i + 1, HIL.out, by rw [HTK.out]; simp, by go_num, HGZ⟩
          case measure => have := HIL.out; simp [intOf]; omega
        · have a1 : ¬ (i : Int) < (n2 : Int) := by have := HDN.out; omega
          have HSE : Hid (sumF kind round (us.map VtM.x) (dgs (ds.take i)) = M) := Lib.hid (by rw [List.take_of_length_le (by omega)]; exact HSU.out)
          have hz2 := HSE.out
          clear hi
          generalize sumF kind round (us.map VtM.x) (dgs (ds.take i)) = sn at *
          subst hz2
          go_wp2
          go_ret
          exact ⟨ret_val (by simp), HFr.out.trans (HG.out.mono HFr.out.size)⟩
    have HLT := Lib.hid hlt
    obtain ⟨g, o, rfl, _, hr⟩ := EK.See.range (EK.See.far HS.out HF.out) hlt
    have lk : (ldVt (.pointer (some ⟨g, o + k * 41, none⟩))).run Tryd.prog wr = .ok (.agg (vs[k]'hlt).cells.toArray) wr := range_vt (vs[k]'hlt).x.len (hr k hlt)
    have HA := Lib.hid (HQ.out _ (List.getElem_mem hlt))
    have i1 : (k : Int) < (vs.length : Int) := by omega
    have i0 : (0 : Int) ≤ (k : Int) := by omega
    have wk : IntKind.i64.wrap ((k : Int) + 1) = ((k + 1 : Nat) : Int) := by rw [IntKind.wrap_i64]; have := HN.out; omega
    generalize vs[k]'hlt = m at *
    obtain ⟨w5, hst5, hb5, hbl5⟩ := laid_vt wr m
    have hal := al_vt
    have HW5 := Lib.hid hb5
    have HB5 := Lib.hid (HB.out.call hbl5)
    have HV5 := Lib.hid (HV.out.below hbl5 HV.out.lt)
    have HO5 := Lib.hid (EK.Own.keep HO.out hbl5)
    have HF5 := Lib.hid (HF.out.trans (hbl5.mono HF.out.size))
    have HQL : Hid (w.heap.size ≤ wr.heap.size) := Lib.hid HF.out.size
    clear hr hb5 hbl5 HB HV HO HF
    go_upto_region 12 with fail
    clear lk hst5 hal
    generalize wr.heap.size = q at *
    have lv := HW5.out.ld_vt
    have HGD := Lib.hid (rvgood_any m w5)
    cases hg : vGood m.x with
    | false =>
      rw [hg] at HGD
      go_wp2_with (go_at_call 7; (with_reducible refine (HGD.out).mono ?_); rintro e w6 ⟨rfl, hb⟩; have HF6 := Lib.hid (HF5.out.trans (hb.mono HF5.out.size)); clear hb)
      go_ret
      exact ⟨rfl, HF6.out⟩
    | true =>
      rw [hg] at HGD
      have HGR : Hid (∀ w', Calls Tryd.prog 8 #[.agg m.sg.cells] w' fun e w'' => e = .returned (.bool (decide (200 < m.x.opn.length) || decide (200 < m.x.sht.length) || decide (200 < m.x.pth.length))) ∧ Below w'.heap.size w' w'') := Lib.hid (fun w' => vgreat_any _ _ _ _ _ _ _ _ _ _ w')
      have HLG : Hid (∀ w', Box w' q 35 m.cells.toArray → (ldSg (.pointer (some ⟨q, 37, none⟩))).run Tryd.prog w' = .ok (.agg m.sg.cells) w') := Lib.hid (fun w' h => h.ld_vsg)
      cases hgr : (decide (200 < m.x.opn.length) || decide (200 < m.x.sht.length) || decide (200 < m.x.pth.length)) with
      | true =>
        rw [hgr] at HGR
        go_wp2_with (first
          | (go_at_call 7; (with_reducible refine (HGD.out).mono ?_); rintro e w6 ⟨rfl, hb⟩; have HF6 := Lib.hid (HF5.out.trans (hb.mono HF5.out.size)); have lg := HLG.out w6 (HW5.out.below hb HW5.out.lt); clear hb)
          | (go_at_call 8; (with_reducible refine (HGR.out _).mono ?_); rintro e w7 ⟨rfl, hb⟩; have HF7 := Lib.hid (HF6.out.trans (hb.mono HF6.out.size)); clear hb))
        go_ret
        exact ⟨rfl, HF7.out⟩
      | false =>
        rw [hgr] at HGR
        have HOK := Lib.hid (HA.out.ok hg)
        have HFW := Lib.hid (few_of hgr)
        go_upto_region 14 with (first
          | (go_at_call 7; (with_reducible refine (HGD.out).mono ?_); rintro e w6 ⟨rfl, hb⟩; have HF6 := Lib.hid (HF5.out.trans (hb.mono HF5.out.size)); have HW6 := Lib.hid (HW5.out.below hb HW5.out.lt); have HB6 := Lib.hid (HB5.out.call hb); have HV6 := Lib.hid (HV5.out.below hb HV5.out.lt); have HO6 := Lib.hid (EK.Own.keep HO5.out hb); have lg := HLG.out w6 HW6.out; clear hb)
          | (go_at_call 8; (with_reducible refine (HGR.out _).mono ?_); rintro e w7 ⟨rfl, hb⟩; have HF7 := Lib.hid (HF6.out.trans (hb.mono HF6.out.size)); have HW7 := Lib.hid (HW6.out.below hb HW6.out.lt); have HB7 := Lib.hid (HB6.out.call hb); have HV7 := Lib.hid (HV6.out.below hb HV6.out.lt); have HO7 := Lib.hid (EK.Own.keep HO6.out hb); clear hb))
        clear lv lg HW5 HB5 HV5 HO5 HF5 HW6 HB6 HV6 HO6 HF6 HGD HGR HLG
        have lv := HW7.out.ld_vt
        have HUL : Hid (us.length < 1000000) := Lib.hid (by have := HU.out; have := H60.out; omega)
        have HAD := Lib.hid (add_any13 p mb us m HOK.out HFW.out HUL.out w7 HB7.out (HA.out.see.call HF7.out))
        go_upto_region 15 with (go_at_call 9; (with_reducible refine (HAD.out).mono ?_); rintro e w8 ⟨rfl, us2, hb2, hx2, hg2, _⟩; have HB8 := Lib.hid hb2; have HX8 := Lib.hid hx2; have HF8 := Lib.hid (HF7.out.trans (below_only hg2 HLM.out HF7.out.size)); have HW8 := Lib.hid (HW7.out.grown hg2 (fun e => HB7.out.map.ne HW7.out (by injection e))); have HV8 := Lib.hid (HV7.out.grown hg2 (fun e => HB7.out.map.ne HV7.out (by injection e))); have HO8 : Hid (DgK.Own w8 w.heap.size (.slice A2 n2 c2) ds) := Lib.hid (own_map HB7.out.map HO7.out hg2); clear hb2 hx2 hg2)
        clear lv HW7 HB7 HV7 HO7 HF7 HAD
        have HU2 : Hid (us2.length ≤ k + 1) := Lib.hid (by
          have h1 := congrArg List.length HX8.out
          have h2 := addX_len (us.map VtM.x) m.x
          rw [List.length_map] at h1
          rw [List.length_map] at h2
          have := HU.out
          omega)
        obtain ⟨f, hf⟩ : ∃ f : Nat, m.x.frm = (f : Int) := ⟨m.x.frm.toNat, by have := HOK.out.one; omega⟩
        have HFR : Hid (m.x.frm = (f : Int) ∧ f < 64) := Lib.hid ⟨hf, by have := HOK.out.most; omega⟩
        have c0 : w8.cell? ⟨q, 0, none⟩ = some (.int .i64 m.x.kind) := HW8.out.vt_0
        have c3 : w8.cell? ⟨q, 3, none⟩ = some (.int .i64 m.x.round) := HW8.out.vt_3
        have c36 : w8.cell? ⟨q, 36, none⟩ = some (.int .i64 (f : Int)) := by rw [← hf]; exact HW8.out.vt_36 m.x.len
        have cf : w8.cell? ⟨vb, f, none⟩ = some (.bool (hasKR kind round (us.map VtM.x) f)) := by rw [HV8.out.cell, List.getElem?_toArray, votedL_at _ _ _ HFR.out.2]
        have f0 : (0 : Int) ≤ (f : Int) := by omega
        have f1 : (f : Int) < 64 := by have := HFR.out.2; omega
        clear hf
        by_cases h1 : m.x.kind = kind
        · by_cases h2 : m.x.round = round
          · cases hv : hasKR kind round (us.map VtM.x) f with
            | true =>
              rw [hv] at cf
              have HK : Hid (isKR kind round m.x = true) := Lib.hid (by unfold isKR; simp [h1, h2])
              have hko := kr_old HK.out HFR.out.1 hv
              rw [← HX8.out] at hko
              have HV9 : Hid (Box w8 vb 26 (votedL kind round (us2.map VtM.x)).toArray) := by rw [hko]; exact HV8
              have HM9 : Hid (M = krN kind round (us2.map VtM.x)) := Lib.hid (by rw [hko]; exact HU.out.2.1)
              clear hko HV8
              have HB9 := HB8
              have HO9 := HO8
              have HF9 := HF8
              have HW9 := HW8
              go_upto_region 20 with fail
              clear c0 c3 c36 cf
              have HUM : Hid (us2.length < 1000000) := Lib.hid (by have := HU2.out; have := H60.out; have := HLT.out; omega)
              have HFN : Hid (∀ w', Box w' q 35 m.cells.toArray → (ldDigest (.pointer (some ⟨q, 4, none⟩))).run Tryd.prog w' = .ok (.agg (m.x.dig.map bv).toArray) w') := Lib.hid (fun w' hb => range_load hb.vt_dig m.x.len)
              have HDN : Hid (n2 = ds.length) := Lib.hid (HO9.out.bounds).1
              have HDL : Hid (ds.length ≤ 60) := Lib.hid (by have := HD.out.2.1; have := H60.out; have := HLT.out; omega)
              have HDS := Lib.hid (EK.Own.see HO9.out)
              go_loopw [13, 66] (fun fv j wx => ∃ i : Nat, i ≤ ds.length ∧ fv = .bool (!((dgs (ds.take i)).contains m.x.dig)) ∧ j = .int .i64 (i : Int) ∧ Hid (Below w8.heap.size w8 wx)) (fun _ j _ => ds.length - (intOf j).toNat)
              case atStart => exact ⟨0, Nat.zero_le _, rfl, rfl, Lib.hid (Below.refl _ _)⟩
              case round =>
                obtain ⟨i, hi, rfl, rfl, HG⟩ := hrel
                by_cases hil : i < ds.length
                · have HIL := Lib.hid hil
                  obtain ⟨gd, od, rfl, _, hrd⟩ := EK.See.range (EK.See.far HDS.out HG.out) hil
                  have ldk : (ldDigest (.pointer (some ⟨gd, od + i * 32, none⟩))).run Tryd.prog wr = .ok (.agg (((ds[i]'hil).1).map bv).toArray) wr := range_load (hrd i hil) (ds[i]'hil).2
                  have a1 : (i : Int) < (n2 : Int) := by have := HDN.out; omega
                  have a0 : (0 : Int) ≤ (i : Int) := by omega
                  have ak : IntKind.i64.wrap ((i : Int) + 1) = ((i + 1 : Nat) : Int) := by rw [IntKind.wrap_i64]; have := HDL.out; omega
                  have HTK : Hid ((dgs (ds.take (i + 1))).contains m.x.dig = ((dgs (ds.take i)).contains m.x.dig || decide ((ds[i]'hil).1 = m.x.dig))) := Lib.hid (dgs_take hil)
                  obtain ⟨wy, hsd, hbd, hbld⟩ := laid_dg13 wr (ds[i]'hil).2
                  have HGY := Lib.hid (HG.out.trans (hbld.mono HG.out.size))
                  have HWY := Lib.hid (HW9.out.below HGY.out HW9.out.lt)
                  have ld1 := hbd.load_digest (ds[i]'hil).2
                  have ld2 := HFN.out wy HWY.out
                  have hqd := eq_digest (ds[i]'hil).1 m.x.dig (ds[i]'hil).2 m.x.len
                  clear hrd hbd hbld
                  generalize (ds[i]'hil).1 = dd at *
                  generalize (dgs (ds.take i)).contains m.x.dig = bb at *
                  by_cases hdd : dd = m.x.dig
                  · have HTT : Hid ((!((dgs (ds.take (i + 1))).contains m.x.dig)) = false) := Lib.hid (by rw [HTK.out, decide_eq_true hdd]; simp)
                    rw [decide_eq_true hdd] at hqd
                    subst hdd
                    cases bb
                    · go_wp2
                      go_roundw
                      case rel => exact ⟨i + 1, HIL.out, by first | (rw [HTT.out]; done) | (rw [HTT.out]; rfl), by go_num, HGY⟩
                      case measure => have := HIL.out; simp [intOf]; omega
                    · go_wp2
                      go_roundw
                      case rel => exact ⟨i + 1, HIL.out, by first | (rw [HTT.out]; done) | (rw [HTT.out]; rfl), by go_num, HGY⟩
                      case measure => have := HIL.out; simp [intOf]; omega
                  · have HTT : Hid ((!((dgs (ds.take (i + 1))).contains m.x.dig)) = !bb) := Lib.hid (by rw [HTK.out, decide_eq_false hdd]; simp)
                    rw [decide_eq_false hdd] at hqd
                    cases bb
                    · go_wp2
                      go_roundw
                      case rel => exact ⟨i + 1, HIL.out, by first | (rw [HTT.out]; done) | (rw [HTT.out]; rfl), by go_num, HGY⟩
                      case measure => have := HIL.out; simp [intOf]; omega
                    · go_wp2
                      go_roundw
                      case rel => exact ⟨i + 1, HIL.out, by first | (rw [HTT.out]; done) | (rw [HTT.out]; rfl), by go_num, HGY⟩
                      case measure => have := HIL.out; simp [intOf]; omega
                · have a1 : ¬ (i : Int) < (n2 : Int) := by have := HDN.out; omega
                  have HTE : Hid ((dgs (ds.take i)).contains m.x.dig = (dgs ds).contains m.x.dig) := Lib.hid (by rw [List.take_of_length_le (by omega)])
                  have HBz := Lib.hid (HB9.out.call HG.out)
                  have HVz := Lib.hid (HV9.out.below HG.out HV9.out.lt)
                  have HOz := Lib.hid (EK.Own.keep HO9.out HG.out)
                  have HFz := Lib.hid (HF9.out.trans (HG.out.mono HF9.out.size))
                  have HWz := Lib.hid (HW9.out.below HG.out HW9.out.lt)
                  have ld2 := HFN.out wr HWz.out
                  clear hi
                  generalize (dgs (ds.take i)).contains m.x.dig = bb at *
                  cases bb with
                  | true =>
                    have HDZ : Hid ((dgs ds).Nodup ∧ ds.length ≤ k + 1 ∧ ∀ x ∈ us2.map VtM.x, x.dig ∈ dgs ds) := Lib.hid ⟨HD.out.1, by have := HD.out.2.1; omega, fun x hx => by
                      rw [HX8.out] at hx
                      rcases mem_addX_iff hx with hx | rfl
                      · exact HD.out.2.2 x hx
                      · exact List.contains_iff_mem.1 HTE.out.symm⟩
                    go_wp2
                    go_roundw
                    case rel => exact ⟨k + 1, M, us2, ds, _, _, _, HLT.out, rfl, rfl, by go_num, HBz, Lib.hid ⟨HU2.out, HM9.out, by have := HU.out.2.2; omega⟩, HVz, HOz, HDZ, HFz⟩
                    case measure => have := HLT.out; simp [intOf]; omega
                  | false =>
                    have hbs : (bsT 27 1 #[(0, .agg (m.x.dig.map bv).toArray)]).run Tryd.prog wr = .ok (.slice (some ⟨wr.heap.size, 0, none⟩) 1 1) (wr.alloc (.cells (m.x.dig.map bv).toArray 29)) := DgK.build1 ⟨m.x.dig, m.x.len⟩ (.agg (m.x.dig.map bv).toArray) rfl (by decide) wr
                    have hal6 : Below wr.heap.size wr (wr.alloc (.cells (m.x.dig.map bv).toArray 29)) := (Below.refl _ _).alloc (Nat.le_refl _) _
                    have hO7 := EK.Own.keep HOz.out hal6
                    obtain ⟨va, wa, hap0, hoa, hga⟩ := DgK.append hO7 (A := some ⟨wr.heap.size, 0, none⟩) (m := 1) (c := 1) (es := [⟨m.x.dig, m.x.len⟩]) rfl (DgK.see_one wr ⟨m.x.dig, m.x.len⟩) (by have := HDL.out; omega) (by have := HDL.out; show (_ + 1) * 32 ≤ _; omega) (Nat.le_trans HFz.out.size hal6.size)
                    obtain ⟨Aa, ca, rfl⟩ := hoa.slice
                    obtain ⟨na, hna⟩ : ∃ na, na = (ds ++ [(⟨m.x.dig, m.x.len⟩ : Dg13)]).length := ⟨_, rfl⟩
                    have hap : (apAll #[27, 27] 27 #[.slice A2 n2 c2, .slice (some ⟨wr.heap.size, 0, none⟩) 1 1]).run Tryd.prog (wr.alloc (.cells (m.x.dig.map bv).toArray 29)) = .ok (.slice Aa na ca) wa := by rw [hna]; exact hap0
                    have HOa : Hid (DgK.Own wa w.heap.size (.slice Aa na ca) (ds ++ [⟨m.x.dig, m.x.len⟩])) := Lib.hid (by rw [hna]; exact hoa)
                    have HBa := Lib.hid ((HBz.out.call hal6).own13 hO7 hga)
                    have HVa := Lib.hid (box_own (HVz.out.below hal6 HVz.out.lt) hO7 (by decide) hga)
                    have HFa := Lib.hid ((HFz.out.trans (hal6.mono HFz.out.size)).trans (below_own hO7 hga (Nat.le_trans HFz.out.size hal6.size)))
                    have HDa : Hid ((dgs (ds ++ [(⟨m.x.dig, m.x.len⟩ : Dg13)])).Nodup ∧ (ds ++ [(⟨m.x.dig, m.x.len⟩ : Dg13)]).length ≤ k + 1 ∧ ∀ x ∈ us2.map VtM.x, x.dig ∈ dgs (ds ++ [(⟨m.x.dig, m.x.len⟩ : Dg13)])) := Lib.hid (dgs_more HD.out HTE.out.symm (fun x hx => mem_addX_iff (by rw [← HX8.out]; exact hx)))
                    clear hal6 hO7 hap0 hoa hga hna
                    go_wp2
                    go_roundw
                    case rel => exact ⟨k + 1, M, us2, _, _, _, _, HLT.out, rfl, rfl, by go_num, HBa, Lib.hid ⟨HU2.out, HM9.out, by have := HU.out.2.2; omega⟩, HVa, HOa, HDa, HFa⟩
                    case measure => have := HLT.out; simp [intOf]; omega
            | false =>
              rw [hv] at cf
              have HK : Hid (isKR kind round m.x = true) := Lib.hid (by unfold isKR; simp [h1, h2])
              have hko := kr_new HK.out HFR.out.1 hv
              rw [← HX8.out] at hko
              have hfz : w8.frozen? ⟨vb, f, none⟩ = false := HV8.out.free f
              obtain ⟨w9, hw9⟩ : ∃ w9, w9 = w8.setCell ⟨vb, f, none⟩ (.bool true) := ⟨_, rfl⟩
              have hg9 : w8.grownBy w9 (some vb) := by rw [hw9]; exact only_put (only_refl _ _) f _
              have HV9 : Hid (Box w9 vb 26 (votedL kind round (us2.map VtM.x)).toArray) := Lib.hid (by
                have h := HV8.out.put f (.bool true)
                rw [← hw9, List.setIfInBounds_toArray] at h
                rw [hko.1]
                exact h)
              have HM9 : Hid (M + 1 = krN kind round (us2.map VtM.x)) := Lib.hid (by rw [hko.2, HU.out.2.1])
              have HB9 := Lib.hid (HB8.out.bools HV8.out hg9)
              have HO9 : Hid (DgK.Own w9 w.heap.size (.slice A2 n2 c2) ds) := Lib.hid (own_box HO8.out HV8.out (by decide) hg9)
              have HF9 := Lib.hid (HF8.out.trans (below_only hg9 HVB.out HF8.out.size))
              have HW9 := Lib.hid (HW8.out.grown hg9 (by intro e; injection e with e; exact Box.apart HW8.out HV8.out (by decide) e))
              have wkM : IntKind.i64.wrap ((M : Int) + 1) = ((M + 1 : Nat) : Int) := by rw [IntKind.wrap_i64]; have := HU.out.2.2; have := H60.out; omega
              clear hko hg9 HV8
              go_upto_region 17 with fail
              rw [← hw9]
              clear hw9 c0 c3 c36 cf hfz
              go_upto_region 20 with fail
              have HUM : Hid (us2.length < 1000000) := Lib.hid (by have := HU2.out; have := H60.out; have := HLT.out; omega)
              have HFN : Hid (∀ w', Box w' q 35 m.cells.toArray → (ldDigest (.pointer (some ⟨q, 4, none⟩))).run Tryd.prog w' = .ok (.agg (m.x.dig.map bv).toArray) w') := Lib.hid (fun w' hb => range_load hb.vt_dig m.x.len)
              have HDN : Hid (n2 = ds.length) := Lib.hid (HO9.out.bounds).1
              have HDL : Hid (ds.length ≤ 60) := Lib.hid (by have := HD.out.2.1; have := H60.out; have := HLT.out; omega)
              have HDS := Lib.hid (EK.Own.see HO9.out)
              go_loopw [13, 66] (fun fv j wx => ∃ i : Nat, i ≤ ds.length ∧ fv = .bool (!((dgs (ds.take i)).contains m.x.dig)) ∧ j = .int .i64 (i : Int) ∧ Hid (Below w9.heap.size w9 wx)) (fun _ j _ => ds.length - (intOf j).toNat)
              case atStart => exact ⟨0, Nat.zero_le _, rfl, rfl, Lib.hid (Below.refl _ _)⟩
              case round =>
                obtain ⟨i, hi, rfl, rfl, HG⟩ := hrel
                by_cases hil : i < ds.length
                · have HIL := Lib.hid hil
                  obtain ⟨gd, od, rfl, _, hrd⟩ := EK.See.range (EK.See.far HDS.out HG.out) hil
                  have ldk : (ldDigest (.pointer (some ⟨gd, od + i * 32, none⟩))).run Tryd.prog wr = .ok (.agg (((ds[i]'hil).1).map bv).toArray) wr := range_load (hrd i hil) (ds[i]'hil).2
                  have a1 : (i : Int) < (n2 : Int) := by have := HDN.out; omega
                  have a0 : (0 : Int) ≤ (i : Int) := by omega
                  have ak : IntKind.i64.wrap ((i : Int) + 1) = ((i + 1 : Nat) : Int) := by rw [IntKind.wrap_i64]; have := HDL.out; omega
                  have HTK : Hid ((dgs (ds.take (i + 1))).contains m.x.dig = ((dgs (ds.take i)).contains m.x.dig || decide ((ds[i]'hil).1 = m.x.dig))) := Lib.hid (dgs_take hil)
                  obtain ⟨wy, hsd, hbd, hbld⟩ := laid_dg13 wr (ds[i]'hil).2
                  have HGY := Lib.hid (HG.out.trans (hbld.mono HG.out.size))
                  have HWY := Lib.hid (HW9.out.below HGY.out HW9.out.lt)
                  have ld1 := hbd.load_digest (ds[i]'hil).2
                  have ld2 := HFN.out wy HWY.out
                  have hqd := eq_digest (ds[i]'hil).1 m.x.dig (ds[i]'hil).2 m.x.len
                  clear hrd hbd hbld
                  generalize (ds[i]'hil).1 = dd at *
                  generalize (dgs (ds.take i)).contains m.x.dig = bb at *
                  by_cases hdd : dd = m.x.dig
                  · have HTT : Hid ((!((dgs (ds.take (i + 1))).contains m.x.dig)) = false) := Lib.hid (by rw [HTK.out, decide_eq_true hdd]; simp)
                    rw [decide_eq_true hdd] at hqd
                    subst hdd
                    cases bb
                    · go_wp2
                      go_roundw
                      case rel => exact ⟨i + 1, HIL.out, by first | (rw [HTT.out]; done) | (rw [HTT.out]; rfl), by go_num, HGY⟩
                      case measure => have := HIL.out; simp [intOf]; omega
                    · go_wp2
                      go_roundw
                      case rel => exact ⟨i + 1, HIL.out, by first | (rw [HTT.out]; done) | (rw [HTT.out]; rfl), by go_num, HGY⟩
                      case measure => have := HIL.out; simp [intOf]; omega
                  · have HTT : Hid ((!((dgs (ds.take (i + 1))).contains m.x.dig)) = !bb) := Lib.hid (by rw [HTK.out, decide_eq_false hdd]; simp)
                    rw [decide_eq_false hdd] at hqd
                    cases bb
                    · go_wp2
                      go_roundw
                      case rel => exact ⟨i + 1, HIL.out, by first | (rw [HTT.out]; done) | (rw [HTT.out]; rfl), by go_num, HGY⟩
                      case measure => have := HIL.out; simp [intOf]; omega
                    · go_wp2
                      go_roundw
                      case rel => exact ⟨i + 1, HIL.out, by first | (rw [HTT.out]; done) | (rw [HTT.out]; rfl), by go_num, HGY⟩
                      case measure => have := HIL.out; simp [intOf]; omega
                · have a1 : ¬ (i : Int) < (n2 : Int) := by have := HDN.out; omega
                  have HTE : Hid ((dgs (ds.take i)).contains m.x.dig = (dgs ds).contains m.x.dig) := Lib.hid (by rw [List.take_of_length_le (by omega)])
                  have HBz := Lib.hid (HB9.out.call HG.out)
                  have HVz := Lib.hid (HV9.out.below HG.out HV9.out.lt)
                  have HOz := Lib.hid (EK.Own.keep HO9.out HG.out)
                  have HFz := Lib.hid (HF9.out.trans (HG.out.mono HF9.out.size))
                  have HWz := Lib.hid (HW9.out.below HG.out HW9.out.lt)
                  have ld2 := HFN.out wr HWz.out
                  clear hi
                  generalize (dgs (ds.take i)).contains m.x.dig = bb at *
                  cases bb with
                  | true =>
                    have HDZ : Hid ((dgs ds).Nodup ∧ ds.length ≤ k + 1 ∧ ∀ x ∈ us2.map VtM.x, x.dig ∈ dgs ds) := Lib.hid ⟨HD.out.1, by have := HD.out.2.1; omega, fun x hx => by
                      rw [HX8.out] at hx
                      rcases mem_addX_iff hx with hx | rfl
                      · exact HD.out.2.2 x hx
                      · exact List.contains_iff_mem.1 HTE.out.symm⟩
                    go_wp2
                    go_roundw
                    case rel => exact ⟨k + 1, (M + 1), us2, ds, _, _, _, HLT.out, rfl, rfl, by go_num, HBz, Lib.hid ⟨HU2.out, HM9.out, by have := HU.out.2.2; omega⟩, HVz, HOz, HDZ, HFz⟩
                    case measure => have := HLT.out; simp [intOf]; omega
                  | false =>
                    have hbs : (bsT 27 1 #[(0, .agg (m.x.dig.map bv).toArray)]).run Tryd.prog wr = .ok (.slice (some ⟨wr.heap.size, 0, none⟩) 1 1) (wr.alloc (.cells (m.x.dig.map bv).toArray 29)) := DgK.build1 ⟨m.x.dig, m.x.len⟩ (.agg (m.x.dig.map bv).toArray) rfl (by decide) wr
                    have hal6 : Below wr.heap.size wr (wr.alloc (.cells (m.x.dig.map bv).toArray 29)) := (Below.refl _ _).alloc (Nat.le_refl _) _
                    have hO7 := EK.Own.keep HOz.out hal6
                    obtain ⟨va, wa, hap0, hoa, hga⟩ := DgK.append hO7 (A := some ⟨wr.heap.size, 0, none⟩) (m := 1) (c := 1) (es := [⟨m.x.dig, m.x.len⟩]) rfl (DgK.see_one wr ⟨m.x.dig, m.x.len⟩) (by have := HDL.out; omega) (by have := HDL.out; show (_ + 1) * 32 ≤ _; omega) (Nat.le_trans HFz.out.size hal6.size)
                    obtain ⟨Aa, ca, rfl⟩ := hoa.slice
                    obtain ⟨na, hna⟩ : ∃ na, na = (ds ++ [(⟨m.x.dig, m.x.len⟩ : Dg13)]).length := ⟨_, rfl⟩
                    have hap : (apAll #[27, 27] 27 #[.slice A2 n2 c2, .slice (some ⟨wr.heap.size, 0, none⟩) 1 1]).run Tryd.prog (wr.alloc (.cells (m.x.dig.map bv).toArray 29)) = .ok (.slice Aa na ca) wa := by rw [hna]; exact hap0
                    have HOa : Hid (DgK.Own wa w.heap.size (.slice Aa na ca) (ds ++ [⟨m.x.dig, m.x.len⟩])) := Lib.hid (by rw [hna]; exact hoa)
                    have HBa := Lib.hid ((HBz.out.call hal6).own13 hO7 hga)
                    have HVa := Lib.hid (box_own (HVz.out.below hal6 HVz.out.lt) hO7 (by decide) hga)
                    have HFa := Lib.hid ((HFz.out.trans (hal6.mono HFz.out.size)).trans (below_own hO7 hga (Nat.le_trans HFz.out.size hal6.size)))
                    have HDa : Hid ((dgs (ds ++ [(⟨m.x.dig, m.x.len⟩ : Dg13)])).Nodup ∧ (ds ++ [(⟨m.x.dig, m.x.len⟩ : Dg13)]).length ≤ k + 1 ∧ ∀ x ∈ us2.map VtM.x, x.dig ∈ dgs (ds ++ [(⟨m.x.dig, m.x.len⟩ : Dg13)])) := Lib.hid (dgs_more HD.out HTE.out.symm (fun x hx => mem_addX_iff (by rw [← HX8.out]; exact hx)))
                    clear hal6 hO7 hap0 hoa hga hna
                    go_wp2
                    go_roundw
                    case rel => exact ⟨k + 1, (M + 1), us2, _, _, _, _, HLT.out, rfl, rfl, by go_num, HBa, Lib.hid ⟨HU2.out, HM9.out, by have := HU.out.2.2; omega⟩, HVa, HOa, HDa, HFa⟩
                    case measure => have := HLT.out; simp [intOf]; omega
          · have HK : Hid (isKR kind round m.x = false) := Lib.hid (by unfold isKR; simp [h2])
            have hko := kr_other (us.map VtM.x) HK.out
            rw [← HX8.out] at hko
            have HV9 : Hid (Box w8 vb 26 (votedL kind round (us2.map VtM.x)).toArray) := by rw [hko.1]; exact HV8
            have HM9 : Hid (M = krN kind round (us2.map VtM.x)) := Lib.hid (by rw [hko.2]; exact HU.out.2.1)
            clear hko HV8
            have HB9 := HB8
            have HO9 := HO8
            have HF9 := HF8
            have HW9 := HW8
            go_upto_region 20 with fail
            clear c0 c3 c36 cf
            have HUM : Hid (us2.length < 1000000) := Lib.hid (by have := HU2.out; have := H60.out; have := HLT.out; omega)
            have HFN : Hid (∀ w', Box w' q 35 m.cells.toArray → (ldDigest (.pointer (some ⟨q, 4, none⟩))).run Tryd.prog w' = .ok (.agg (m.x.dig.map bv).toArray) w') := Lib.hid (fun w' hb => range_load hb.vt_dig m.x.len)
            have HDN : Hid (n2 = ds.length) := Lib.hid (HO9.out.bounds).1
            have HDL : Hid (ds.length ≤ 60) := Lib.hid (by have := HD.out.2.1; have := H60.out; have := HLT.out; omega)
            have HDS := Lib.hid (EK.Own.see HO9.out)
            go_loopw [13, 66] (fun fv j wx => ∃ i : Nat, i ≤ ds.length ∧ fv = .bool (!((dgs (ds.take i)).contains m.x.dig)) ∧ j = .int .i64 (i : Int) ∧ Hid (Below w8.heap.size w8 wx)) (fun _ j _ => ds.length - (intOf j).toNat)
            case atStart => exact ⟨0, Nat.zero_le _, rfl, rfl, Lib.hid (Below.refl _ _)⟩
            case round =>
              obtain ⟨i, hi, rfl, rfl, HG⟩ := hrel
              by_cases hil : i < ds.length
              · have HIL := Lib.hid hil
                obtain ⟨gd, od, rfl, _, hrd⟩ := EK.See.range (EK.See.far HDS.out HG.out) hil
                have ldk : (ldDigest (.pointer (some ⟨gd, od + i * 32, none⟩))).run Tryd.prog wr = .ok (.agg (((ds[i]'hil).1).map bv).toArray) wr := range_load (hrd i hil) (ds[i]'hil).2
                have a1 : (i : Int) < (n2 : Int) := by have := HDN.out; omega
                have a0 : (0 : Int) ≤ (i : Int) := by omega
                have ak : IntKind.i64.wrap ((i : Int) + 1) = ((i + 1 : Nat) : Int) := by rw [IntKind.wrap_i64]; have := HDL.out; omega
                have HTK : Hid ((dgs (ds.take (i + 1))).contains m.x.dig = ((dgs (ds.take i)).contains m.x.dig || decide ((ds[i]'hil).1 = m.x.dig))) := Lib.hid (dgs_take hil)
                obtain ⟨wy, hsd, hbd, hbld⟩ := laid_dg13 wr (ds[i]'hil).2
                have HGY := Lib.hid (HG.out.trans (hbld.mono HG.out.size))
                have HWY := Lib.hid (HW9.out.below HGY.out HW9.out.lt)
                have ld1 := hbd.load_digest (ds[i]'hil).2
                have ld2 := HFN.out wy HWY.out
                have hqd := eq_digest (ds[i]'hil).1 m.x.dig (ds[i]'hil).2 m.x.len
                clear hrd hbd hbld
                generalize (ds[i]'hil).1 = dd at *
                generalize (dgs (ds.take i)).contains m.x.dig = bb at *
                by_cases hdd : dd = m.x.dig
                · have HTT : Hid ((!((dgs (ds.take (i + 1))).contains m.x.dig)) = false) := Lib.hid (by rw [HTK.out, decide_eq_true hdd]; simp)
                  rw [decide_eq_true hdd] at hqd
                  subst hdd
                  cases bb
                  · go_wp2
                    go_roundw
                    case rel => exact ⟨i + 1, HIL.out, by first | (rw [HTT.out]; done) | (rw [HTT.out]; rfl), by go_num, HGY⟩
                    case measure => have := HIL.out; simp [intOf]; omega
                  · go_wp2
                    go_roundw
                    case rel => exact ⟨i + 1, HIL.out, by first | (rw [HTT.out]; done) | (rw [HTT.out]; rfl), by go_num, HGY⟩
                    case measure => have := HIL.out; simp [intOf]; omega
                · have HTT : Hid ((!((dgs (ds.take (i + 1))).contains m.x.dig)) = !bb) := Lib.hid (by rw [HTK.out, decide_eq_false hdd]; simp)
                  rw [decide_eq_false hdd] at hqd
                  cases bb
                  · go_wp2
                    go_roundw
                    case rel => exact ⟨i + 1, HIL.out, by first | (rw [HTT.out]; done) | (rw [HTT.out]; rfl), by go_num, HGY⟩
                    case measure => have := HIL.out; simp [intOf]; omega
                  · go_wp2
                    go_roundw
                    case rel => exact ⟨i + 1, HIL.out, by first | (rw [HTT.out]; done) | (rw [HTT.out]; rfl), by go_num, HGY⟩
                    case measure => have := HIL.out; simp [intOf]; omega
              · have a1 : ¬ (i : Int) < (n2 : Int) := by have := HDN.out; omega
                have HTE : Hid ((dgs (ds.take i)).contains m.x.dig = (dgs ds).contains m.x.dig) := Lib.hid (by rw [List.take_of_length_le (by omega)])
                have HBz := Lib.hid (HB9.out.call HG.out)
                have HVz := Lib.hid (HV9.out.below HG.out HV9.out.lt)
                have HOz := Lib.hid (EK.Own.keep HO9.out HG.out)
                have HFz := Lib.hid (HF9.out.trans (HG.out.mono HF9.out.size))
                have HWz := Lib.hid (HW9.out.below HG.out HW9.out.lt)
                have ld2 := HFN.out wr HWz.out
                clear hi
                generalize (dgs (ds.take i)).contains m.x.dig = bb at *
                cases bb with
                | true =>
                  have HDZ : Hid ((dgs ds).Nodup ∧ ds.length ≤ k + 1 ∧ ∀ x ∈ us2.map VtM.x, x.dig ∈ dgs ds) := Lib.hid ⟨HD.out.1, by have := HD.out.2.1; omega, fun x hx => by
                    rw [HX8.out] at hx
                    rcases mem_addX_iff hx with hx | rfl
                    · exact HD.out.2.2 x hx
                    · exact List.contains_iff_mem.1 HTE.out.symm⟩
                  go_wp2
                  go_roundw
                  case rel => exact ⟨k + 1, M, us2, ds, _, _, _, HLT.out, rfl, rfl, by go_num, HBz, Lib.hid ⟨HU2.out, HM9.out, by have := HU.out.2.2; omega⟩, HVz, HOz, HDZ, HFz⟩
                  case measure => have := HLT.out; simp [intOf]; omega
                | false =>
                  have hbs : (bsT 27 1 #[(0, .agg (m.x.dig.map bv).toArray)]).run Tryd.prog wr = .ok (.slice (some ⟨wr.heap.size, 0, none⟩) 1 1) (wr.alloc (.cells (m.x.dig.map bv).toArray 29)) := DgK.build1 ⟨m.x.dig, m.x.len⟩ (.agg (m.x.dig.map bv).toArray) rfl (by decide) wr
                  have hal6 : Below wr.heap.size wr (wr.alloc (.cells (m.x.dig.map bv).toArray 29)) := (Below.refl _ _).alloc (Nat.le_refl _) _
                  have hO7 := EK.Own.keep HOz.out hal6
                  obtain ⟨va, wa, hap0, hoa, hga⟩ := DgK.append hO7 (A := some ⟨wr.heap.size, 0, none⟩) (m := 1) (c := 1) (es := [⟨m.x.dig, m.x.len⟩]) rfl (DgK.see_one wr ⟨m.x.dig, m.x.len⟩) (by have := HDL.out; omega) (by have := HDL.out; show (_ + 1) * 32 ≤ _; omega) (Nat.le_trans HFz.out.size hal6.size)
                  obtain ⟨Aa, ca, rfl⟩ := hoa.slice
                  obtain ⟨na, hna⟩ : ∃ na, na = (ds ++ [(⟨m.x.dig, m.x.len⟩ : Dg13)]).length := ⟨_, rfl⟩
                  have hap : (apAll #[27, 27] 27 #[.slice A2 n2 c2, .slice (some ⟨wr.heap.size, 0, none⟩) 1 1]).run Tryd.prog (wr.alloc (.cells (m.x.dig.map bv).toArray 29)) = .ok (.slice Aa na ca) wa := by rw [hna]; exact hap0
                  have HOa : Hid (DgK.Own wa w.heap.size (.slice Aa na ca) (ds ++ [⟨m.x.dig, m.x.len⟩])) := Lib.hid (by rw [hna]; exact hoa)
                  have HBa := Lib.hid ((HBz.out.call hal6).own13 hO7 hga)
                  have HVa := Lib.hid (box_own (HVz.out.below hal6 HVz.out.lt) hO7 (by decide) hga)
                  have HFa := Lib.hid ((HFz.out.trans (hal6.mono HFz.out.size)).trans (below_own hO7 hga (Nat.le_trans HFz.out.size hal6.size)))
                  have HDa : Hid ((dgs (ds ++ [(⟨m.x.dig, m.x.len⟩ : Dg13)])).Nodup ∧ (ds ++ [(⟨m.x.dig, m.x.len⟩ : Dg13)]).length ≤ k + 1 ∧ ∀ x ∈ us2.map VtM.x, x.dig ∈ dgs (ds ++ [(⟨m.x.dig, m.x.len⟩ : Dg13)])) := Lib.hid (dgs_more HD.out HTE.out.symm (fun x hx => mem_addX_iff (by rw [← HX8.out]; exact hx)))
                  clear hal6 hO7 hap0 hoa hga hna
                  go_wp2
                  go_roundw
                  case rel => exact ⟨k + 1, M, us2, _, _, _, _, HLT.out, rfl, rfl, by go_num, HBa, Lib.hid ⟨HU2.out, HM9.out, by have := HU.out.2.2; omega⟩, HVa, HOa, HDa, HFa⟩
                  case measure => have := HLT.out; simp [intOf]; omega
        · have HK : Hid (isKR kind round m.x = false) := Lib.hid (by unfold isKR; simp [h1])
          have hko := kr_other (us.map VtM.x) HK.out
          rw [← HX8.out] at hko
          have HV9 : Hid (Box w8 vb 26 (votedL kind round (us2.map VtM.x)).toArray) := by rw [hko.1]; exact HV8
          have HM9 : Hid (M = krN kind round (us2.map VtM.x)) := Lib.hid (by rw [hko.2]; exact HU.out.2.1)
          clear hko HV8
          have HB9 := HB8
          have HO9 := HO8
          have HF9 := HF8
          have HW9 := HW8
          go_upto_region 20 with fail
          clear c0 c3 c36 cf
          have HUM : Hid (us2.length < 1000000) := Lib.hid (by have := HU2.out; have := H60.out; have := HLT.out; omega)
          have HFN : Hid (∀ w', Box w' q 35 m.cells.toArray → (ldDigest (.pointer (some ⟨q, 4, none⟩))).run Tryd.prog w' = .ok (.agg (m.x.dig.map bv).toArray) w') := Lib.hid (fun w' hb => range_load hb.vt_dig m.x.len)
          have HDN : Hid (n2 = ds.length) := Lib.hid (HO9.out.bounds).1
          have HDL : Hid (ds.length ≤ 60) := Lib.hid (by have := HD.out.2.1; have := H60.out; have := HLT.out; omega)
          have HDS := Lib.hid (EK.Own.see HO9.out)
          go_loopw [13, 66] (fun fv j wx => ∃ i : Nat, i ≤ ds.length ∧ fv = .bool (!((dgs (ds.take i)).contains m.x.dig)) ∧ j = .int .i64 (i : Int) ∧ Hid (Below w8.heap.size w8 wx)) (fun _ j _ => ds.length - (intOf j).toNat)
          case atStart => exact ⟨0, Nat.zero_le _, rfl, rfl, Lib.hid (Below.refl _ _)⟩
          case round =>
            obtain ⟨i, hi, rfl, rfl, HG⟩ := hrel
            by_cases hil : i < ds.length
            · have HIL := Lib.hid hil
              obtain ⟨gd, od, rfl, _, hrd⟩ := EK.See.range (EK.See.far HDS.out HG.out) hil
              have ldk : (ldDigest (.pointer (some ⟨gd, od + i * 32, none⟩))).run Tryd.prog wr = .ok (.agg (((ds[i]'hil).1).map bv).toArray) wr := range_load (hrd i hil) (ds[i]'hil).2
              have a1 : (i : Int) < (n2 : Int) := by have := HDN.out; omega
              have a0 : (0 : Int) ≤ (i : Int) := by omega
              have ak : IntKind.i64.wrap ((i : Int) + 1) = ((i + 1 : Nat) : Int) := by rw [IntKind.wrap_i64]; have := HDL.out; omega
              have HTK : Hid ((dgs (ds.take (i + 1))).contains m.x.dig = ((dgs (ds.take i)).contains m.x.dig || decide ((ds[i]'hil).1 = m.x.dig))) := Lib.hid (dgs_take hil)
              obtain ⟨wy, hsd, hbd, hbld⟩ := laid_dg13 wr (ds[i]'hil).2
              have HGY := Lib.hid (HG.out.trans (hbld.mono HG.out.size))
              have HWY := Lib.hid (HW9.out.below HGY.out HW9.out.lt)
              have ld1 := hbd.load_digest (ds[i]'hil).2
              have ld2 := HFN.out wy HWY.out
              have hqd := eq_digest (ds[i]'hil).1 m.x.dig (ds[i]'hil).2 m.x.len
              clear hrd hbd hbld
              generalize (ds[i]'hil).1 = dd at *
              generalize (dgs (ds.take i)).contains m.x.dig = bb at *
              by_cases hdd : dd = m.x.dig
              · have HTT : Hid ((!((dgs (ds.take (i + 1))).contains m.x.dig)) = false) := Lib.hid (by rw [HTK.out, decide_eq_true hdd]; simp)
                rw [decide_eq_true hdd] at hqd
                subst hdd
                cases bb
                · go_wp2
                  go_roundw
                  case rel => exact ⟨i + 1, HIL.out, by first | (rw [HTT.out]; done) | (rw [HTT.out]; rfl), by go_num, HGY⟩
                  case measure => have := HIL.out; simp [intOf]; omega
                · go_wp2
                  go_roundw
                  case rel => exact ⟨i + 1, HIL.out, by first | (rw [HTT.out]; done) | (rw [HTT.out]; rfl), by go_num, HGY⟩
                  case measure => have := HIL.out; simp [intOf]; omega
              · have HTT : Hid ((!((dgs (ds.take (i + 1))).contains m.x.dig)) = !bb) := Lib.hid (by rw [HTK.out, decide_eq_false hdd]; simp)
                rw [decide_eq_false hdd] at hqd
                cases bb
                · go_wp2
                  go_roundw
                  case rel => exact ⟨i + 1, HIL.out, by first | (rw [HTT.out]; done) | (rw [HTT.out]; rfl), by go_num, HGY⟩
                  case measure => have := HIL.out; simp [intOf]; omega
                · go_wp2
                  go_roundw
                  case rel => exact ⟨i + 1, HIL.out, by first | (rw [HTT.out]; done) | (rw [HTT.out]; rfl), by go_num, HGY⟩
                  case measure => have := HIL.out; simp [intOf]; omega
            · have a1 : ¬ (i : Int) < (n2 : Int) := by have := HDN.out; omega
              have HTE : Hid ((dgs (ds.take i)).contains m.x.dig = (dgs ds).contains m.x.dig) := Lib.hid (by rw [List.take_of_length_le (by omega)])
              have HBz := Lib.hid (HB9.out.call HG.out)
              have HVz := Lib.hid (HV9.out.below HG.out HV9.out.lt)
              have HOz := Lib.hid (EK.Own.keep HO9.out HG.out)
              have HFz := Lib.hid (HF9.out.trans (HG.out.mono HF9.out.size))
              have HWz := Lib.hid (HW9.out.below HG.out HW9.out.lt)
              have ld2 := HFN.out wr HWz.out
              clear hi
              generalize (dgs (ds.take i)).contains m.x.dig = bb at *
              cases bb with
              | true =>
                have HDZ : Hid ((dgs ds).Nodup ∧ ds.length ≤ k + 1 ∧ ∀ x ∈ us2.map VtM.x, x.dig ∈ dgs ds) := Lib.hid ⟨HD.out.1, by have := HD.out.2.1; omega, fun x hx => by
                  rw [HX8.out] at hx
                  rcases mem_addX_iff hx with hx | rfl
                  · exact HD.out.2.2 x hx
                  · exact List.contains_iff_mem.1 HTE.out.symm⟩
                go_wp2
                go_roundw
                case rel => exact ⟨k + 1, M, us2, ds, _, _, _, HLT.out, rfl, rfl, by go_num, HBz, Lib.hid ⟨HU2.out, HM9.out, by have := HU.out.2.2; omega⟩, HVz, HOz, HDZ, HFz⟩
                case measure => have := HLT.out; simp [intOf]; omega
              | false =>
                have hbs : (bsT 27 1 #[(0, .agg (m.x.dig.map bv).toArray)]).run Tryd.prog wr = .ok (.slice (some ⟨wr.heap.size, 0, none⟩) 1 1) (wr.alloc (.cells (m.x.dig.map bv).toArray 29)) := DgK.build1 ⟨m.x.dig, m.x.len⟩ (.agg (m.x.dig.map bv).toArray) rfl (by decide) wr
                have hal6 : Below wr.heap.size wr (wr.alloc (.cells (m.x.dig.map bv).toArray 29)) := (Below.refl _ _).alloc (Nat.le_refl _) _
                have hO7 := EK.Own.keep HOz.out hal6
                obtain ⟨va, wa, hap0, hoa, hga⟩ := DgK.append hO7 (A := some ⟨wr.heap.size, 0, none⟩) (m := 1) (c := 1) (es := [⟨m.x.dig, m.x.len⟩]) rfl (DgK.see_one wr ⟨m.x.dig, m.x.len⟩) (by have := HDL.out; omega) (by have := HDL.out; show (_ + 1) * 32 ≤ _; omega) (Nat.le_trans HFz.out.size hal6.size)
                obtain ⟨Aa, ca, rfl⟩ := hoa.slice
                obtain ⟨na, hna⟩ : ∃ na, na = (ds ++ [(⟨m.x.dig, m.x.len⟩ : Dg13)]).length := ⟨_, rfl⟩
                have hap : (apAll #[27, 27] 27 #[.slice A2 n2 c2, .slice (some ⟨wr.heap.size, 0, none⟩) 1 1]).run Tryd.prog (wr.alloc (.cells (m.x.dig.map bv).toArray 29)) = .ok (.slice Aa na ca) wa := by rw [hna]; exact hap0
                have HOa : Hid (DgK.Own wa w.heap.size (.slice Aa na ca) (ds ++ [⟨m.x.dig, m.x.len⟩])) := Lib.hid (by rw [hna]; exact hoa)
                have HBa := Lib.hid ((HBz.out.call hal6).own13 hO7 hga)
                have HVa := Lib.hid (box_own (HVz.out.below hal6 HVz.out.lt) hO7 (by decide) hga)
                have HFa := Lib.hid ((HFz.out.trans (hal6.mono HFz.out.size)).trans (below_own hO7 hga (Nat.le_trans HFz.out.size hal6.size)))
                have HDa : Hid ((dgs (ds ++ [(⟨m.x.dig, m.x.len⟩ : Dg13)])).Nodup ∧ (ds ++ [(⟨m.x.dig, m.x.len⟩ : Dg13)]).length ≤ k + 1 ∧ ∀ x ∈ us2.map VtM.x, x.dig ∈ dgs (ds ++ [(⟨m.x.dig, m.x.len⟩ : Dg13)])) := Lib.hid (dgs_more HD.out HTE.out.symm (fun x hx => mem_addX_iff (by rw [← HX8.out]; exact hx)))
                clear hal6 hO7 hap0 hoa hga hna
                go_wp2
                go_roundw
                case rel => exact ⟨k + 1, M, us2, _, _, _, _, HLT.out, rfl, rfl, by go_num, HBa, Lib.hid ⟨HU2.out, HM9.out, by have := HU.out.2.2; omega⟩, HVa, HOa, HDa, HFa⟩
                case measure => have := HLT.out; simp [intOf]; omega
end Go.Proofs.YtadnnnbdlkjnkaaDoor
