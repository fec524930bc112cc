/-
  slices.Insert of one pair, of one reply.
  slices.Delete of one pair; strings.HasPrefix; state.begun.
  Slice literals of any kind; strings.HasPrefix; state.begun.
  A state that is owned, in its block; state.put.
-/
import Derived.Test.YtbgbidgggjkmmaaGreatDoorNB
import Derived.Deep.RegionLawGrows
import Derived.Laws.Externs
import Derived.Deep.AppendLies
namespace Go.Proofs.YtbgbidgggjkmmaaGreatDoor
open Go.RowKit

attribute [local go_sem ↓] bsT_def apAll_def cpAll_def clAll_def

set_option maxRecDepth 100000 in
theorem EK.flat_ins {α : Type} (K : EK α) (xs : List α) (i : Nat) (x : α) : K.flat (xs.take i ++ x :: xs.drop i) = K.flat (xs.take i) ++ (K.enc x ++ K.flat (xs.drop i)) := by
  show (xs.take i ++ x :: xs.drop i).flatMap _ = _
  rw [List.flatMap_append, List.flatMap_cons]
set_option maxRecDepth 100000 in
theorem ins_len {α : Type} (xs : List α) (i : Nat) (hi : i ≤ xs.length) (x : α) : (xs.take i ++ x :: xs.drop i).length = xs.length + 1 := by
  rw [List.length_append, List.length_cons, List.length_take, List.length_drop]
  omega
set_option maxRecDepth 100000 in
theorem step_cp {P : Program} {ops : Array Oper} {o : Oper} {a : Act} {w : World} {K : Act → World → Prop} {Q : Exit → Act → World → Prop} {E : Prop}
    (hg : o.guard = none) (d x : Operand) (dT sT : TypeId) (hop : o.op = Op.call { callee := Callee.builtin Builtin.copy, args := #[d, x], argTypes := #[dT, sT] })
    (v u : Value) (hd : a.eval d = v) (hx : a.eval x = u) {v' : Value} {w' : World} (hr : (cpAll #[dT, sT] o.type #[v, u]).run P w = .ok v' w') (hK : K (a.put o.dst v') w') :
    if Region.wanted o (yielded ops a.tmps) = true then Oper.wp P o a w K Q else E := by
  have hw : Region.wanted o (yielded ops a.tmps) = true := by simp [Region.wanted, hg]
  rw [if_pos hw]
  unfold cpAll at hr
  unfold Oper.wp
  simp [execOp, hop, resolve, invoke, builtin, hd, hx, hr, Result.andThen]
  exact hK
set_option maxRecDepth 100000 in
theorem step_ap {P : Program} {ops : Array Oper} {o : Oper} {a : Act} {w : World} {K : Act → World → Prop} {Q : Exit → Act → World → Prop} {E : Prop}
    (hg : o.guard = none) (d x : Operand) (dT sT : TypeId) (hop : o.op = Op.call { callee := Callee.builtin Builtin.append, args := #[d, x], argTypes := #[dT, sT] })
    (v u : Value) (hd : a.eval d = v) (hx : a.eval x = u) {v' : Value} {w' : World} (hr : (apAll #[dT, sT] o.type #[v, u]).run P w = .ok v' w') (hK : K (a.put o.dst v') w') :
    if Region.wanted o (yielded ops a.tmps) = true then Oper.wp P o a w K Q else E := by
  have hw : Region.wanted o (yielded ops a.tmps) = true := by simp [Region.wanted, hg]
  rw [if_pos hw]
  unfold apAll at hr
  unfold Oper.wp
  simp [execOp, hop, resolve, invoke, builtin, hd, hx, hr, Result.andThen]
  exact hK
/-- The row lies where it lay, or is new. -/
def NewRow (A A' : Option Addr) (H : Nat) : Prop := ∀ g', A' = some ⟨g', 0, none⟩ → A.map Addr.block = some g' ∨ H ≤ g'
set_option maxRecDepth 100000 in
/-- append onto an owned row, and where the row lies then. -/
theorem EK.lies {α : Type} (K : EK α) {w : World} {base : Nat} {v : Value} {xs : List α} (hown : K.Own w base v xs) {ad : Addr} {m c : Nat} {es : List α} (hm : m = es.length) (h0 : 0 < m) (he : K.See w w.heap.size (some ad) es)
    (hl : xs.length + m ≤ 140737488351232) (hb : (xs.length + m) * K.bys ≤ 140737488355328) (hbase : base ≤ w.heap.size) :
    ∃ g cap w', (apAll #[K.sl, K.sl] K.sl #[v, .slice (some ad) m c]).run Tryz.prog w = .ok (.slice (some ⟨g, 0, none⟩) (xs.length + m) cap) w' ∧ K.Own w' base (.slice (some ⟨g, 0, none⟩) (xs.length + m) cap) (xs ++ es) ∧ w.grownBy w' v.ownBlock ∧ (v.ownBlock = some g ∨ g = w.heap.size) := by
  obtain ⟨i0, hi0, hz0, hz1, hz2⟩ := info_parts K.info
  have hfl := K.flat_len es
  obtain ⟨g, cap, w', hr, ho, hg, hat, _⟩ := run_append_lies (P := Tryz.prog) w K.sl K.sl base K.e i0 _ K.k K.bys K.und hi0 hz0 hz1 hz2 K.hzs K.hk v xs.length _ hown ad m c (K.flat es) (by rw [hfl, hm]) he.add (K.flat_one es) h0 (by unfold maxLen; omega) hb hbase w.heap.size rfl
  refine ⟨g, cap, w', hr, ?_, hg, hat⟩
  show w'.ownsRow base K.e K.k _ (xs ++ es).length (K.flat (xs ++ es))
  rw [K.flat_app, List.length_append, ← hm]
  exact ho
set_option maxRecDepth 100000 in
theorem own_blk (A : Option Addr) (n c : Nat) : (Value.slice A n c).ownBlock = A.map Addr.block := by cases A <;> rfl
set_option maxRecDepth 100000 in
theorem zero_cells_len (z : Value) (n : Nat) : (Builtin.zeroCells z.cells n).size = n * z.cells.size := size_zeroCells _ _

set_option maxRecDepth 100000 in
/-- The in-place way: what stood from i on goes one place up, then the element is laid. -/
theorem EK.Own.up {α : Type} {K : EK α} {w : World} {base g n c : Nat} {L : List α} (h : K.Own w base (.slice (some ⟨g, 0, none⟩) n c) L) {i : Nat} (hi : i < L.length) (hc : L.length + 1 ≤ c) (x : α) {vb : Nat} (hv : Box w vb K.e (K.enc x).toArray) (hne : g ≠ vb) (ty : TypeId) :
    ∃ w1 w2, (cpAll #[K.sl, K.sl] ty #[.slice (some ⟨g, (i + 1) * K.k, none⟩) (L.length - i) (c - (i + 1)), .slice (some ⟨g, i * K.k, none⟩) (L.length + 1 - i) (c - i)]).run Tryz.prog w = .ok (goInt (Nat.min (L.length + 1 - i) (L.length - i))) w1 ∧
      (cpAll #[K.sl, K.sl] ty #[.slice (some ⟨g, i * K.k, none⟩) (L.length + 1 - i) (c - i), .slice (some ⟨vb, 0, none⟩) 1 1]).run Tryz.prog w1 = .ok (goInt (Nat.min 1 (L.length + 1 - i))) w2 ∧
      K.Own w2 base (.slice (some ⟨g, 0, none⟩) (L.length + 1) c) (L.take i ++ x :: L.drop i) ∧ w.grownBy w1 (some g) ∧ w.grownBy w2 (some g) := by
  obtain ⟨post, hb, hp, hc', hm, hg, rfl⟩ := h.row
  have hk := K.hk
  have hdl : (K.flat (L.drop i)).length = (L.length - i) * K.k := by rw [K.flat_len, List.length_drop]
  have htl : (K.flat (L.take i)).length = i * K.k := by rw [K.flat_len, List.length_take]; congr 1; omega
  obtain ⟨M1, M2, P, hM, h1, h2⟩ : ∃ M1 M2 P : List Value, K.flat (L.drop i) ++ post = M1 ++ (M2 ++ P) ∧ M1.length = K.k ∧ M2.length = (L.length - i) * K.k := by
    have hl : K.k + (L.length - i) * K.k ≤ (K.flat (L.drop i) ++ post).length := by
      rw [List.length_append, hdl, hp]
      have := Nat.mul_le_mul_right K.k (show 1 ≤ c - L.length by omega)
      omega
    refine ⟨(K.flat (L.drop i) ++ post).take K.k, ((K.flat (L.drop i) ++ post).drop K.k).take ((L.length - i) * K.k), ((K.flat (L.drop i) ++ post).drop K.k).drop ((L.length - i) * K.k), ?_, ?_, ?_⟩
    · rw [List.take_append_drop, List.take_append_drop]
    · rw [List.length_take]; omega
    · rw [List.length_take, List.length_drop]; omega
  have hP : P.length = (c - (L.length + 1)) * K.k := by
    have := congrArg List.length hM
    simp only [List.length_append, hdl, h1, h2, hp] at this
    have e : (c - L.length) * K.k = (c - (L.length + 1)) * K.k + K.k := by
      rw [show c - L.length = (c - (L.length + 1)) + 1 by omega, Nat.add_mul, Nat.one_mul]
    omega
  have hrow : K.flat L ++ post = K.flat (L.take i) ++ (M1 ++ (M2 ++ P)) := by rw [← hM, K.flat_cut L i, List.append_assoc]
  rw [hrow] at hb
  have hb' : Box w g K.e ((K.flat (L.take i) ++ M1) ++ (M2 ++ P)).toArray := by rw [List.append_assoc]; exact hb
  have ho1 : (K.flat (L.take i) ++ M1).length = (i + 1) * K.k := by rw [List.length_append, htl, h1, Nat.add_mul, Nat.one_mul]
  have hb1 := Box.put_mid hb' ho1 (vs := K.flat (L.drop i)) (by rw [hdl, h2])
  have hg1 : w.grownBy (w.setCells g ((i + 1) * K.k) (K.flat (L.drop i))) (some g) := only_cells _ _ _
  have hb1' : Box (w.setCells g ((i + 1) * K.k) (K.flat (L.drop i))) g K.e (K.flat (L.take i) ++ (M1 ++ (K.flat (L.drop i) ++ P))).toArray := by
    rw [← List.append_assoc (K.flat (L.take i))]
    exact hb1
  have hb2 := Box.put_mid hb1' htl (vs := K.enc x) (by rw [K.len, h1])
  have hv1 : Box (w.setCells g ((i + 1) * K.k) (K.flat (L.drop i))) vb K.e (K.enc x).toArray := hv.grown hg1 (fun e => hne (by injection e with e; exact e.symm))
  have hsz : ∀ j, j < (i + 1) * K.k + (L.length - i) * K.k → j < (K.flat (L.take i) ++ (M1 ++ (M2 ++ P))).toArray.size := fun j hj => by
    simp only [List.size_toArray, List.length_append, htl, h1, h2]
    rw [Nat.add_mul, Nat.one_mul] at hj
    omega
  have emin1 : Nat.min (L.length + 1 - i) (L.length - i) = L.length - i := by show min _ _ = _; omega
  have emin2 : Nat.min 1 (L.length + 1 - i) = 1 := by show min _ _ = _; omega
  refine ⟨_, _, K.run_copy w ty g ((i + 1) * K.k) (L.length - i) (c - (i + 1)) ⟨g, i * K.k, none⟩ (L.length + 1 - i) (c - i) (K.flat (L.drop i)) (by rw [hdl, emin1]) (fun j v hj => ?_) (fun j hj => ?_) (fun j _ => hb.free _) (K.flat_one _),
    K.run_copy _ ty g (i * K.k) (L.length + 1 - i) (c - i) ⟨vb, 0, none⟩ 1 1 (K.enc x) (by rw [K.len, emin2, Nat.one_mul]) (fun j v hj => ?_) (fun j hj => ?_) (fun j _ => hb1.free _) (K.one x), ?_, hg1, only_trans hg1 (only_cells _ _ _)⟩
  · have hr : w.rangeAt g (i * K.k) (K.flat (L.drop i)) := by
      have hb3 : Box w g K.e (K.flat (L.take i) ++ (K.flat (L.drop i) ++ post)).toArray := by rw [hM]; exact hb
      exact Box.range_mid hb3 htl
    rw [plain_add]
    exact hr j v hj
  · rw [hb.cell, Array.getElem?_eq_getElem (hsz _ (by rw [hdl] at hj; omega))]
    rfl
  · have hr := Box.range hv1
    rw [plain_add]
    exact hr j v hj
  · rw [hb1'.cell, Array.getElem?_eq_getElem (by
      rw [K.len] at hj
      simp only [List.size_toArray, List.length_append, htl, h1]
      omega)]
    rfl
  · have := K.own_row (L := L.take i ++ x :: L.drop i) (base := base) (c := c) (post := P) (by rw [K.flat_ins]; simpa only [List.append_assoc] using hb2) (by rw [ins_len L i (by omega)]; exact hP) (by rw [ins_len L i (by omega)]; exact hc) hm hg
    rwa [ins_len L i (by omega)] at this

set_option maxRecDepth 100000 in
/-- The way of a new row. -/
theorem EK.Own.fresh {α : Type} {K : EK α} {w : World} {base g n c : Nat} {L : List α} (h : K.Own w base (.slice (some ⟨g, 0, none⟩) n c) L) {i : Nat} (hi : i < L.length) (hc : c < L.length + 1) (hln : L.length ≤ 1000000) (hbase : base ≤ w.heap.size) (x : α) {vb : Nat} (hv : Box w vb K.e (K.enc x).toArray) (tn ty : TypeId) (htn : Tryz.prog.underlying tn = some (.int .i64)) :
    ∃ c2 w0 w1 w2, (apAll #[K.sl, tn] K.sl #[.slice (some ⟨g, 0, none⟩) i c, .int .i64 ((L.length : Int) + 1 - (i : Int))]).run Tryz.prog w = .ok (.slice (some ⟨w.heap.size, 0, none⟩) (L.length + 1) c2) w0 ∧
      (cpAll #[K.sl, K.sl] ty #[.slice (some ⟨w.heap.size, i * K.k, none⟩) (L.length + 1 - i) (c2 - i), .slice (some ⟨vb, 0, none⟩) 1 1]).run Tryz.prog w0 = .ok (goInt (Nat.min 1 (L.length + 1 - i))) w1 ∧
      (cpAll #[K.sl, K.sl] ty #[.slice (some ⟨w.heap.size, (i + 1) * K.k, none⟩) (L.length - i) (c2 - (i + 1)), .slice (some ⟨g, i * K.k, none⟩) (L.length - i) (c - i)]).run Tryz.prog w1.drew = .ok (goInt (Nat.min (L.length - i) (L.length - i))) w2 ∧
      K.Own w2 base (.slice (some ⟨w.heap.size, 0, none⟩) (L.length + 1) c2) (L.take i ++ x :: L.drop i) ∧ w.grownBy w2 (some g) ∧ L.length + 1 ≤ c2 ∧ c2 ≤ 9223372036854775807 := by
  obtain ⟨post, hb, hp, hc', hm, hg, rfl⟩ := h.row
  obtain ⟨i0, hi0, hz0, hz1, hz2⟩ := info_parts K.info
  have hk := K.hk
  have hby : K.bys ≤ 200 := K.hby
  have hgw := hb.lt
  have hdl : (K.flat (L.drop i)).length = (L.length - i) * K.k := by rw [K.flat_len, List.length_drop]
  have htl : (K.flat (L.take i)).length = i * K.k := by rw [K.flat_len, List.length_take]; congr 1; omega
  have hsrc : w.rangeAt g 0 (K.flat L ++ post) := Box.range hb
  have hold : (Builtin.firstCells i0.size i (.slice (some ⟨g, 0, none⟩) i c)).run Tryz.prog w.drew = .ok (K.flat (L.take i)).toArray w.drew := by
    rw [hz1]
    refine run_firstCells_some w.drew K.k i ⟨g, 0, none⟩ i c (K.flat (L.take i)) htl (fun j v hj => ?_)
    rw [plain_add]
    refine hsrc j v ?_
    rw [K.flat_cut L i, List.append_assoc, List.getElem?_append_left (by have := (List.getElem?_eq_some_iff.1 hj).1; exact this)]
    exact hj
  have hik : i + (L.length + 1 - i) = L.length + 1 := by omega
  have hsmall : (L.length + 1) * K.bys ≤ 200000200 := Nat.le_trans (Nat.mul_le_mul (show L.length + 1 ≤ 1000001 by omega) hby) (by omega)
  have hgr := Lib.run_append_grow_zeros (P := Tryz.prog) w K.sl tn K.sl K.e i0 _ .i64 .i64 K.und htn hi0 hz0 (some ⟨g, 0, none⟩) i c (K.flat (L.take i)) hold (L.length + 1 - i) (by omega) (by omega) (by omega) (by omega) (by rw [hz2]; have := Nat.mul_le_mul_right K.bys (show L.length + 1 - i ≤ L.length + 1 by omega); omega) (by rw [hz2, hik]; exact growslice_fits (by omega) (by omega))
  rw [hik] at hgr
  have hkk : (((L.length + 1 - i : Nat) : Int)) = (L.length : Int) + 1 - (i : Int) := by omega
  rw [hkk] at hgr
  have hGn : L.length + 1 ≤ grownCap w (L.length + 1) c K.e := grownCap_ge w _ _ _
  have hGm : grownCap w (L.length + 1) c K.e ≤ maxLen := grownCap_le_maxLen w (L.length + 1) c K.e (by unfold maxLen; omega)
  generalize grownCap w (L.length + 1) c K.e = G at *
  obtain ⟨Z, hZ⟩ : ∃ Z : List Value, Z = (Builtin.zeroCells K.z.cells (L.length + 1 - i)).toList ++ (Builtin.zeroCells K.z.cells (G - (L.length + 1))).toList := ⟨_, rfl⟩
  have hZl : Z.length = (L.length + 1 - i) * K.k + (G - (L.length + 1)) * K.k := by
    rw [hZ, List.length_append]
    have e : ∀ n, (Builtin.zeroCells K.z.cells n).toList.length = n * K.k := fun n => by rw [Array.length_toList, zero_cells_len, K.hzs]
    rw [e, e]
  have hrow : (K.flat (L.take i)).toArray ++ Builtin.zeroCells K.z.cells (L.length + 1 - i) ++ Builtin.zeroCells K.z.cells (G - (L.length + 1)) = (K.flat (L.take i) ++ Z).toArray := by
    apply Array.ext'
    rw [hZ]
    simp
  rw [hrow] at hgr
  obtain ⟨M1, M2, P, hM, h1, h2, hP⟩ : ∃ M1 M2 P : List Value, Z = M1 ++ (M2 ++ P) ∧ M1.length = K.k ∧ M2.length = (L.length - i) * K.k ∧ P.length = (G - (L.length + 1)) * K.k := by
    have e : (L.length + 1 - i) * K.k = K.k + (L.length - i) * K.k := by rw [show L.length + 1 - i = (L.length - i) + 1 by omega, Nat.add_mul, Nat.one_mul, Nat.add_comm]
    refine ⟨Z.take K.k, (Z.drop K.k).take ((L.length - i) * K.k), (Z.drop K.k).drop ((L.length - i) * K.k), ?_, ?_, ?_, ?_⟩
    · rw [List.take_append_drop, List.take_append_drop]
    · rw [List.length_take]; omega
    · rw [List.length_take, List.length_drop]; omega
    · rw [List.length_drop, List.length_drop]; omega
  rw [hM] at hgr
  obtain ⟨w0, hw0⟩ : ∃ w0, w0 = w.drew.alloc (.cells (K.flat (L.take i) ++ (M1 ++ (M2 ++ P))).toArray K.e) := ⟨_, rfl⟩
  rw [← hw0] at hgr
  have hB0 : Box w0 w.heap.size K.e (K.flat (L.take i) ++ (M1 ++ (M2 ++ P))).toArray := by rw [hw0]; exact Box.made w.drew _ _
  have hF0 : Below w.heap.size w w0 := by rw [hw0]; exact ((Below.refl _ _).drew).alloc (Nat.le_refl _) _
  have hb1 := Box.put_mid hB0 htl (vs := K.enc x) (by rw [K.len, h1])
  have hg1 : w0.grownBy (w0.setCells w.heap.size (i * K.k) (K.enc x)) (some w.heap.size) := only_cells _ _ _
  have hb1' : Box (w0.setCells w.heap.size (i * K.k) (K.enc x)).drew w.heap.size K.e ((K.flat (L.take i) ++ K.enc x) ++ (M2 ++ P)).toArray := by rw [List.append_assoc]; exact hb1
  have hl1 : (K.flat (L.take i) ++ K.enc x).length = (i + 1) * K.k := by rw [List.length_append, htl, K.len, Nat.add_mul, Nat.one_mul]
  have hb2 := Box.put_mid hb1' hl1 (vs := K.flat (L.drop i)) (by rw [hdl, h2])
  have hF1 : Below w.heap.size w (w0.setCells w.heap.size (i * K.k) (K.enc x)).drew := (hF0.trans (below_only hg1 (Nat.le_refl _) hF0.size)).drew
  have hF2 := hF1.trans (below_only (only_cells (g := w.heap.size) (K.flat (L.drop i)) ((i + 1) * K.k) (w0.setCells w.heap.size (i * K.k) (K.enc x)).drew) (Nat.le_refl _) hF1.size)
  have hrg : (w0.setCells w.heap.size (i * K.k) (K.enc x)).drew.rangeAt g (i * K.k) (K.flat (L.drop i)) := by
    have hb3 : Box (w0.setCells w.heap.size (i * K.k) (K.enc x)).drew g K.e (K.flat (L.take i) ++ (K.flat (L.drop i) ++ post)).toArray := by
      rw [← List.append_assoc, ← K.flat_cut]
      exact hb.below hF1 hgw
    exact Box.range_mid hb3 htl
  have hv0 := Box.range (hv.below hF0 hv.lt)
  have emin2 : Nat.min 1 (L.length + 1 - i) = 1 := by show min _ _ = _; omega
  have emin3 : Nat.min (L.length - i) (L.length - i) = L.length - i := by show min _ _ = _; omega
  refine ⟨G, w0, _, _, hgr, K.run_copy w0 ty w.heap.size (i * K.k) (L.length + 1 - i) (G - i) ⟨vb, 0, none⟩ 1 1 (K.enc x) (by rw [K.len, emin2, Nat.one_mul]) (fun j v hj => ?_) (fun j hj => ?_) (fun j _ => hB0.free _) (K.one x),
    K.run_copy _ ty w.heap.size ((i + 1) * K.k) (L.length - i) (G - (i + 1)) ⟨g, i * K.k, none⟩ (L.length - i) (c - i) (K.flat (L.drop i)) (by rw [hdl, emin3]) (fun j v hj => ?_) (fun j hj => ?_) (fun j _ => hb1'.free _) (K.flat_one _), ?_, only_below hF2 _, hGn, Nat.le_trans hGm (by simp [maxLen])⟩
  · rw [plain_add]
    exact hv0 j v hj
  · rw [hB0.cell, Array.getElem?_eq_getElem (by
      rw [K.len] at hj
      simp only [List.size_toArray, List.length_append, htl, h1]
      omega)]
    rfl
  · rw [plain_add]
    exact hrg j v hj
  · rw [hb1'.cell, Array.getElem?_eq_getElem (by
      rw [hdl] at hj
      simp only [List.size_toArray, List.length_append, htl, K.len, h2]
      rw [Nat.add_mul, Nat.one_mul]
      omega)]
    rfl
  · have := K.own_row (L := L.take i ++ x :: L.drop i) (base := base) (c := G) (post := P) (by rw [K.flat_ins]; simpa only [List.append_assoc] using hb2) (by rw [ins_len L i (by omega)]; exact hP) (by rw [ins_len L i (by omega)]; exact hGn) hGm hbase
    rwa [ins_len L i (by omega)] at this

set_option maxRecDepth 100000 in
theorem overlap_p (g o l c vb : Nat) (w : World) {cs cs' : Array Value} (hv : Box w vb 42 cs) (hg : Box w g 42 cs') (hc : 0 < cs'.size) (hne : vb ≠ g) :
    (callFunc 59 #[.slice (some ⟨vb, 0, none⟩) 1 1, .slice (some ⟨g, o, none⟩) l c]).run Tryz.prog w = .ok (.value (.bool false)) w := by
  rw [run_callFunc_extern Tryz.func59 (by kernel_rfl) (by kernel_rfl) (by kernel_rfl) (e := Extern.SlicesOverlaps.overlaps #[22, 22] #[4]) (by kernel_rfl),
    Lib.run_overlaps_apart w 22 4 42 Tryz.underlying22 2 PK.sz ⟨vb, 0, none⟩ ⟨g, o, none⟩ 1 1 l c hne 42 42 cs.size cs'.size (by simp [World.shape?, show w.heap[vb]? = _ from hv]) (by simp [World.shape?, show w.heap[g]? = _ from hg]) (by omega) (hv.free 0) (hv.free _)]
  rfl

set_option maxRecDepth 100000 in
set_option maxHeartbeats 4000000 in
theorem insert_p (xs : List PairX) (A : Option Addr) (c i : Nat) (hi : i ≤ xs.length) (hn : xs.length ≤ 1000000) (x : PairX) (vb base : Nat) (w : World) (hO : PK.Own w base (.slice A xs.length c) xs) (hv : Box w vb 42 (PK.enc x).toArray) (hne : ∀ g, A = some ⟨g, 0, none⟩ → g ≠ vb) (hbs : base ≤ w.heap.size) :
    Calls Tryz.prog 53 #[.slice A xs.length c, .int .i64 i, .slice (some ⟨vb, 0, none⟩) 1 1] w fun e w' => ∃ A' c', e = .returned (.slice A' (xs.length + 1) c') ∧ PK.Own w' base (.slice A' (xs.length + 1) c') (xs.take i ++ x :: xs.drop i) ∧ w.grownBy w' (A.map Addr.block) ∧ NewRow A A' w.heap.size := by
  obtain ⟨_, hcap, hmax, hsome⟩ := EK.Own.bounds hO
  have hmax2 : c ≤ 9223372036854775807 := Nat.le_trans hmax (by simp [maxLen])
  have hu := Tryz.underlying22
  have hz := PK.sz
  by_cases hin : i = xs.length
  · subst hin
    have hse : PK.See w w.heap.size (some ⟨vb, 0, none⟩) [x] := by
      show Sees _ _ _ (PK.flat [x])
      rw [PK.flat_one']
      simpa using Sees.of_box hv hv.lt
    obtain ⟨g1, c', w', hap0, ho', hg', hat⟩ := PK.lies hO (ad := ⟨vb, 0, none⟩) (m := 1) (c := 1) (es := [x]) rfl (by omega) hse (by omega) (by have : PK.bys ≤ 200 := PK.hby; have := Nat.mul_le_mul (show xs.length + 1 ≤ 1000001 by omega) this; omega) hbs
    rw [own_blk] at hg' hat
    have HAT : Hid (NewRow A (some ⟨g1, 0, none⟩) w.heap.size) := Lib.hid (fun g' e => by
      injection e with e
      injection e with e
      subst e
      exact hat.imp id (fun h => Nat.le_of_eq h.symm))
    clear hat
    have hap : (apAll #[22, 22] 22 #[.slice A xs.length c, .slice (some ⟨vb, 0, none⟩) 1 1]).run Tryz.prog w = .ok (.slice (some ⟨g1, 0, none⟩) (xs.length + 1) c') w' := hap0
    have HO : Hid (PK.Own w' base (.slice (some ⟨g1, 0, none⟩) (xs.length + 1) c') (xs.take xs.length ++ x :: xs.drop xs.length)) := Lib.hid (by rw [List.take_length, List.drop_length]; exact ho')
    have HG := Lib.hid hg'
    have e1 : ((xs.length : Int) == (xs.length : Int)) = true := by simp
    clear hse hap0 ho' hg' hO hv hne hsome hi
    generalize xs.length = n at *
    go_enter Tryz.func53, Tryz.ntmps53
    go_wp2
    all_goals (go_ret; exact ⟨some ⟨g1, 0, none⟩, c', rfl, HO.out, HG.out, HAT.out⟩)
  have hlt : i < xs.length := by omega
  obtain ⟨g, rfl, hbg, hgw⟩ := hsome (by omega)
  have hgv := hne g rfl
  have HN := Lib.hid hn
  have HI := Lib.hid hlt
  have HCAP := Lib.hid hcap
  by_cases hroom : xs.length + 1 ≤ c
  · obtain ⟨w1, w2, hc1, hc2, ho2, hg1, hg2⟩ := EK.Own.up (w := w.drew) hO hlt hroom x hv hgv 3
    obtain ⟨post, hrow, hpl, _, _, _, _⟩ := EK.Own.row hO
    have hov := overlap_p g ((i + 1) * 2) (xs.length - i) (c - (i + 1)) vb w hv hrow (by
      rw [List.size_toArray, List.length_append, PK.flat_len]
      have := Nat.mul_le_mul_right PK.k (show 1 ≤ xs.length by omega)
      have h0 : 0 < PK.k := PK.hk
      omega) (fun e => hgv e.symm)
    have HO := Lib.hid ho2
    have HG2 : Hid (w.grownBy w2 (some g)) := Lib.hid ⟨hg2.os, hg2.tape, hg2.output, hg2.size, hg2.block⟩
    have HOV := Lib.hid hov
    have e1 : ((i : Int) == (xs.length : Int)) = false := by rw [beq_eq_false_iff_ne]; omega
    have i0 : (0 : Int) ≤ (i : Int) := by omega
    have i1 : (i : Int) ≤ (xs.length : Int) := by omega
    have w1' : IntKind.i64.wrap ((xs.length : Int) + 1) = ((xs.length + 1 : Nat) : Int) := by rw [IntKind.wrap_i64]; omega
    have w2' : IntKind.i64.wrap ((i : Int) + 1) = ((i + 1 : Nat) : Int) := by rw [IntKind.wrap_i64]; omega
    have g1 : ¬ ((c : Int) < ((xs.length + 1 : Nat) : Int)) := by omega
    have hb4 : ¬ (c = i) := by omega
    have hb1 : (0 : Int) ≤ (i : Int) + 1 := by omega
    have hb3 : (i : Int) ≤ (xs.length : Int) + 1 := by omega
    have htn : ((i : Int) + 1).toNat = i + 1 := by omega
    have hb2 : ¬ (c = i + 1) := by omega
    have hc1' : (cpAll #[22, 22] 3 #[.slice (some ⟨g, (i + 1) * 2, none⟩) (xs.length - i) (c - (i + 1)), .slice (some ⟨g, i * 2, none⟩) (xs.length + 1 - i) (c - i)]).run Tryz.prog w.drew = .ok (goInt (Nat.min (xs.length + 1 - i) (xs.length - i))) w1 := hc1
    have hc2' : (cpAll #[22, 22] 3 #[.slice (some ⟨g, i * 2, none⟩) (xs.length + 1 - i) (c - i), .slice (some ⟨vb, 0, none⟩) 1 1]).run Tryz.prog w1 = .ok (goInt (Nat.min 1 (xs.length + 1 - i))) w2 := hc2
    clear hc1 hc2
    clear hO hv hne hsome hi hin hlt hg1 hg2 hov ho2 hrow hpl
    generalize xs.length = n at *
    go_enter Tryz.func53, Tryz.ntmps53
    go_wp2_with (fail)
    rw [HOV.out, Oper.upon_value]
    go_wp2_with (fail)
    go_region_law (refine step_cp rfl _ _ 22 22 rfl (.slice (some ⟨g, (i + 1) * 2, none⟩) (n - i) (c - (i + 1))) (.slice (some ⟨g, i * 2, none⟩) (n + 1 - i) (c - i)) (by simp [Act.eval, Act.put]) (by simp [Act.eval, Act.put]) hc1' ?_)
    go_wp2
    go_ret
    exact ⟨some ⟨g, 0, none⟩, c, rfl, HO.out, HG2.out, fun g' e => .inl (by injection e with e; rw [Option.map_some, e])⟩
  · have hcn : c = xs.length := by omega
    obtain ⟨c2, w0, w1, w2, hap0, hc1, hc2, ho2, hg2, hge, hle⟩ := EK.Own.fresh hO hlt (by omega) hn hbs x hv 3 3 Tryz.underlying3
    subst hcn
    have HO := Lib.hid ho2
    have HG2 := Lib.hid hg2
    have hap : (apAll #[22, 3] 22 #[.slice (some ⟨g, 0, none⟩) i xs.length, .int .i64 ((xs.length : Int) + 1 - (i : Int))]).run Tryz.prog w = .ok (.slice (some ⟨w.heap.size, 0, none⟩) (xs.length + 1) c2) w0 := hap0
    have hc1' : (cpAll #[22, 22] 3 #[.slice (some ⟨w.heap.size, i * 2, none⟩) (xs.length + 1 - i) (c2 - i), .slice (some ⟨vb, 0, none⟩) 1 1]).run Tryz.prog w0 = .ok (goInt (Nat.min 1 (xs.length + 1 - i))) w1 := hc1
    have hc2' : (cpAll #[22, 22] 3 #[.slice (some ⟨w.heap.size, (i + 1) * 2, none⟩) (xs.length - i) (c2 - (i + 1)), .slice (some ⟨g, i * 2, none⟩) (xs.length - i) (xs.length - i)]).run Tryz.prog w1.drew = .ok (goInt (Nat.min (xs.length - i) (xs.length - i))) w2 := hc2
    have e1 : ((i : Int) == (xs.length : Int)) = false := by rw [beq_eq_false_iff_ne]; omega
    have i0 : (0 : Int) ≤ (i : Int) := by omega
    have i1 : (i : Int) ≤ (xs.length : Int) := by omega
    have hb4 : ¬ (xs.length = i) := by omega
    have hb5 : ¬ (c2 = i) := by omega
    have hb6 : ¬ (c2 = i + 1) := by omega
    have hb1 : (0 : Int) ≤ (i : Int) + 1 := by omega
    have hb3 : (i : Int) ≤ (xs.length : Int) + 1 := by omega
    have htn : ((i : Int) + 1).toNat = i + 1 := by omega
    have w1' : IntKind.i64.wrap ((xs.length : Int) + 1) = (xs.length : Int) + 1 := by rw [IntKind.wrap_i64]; omega
    have w2' : IntKind.i64.wrap ((i : Int) + 1) = (i : Int) + 1 := by rw [IntKind.wrap_i64]; omega
    have w3' : IntKind.i64.wrap ((xs.length : Int) + 1 - (i : Int)) = (xs.length : Int) + 1 - (i : Int) := by rw [IntKind.wrap_i64]; omega
    clear hO hv hne hsome hi hin hlt hg2 ho2 hap0 hc1 hc2 hroom hcap hmax hn
    generalize xs.length = n at *
    have HSZ : Hid (w.heap.size ≤ w.heap.size) := Lib.hid (Nat.le_refl _)
    generalize hwe : w.heap.size = hw at *
    have HWE := Lib.hid hwe
    clear hwe HSZ
    go_enter Tryz.func53, Tryz.ntmps53
    go_wp2_with (fail)
    go_region_law (refine step_cp rfl _ _ 22 22 rfl (.slice (some ⟨hw, (i + 1) * 2, none⟩) (n - i) (c2 - (i + 1))) (.slice (some ⟨g, i * 2, none⟩) (n - i) (n - i)) (by simp [Act.eval, Act.put]) (by simp [Act.eval, Act.put]) hc2' ?_)
    go_wp2
    go_ret
    exact ⟨some ⟨hw, 0, none⟩, c2, rfl, HO.out, HG2.out, fun g' e => .inr (by have := HWE.out; injection e with e; injection e with e; omega)⟩

set_option maxRecDepth 100000 in
theorem overlap_r (g o l c vb : Nat) (w : World) {cs cs' : Array Value} (hv : Box w vb 36 cs) (hg : Box w g 36 cs') (hc : 0 < cs'.size) (hne : vb ≠ g) :
    (callFunc 49 #[.slice (some ⟨vb, 0, none⟩) 1 1, .slice (some ⟨g, o, none⟩) l c]).run Tryz.prog w = .ok (.value (.bool false)) w := by
  rw [run_callFunc_extern Tryz.func49 (by kernel_rfl) (by kernel_rfl) (by kernel_rfl) (e := Extern.SlicesOverlaps.overlaps #[23, 23] #[4]) (by kernel_rfl),
    Lib.run_overlaps_apart w 23 4 36 Tryz.underlying23 4 RK.sz ⟨vb, 0, none⟩ ⟨g, o, none⟩ 1 1 l c hne 36 36 cs.size cs'.size (by simp [World.shape?, show w.heap[vb]? = _ from hv]) (by simp [World.shape?, show w.heap[g]? = _ from hg]) (by omega) (hv.free 0) (hv.free _)]
  rfl

set_option maxRecDepth 100000 in
set_option maxHeartbeats 4000000 in
theorem insert_r (xs : List RepM) (A : Option Addr) (c i : Nat) (hi : i ≤ xs.length) (hn : xs.length ≤ 1000000) (x : RepM) (vb base : Nat) (w : World) (hO : RK.Own w base (.slice A xs.length c) xs) (hv : Box w vb 36 (RK.enc x).toArray) (hne : ∀ g, A = some ⟨g, 0, none⟩ → g ≠ vb) (hbs : base ≤ w.heap.size) :
    Calls Tryz.prog 39 #[.slice A xs.length c, .int .i64 i, .slice (some ⟨vb, 0, none⟩) 1 1] w fun e w' => ∃ A' c', e = .returned (.slice A' (xs.length + 1) c') ∧ RK.Own w' base (.slice A' (xs.length + 1) c') (xs.take i ++ x :: xs.drop i) ∧ w.grownBy w' (A.map Addr.block) ∧ NewRow A A' w.heap.size := by
  obtain ⟨_, hcap, hmax, hsome⟩ := EK.Own.bounds hO
  have hmax2 : c ≤ 9223372036854775807 := Nat.le_trans hmax (by simp [maxLen])
  have hu := Tryz.underlying23
  have hz := RK.sz
  by_cases hin : i = xs.length
  · subst hin
    have hse : RK.See w w.heap.size (some ⟨vb, 0, none⟩) [x] := by
      show Sees _ _ _ (RK.flat [x])
      rw [RK.flat_one']
      simpa using Sees.of_box hv hv.lt
    obtain ⟨g1, c', w', hap0, ho', hg', hat⟩ := RK.lies hO (ad := ⟨vb, 0, none⟩) (m := 1) (c := 1) (es := [x]) rfl (by omega) hse (by omega) (by have : RK.bys ≤ 200 := RK.hby; have := Nat.mul_le_mul (show xs.length + 1 ≤ 1000001 by omega) this; omega) hbs
    rw [own_blk] at hg' hat
    have HAT : Hid (NewRow A (some ⟨g1, 0, none⟩) w.heap.size) := Lib.hid (fun g' e => by
      injection e with e
      injection e with e
      subst e
      exact hat.imp id (fun h => Nat.le_of_eq h.symm))
    clear hat
    have hap : (apAll #[23, 23] 23 #[.slice A xs.length c, .slice (some ⟨vb, 0, none⟩) 1 1]).run Tryz.prog w = .ok (.slice (some ⟨g1, 0, none⟩) (xs.length + 1) c') w' := hap0
    have HO : Hid (RK.Own w' base (.slice (some ⟨g1, 0, none⟩) (xs.length + 1) c') (xs.take xs.length ++ x :: xs.drop xs.length)) := Lib.hid (by rw [List.take_length, List.drop_length]; exact ho')
    have HG := Lib.hid hg'
    have e1 : ((xs.length : Int) == (xs.length : Int)) = true := by simp
    clear hse hap0 ho' hg' hO hv hne hsome hi
    generalize xs.length = n at *
    go_enter Tryz.func39, Tryz.ntmps39
    go_wp2
    all_goals (go_ret; exact ⟨some ⟨g1, 0, none⟩, c', rfl, HO.out, HG.out, HAT.out⟩)
  have hlt : i < xs.length := by omega
  obtain ⟨g, rfl, hbg, hgw⟩ := hsome (by omega)
  have hgv := hne g rfl
  have HN := Lib.hid hn
  have HI := Lib.hid hlt
  have HCAP := Lib.hid hcap
  by_cases hroom : xs.length + 1 ≤ c
  · obtain ⟨w1, w2, hc1, hc2, ho2, hg1, hg2⟩ := EK.Own.up (w := w.drew) hO hlt hroom x hv hgv 3
    obtain ⟨post, hrow, hpl, _, _, _, _⟩ := EK.Own.row hO
    have hov := overlap_r g ((i + 1) * 4) (xs.length - i) (c - (i + 1)) vb w hv hrow (by
      rw [List.size_toArray, List.length_append, RK.flat_len]
      have := Nat.mul_le_mul_right RK.k (show 1 ≤ xs.length by omega)
      have h0 : 0 < RK.k := RK.hk
      omega) (fun e => hgv e.symm)
    have HO := Lib.hid ho2
    have HG2 : Hid (w.grownBy w2 (some g)) := Lib.hid ⟨hg2.os, hg2.tape, hg2.output, hg2.size, hg2.block⟩
    have HOV := Lib.hid hov
    have e1 : ((i : Int) == (xs.length : Int)) = false := by rw [beq_eq_false_iff_ne]; omega
    have i0 : (0 : Int) ≤ (i : Int) := by omega
    have i1 : (i : Int) ≤ (xs.length : Int) := by omega
    have w1' : IntKind.i64.wrap ((xs.length : Int) + 1) = ((xs.length + 1 : Nat) : Int) := by rw [IntKind.wrap_i64]; omega
    have w2' : IntKind.i64.wrap ((i : Int) + 1) = ((i + 1 : Nat) : Int) := by rw [IntKind.wrap_i64]; omega
    have g1 : ¬ ((c : Int) < ((xs.length + 1 : Nat) : Int)) := by omega
    have hb4 : ¬ (c = i) := by omega
    have hb1 : (0 : Int) ≤ (i : Int) + 1 := by omega
    have hb3 : (i : Int) ≤ (xs.length : Int) + 1 := by omega
    have htn : ((i : Int) + 1).toNat = i + 1 := by omega
    have hb2 : ¬ (c = i + 1) := by omega
    have hc1' : (cpAll #[23, 23] 3 #[.slice (some ⟨g, (i + 1) * 4, none⟩) (xs.length - i) (c - (i + 1)), .slice (some ⟨g, i * 4, none⟩) (xs.length + 1 - i) (c - i)]).run Tryz.prog w.drew = .ok (goInt (Nat.min (xs.length + 1 - i) (xs.length - i))) w1 := hc1
    have hc2' : (cpAll #[23, 23] 3 #[.slice (some ⟨g, i * 4, none⟩) (xs.length + 1 - i) (c - i), .slice (some ⟨vb, 0, none⟩) 1 1]).run Tryz.prog w1 = .ok (goInt (Nat.min 1 (xs.length + 1 - i))) w2 := hc2
    clear hc1 hc2
    clear hO hv hne hsome hi hin hlt hg1 hg2 hov ho2 hrow hpl
    generalize xs.length = n at *
    go_enter Tryz.func39, Tryz.ntmps39
    go_wp2_with (fail)
    rw [HOV.out, Oper.upon_value]
    go_wp2_with (fail)
    go_region_law (refine step_cp rfl _ _ 23 23 rfl (.slice (some ⟨g, (i + 1) * 4, none⟩) (n - i) (c - (i + 1))) (.slice (some ⟨g, i * 4, none⟩) (n + 1 - i) (c - i)) (by simp [Act.eval, Act.put]) (by simp [Act.eval, Act.put]) hc1' ?_)
    go_wp2
    go_ret
    exact ⟨some ⟨g, 0, none⟩, c, rfl, HO.out, HG2.out, fun g' e => .inl (by injection e with e; rw [Option.map_some, e])⟩
  · have hcn : c = xs.length := by omega
    obtain ⟨c2, w0, w1, w2, hap0, hc1, hc2, ho2, hg2, hge, hle⟩ := EK.Own.fresh hO hlt (by omega) hn hbs x hv 3 3 Tryz.underlying3
    subst hcn
    have HO := Lib.hid ho2
    have HG2 := Lib.hid hg2
    have hap : (apAll #[23, 3] 23 #[.slice (some ⟨g, 0, none⟩) i xs.length, .int .i64 ((xs.length : Int) + 1 - (i : Int))]).run Tryz.prog w = .ok (.slice (some ⟨w.heap.size, 0, none⟩) (xs.length + 1) c2) w0 := hap0
    have hc1' : (cpAll #[23, 23] 3 #[.slice (some ⟨w.heap.size, i * 4, none⟩) (xs.length + 1 - i) (c2 - i), .slice (some ⟨vb, 0, none⟩) 1 1]).run Tryz.prog w0 = .ok (goInt (Nat.min 1 (xs.length + 1 - i))) w1 := hc1
    have hc2' : (cpAll #[23, 23] 3 #[.slice (some ⟨w.heap.size, (i + 1) * 4, none⟩) (xs.length - i) (c2 - (i + 1)), .slice (some ⟨g, i * 4, none⟩) (xs.length - i) (xs.length - i)]).run Tryz.prog w1.drew = .ok (goInt (Nat.min (xs.length - i) (xs.length - i))) w2 := hc2
    have e1 : ((i : Int) == (xs.length : Int)) = false := by rw [beq_eq_false_iff_ne]; omega
    have i0 : (0 : Int) ≤ (i : Int) := by omega
    have i1 : (i : Int) ≤ (xs.length : Int) := by omega
    have hb4 : ¬ (xs.length = i) := by omega
    have hb5 : ¬ (c2 = i) := by omega
    have hb6 : ¬ (c2 = i + 1) := by omega
    have hb1 : (0 : Int) ≤ (i : Int) + 1 := by omega
    have hb3 : (i : Int) ≤ (xs.length : Int) + 1 := by omega
    have htn : ((i : Int) + 1).toNat = i + 1 := by omega
    have w1' : IntKind.i64.wrap ((xs.length : Int) + 1) = (xs.length : Int) + 1 := by rw [IntKind.wrap_i64]; omega
    have w2' : IntKind.i64.wrap ((i : Int) + 1) = (i : Int) + 1 := by rw [IntKind.wrap_i64]; omega
    have w3' : IntKind.i64.wrap ((xs.length : Int) + 1 - (i : Int)) = (xs.length : Int) + 1 - (i : Int) := by rw [IntKind.wrap_i64]; omega
    clear hO hv hne hsome hi hin hlt hg2 ho2 hap0 hc1 hc2 hroom hcap hmax hn
    generalize xs.length = n at *
    have HSZ : Hid (w.heap.size ≤ w.heap.size) := Lib.hid (Nat.le_refl _)
    generalize hwe : w.heap.size = hw at *
    have HWE := Lib.hid hwe
    clear hwe HSZ
    go_enter Tryz.func39, Tryz.ntmps39
    go_wp2_with (fail)
    go_region_law (refine step_cp rfl _ _ 23 23 rfl (.slice (some ⟨hw, (i + 1) * 4, none⟩) (n - i) (c2 - (i + 1))) (.slice (some ⟨g, i * 4, none⟩) (n - i) (n - i)) (by simp [Act.eval, Act.put]) (by simp [Act.eval, Act.put]) hc2' ?_)
    go_wp2
    go_ret
    exact ⟨some ⟨hw, 0, none⟩, c2, rfl, HO.out, HG2.out, fun g' e => .inr (by have := HWE.out; injection e with e; injection e with e; omega)⟩

end Go.Proofs.YtbgbidgggjkmmaaGreatDoor

namespace Go.Proofs.YtbgbidgggjkmmaaGreatDoor
open Go.RowKit

attribute [local go_sem ↓] bsT_def apAll_def cpAll_def clAll_def ldPr_def stPr_def

set_option maxRecDepth 100000 in
theorem EK.flat_del {α : Type} (K : EK α) (xs : List α) (i : Nat) : K.flat (xs.take i ++ xs.drop (i + 1)) = K.flat (xs.take i) ++ K.flat (xs.drop (i + 1)) := K.flat_app _ _
set_option maxRecDepth 100000 in
theorem del_len1 {α : Type} (xs : List α) (i : Nat) (hi : i < xs.length) : (xs.take i ++ xs.drop (i + 1)).length = xs.length - 1 := by
  rw [List.length_append, List.length_take, List.length_drop]
  omega

set_option maxRecDepth 100000 in
/-- append(s[:i], s[i+1:]...), then clear of the last place. -/
theorem EK.Own.down {α : Type} {K : EK α} {w : World} {base g n c : Nat} {L : List α} (h : K.Own w base (.slice (some ⟨g, 0, none⟩) n c) L) {i : Nat} (hi : i < L.length) (zs : List Value) (hz : zs.length = K.k) :
    ∃ w1, (i + 1 = L.length → (apAll #[K.sl, K.sl] K.sl #[.slice (some ⟨g, 0, none⟩) i c, .slice (if c = i + 1 then some ⟨g, 0, none⟩ else some ⟨g, (i + 1) * K.k, none⟩) 0 (c - (i + 1))]).run Tryz.prog w = .ok (.slice (some ⟨g, 0, none⟩) (L.length - 1) c) w1) ∧
      (i + 1 < L.length → (apAll #[K.sl, K.sl] K.sl #[.slice (some ⟨g, 0, none⟩) i c, .slice (some ⟨g, (i + 1) * K.k, none⟩) (L.length - (i + 1)) (c - (i + 1))]).run Tryz.prog w = .ok (.slice (some ⟨g, 0, none⟩) (L.length - 1) c) w1) ∧
      (∃ row, Box w1 g K.e row ∧ row.size = c * K.k) ∧ w.grownBy w1 (some g) ∧
      K.Own (w1.setCells g ((L.length - 1) * K.k) zs) base (.slice (some ⟨g, 0, none⟩) (L.length - 1) c) (L.take i ++ L.drop (i + 1)) ∧ w.grownBy (w1.setCells g ((L.length - 1) * K.k) zs) (some g) := by
  obtain ⟨post, hb, hp, hc', hm, hg, rfl⟩ := h.row
  obtain ⟨i0, hi0, hz0, hz1, hz2⟩ := info_parts K.info
  have hk := K.hk
  have htl : (K.flat (L.take i)).length = i * K.k := by rw [K.flat_len, List.length_take]; congr 1; omega
  have hdl : (K.flat (L.drop (i + 1))).length = (L.length - (i + 1)) * K.k := by rw [K.flat_len, List.length_drop]
  have hrow : K.flat L ++ post = K.flat (L.take i) ++ (K.enc (L[i]'hi) ++ (K.flat (L.drop (i + 1)) ++ post)) := by rw [K.flat_split hi]; simp only [List.append_assoc]
  have hb0 := hb
  rw [hrow] at hb0
  obtain ⟨M, P, hM, h1, h2⟩ : ∃ M P : List Value, K.enc (L[i]'hi) ++ (K.flat (L.drop (i + 1)) ++ post) = M ++ P ∧ M.length = (L.length - (i + 1)) * K.k ∧ P.length = K.k + post.length := by
    have hl : (K.enc (L[i]'hi) ++ (K.flat (L.drop (i + 1)) ++ post)).length = K.k + ((L.length - (i + 1)) * K.k + post.length) := by rw [List.length_append, List.length_append, K.len, hdl]
    refine ⟨(K.enc (L[i]'hi) ++ (K.flat (L.drop (i + 1)) ++ post)).take ((L.length - (i + 1)) * K.k), (K.enc (L[i]'hi) ++ (K.flat (L.drop (i + 1)) ++ post)).drop ((L.length - (i + 1)) * K.k), (List.take_append_drop _ _).symm, ?_, ?_⟩
    · rw [List.length_take, hl]; omega
    · rw [List.length_drop, hl]; omega
  have hb0' := hb0
  rw [hM] at hb0'
  have hb1 := Box.put_mid hb0' htl (vs := K.flat (L.drop (i + 1))) (by rw [hdl, h1])
  have hg1 : w.grownBy (w.setCells g (i * K.k) (K.flat (L.drop (i + 1)))) (some g) := only_cells _ _ _
  obtain ⟨P1, P2, hP, h3, h4⟩ : ∃ P1 P2 : List Value, P = P1 ++ P2 ∧ P1.length = K.k ∧ P2.length = post.length := ⟨P.take K.k, P.drop K.k, (List.take_append_drop _ _).symm, by rw [List.length_take]; omega, by rw [List.length_drop]; omega⟩
  have hb1' : Box (w.setCells g (i * K.k) (K.flat (L.drop (i + 1)))) g K.e ((K.flat (L.take i) ++ K.flat (L.drop (i + 1))) ++ (P1 ++ P2)).toArray := by
    rw [List.append_assoc, ← hP]
    exact hb1
  have hl1 : (K.flat (L.take i) ++ K.flat (L.drop (i + 1))).length = (L.length - 1) * K.k := by
    rw [List.length_append, htl, hdl, ← Nat.add_mul]
    congr 1
    omega
  have hb2 := Box.put_mid hb1' hl1 (vs := zs) (by rw [hz, h3])
  have hsz : (K.flat (L.take i) ++ (K.enc (L[i]'hi) ++ (K.flat (L.drop (i + 1)) ++ post))).toArray.size = c * K.k := by
    simp only [List.size_toArray, List.length_append, htl, hdl, K.len, hp]
    have e1 : (c - L.length) * K.k + L.length * K.k = c * K.k := by rw [← Nat.add_mul]; congr 1; omega
    have e2 : L.length * K.k = i * K.k + (K.k + (L.length - (i + 1)) * K.k) := by
      have : L.length * K.k = (i + (1 + (L.length - (i + 1)))) * K.k := by congr 1; omega
      rw [this, Nat.add_mul, Nat.add_mul, Nat.one_mul]
    omega
  refine ⟨w.setCells g (i * K.k) (K.flat (L.drop (i + 1))), fun e => ?_, fun hlt => ?_, ⟨_, hb1, ?_⟩, hg1, ?_, only_trans hg1 (only_cells _ _ _)⟩
  · have hd0 : L.drop (i + 1) = [] := List.drop_of_length_le (by omega)
    have e2 : L.length - 1 = i := by omega
    rw [hd0, e2]
    show (Builtin.append_ _ _ _).run _ _ = _
    have hci : i ≤ c := by omega
    by_cases hcc : c = i + 1
    · rw [if_pos hcc]
      simp [Builtin.append_, run_underlying K.und, sizeOf, typeInfo, hi0, Builtin.lenOf, Builtin.firstCells, hci, storeCells, loadCells, loadCellsFrom, World.setCells]
    · rw [if_neg hcc]
      simp [Builtin.append_, run_underlying K.und, sizeOf, typeInfo, hi0, Builtin.lenOf, Builtin.firstCells, hci, storeCells, loadCells, loadCellsFrom, World.setCells]
  · have hr : w.rangeAt g ((i + 1) * K.k) (K.flat (L.drop (i + 1))) := by
      have hb3 : Box w g K.e ((K.flat (L.take i) ++ K.enc (L[i]'hi)) ++ (K.flat (L.drop (i + 1)) ++ post)).toArray := by
        rw [List.append_assoc]
        exact hb0
      exact Box.range_mid hb3 (by rw [List.length_append, htl, K.len, Nat.add_mul, Nat.one_mul])
    have hs : Go.Src Tryz.prog i0.size K.sl (.slice (some ⟨g, (i + 1) * K.k, none⟩) (L.length - (i + 1)) (c - (i + 1))) (L.length - (i + 1)) (K.flat (L.drop (i + 1))) w := by
      rw [hz1]
      exact Go.Src.ofSlice w K.und ⟨g, (i + 1) * K.k, none⟩ _ _ _ hdl (fun j u hj => by rw [plain_add]; exact hr j u hj) (K.flat_one _)
    have := run_append_room_src (P := Tryz.prog) w K.sl K.sl K.sl K.e i0 K.und hi0 g 0 i c _ (L.length - (i + 1)) _ hs (by omega) (fun j hj => by
      rw [hz1, Nat.zero_add, hb0.cell, Array.getElem?_eq_getElem (by
        rw [hsz]
        rw [hdl] at hj
        have h5 : i * K.k + (L.length - (i + 1)) * K.k ≤ c * K.k := by rw [← Nat.add_mul]; exact Nat.mul_le_mul_right _ (by omega)
        omega)]
      rfl) (fun j _ => hb0.free _)
    rw [show i + (L.length - (i + 1)) = L.length - 1 by omega, hz1, Nat.zero_add] at this
    exact this
  · rw [← hsz]
    simp only [List.size_toArray, List.length_append, htl, hdl, K.len, h2]
    omega
  · have := K.own_row (L := L.take i ++ L.drop (i + 1)) (base := base) (c := c) (post := zs ++ P2) (by rw [K.flat_del]; simpa only [List.append_assoc] using hb2) (by
      rw [del_len1 L i hi, List.length_append, hz, h4, hp]
      have : c - (L.length - 1) = (c - L.length) + 1 := by omega
      rw [this, Nat.add_mul, Nat.one_mul]
      omega) (by rw [del_len1 L i hi]; omega) hm hg
    rwa [del_len1 L i hi] at this
set_option maxRecDepth 100000 in
/-- clear of one place. -/
theorem EK.clear1 {α : Type} (K : EK α) (w : World) (ty : TypeId) (g o c : Nat) {row : Array Value} (hb : Box w g K.e row) (hs : o + K.k ≤ row.size) (hzv : ∀ w, (zeroValue K.e).run Tryz.prog w = .ok K.z w) :
    (clAll #[K.sl] ty #[.slice (some ⟨g, o, none⟩) 1 c]).run Tryz.prog w = .ok (.tuple #[]) (w.setCells g o K.z.cells.toList) := by
  have hzs := K.hzs
  have he : Builtin.zeroCells K.z.cells 1 = K.z.cells := by
    apply Array.ext_getElem?
    intro j
    rcases Nat.lt_or_ge j K.z.cells.size with hj | hj
    · simp [Builtin.zeroCells, hj, Nat.mod_eq_of_lt hj]
    · rw [Array.getElem?_eq_none hj, Array.getElem?_eq_none (by rw [zero_cells_len, Nat.one_mul]; exact hj)]
  have hst := run_storeCells_cells (P := Tryz.prog) g o K.z.cells.toList 0 w (by
      intro j hj
      rw [Array.length_toList, hzs] at hj
      rw [hb.cell, Array.getElem?_eq_getElem (by omega)]
      rfl) (fun j _ => hb.free _) K.zone
  simp only [Nat.add_zero] at hst
  show (Builtin.clear_ _ _ _).run _ _ = _
  simp [Builtin.clear_, run_underlying K.und, hzv, he, hst]

set_option maxRecDepth 100000 in
set_option maxHeartbeats 4000000 in
theorem delete_p (xs : List PairX) (A : Option Addr) (c i : Nat) (hi : i < xs.length) (hn : xs.length ≤ 1000000) (base : Nat) (w : World) (hO : PK.Own w base (.slice A xs.length c) xs) (_hbs : base ≤ w.heap.size) :
    Calls Tryz.prog 48 #[.slice A xs.length c, .int .i64 i, .int .i64 ((i : Int) + 1)] w fun e w' => ∃ A' c', e = .returned (.slice A' (xs.length - 1) c') ∧ PK.Own w' base (.slice A' (xs.length - 1) c') (xs.take i ++ xs.drop (i + 1)) ∧ w.grownBy w' (A.map Addr.block) := by
  obtain ⟨_, hcap, hmax, hsome⟩ := EK.Own.bounds hO
  obtain ⟨g, rfl, hbg, hgw⟩ := hsome (by omega)
  have hmax2 : c ≤ 9223372036854775807 := Nat.le_trans hmax (by simp [maxLen])
  have hu := Tryz.underlying22
  obtain ⟨w1, ha1, ha2, ⟨row, hrow, hrs⟩, hg1, ho2, hg2⟩ := EK.Own.down (w := w.drew) hO hi PK.z.cells.toList rfl
  have hk2 : PK.k = 2 := rfl
  have hcl := PK.clear1 w1 0 g ((xs.length - 1) * PK.k) (c - (xs.length - 1)) hrow (by
    rw [hrs]
    have := Nat.mul_le_mul_right PK.k (show (xs.length - 1) + 1 ≤ c by omega)
    rw [Nat.add_mul, Nat.one_mul] at this
    exact this) (fun w => by kernel_rfl)
  have HO := Lib.hid ho2
  have HG2 : Hid (w.grownBy (w1.setCells g ((xs.length - 1) * PK.k) PK.z.cells.toList) (some g)) := Lib.hid ⟨hg2.os, hg2.tape, hg2.output, hg2.size, hg2.block⟩
  generalize w1.setCells g ((xs.length - 1) * PK.k) PK.z.cells.toList = w2 at *
  have hcl' : (clAll #[22] 0 #[.slice (some ⟨g, (xs.length - 1) * 2, none⟩) 1 (c - (xs.length - 1))]).run Tryz.prog w1 = .ok (.tuple #[]) w2 := hcl
  clear hg1 hg2 ho2 hO hsome hrow hrs hcl
  have i0 : (0 : Int) ≤ (i : Int) := by omega
  have hb1 : (0 : Int) ≤ (i : Int) + 1 := by omega
  have htn : ((i : Int) + 1).toNat = i + 1 := by omega
  have i1 : ((i : Int) == (i : Int) + 1) = false := by rw [beq_eq_false_iff_ne]; omega
  have i2 : (i : Int) ≤ (i : Int) + 1 := by omega
  rcases Nat.lt_or_ge (i + 1) xs.length with hlt | hge
  · have hap : (apAll #[22, 22] 22 #[.slice (some ⟨g, 0, none⟩) i c, .slice (some ⟨g, (i + 1) * 2, none⟩) (xs.length - (i + 1)) (c - (i + 1))]).run Tryz.prog w.drew = .ok (.slice (some ⟨g, 0, none⟩) (xs.length - 1) c) w1 := ha2 hlt
    have hb2 : ¬ (c = i + 1) := by omega
    have hb3 : ¬ (c = xs.length - 1) := by omega
    have hb4 : (i : Int) + 1 ≤ (xs.length : Int) := by omega
    have hb5 : xs.length - (xs.length - 1) = 1 := by omega
    have hb6 : (i : Int) ≤ (c : Int) := by omega
    have hb7 : (xs.length : Int) ≤ (c : Int) := by omega
    have hb8 : ((xs.length - 1 : Nat) : Int) ≤ (xs.length : Int) := by omega
    have hb9 : ((xs.length - 1 : Nat) : Int).toNat = xs.length - 1 := by omega
    have hc1 : ¬ (xs.length = i) := by omega
    clear ha1 ha2 hlt hi hcap hmax
    generalize xs.length = n at *
    go_enter Tryz.func48, Tryz.ntmps48
    go_wp2_with (fail)
    go_region_law (refine step_ap rfl _ _ 22 22 rfl (.slice (some ⟨g, 0, none⟩) i c) (.slice (some ⟨g, (i + 1) * 2, none⟩) (n - (i + 1)) (c - (i + 1))) (by simp [Act.eval, Act.put]) (by simp [Act.eval, Act.put]) hap ?_)
    go_wp2
    go_ret
    exact ⟨some ⟨g, 0, none⟩, c, rfl, HO.out, HG2.out⟩
  · have hni : xs.length = i + 1 := by omega
    have hn1 : xs.length - 1 = i := by omega
    by_cases hcc : c = i + 1
    · subst hcc
      have hap : (apAll #[22, 22] 22 #[.slice (some ⟨g, 0, none⟩) i (i + 1), .slice (some ⟨g, 0, none⟩) 0 0]).run Tryz.prog w.drew = .ok (.slice (some ⟨g, 0, none⟩) i (i + 1)) w1 := by
        have h := ha1 hni.symm
        rw [if_pos rfl, hn1, Nat.sub_self] at h
        exact h
      have hcl2 : (clAll #[22] 0 #[.slice (some ⟨g, i * 2, none⟩) 1 1]).run Tryz.prog w1 = .ok (.tuple #[]) w2 := by
        rw [hn1, show i + 1 - i = 1 by omega] at hcl'
        exact hcl'
      have hb5 : (i + 1) - i = 1 := by omega
      have hb6 : (i : Int) ≤ ((i + 1 : Nat) : Int) := by omega
      rw [hn1] at HO ⊢
      rw [hni] at *
      clear ha1 ha2 hge hi hcap hmax hn1 hcl'
      go_enter Tryz.func48, Tryz.ntmps48
      go_wp2_with (fail)
      go_region_law (refine step_ap rfl _ _ 22 22 rfl (.slice (some ⟨g, 0, none⟩) i (i + 1)) (.slice (some ⟨g, 0, none⟩) 0 0) (by simp [Act.eval, Act.put]) (by simp [Act.eval, Act.put]) hap ?_)
      go_wp2
      go_ret
      exact ⟨some ⟨g, 0, none⟩, i + 1, rfl, HO.out, HG2.out⟩
    · have hap : (apAll #[22, 22] 22 #[.slice (some ⟨g, 0, none⟩) i c, .slice (some ⟨g, (i + 1) * 2, none⟩) 0 (c - (i + 1))]).run Tryz.prog w.drew = .ok (.slice (some ⟨g, 0, none⟩) i c) w1 := by
        have h := ha1 hni.symm
        rw [if_neg hcc, hn1] at h
        exact h
      have hb4 : True := trivial
      have hb5 : (i + 1) - i = 1 := by omega
      have hb6 : (i : Int) ≤ (c : Int) := by omega
      have hb7 : (i : Int) + 1 ≤ (c : Int) := by omega
      have hc1 : ¬ (c = i) := by omega
      rw [hn1] at hcl' HO ⊢
      rw [hni] at *
      clear ha1 ha2 hge hi hcap hmax hn1
      go_enter Tryz.func48, Tryz.ntmps48
      go_wp2_with (fail)
      go_region_law (refine step_ap rfl _ _ 22 22 rfl (.slice (some ⟨g, 0, none⟩) i c) (.slice (some ⟨g, (i + 1) * 2, none⟩) 0 (c - (i + 1))) (by simp [Act.eval, Act.put]) (by simp [Act.eval, Act.put]) hap ?_)
      go_wp2
      go_ret
      exact ⟨some ⟨g, 0, none⟩, c, rfl, HO.out, HG2.out⟩

end Go.Proofs.YtbgbidgggjkmmaaGreatDoor

namespace Go.Proofs.YtbgbidgggjkmmaaGreatDoor
open Go.RowKit

/-! ### Slice literals -/
section
variable {α : Type} (K : EK α)
def partsV : Nat → List Value → List (Nat × Value)
  | _, [] => []
  | k, v :: r => (k, v) :: partsV (k + 1) r
def EK.zer (n : Nat) : List Value := (List.replicate n K.z.cells.toList).flatten
set_option maxRecDepth 100000 in
theorem EK.zer_succ (n : Nat) : K.zer (n + 1) = K.z.cells.toList ++ K.zer n := by unfold EK.zer; rw [List.replicate_succ, List.flatten_cons]
set_option maxRecDepth 100000 in
theorem EK.zer_len (n : Nat) : (K.zer n).length = n * K.k := by
  induction n with
  | zero => simp [EK.zer]
  | succ n ih => rw [K.zer_succ, List.length_append, ih, Array.length_toList, K.hzs, Nat.add_mul, Nat.one_mul, Nat.add_comm]
set_option maxRecDepth 100000 in
theorem EK.zer_at : ∀ (n j : Nat), j < n * K.k → (K.zer n)[j]? = K.z.cells[j % K.k]?
  | 0, j, h => by simp at h
  | n + 1, j, h => by
    rw [K.zer_succ]
    rcases Nat.lt_or_ge j K.k with hlt | hge
    · rw [List.getElem?_append_left (by rw [Array.length_toList, K.hzs]; exact hlt), Nat.mod_eq_of_lt hlt, Array.getElem?_toList]
    · rw [List.getElem?_append_right (by rw [Array.length_toList, K.hzs]; exact hge), Array.length_toList, K.hzs, EK.zer_at n (j - K.k) (by rw [Nat.add_mul] at h; omega), ← Nat.mod_eq_sub_mod hge]
set_option maxRecDepth 100000 in
theorem EK.zer_eq (n : Nat) : ((Array.range (n * K.k)).map fun x => K.z.cells[x % K.z.cells.size]!) = (K.zer n).toArray := by
  apply Array.ext_getElem?
  intro j
  have hk := K.hk
  rcases Nat.lt_or_ge j (n * K.k) with hj | hj
  · have hm : j % K.z.cells.size < K.z.cells.size := Nat.mod_lt _ (by rw [K.hzs]; exact hk)
    have e := K.zer_at n j hj
    have hr : (K.zer n).toArray[j]? = K.z.cells[j % K.k]? := by rw [List.getElem?_toArray, e]
    rw [hr, Array.getElem?_map, Array.getElem?_eq_getElem (by rw [Array.size_range]; exact hj), Option.map_some, Array.getElem_range]
    rw [getElem!_pos K.z.cells (j % K.z.cells.size) hm]
    have e2 : j % K.k = j % K.z.cells.size := by rw [K.hzs]
    rw [e2, Array.getElem?_eq_getElem hm]
  · rw [Array.getElem?_eq_none (by simpa using hj), Array.getElem?_eq_none (by rw [List.size_toArray, K.zer_len]; exact hj)]
set_option maxRecDepth 100000 in
theorem EK.fill : ∀ (r : List α) (vs : List Value) (k : Nat) (pre : List Value), pre.length = k * K.k → vs.map Value.cells = r.map (fun x => (K.enc x).toArray) →
    Instr.fill (fun i => some (i * K.k, K.k)) (pre ++ K.zer r.length).toArray (partsV k vs) = some (pre ++ K.flat r).toArray
  | [], vs, k, pre, _, h => by
    have : vs = [] := by simpa using h
    subst this
    rfl
  | x :: r, [], k, pre, _, h => by simp at h
  | x :: r, v :: vs, k, pre, hp, h => by
    simp only [List.map_cons, List.cons.injEq] at h
    rw [List.length_cons, K.zer_succ]
    unfold partsV
    rw [fill_step (off := k * K.k) (size := K.k) (vs := K.enc x) rfl hp (by rw [Array.length_toList, K.hzs]) h.1 (K.len x)]
    have e2 : pre ++ (K.enc x ++ K.zer r.length) = (pre ++ K.enc x) ++ K.zer r.length := by rw [List.append_assoc]
    rw [e2, EK.fill r vs (k + 1) (pre ++ K.enc x) (by rw [List.length_append, K.len, hp, Nat.add_mul, Nat.one_mul]) h.2, List.append_assoc]
    rfl
set_option maxRecDepth 100000 in
theorem EK.build (r : List α) (vs : List Value) (h0 : 0 < r.length) (h1 : r.length * K.k ≤ 16777216) (h : vs.map Value.cells = r.map (fun x => (K.enc x).toArray)) (w : World) :
    (bsT K.sl r.length (partsV 0 vs).toArray).run Tryz.prog w = .ok (.slice (some ⟨w.heap.size, 0, none⟩) r.length r.length) (w.alloc (.cells (K.flat r).toArray K.e)) := by
  obtain ⟨i0, hi0, hz0, hz1, hz2⟩ := info_parts K.info
  have hk := K.hk
  have hz := K.zer_eq r.length
  have hf := K.fill r vs 0 [] (by simp) h
  refine run_buildSlice (P := Tryz.prog) w K.sl K.e r.length _ _ i0 _ K.und hi0 hz0 (by rw [hz1]; omega) (by rw [hz1]; have := Nat.mul_pos h0 hk; omega) ?_
  rw [hz1]
  show Instr.fill _ ((Array.range (r.length * K.k)).map fun x => K.z.cells[x % K.z.cells.size]!) (partsV 0 vs).toArray.toList = _
  rw [hz, List.toList_toArray]
  exact hf
set_option maxRecDepth 100000 in
theorem EK.build1 (x : α) (v : Value) (h : v.cells = (K.enc x).toArray) (hk : K.k ≤ 1000) (w : World) :
    (bsT K.sl 1 #[(0, v)]).run Tryz.prog w = .ok (.slice (some ⟨w.heap.size, 0, none⟩) 1 1) (w.alloc (.cells (K.enc x).toArray K.e)) := by
  have := K.build [x] [v] (by simp) (by simp; omega) (by simp [h]) w
  rw [K.flat_one'] at this
  exact this
end

attribute [local go_sem ↓] bsT_def apAll_def ldPr_def stPr_def

/-! ### strings.HasPrefix -/
set_option maxRecDepth 100000 in
theorem shas_any (s p : ByteArray) (w : World) : Calls Tryz.prog 61 #[.string s, .string p] w fun e w' => e = .returned (.bool (beginsB p s)) ∧ w = w' := by
  unfold beginsB
  by_cases h : p.size ≤ s.size
  · have e1 : decide (p.size ≤ s.size) = true := decide_eq_true h
    have e2 : decide ((p.size : Int) ≤ (s.size : Int)) = true := decide_eq_true (by omega)
    have i1 : (p.size : Int) ≤ (s.size : Int) := by omega
    rw [e1, Bool.true_and]
    clear e1
    go_enter Tryz.func61, Tryz.ntmps61
    go_wp2
    go_ret
    exact ⟨rfl, rfl⟩
  · have e1 : decide (p.size ≤ s.size) = false := decide_eq_false h
    have e2 : decide ((p.size : Int) ≤ (s.size : Int)) = false := decide_eq_false (by omega)
    have i1 : ¬ (p.size : Int) ≤ (s.size : Int) := by omega
    rw [e1, Bool.false_and]
    clear e1
    go_enter Tryz.func61, Tryz.ntmps61
    go_wp2
    go_ret
    exact ⟨rfl, rfl⟩
set_option maxRecDepth 100000 in
theorem has_any10 (s p : ByteArray) (w : World) : Calls Tryz.prog 54 #[.string s, .string p] w fun e w' => e = .returned (.bool (beginsB p s)) ∧ w = w' := by
  have HC := Lib.hid (shas_any s p w)
  generalize beginsB p s = r at *
  go_enter Tryz.func54, Tryz.ntmps54
  go_wp2_with (go_at_call 61; (with_reducible refine (HC.out).mono ?_); rintro e w' ⟨rfl, rfl⟩)
  go_ret
  exact ⟨rfl, rfl⟩

/-! ### state.begun -/
set_option maxRecDepth 100000 in
theorem begun_snoc (p : ByteArray) (l : List PairX) (k : Nat) (h : k < l.length) : begunL p (l.take (k + 1)) = if beginsB p (l[k]'h).key = true then begunL p (l.take k) ++ [(l[k]'h).key] else begunL p (l.take k) := by
  unfold begunL
  rw [List.take_succ_eq_append_getElem h, List.filter_append, List.map_append]
  by_cases e : beginsB p (l[k]'h).key = true
  · rw [if_pos e]
    simp [e]
  · rw [if_neg e]
    simp [e]

set_option maxRecDepth 100000 in
set_option maxHeartbeats 4000000 in
theorem begun_any (l : List PairX) (A : Option Addr) (c : Nat) (hn : l.length ≤ 1000000) (p : ByteArray) (w : World) (hS : PK.See w w.heap.size A l) :
    Calls Tryz.prog 45 #[.slice A l.length c, .string p] w fun e w' => ∃ A' c', e = .returned (.slice A' (begunL p l).length c') ∧ SK.Own w' w.heap.size (.slice A' (begunL p l).length c') (begunL p l) ∧ Below w.heap.size w w' := by
  have HS := Lib.hid hS
  have HN := Lib.hid hn
  clear hS hn
  go_enter Tryz.func45, Tryz.ntmps45
  go_wp2
  go_loopw [5, 10] (fun v i wr => ∃ (k : Nat) (A' : Option Addr) (n' c' : Nat), k ≤ l.length ∧ i = .int .i64 (k : Int) ∧ v = .slice A' n' c' ∧ Hid (SK.Own wr w.heap.size (.slice A' n' c') (begunL p (l.take k))) ∧ Hid (Below w.heap.size w wr)) (fun _ i _ => l.length - (intOf i).toNat)
  case atStart => exact ⟨0, none, 0, 0, Nat.zero_le _, rfl, rfl, Lib.hid (EK.own_nil SK w _), Lib.hid (Below.refl _ _)⟩
  case round =>
    obtain ⟨k, vA, vn, vc, hk, rfl, rfl, HO, HF⟩ := hrel
    by_cases hlt : k < l.length
    · obtain ⟨g, o, rfl, _, hr⟩ := EK.See.range (EK.See.far HS.out HF.out) hlt
      have lk := range_pr (w := wr) (ky := (l[k]'hlt).key) (vl := (l[k]'hlt).val) (hr k hlt)
      have HB := Lib.hid (begun_snoc p l k hlt)
      have lk2 : (ldPr (.pointer (some ⟨g, o + k * 2, none⟩))).run Tryz.prog wr = .ok (.agg #[.string (l[k]'hlt).key, .string (l[k]'hlt).val]) wr := lk
      obtain ⟨w3, hst, hb3, hbl3, _⟩ := laid_pr wr #[.string ⟨#[]⟩, .string ⟨#[]⟩] rfl (l[k]'hlt).key (l[k]'hlt).val
      have HB3 := Lib.hid hb3
      have HO3 := Lib.hid (EK.Own.keep HO.out hbl3)
      have HF3 := Lib.hid (HF.out.trans (hbl3.mono HF.out.size))
      have HC : Hid (∀ w', Calls Tryz.prog 54 #[.string (l[k]'hlt).key, .string p] w' fun e w'' => e = .returned (.bool (beginsB p (l[k]'hlt).key)) ∧ w' = w'') := Lib.hid (fun w' => has_any10 _ _ w')
      have HLT := Lib.hid hlt
      have i1 : (k : Int) < (l.length : Int) := by omega
      have i0 : (0 : Int) ≤ (k : Int) := by omega
      have HLL : Hid ((begunL p (l.take k)).length ≤ 1000000) := Lib.hid (by
        have h1 := begun_len p (l.take k)
        rw [List.length_take] at h1
        have := HN.out
        omega)
      have wk : IntKind.i64.wrap ((k : Int) + 1) = ((k + 1 : Nat) : Int) := by
        rw [IntKind.wrap_i64]
        have := HN.out
        omega
      generalize (l[k]'hlt).key = x at *
      generalize (l[k]'hlt).val = y at *
      clear hr hb3 hbl3 lk HO
      go_upto_region 5 with fail
      clear hst lk2
      have c0 : w3.cell? ⟨wr.heap.size, 0, none⟩ = some (.string x) := HB3.out.cell 0
      generalize wr.heap.size = m3 at *
      cases hbg : beginsB p x
      · rw [hbg] at HC HB
        rw [if_neg (by simp)] at HB
        clear hbg
        go_wp2_with (go_at_call 54; (with_reducible refine (HC.out _).mono ?_); rintro e w' ⟨rfl, rfl⟩)
        go_roundw
        case rel => exact ⟨k + 1, vA, vn, vc, HLT.out, by go_num, rfl, Lib.hid (by rw [HB.out]; exact HO3.out), HF3⟩
        case measure => have := HLT.out; simp [intOf]; omega
      · rw [hbg] at HC HB
        rw [if_pos rfl] at HB
        clear hbg
        have hbs : (bsT 34 1 #[(0, .string x)]).run Tryz.prog w3 = .ok (.slice (some ⟨w3.heap.size, 0, none⟩) 1 1) (w3.alloc (.cells #[.string x] 9)) := SK.build1 x (.string x) rfl (by decide) w3
        have hal : Below w3.heap.size w3 (w3.alloc (.cells #[.string x] 9)) := (Below.refl _ _).alloc (Nat.le_refl _) _
        have hF4 := HF3.out.trans (hal.mono HF3.out.size)
        obtain ⟨v5, w5, hap0, ho5, hg5⟩ := SK.append (EK.Own.keep HO3.out hal) (A := some ⟨w3.heap.size, 0, none⟩) (m := 1) (c := 1) (es := [x]) rfl (SK.see_one w3 x) (by have := HLL.out; omega) (by have := HLL.out; show (_ + 1) * 16 ≤ _; omega) hF4.size
        obtain ⟨v5A, v5c, rfl⟩ := ho5.slice
        have hap : (apAll #[34, 34] 34 #[.slice vA vn vc, .slice (some ⟨w3.heap.size, 0, none⟩) 1 1]).run Tryz.prog (w3.alloc (.cells #[.string x] 9)) = .ok (.slice v5A _ v5c) w5 := hap0
        have HO5 := Lib.hid ho5
        have HF5 := Lib.hid (hF4.trans (below_own (EK.Own.keep HO3.out hal) hg5 hF4.size))
        clear hap0 ho5 hg5 hF4 hal
        go_wp2_with (go_at_call 54; (with_reducible refine (HC.out _).mono ?_); rintro e w' ⟨rfl, rfl⟩)
        go_roundw
        case rel => exact ⟨k + 1, v5A, _, v5c, HLT.out, by go_num, rfl, Lib.hid (by
          have h := HO5.out
          have e : (begunL p (List.take k l) ++ [x]).length = (begunL p (List.take k l)).length + 1 := by simp
          unfold EK.Own at h ⊢
          rw [HB.out]
          rw [e] at h ⊢
          exact h), HF5⟩
        case measure => have := HLT.out; simp [intOf]; omega
    · obtain ⟨A2, c2, e2⟩ := HO.out.slice
      injection e2 with e2 e3 e4
      subst e2
      subst e3
      subst e4
      have HE : Hid (begunL p (l.take k) = begunL p l) := Lib.hid (by rw [List.take_of_length_le (by omega)])
      have i1 : ¬ (k : Int) < (l.length : Int) := by omega
      go_wp2
      go_ret
      rw [HE.out] at HO
      exact ⟨vA, vc, by rw [HE.out]; rfl, HO.out, HF.out⟩

end Go.Proofs.YtbgbidgggjkmmaaGreatDoor

namespace Go.Proofs.YtbgbidgggjkmmaaGreatDoor
open Go.RowKit

/-- Nothing of what was there has turned, but block b, and the row at A. -/
structure Twx (w w' : World) (b : Nat) (A : Option Addr) : Prop where
  os : w'.os = w.os
  tape : w'.tape = w.tape
  output : w'.output = w.output
  size : w.heap.size ≤ w'.heap.size
  block : ∀ k, k < w.heap.size → k ≠ b → A.map Addr.block ≠ some k → w'.heap[k]? = w.heap[k]?
section
variable {w w' w'' : World} {b : Nat} {A : Option Addr}
set_option maxRecDepth 100000 in
theorem Twx.of_below (h : Below w.heap.size w w') : Twx w w' b A := ⟨h.os, h.tape, h.output, h.size, fun k hk _ _ => h.block k hk⟩
set_option maxRecDepth 100000 in
theorem Twx.of_row (h : w.grownBy w' (A.map Addr.block)) : Twx w w' b A := ⟨h.os, h.tape, h.output, h.size, fun k hk _ hn => h.block k hk (fun e => hn e.symm)⟩
set_option maxRecDepth 100000 in
theorem Twx.of_b (h : w.grownBy w' (some b)) : Twx w w' b A := ⟨h.os, h.tape, h.output, h.size, fun k hk hn _ => h.block k hk (fun e => hn (by injection e))⟩
set_option maxRecDepth 100000 in
theorem Twx.trans (h : Twx w w' b A) (h' : Twx w' w'' b A) : Twx w w'' b A := ⟨h'.os.trans h.os, h'.tape.trans h.tape, h'.output.trans h.output, Nat.le_trans h.size h'.size, fun k hk hn hA => (h'.block k (Nat.lt_of_lt_of_le hk h.size) hn hA).trans (h.block k hk hn hA)⟩
set_option maxRecDepth 100000 in
theorem Twx.box (h : Twx w w' b A) {g : Nat} {t : TypeId} {cs : Array Value} (hb : Box w g t cs) (hn : g ≠ b) (hA : A.map Addr.block ≠ some g) : Box w' g t cs := (h.block g hb.lt hn hA).trans hb
end
/-- A state that is owned, in block b. -/
structure OwnB (s : StM) (w : World) (base b : Nat) : Prop where
  box : Box w b 28 s.cells
  own : s.Own w base
  hb : base ≤ b
section
variable {s : StM} {w w' : World} {base b : Nat}
set_option maxRecDepth 100000 in
theorem OwnB.size (h : OwnB s w base b) : base ≤ w.heap.size := Nat.le_trans h.hb (Nat.le_of_lt h.box.lt)
set_option maxRecDepth 100000 in
theorem OwnB.call (h : OwnB s w base b) (hb : Below w.heap.size w w') : OwnB s w' base b := ⟨h.box.below hb h.box.lt, h.own.keep hb, h.hb⟩
set_option maxRecDepth 100000 in
theorem OwnB.far (h : OwnB s w base b) {w0 : World} (hf : Below base w0 w) (hb : Below w.heap.size w w') : Below base w0 w' := hf.trans (hb.mono h.size)
set_option maxRecDepth 100000 in
/-- The pairs' row has turned, and is stored. -/
theorem OwnB.pairs (h : OwnB s w base b) {ps : List PairX} {A : Option Addr} {c : Nat} (ho : PK.Own w' base (.slice A ps.length c) ps) (hg : w.grownBy w' (s.pA.map Addr.block)) :
    Box w' b 28 s.cells ∧ OwnB { s with ps := ps, pA := A, pc := c } (w'.setCell ⟨b, 0, none⟩ (.slice A ps.length c)) base b ∧ Below base w (w'.setCell ⟨b, 0, none⟩ (.slice A ps.length c)) ∧ Twx w (w'.setCell ⟨b, 0, none⟩ (.slice A ps.length c)) b s.pA := by
  have hg' : w.grownBy w' (Value.slice s.pA s.ps.length s.pc).ownBlock := by rw [own_blk]; exact hg
  have hbx : Box w' b 28 s.cells := box_own h.box h.own.ps (by decide) hg'
  have hp : w'.grownBy (w'.setCell ⟨b, 0, none⟩ (.slice A ps.length c)) (some b) := only_put (only_refl _ _) 0 _
  have hf := below_own h.own.ps hg' h.size
  refine ⟨hbx, ⟨hbx.put 0 _, ⟨own_box ho hbx (by decide) hp, own_box (own_apart h.own.rs h.own.ps (by decide) hg') hbx (by decide) hp, fun r hr => own_box (own_apart (h.own.vals r hr) h.own.ps (by decide) hg') hbx (by decide) hp, own_box (own_apart h.own.ms h.own.ps (by decide) hg') hbx (by decide) hp⟩, h.hb⟩, hf.trans (below_only hp h.hb (Nat.le_trans h.size hf.size)), (Twx.of_row hg).trans (Twx.of_b hp)⟩
set_option maxRecDepth 100000 in
/-- A value is stored into a pair. -/
theorem OwnB.val (h : OwnB s w base b) {i : Nat} (hi : i < s.ps.length) (v : ByteArray) : ∃ g, s.pA = some ⟨g, 0, none⟩ ∧ w.cell? ⟨g, i * 2 + 1, none⟩ = some (.string (s.ps[i]'hi).val) ∧ w.frozen? ⟨g, i * 2 + 1, none⟩ = false ∧
    OwnB { s with ps := s.ps.set i ⟨(s.ps[i]'hi).key, v⟩ } (w.setCell ⟨g, i * 2 + 1, none⟩ (.string v)) base b ∧ Below base w (w.setCell ⟨g, i * 2 + 1, none⟩ (.string v)) ∧ Twx w (w.setCell ⟨g, i * 2 + 1, none⟩ (.string v)) b s.pA := by
  obtain ⟨_, hcap, hmax, hsome⟩ := EK.Own.bounds h.own.ps
  obtain ⟨g, hA, hbg, hgw⟩ := hsome (by omega)
  have ho := h.own.ps
  rw [hA] at ho
  obtain ⟨post, hrow, hpl, hc, hm, _, _⟩ := EK.Own.row ho
  have htl : (PK.flat (s.ps.take i)).length = i * 2 := by
    rw [PK.flat_len, List.length_take]
    show _ * 2 = _
    congr 1
    omega
  have e : PK.flat s.ps ++ post = (PK.flat (s.ps.take i) ++ [.string (s.ps[i]'hi).key]) ++ (.string (s.ps[i]'hi).val :: (PK.flat (s.ps.drop (i + 1)) ++ post)) := by
    rw [PK.flat_split hi]
    show (_ ++ ([Value.string (s.ps[i]'hi).key, .string (s.ps[i]'hi).val] ++ _)) ++ post = _
    simp only [List.append_assoc, List.cons_append, List.nil_append]
  have hl : (PK.flat (s.ps.take i) ++ [Value.string (s.ps[i]'hi).key]).length = i * 2 + 1 := by rw [List.length_append, htl]; rfl
  have hrow2 := hrow
  rw [e] at hrow2
  have hput := Box.put_in hrow2 hl (.string v)
  have hg : w.grownBy (w.setCell ⟨g, i * 2 + 1, none⟩ (.string v)) (some g) := only_put (only_refl _ _) _ _
  have hg' : w.grownBy (w.setCell ⟨g, i * 2 + 1, none⟩ (.string v)) (Value.slice s.pA s.ps.length s.pc).ownBlock := by rw [hA]; exact hg
  have e2 : (PK.flat (s.ps.take i) ++ [Value.string (s.ps[i]'hi).key]) ++ (.string v :: (PK.flat (s.ps.drop (i + 1)) ++ post)) = PK.flat (s.ps.set i ⟨(s.ps[i]'hi).key, v⟩) ++ post := by
    rw [PK.flat_set hi]
    show _ = (_ ++ ([Value.string (s.ps[i]'hi).key, .string v] ++ _)) ++ post
    simp only [List.append_assoc, List.cons_append, List.nil_append]
  rw [e2] at hput
  have hown := PK.own_row (c := s.pc) (base := base) hput (by rw [List.length_set]; exact hpl) (by rw [List.length_set]; exact hc) hm hbg
  rw [← hA] at hown
  have hbx : Box (w.setCell ⟨g, i * 2 + 1, none⟩ (.string v)) b 28 s.cells := box_own h.box h.own.ps (by decide) hg'
  refine ⟨g, hA, ?_, hrow.free _, ⟨?_, ⟨hown, own_apart h.own.rs h.own.ps (by decide) hg', fun r hr => own_apart (h.own.vals r hr) h.own.ps (by decide) hg', own_apart h.own.ms h.own.ps (by decide) hg'⟩, h.hb⟩, below_only hg hbg h.size, Twx.of_row (by rw [hA]; exact hg)⟩
  · rw [hrow2.cell, List.getElem?_toArray, List.getElem?_append_right (by omega), hl, Nat.sub_self]
    rfl
  · show Box _ b _ (stV s.pA (s.ps.set i ⟨(s.ps[i]'hi).key, v⟩).length _ _ _ _ _ _ _ _)
    rw [List.length_set]
    exact hbx
set_option maxRecDepth 100000 in
theorem OwnB.cell0 (h : OwnB s w base b) : w.cell? ⟨b, 0, none⟩ = some (.slice s.pA s.ps.length s.pc) := h.box.cell 0
set_option maxRecDepth 100000 in
theorem OwnB.cell1 (h : OwnB s w base b) : w.cell? ⟨b, 1, none⟩ = some (.slice s.rA s.rs.length s.rc) := h.box.cell 1
set_option maxRecDepth 100000 in
theorem OwnB.seeP (h : OwnB s w base b) : PK.See w w.heap.size s.pA s.ps := EK.Own.see h.own.ps
set_option maxRecDepth 100000 in
theorem OwnB.seeR (h : OwnB s w base b) : RK.See w w.heap.size s.rA s.rs := EK.Own.see h.own.rs
end

set_option maxRecDepth 100000 in
theorem bd_pr (k v : ByteArray) (w : World) : (Instr.build 42 #[(0, .string k), (1, .string v)]).run Tryz.prog w = .ok (.agg #[.string k, .string v]) w := run_build w _ _ _ (by kernel_rfl)

/-- What put answers. -/
def PutIs (s : StX) (k v : ByteArray) (s' : StX) (c : Int) : Prop :=
  if (pLook k s.ps).isNone = true ∧ 256 ≤ s.ps.length then s' = s ∧ c = 11 else s' = { s with ps := pPut ⟨k, v⟩ s.ps } ∧ c = 0

attribute [local go_sem ↓] bsT_def apAll_def ldPr_def stPr_def

set_option maxRecDepth 100000 in
set_option maxHeartbeats 4000000 in
theorem stput_any (s : StM) (base b : Nat) (hn : s.ps.length ≤ 1000000) (hps : PS s.ps) (k v : ByteArray) (w : World) (h : OwnB s w base b) :
    Calls Tryz.prog 44 #[.pointer (some ⟨b, 0, none⟩), .string k, .string v] w fun e w' => ∃ (s' : StM) (c : Int), e = .returned (.int .i64 c) ∧ PutIs s.pl k v s'.pl c ∧ (s'.rs = s.rs ∧ s'.rA = s.rA) ∧ OwnB s' w' base b ∧ Below base w w' ∧ Twx w w' b s.pA := by
  have HF := Lib.hid (pfind_any s.ps s.pA s.pc (by omega) k w h.seeP)
  have HFN := Lib.hid (find_fnd sLt PairX.key s.ps k)
  have H := Lib.hid h
  have HN := Lib.hid hn
  have HS := Lib.hid hps
  have c0 := h.cell0
  change Hid (Fnd sLt PairX.key s.ps k (pFindI s.ps k) (pFindB s.ps k)) at HFN
  generalize pFindI s.ps k = I at *
  obtain ⟨B, hB⟩ : ∃ B, pFindB s.ps k = B := ⟨_, rfl⟩
  rw [hB] at HF HFN
  have HI : Hid (I ≤ s.ps.length) := Lib.hid HFN.out.le
  clear hB h hps hn
  cases B
  · have HLN : Hid (pLook k s.ps = none) := Lib.hid (HFN.out.look_no sLt3 HS.out)
    have HPN : Hid (s.ps.take I ++ (⟨k, v⟩ : PairX) :: s.ps.drop I = pPut ⟨k, v⟩ s.ps) := Lib.hid (HFN.out.put_no sLt3 HS.out rfl)
    by_cases hm : 256 ≤ s.ps.length
    · have HP : Hid (PutIs s.pl k v s.pl 11) := Lib.hid (by unfold PutIs; rw [if_pos ⟨by show (pLook k s.ps).isNone = true; rw [HLN.out]; rfl, hm⟩]; exact ⟨rfl, rfl⟩)
      have i1 : (256 : Int) ≤ (s.ps.length : Int) := by omega
      have e1 : decide ((256 : Int) ≤ (s.ps.length : Int)) = true := decide_eq_true i1
      have HC2 : Hid (∀ w', Below w.heap.size w w' → w'.cell? ⟨b, 0, none⟩ = some (.slice s.pA s.ps.length s.pc)) := Lib.hid (fun w' hb => (H.out.call hb).cell0)
      clear hm
      generalize hsl : s.ps.length = n at *
      clear hsl
      go_enter Tryz.func44, Tryz.ntmps44
      go_wp2_with (go_at_call 21; (with_reducible refine (HF.out).mono ?_); rintro e w2 ⟨rfl, hb2⟩; have HB2 := Lib.hid hb2; have c2 := HC2.out w2 hb2; clear hb2)
      go_ret
      exact ⟨s, 11, rfl, HP.out, ⟨rfl, rfl⟩, H.out.call HB2.out, HB2.out.mono H.out.size, Twx.of_below HB2.out⟩
    · have HP : Hid (∀ s' : StX, s' = { s.pl with ps := pPut ⟨k, v⟩ s.ps } → PutIs s.pl k v s' 0) := Lib.hid (fun s' e => by unfold PutIs; rw [if_neg (fun h => hm h.2)]; exact ⟨e, rfl⟩)
      have i1 : ¬ (256 : Int) ≤ (s.ps.length : Int) := by omega
      have e1 : decide ((256 : Int) ≤ (s.ps.length : Int)) = false := decide_eq_false i1
      have hbp := bd_pr k v
      clear hm
      go_enter Tryz.func44, Tryz.ntmps44
      go_upto_region 3 with (go_at_call 21; (with_reducible refine (HF.out).mono ?_); rintro e w2 ⟨rfl, hb2⟩; have H2 := Lib.hid (H.out.call hb2); have HB2 := Lib.hid hb2; clear hb2)
      have c2 := H2.out.cell0
      have hbs : (bsT 22 1 #[(0, .agg #[.string k, .string v])]).run Tryz.prog w2 = .ok (.slice (some ⟨w2.heap.size, 0, none⟩) 1 1) (w2.alloc (.cells #[.string k, .string v] 42)) := PK.build1 ⟨k, v⟩ _ rfl (by decide) w2
      have hal : Below w2.heap.size w2 (w2.alloc (.cells #[.string k, .string v] 42)) := (Below.refl _ _).alloc (Nat.le_refl _) _
      have H3 := Lib.hid (H2.out.call hal)
      have HX3 : Hid (Box (w2.alloc (.cells #[.string k, .string v] 42)) w2.heap.size 42 (PK.enc ⟨k, v⟩).toArray) := Lib.hid (Box.made _ _ _)
      have HIN := Lib.hid (insert_p s.ps s.pA s.pc I HI.out HN.out ⟨k, v⟩ w2.heap.size base _ H3.out.own.ps HX3.out (fun g e => by
        have := H2.out.own.ps.lt g (by rw [e]; rfl)
        omega) H3.out.size)
      have c3 : (w2.alloc (.cells #[.string k, .string v] 42)).cell? ⟨b, 0, none⟩ = some (.slice s.pA s.ps.length s.pc) := H3.out.cell0
      have HB3 := Lib.hid ((HB2.out.mono H.out.size).trans (hal.mono H2.out.size))
      have HT3 : Hid (Twx w _ b s.pA) := Lib.hid ((Twx.of_below HB2.out).trans (Twx.of_below hal))
      clear hal
      go_upto_region 7 with (go_at_call 53; (with_reducible refine (HIN.out).mono ?_); rintro e w4 ⟨A4, c4, rfl, ho4, hg4, _⟩; have hln : (s.ps.take I ++ (⟨k, v⟩ : PairX) :: s.ps.drop I).length = s.ps.length + 1 := ins_len s.ps I HI.out _; rw [← hln] at ho4; have hpr := H3.out.pairs ho4 hg4; rw [hln] at hpr; have HBX4 := Lib.hid hpr.1; have HR4 := Lib.hid hpr.2.1; have HF4 := Lib.hid (HB3.out.trans hpr.2.2.1); have HT4 := Lib.hid (HT3.out.trans hpr.2.2.2); clear ho4 hg4 hpr hln; have f4 := HBX4.out.free 0; have c4' := HBX4.out.cell 0)
      go_wp2
      go_ret
      refine ⟨_, 0, rfl, HP.out _ ?_, ?_, HR4.out, HF4.out, HT4.out⟩
      · show StX.mk _ _ _ _ = StX.mk _ _ _ _
        rw [HPN.out]
        rfl
      · exact ⟨rfl, rfl⟩
  · obtain ⟨hI, hk⟩ := HFN.out.at_
    have HPY : Hid (s.ps.set I ⟨(s.ps[I]'hI).key, v⟩ = pPut ⟨k, v⟩ s.ps) := Lib.hid (by rw [hk]; exact HFN.out.put_yes sLt3 HS.out rfl)
    have HP : Hid (∀ s' : StX, s' = { s.pl with ps := pPut ⟨k, v⟩ s.ps } → PutIs s.pl k v s' 0) := Lib.hid (fun s' e => by
      unfold PutIs
      obtain ⟨_, hl⟩ := HFN.out.look_yes sLt3 HS.out
      rw [if_neg (fun h => by
        have h1 := h.1
        change (pLook k s.ps).isNone = true at h1
        unfold pLook at h1
        rw [hl] at h1
        cases h1)]
      exact ⟨e, rfl⟩)
    have HV : Hid (∀ w', Below w.heap.size w w' → OwnB s w' base b ∧ ∃ g, s.pA = some ⟨g, 0, none⟩ ∧ w'.cell? ⟨g, I * 2 + 1, none⟩ = some (.string (s.ps[I]'hI).val) ∧ w'.frozen? ⟨g, I * 2 + 1, none⟩ = false ∧
        OwnB { s with ps := s.ps.set I ⟨(s.ps[I]'hI).key, v⟩ } (w'.setCell ⟨g, I * 2 + 1, none⟩ (.string v)) base b ∧ Below base w' (w'.setCell ⟨g, I * 2 + 1, none⟩ (.string v)) ∧ Twx w' (w'.setCell ⟨g, I * 2 + 1, none⟩ (.string v)) b s.pA) := Lib.hid (fun w' hb => ⟨H.out.call hb, (H.out.call hb).val hI v⟩)
    have i1 : (I : Int) < (s.ps.length : Int) := by omega
    have i0 : (0 : Int) ≤ (I : Int) := by omega
    clear hk
    go_enter Tryz.func44, Tryz.ntmps44
    go_upto_region 4 with (go_at_call 21; (with_reducible refine (HF.out).mono ?_); rintro e w2 ⟨rfl, hb2⟩; have HB2 := Lib.hid hb2; obtain ⟨h1, g, h2, h3, h4, h5, h6, h7⟩ := HV.out w2 hb2; have c2 := h1.cell0; have H5 := Lib.hid h5; have HF6 := Lib.hid ((hb2.mono H.out.size).trans h6); have HT6 := Lib.hid ((Twx.of_below hb2).trans h7); clear hb2 h1 h5 h6 h7)
    rw [h2] at c2
    clear HV
    go_wp2
    go_ret
    refine ⟨_, 0, rfl, HP.out _ ?_, ?_, H5.out, HF6.out, HT6.out⟩
    · show StX.mk _ _ _ _ = StX.mk _ _ _ _
      rw [HPY.out]
      rfl
    · exact ⟨rfl, rfl⟩

end Go.Proofs.YtbgbidgggjkmmaaGreatDoor
