/-
  slices.Insert of one pair, of one reply.
  slices.Delete of one pair; strings.HasPrefix; state.begun.
  Slice literals of any kind; strings.HasPrefix; state.begun.
  A state that is owned, in its block; state.put.
-/
import Derived.Test.YtejnfgcnifcpaaaGreatDoorNB
import Derived.Deep.RegionLawGrows
import Derived.Laws.Externs
import Derived.Deep.AppendLies
namespace Go.Proofs.YtejnfgcnifcpaaaGreatDoor
open Go.RowKit

attribute [local go_sem ↓] bsT_def apAll_def cpAll_def clAll_def

set_option maxRecDepth 100000 in
theorem EK.flat_ins {α : Type} (K : EK α) (xs : List α) (i : Nat) (x : α) : K.flat (xs.take i ++ x :: xs.drop i) = K.flat (xs.take i) ++ (K.enc x ++ K.flat (xs.drop i)) := by
  show (xs.take i ++ x :: xs.drop i).flatMap _ = _
  rw [List.flatMap_append, List.flatMap_cons]
set_option maxRecDepth 100000 in
theorem ins_len {α : Type} (xs : List α) (i : Nat) (hi : i ≤ xs.length) (x : α) : (xs.take i ++ x :: xs.drop i).length = xs.length + 1 := by
  rw [List.length_append, List.length_cons, List.length_take, List.length_drop]
  omega
set_option maxRecDepth 100000 in
theorem step_cp {P : Program} {ops : Array Oper} {o : Oper} {a : Act} {w : World} {K : Act → World → Prop} {Q : Exit → Act → World → Prop} {E : Prop}
    (hg : o.guard = none) (d x : Operand) (dT sT : TypeId) (hop : o.op = Op.call { callee := Callee.builtin Builtin.copy, args := #[d, x], argTypes := #[dT, sT] })
    (v u : Value) (hd : a.eval d = v) (hx : a.eval x = u) {v' : Value} {w' : World} (hr : (cpAll #[dT, sT] o.type #[v, u]).run P w = .ok v' w') (hK : K (a.put o.dst v') w') :
    if Region.wanted o (yielded ops a.tmps) = true then Oper.wp P o a w K Q else E := by
  have hw : Region.wanted o (yielded ops a.tmps) = true := by simp [Region.wanted, hg]
  rw [if_pos hw]
  unfold cpAll at hr
  unfold Oper.wp
  simp [execOp, hop, resolve, invoke, builtin, hd, hx, hr, Result.andThen]
  exact hK
set_option maxRecDepth 100000 in
theorem step_ap {P : Program} {ops : Array Oper} {o : Oper} {a : Act} {w : World} {K : Act → World → Prop} {Q : Exit → Act → World → Prop} {E : Prop}
    (hg : o.guard = none) (d x : Operand) (dT sT : TypeId) (hop : o.op = Op.call { callee := Callee.builtin Builtin.append, args := #[d, x], argTypes := #[dT, sT] })
    (v u : Value) (hd : a.eval d = v) (hx : a.eval x = u) {v' : Value} {w' : World} (hr : (apAll #[dT, sT] o.type #[v, u]).run P w = .ok v' w') (hK : K (a.put o.dst v') w') :
    if Region.wanted o (yielded ops a.tmps) = true then Oper.wp P o a w K Q else E := by
  have hw : Region.wanted o (yielded ops a.tmps) = true := by simp [Region.wanted, hg]
  rw [if_pos hw]
  unfold apAll at hr
  unfold Oper.wp
  simp [execOp, hop, resolve, invoke, builtin, hd, hx, hr, Result.andThen]
  exact hK
/-- The row lies where it lay, or is new. -/
def NewRow (A A' : Option Addr) (H : Nat) : Prop := ∀ g', A' = some ⟨g', 0, none⟩ → A.map Addr.block = some g' ∨ H ≤ g'
set_option maxRecDepth 100000 in
/-- append onto an owned row, and where the row lies then. -/
theorem EK.lies {α : Type} (K : EK α) {w : World} {base : Nat} {v : Value} {xs : List α} (hown : K.Own w base v xs) {ad : Addr} {m c : Nat} {es : List α} (hm : m = es.length) (h0 : 0 < m) (he : K.See w w.heap.size (some ad) es)
    (hl : xs.length + m ≤ 140737488351232) (hb : (xs.length + m) * K.bys ≤ 140737488355328) (hbase : base ≤ w.heap.size) :
    ∃ g cap w', (apAll #[K.sl, K.sl] K.sl #[v, .slice (some ad) m c]).run Tryz.prog w = .ok (.slice (some ⟨g, 0, none⟩) (xs.length + m) cap) w' ∧ K.Own w' base (.slice (some ⟨g, 0, none⟩) (xs.length + m) cap) (xs ++ es) ∧ w.grownBy w' v.ownBlock ∧ (v.ownBlock = some g ∨ g = w.heap.size) := by
  obtain ⟨i0, hi0, hz0, hz1, hz2⟩ := info_parts K.info
  have hfl := K.flat_len es
  obtain ⟨g, cap, w', hr, ho, hg, hat, _⟩ := run_append_lies (P := Tryz.prog) w K.sl K.sl base K.e i0 _ K.k K.bys K.und hi0 hz0 hz1 hz2 K.hzs K.hk v xs.length _ hown ad m c (K.flat es) (by rw [hfl, hm]) he.add (K.flat_one es) h0 (by unfold maxLen; omega) hb hbase w.heap.size rfl
  refine ⟨g, cap, w', hr, ?_, hg, hat⟩
  show w'.ownsRow base K.e K.k _ (xs ++ es).length (K.flat (xs ++ es))
  rw [K.flat_app, List.length_append, ← hm]
  exact ho
set_option maxRecDepth 100000 in
theorem own_blk (A : Option Addr) (n c : Nat) : (Value.slice A n c).ownBlock = A.map Addr.block := by cases A <;> rfl
set_option maxRecDepth 100000 in
theorem zero_cells_len (z : Value) (n : Nat) : (Builtin.zeroCells z.cells n).size = n * z.cells.size := size_zeroCells _ _

set_option maxRecDepth 100000 in
/-- The in-place way: what stood from i on goes one place up, then the element is laid. -/
theorem EK.Own.up {α : Type} {K : EK α} {w : World} {base g n c : Nat} {L : List α} (h : K.Own w base (.slice (some ⟨g, 0, none⟩) n c) L) {i : Nat} (hi : i < L.length) (hc : L.length + 1 ≤ c) (x : α) {vb : Nat} (hv : Box w vb K.e (K.enc x).toArray) (hne : g ≠ vb) (ty : TypeId) :
    ∃ w1 w2, (cpAll #[K.sl, K.sl] ty #[.slice (some ⟨g, (i + 1) * K.k, none⟩) (L.length - i) (c - (i + 1)), .slice (some ⟨g, i * K.k, none⟩) (L.length + 1 - i) (c - i)]).run Tryz.prog w = .ok (goInt (Nat.min (L.length + 1 - i) (L.length - i))) w1 ∧
      (cpAll #[K.sl, K.sl] ty #[.slice (some ⟨g, i * K.k, none⟩) (L.length + 1 - i) (c - i), .slice (some ⟨vb, 0, none⟩) 1 1]).run Tryz.prog w1 = .ok (goInt (Nat.min 1 (L.length + 1 - i))) w2 ∧
      K.Own w2 base (.slice (some ⟨g, 0, none⟩) (L.length + 1) c) (L.take i ++ x :: L.drop i) ∧ w.grownBy w1 (some g) ∧ w.grownBy w2 (some g) := by
  obtain ⟨post, hb, hp, hc', hm, hg, rfl⟩ := h.row
  have hk := K.hk
  have hdl : (K.flat (L.drop i)).length = (L.length - i) * K.k := by rw [K.flat_len, List.length_drop]
  have htl : (K.flat (L.take i)).length = i * K.k := by rw [K.flat_len, List.length_take]; congr 1; omega
  obtain ⟨M1, M2, P, hM, h1, h2⟩ : ∃ M1 M2 P : List Value, K.flat (L.drop i) ++ post = M1 ++ (M2 ++ P) ∧ M1.length = K.k ∧ M2.length = (L.length - i) * K.k := by
    have hl : K.k + (L.length - i) * K.k ≤ (K.flat (L.drop i) ++ post).length := by
      rw [List.length_append, hdl, hp]
      have := Nat.mul_le_mul_right K.k (show 1 ≤ c - L.length by omega)
      omega
    refine ⟨(K.flat (L.drop i) ++ post).take K.k, ((K.flat (L.drop i) ++ post).drop K.k).take ((L.length - i) * K.k), ((K.flat (L.drop i) ++ post).drop K.k).drop ((L.length - i) * K.k), ?_, ?_, ?_⟩
    · rw [List.take_append_drop, List.take_append_drop]
    · rw [List.length_take]; omega
    · rw [List.length_take, List.length_drop]; omega
  have hP : P.length = (c - (L.length + 1)) * K.k := by
    have := congrArg List.length hM
    simp only [List.length_append, hdl, h1, h2, hp] at this
    have e : (c - L.length) * K.k = (c - (L.length + 1)) * K.k + K.k := by
      rw [show c - L.length = (c - (L.length + 1)) + 1 by omega, Nat.add_mul, Nat.one_mul]
    omega
  have hrow : K.flat L ++ post = K.flat (L.take i) ++ (M1 ++ (M2 ++ P)) := by rw [← hM, K.flat_cut L i, List.append_assoc]
  rw [hrow] at hb
  have hb' : Box w g K.e ((K.flat (L.take i) ++ M1) ++ (M2 ++ P)).toArray := by rw [List.append_assoc]; exact hb
  have ho1 : (K.flat (L.take i) ++ M1).length = (i + 1) * K.k := by rw [List.length_append, htl, h1, Nat.add_mul, Nat.one_mul]
  have hb1 := Box.put_mid hb' ho1 (vs := K.flat (L.drop i)) (by rw [hdl, h2])
  have hg1 : w.grownBy (w.setCells g ((i + 1) * K.k) (K.flat (L.drop i))) (some g) := only_cells _ _ _
  have hb1' : Box (w.setCells g ((i + 1) * K.k) (K.flat (L.drop i))) g K.e (K.flat (L.take i) ++ (M1 ++ (K.flat (L.drop i) ++ P))).toArray := by
    rw [← List.append_assoc (K.flat (L.take i))]
    exact hb1
  have hb2 := Box.put_mid hb1' htl (vs := K.enc x) (by rw [K.len, h1])
  have hv1 : Box (w.setCells g ((i + 1) * K.k) (K.flat (L.drop i))) vb K.e (K.enc x).toArray := hv.grown hg1 (fun e => hne (by injection e with e; exact e.symm))
  have hsz : ∀ j, j < (i + 1) * K.k + (L.length - i) * K.k → j < (K.flat (L.take i) ++ (M1 ++ (M2 ++ P))).toArray.size := fun j hj => by
    simp only [List.size_toArray, List.length_append, htl, h1, h2]
    rw [Nat.add_mul, Nat.one_mul] at hj
    omega
  have emin1 : Nat.min (L.length + 1 - i) (L.length - i) = L.length - i := by show min _ _ = _; omega
  have emin2 : Nat.min 1 (L.length + 1 - i) = 1 := by show min _ _ = _; omega
  refine ⟨_, _, K.run_copy w ty g ((i + 1) * K.k) (L.length - i) (c - (i + 1)) ⟨g, i * K.k, none⟩ (L.length + 1 - i) (c - i) (K.flat (L.drop i)) (by rw [hdl, emin1]) (fun j v hj => ?_) (fun j hj => ?_) (fun j _ => hb.free _) (K.flat_one _),
    K.run_copy _ ty g (i * K.k) (L.length + 1 - i) (c - i) ⟨vb, 0, none⟩ 1 1 (K.enc x) (by rw [K.len, emin2, Nat.one_mul]) (fun j v hj => ?_) (fun j hj => ?_) (fun j _ => hb1.free _) (K.one x), ?_, hg1, only_trans hg1 (only_cells _ _ _)⟩
  · have hr : w.rangeAt g (i * K.k) (K.flat (L.drop i)) := by
      have hb3 : Box w g K.e (K.flat (L.take i) ++ (K.flat (L.drop i) ++ post)).toArray := by rw [hM]; exact hb
      exact Box.range_mid hb3 htl
    rw [plain_add]
    exact hr j v hj
  · rw [hb.cell, Array.getElem?_eq_getElem (hsz _ (by rw [hdl] at hj; omega))]
    rfl
  · have hr := Box.range hv1
    rw [plain_add]
    exact hr j v hj
  · rw [hb1'.cell, Array.getElem?_eq_getElem (by
      rw [K.len] at hj
      simp only [List.size_toArray, List.length_append, htl, h1]
      omega)]
    rfl
  · have := K.own_row (L := L.take i ++ x :: L.drop i) (base := base) (c := c) (post := P) (by rw [K.flat_ins]; simpa only [List.append_assoc] using hb2) (by rw [ins_len L i (by omega)]; exact hP) (by rw [ins_len L i (by omega)]; exact hc) hm hg
    rwa [ins_len L i (by omega)] at this

set_option maxRecDepth 100000 in
/-- The way of a new row. -/
theorem EK.Own.fresh {α : Type} {K : EK α} {w : World} {base g n c : Nat} {L : List α} (h : K.Own w base (.slice (some ⟨g, 0, none⟩) n c) L) {i : Nat} (hi : i < L.length) (hc : c < L.length + 1) (hln : L.length ≤ 1000000) (hbase : base ≤ w.heap.size) (x : α) {vb : Nat} (hv : Box w vb K.e (K.enc x).toArray) (tn ty : TypeId) (htn : Tryz.prog.underlying tn = some (.int .i64)) :
    ∃ c2 w0 w1 w2, (apAll #[K.sl, tn] K.sl #[.slice (some ⟨g, 0, none⟩) i c, .int .i64 ((L.length : Int) + 1 - (i : Int))]).run Tryz.prog w = .ok (.slice (some ⟨w.heap.size, 0, none⟩) (L.length + 1) c2) w0 ∧
      (cpAll #[K.sl, K.sl] ty #[.slice (some ⟨w.heap.size, i * K.k, none⟩) (L.length + 1 - i) (c2 - i), .slice (some ⟨vb, 0, none⟩) 1 1]).run Tryz.prog w0 = .ok (goInt (Nat.min 1 (L.length + 1 - i))) w1 ∧
      (cpAll #[K.sl, K.sl] ty #[.slice (some ⟨w.heap.size, (i + 1) * K.k, none⟩) (L.length - i) (c2 - (i + 1)), .slice (some ⟨g, i * K.k, none⟩) (L.length - i) (c - i)]).run Tryz.prog w1.drew = .ok (goInt (Nat.min (L.length - i) (L.length - i))) w2 ∧
      K.Own w2 base (.slice (some ⟨w.heap.size, 0, none⟩) (L.length + 1) c2) (L.take i ++ x :: L.drop i) ∧ w.grownBy w2 (some g) ∧ L.length + 1 ≤ c2 ∧ c2 ≤ 9223372036854775807 := by
  obtain ⟨post, hb, hp, hc', hm, hg, rfl⟩ := h.row
  obtain ⟨i0, hi0, hz0, hz1, hz2⟩ := info_parts K.info
  have hk := K.hk
  have hby : K.bys ≤ 200 := K.hby
  have hgw := hb.lt
  have hdl : (K.flat (L.drop i)).length = (L.length - i) * K.k := by rw [K.flat_len, List.length_drop]
  have htl : (K.flat (L.take i)).length = i * K.k := by rw [K.flat_len, List.length_take]; congr 1; omega
  have hsrc : w.rangeAt g 0 (K.flat L ++ post) := Box.range hb
  have hold : (Builtin.firstCells i0.size i (.slice (some ⟨g, 0, none⟩) i c)).run Tryz.prog w.drew = .ok (K.flat (L.take i)).toArray w.drew := by
    rw [hz1]
    refine run_firstCells_some w.drew K.k i ⟨g, 0, none⟩ i c (K.flat (L.take i)) htl (fun j v hj => ?_)
    rw [plain_add]
    refine hsrc j v ?_
    rw [K.flat_cut L i, List.append_assoc, List.getElem?_append_left (by have := (List.getElem?_eq_some_iff.1 hj).1; exact this)]
    exact hj
  have hik : i + (L.length + 1 - i) = L.length + 1 := by omega
  have hsmall : (L.length + 1) * K.bys ≤ 200000200 := Nat.le_trans (Nat.mul_le_mul (show L.length + 1 ≤ 1000001 by omega) hby) (by omega)
  have hgr := Lib.run_append_grow_zeros (P := Tryz.prog) w K.sl tn K.sl K.e i0 _ .i64 .i64 K.und htn hi0 hz0 (some ⟨g, 0, none⟩) i c (K.flat (L.take i)) hold (L.length + 1 - i) (by omega) (by omega) (by omega) (by omega) (by rw [hz2]; have := Nat.mul_le_mul_right K.bys (show L.length + 1 - i ≤ L.length + 1 by omega); omega) (by rw [hz2, hik]; exact growslice_fits (by omega) (by omega))
  rw [hik] at hgr
  have hkk : (((L.length + 1 - i : Nat) : Int)) = (L.length : Int) + 1 - (i : Int) := by omega
  rw [hkk] at hgr
  have hGn : L.length + 1 ≤ grownCap w (L.length + 1) c K.e := grownCap_ge w _ _ _
  have hGm : grownCap w (L.length + 1) c K.e ≤ maxLen := grownCap_le_maxLen w (L.length + 1) c K.e (by unfold maxLen; omega)
  generalize grownCap w (L.length + 1) c K.e = G at *
  obtain ⟨Z, hZ⟩ : ∃ Z : List Value, Z = (Builtin.zeroCells K.z.cells (L.length + 1 - i)).toList ++ (Builtin.zeroCells K.z.cells (G - (L.length + 1))).toList := ⟨_, rfl⟩
  have hZl : Z.length = (L.length + 1 - i) * K.k + (G - (L.length + 1)) * K.k := by
    rw [hZ, List.length_append]
    have e : ∀ n, (Builtin.zeroCells K.z.cells n).toList.length = n * K.k := fun n => by rw [Array.length_toList, zero_cells_len, K.hzs]
    rw [e, e]
  have hrow : (K.flat (L.take i)).toArray ++ Builtin.zeroCells K.z.cells (L.length + 1 - i) ++ Builtin.zeroCells K.z.cells (G - (L.length + 1)) = (K.flat (L.take i) ++ Z).toArray := by
    apply Array.ext'
    rw [hZ]
    simp
  rw [hrow] at hgr
  obtain ⟨M1, M2, P, hM, h1, h2, hP⟩ : ∃ M1 M2 P : List Value, Z = M1 ++ (M2 ++ P) ∧ M1.length = K.k ∧ M2.length = (L.length - i) * K.k ∧ P.length = (G - (L.length + 1)) * K.k := by
    have e : (L.length + 1 - i) * K.k = K.k + (L.length - i) * K.k := by rw [show L.length + 1 - i = (L.length - i) + 1 by omega, Nat.add_mul, Nat.one_mul, Nat.add_comm]
    refine ⟨Z.take K.k, (Z.drop K.k).take ((L.length - i) * K.k), (Z.drop K.k).drop ((L.length - i) * K.k), ?_, ?_, ?_, ?_⟩
    · rw [List.take_append_drop, List.take_append_drop]
    · rw [List.length_take]; omega
    · rw [List.length_take, List.length_drop]; omega
    · rw [List.length_drop, List.length_drop]; omega
  rw [hM] at hgr
  obtain ⟨w0, hw0⟩ : ∃ w0, w0 = w.drew.alloc (.cells (K.flat (L.take i) ++ (M1 ++ (M2 ++ P))).toArray K.e) := ⟨_, rfl⟩
  rw [← hw0] at hgr
  have hB0 : Box w0 w.heap.size K.e (K.flat (L.take i) ++ (M1 ++ (M2 ++ P))).toArray := by rw [hw0]; exact Box.made w.drew _ _
  have hF0 : Below w.heap.size w w0 := by rw [hw0]; exact ((Below.refl _ _).drew).alloc (Nat.le_refl _) _
  have hb1 := Box.put_mid hB0 htl (vs := K.enc x) (by rw [K.len, h1])
  have hg1 : w0.grownBy (w0.setCells w.heap.size (i * K.k) (K.enc x)) (some w.heap.size) := only_cells _ _ _
  have hb1' : Box (w0.setCells w.heap.size (i * K.k) (K.enc x)).drew w.heap.size K.e ((K.flat (L.take i) ++ K.enc x) ++ (M2 ++ P)).toArray := by rw [List.append_assoc]; exact hb1
  have hl1 : (K.flat (L.take i) ++ K.enc x).length = (i + 1) * K.k := by rw [List.length_append, htl, K.len, Nat.add_mul, Nat.one_mul]
  have hb2 := Box.put_mid hb1' hl1 (vs := K.flat (L.drop i)) (by rw [hdl, h2])
  have hF1 : Below w.heap.size w (w0.setCells w.heap.size (i * K.k) (K.enc x)).drew := (hF0.trans (below_only hg1 (Nat.le_refl _) hF0.size)).drew
  have hF2 := hF1.trans (below_only (only_cells (g := w.heap.size) (K.flat (L.drop i)) ((i + 1) * K.k) (w0.setCells w.heap.size (i * K.k) (K.enc x)).drew) (Nat.le_refl _) hF1.size)
  have hrg : (w0.setCells w.heap.size (i * K.k) (K.enc x)).drew.rangeAt g (i * K.k) (K.flat (L.drop i)) := by
    have hb3 : Box (w0.setCells w.heap.size (i * K.k) (K.enc x)).drew g K.e (K.flat (L.take i) ++ (K.flat (L.drop i) ++ post)).toArray := by
      rw [← List.append_assoc, ← K.flat_cut]
      exact hb.below hF1 hgw
    exact Box.range_mid hb3 htl
  have hv0 := Box.range (hv.below hF0 hv.lt)
  have emin2 : Nat.min 1 (L.length + 1 - i) = 1 := by show min _ _ = _; omega
  have emin3 : Nat.min (L.length - i) (L.length - i) = L.length - i := by show min _ _ = _; omega
  refine ⟨G, w0, _, _, hgr, K.run_copy w0 ty w.heap.size (i * K.k) (L.length + 1 - i) (G - i) ⟨vb, 0, none⟩ 1 1 (K.enc x) (by rw [K.len, emin2, Nat.one_mul]) (fun j v hj => ?_) (fun j hj => ?_) (fun j _ => hB0.free _) (K.one x),
    K.run_copy _ ty w.heap.size ((i + 1) * K.k) (L.length - i) (G - (i + 1)) ⟨g, i * K.k, none⟩ (L.length - i) (c - i) (K.flat (L.drop i)) (by rw [hdl, emin3]) (fun j v hj => ?_) (fun j hj => ?_) (fun j _ => hb1'.free _) (K.flat_one _), ?_, only_below hF2 _, hGn, Nat.le_trans hGm (by simp [maxLen])⟩
  · rw [plain_add]
    exact hv0 j v hj
  · rw [hB0.cell, Array.getElem?_eq_getElem (by
      rw [K.len] at hj
      simp only [List.size_toArray, List.length_append, htl, h1]
      omega)]
    rfl
  · rw [plain_add]
    exact hrg j v hj
  · rw [hb1'.cell, Array.getElem?_eq_getElem (by
      rw [hdl] at hj
      simp only [List.size_toArray, List.length_append, htl, K.len, h2]
      rw [Nat.add_mul, Nat.one_mul]
      omega)]
    rfl
  · have := K.own_row (L := L.take i ++ x :: L.drop i) (base := base) (c := G) (post := P) (by rw [K.flat_ins]; simpa only [List.append_assoc] using hb2) (by rw [ins_len L i (by omega)]; exact hP) (by rw [ins_len L i (by omega)]; exact hGn) hGm hbase
    rwa [ins_len L i (by omega)] at this

end Go.Proofs.YtejnfgcnifcpaaaGreatDoor

namespace Go.Proofs.YtejnfgcnifcpaaaGreatDoor
open Go.RowKit

attribute [local go_sem ↓] bsT_def apAll_def cpAll_def clAll_def

set_option maxRecDepth 100000 in
theorem EK.flat_del {α : Type} (K : EK α) (xs : List α) (i : Nat) : K.flat (xs.take i ++ xs.drop (i + 1)) = K.flat (xs.take i) ++ K.flat (xs.drop (i + 1)) := K.flat_app _ _
set_option maxRecDepth 100000 in
theorem del_len1 {α : Type} (xs : List α) (i : Nat) (hi : i < xs.length) : (xs.take i ++ xs.drop (i + 1)).length = xs.length - 1 := by
  rw [List.length_append, List.length_take, List.length_drop]
  omega

set_option maxRecDepth 100000 in
/-- append(s[:i], s[i+1:]...), then clear of the last place. -/
theorem EK.Own.down {α : Type} {K : EK α} {w : World} {base g n c : Nat} {L : List α} (h : K.Own w base (.slice (some ⟨g, 0, none⟩) n c) L) {i : Nat} (hi : i < L.length) (zs : List Value) (hz : zs.length = K.k) :
    ∃ w1, (i + 1 = L.length → (apAll #[K.sl, K.sl] K.sl #[.slice (some ⟨g, 0, none⟩) i c, .slice (if c = i + 1 then some ⟨g, 0, none⟩ else some ⟨g, (i + 1) * K.k, none⟩) 0 (c - (i + 1))]).run Tryz.prog w = .ok (.slice (some ⟨g, 0, none⟩) (L.length - 1) c) w1) ∧
      (i + 1 < L.length → (apAll #[K.sl, K.sl] K.sl #[.slice (some ⟨g, 0, none⟩) i c, .slice (some ⟨g, (i + 1) * K.k, none⟩) (L.length - (i + 1)) (c - (i + 1))]).run Tryz.prog w = .ok (.slice (some ⟨g, 0, none⟩) (L.length - 1) c) w1) ∧
      (∃ row, Box w1 g K.e row ∧ row.size = c * K.k) ∧ w.grownBy w1 (some g) ∧
      K.Own (w1.setCells g ((L.length - 1) * K.k) zs) base (.slice (some ⟨g, 0, none⟩) (L.length - 1) c) (L.take i ++ L.drop (i + 1)) ∧ w.grownBy (w1.setCells g ((L.length - 1) * K.k) zs) (some g) := by
  obtain ⟨post, hb, hp, hc', hm, hg, rfl⟩ := h.row
  obtain ⟨i0, hi0, hz0, hz1, hz2⟩ := info_parts K.info
  have hk := K.hk
  have htl : (K.flat (L.take i)).length = i * K.k := by rw [K.flat_len, List.length_take]; congr 1; omega
  have hdl : (K.flat (L.drop (i + 1))).length = (L.length - (i + 1)) * K.k := by rw [K.flat_len, List.length_drop]
  have hrow : K.flat L ++ post = K.flat (L.take i) ++ (K.enc (L[i]'hi) ++ (K.flat (L.drop (i + 1)) ++ post)) := by rw [K.flat_split hi]; simp only [List.append_assoc]
  have hb0 := hb
  rw [hrow] at hb0
  obtain ⟨M, P, hM, h1, h2⟩ : ∃ M P : List Value, K.enc (L[i]'hi) ++ (K.flat (L.drop (i + 1)) ++ post) = M ++ P ∧ M.length = (L.length - (i + 1)) * K.k ∧ P.length = K.k + post.length := by
    have hl : (K.enc (L[i]'hi) ++ (K.flat (L.drop (i + 1)) ++ post)).length = K.k + ((L.length - (i + 1)) * K.k + post.length) := by rw [List.length_append, List.length_append, K.len, hdl]
    refine ⟨(K.enc (L[i]'hi) ++ (K.flat (L.drop (i + 1)) ++ post)).take ((L.length - (i + 1)) * K.k), (K.enc (L[i]'hi) ++ (K.flat (L.drop (i + 1)) ++ post)).drop ((L.length - (i + 1)) * K.k), (List.take_append_drop _ _).symm, ?_, ?_⟩
    · rw [List.length_take, hl]; omega
    · rw [List.length_drop, hl]; omega
  have hb0' := hb0
  rw [hM] at hb0'
  have hb1 := Box.put_mid hb0' htl (vs := K.flat (L.drop (i + 1))) (by rw [hdl, h1])
  have hg1 : w.grownBy (w.setCells g (i * K.k) (K.flat (L.drop (i + 1)))) (some g) := only_cells _ _ _
  obtain ⟨P1, P2, hP, h3, h4⟩ : ∃ P1 P2 : List Value, P = P1 ++ P2 ∧ P1.length = K.k ∧ P2.length = post.length := ⟨P.take K.k, P.drop K.k, (List.take_append_drop _ _).symm, by rw [List.length_take]; omega, by rw [List.length_drop]; omega⟩
  have hb1' : Box (w.setCells g (i * K.k) (K.flat (L.drop (i + 1)))) g K.e ((K.flat (L.take i) ++ K.flat (L.drop (i + 1))) ++ (P1 ++ P2)).toArray := by
    rw [List.append_assoc, ← hP]
    exact hb1
  have hl1 : (K.flat (L.take i) ++ K.flat (L.drop (i + 1))).length = (L.length - 1) * K.k := by
    rw [List.length_append, htl, hdl, ← Nat.add_mul]
    congr 1
    omega
  have hb2 := Box.put_mid hb1' hl1 (vs := zs) (by rw [hz, h3])
  have hsz : (K.flat (L.take i) ++ (K.enc (L[i]'hi) ++ (K.flat (L.drop (i + 1)) ++ post))).toArray.size = c * K.k := by
    simp only [List.size_toArray, List.length_append, htl, hdl, K.len, hp]
    have e1 : (c - L.length) * K.k + L.length * K.k = c * K.k := by rw [← Nat.add_mul]; congr 1; omega
    have e2 : L.length * K.k = i * K.k + (K.k + (L.length - (i + 1)) * K.k) := by
      have : L.length * K.k = (i + (1 + (L.length - (i + 1)))) * K.k := by congr 1; omega
      rw [this, Nat.add_mul, Nat.add_mul, Nat.one_mul]
    omega
  refine ⟨w.setCells g (i * K.k) (K.flat (L.drop (i + 1))), fun e => ?_, fun hlt => ?_, ⟨_, hb1, ?_⟩, hg1, ?_, only_trans hg1 (only_cells _ _ _)⟩
  · have hd0 : L.drop (i + 1) = [] := List.drop_of_length_le (by omega)
    have e2 : L.length - 1 = i := by omega
    rw [hd0, e2]
    show (Builtin.append_ _ _ _).run _ _ = _
    have hci : i ≤ c := by omega
    by_cases hcc : c = i + 1
    · rw [if_pos hcc]
      simp [Builtin.append_, run_underlying K.und, sizeOf, typeInfo, hi0, Builtin.lenOf, Builtin.firstCells, hci, storeCells, loadCells, loadCellsFrom, World.setCells]
    · rw [if_neg hcc]
      simp [Builtin.append_, run_underlying K.und, sizeOf, typeInfo, hi0, Builtin.lenOf, Builtin.firstCells, hci, storeCells, loadCells, loadCellsFrom, World.setCells]
  · have hr : w.rangeAt g ((i + 1) * K.k) (K.flat (L.drop (i + 1))) := by
      have hb3 : Box w g K.e ((K.flat (L.take i) ++ K.enc (L[i]'hi)) ++ (K.flat (L.drop (i + 1)) ++ post)).toArray := by
        rw [List.append_assoc]
        exact hb0
      exact Box.range_mid hb3 (by rw [List.length_append, htl, K.len, Nat.add_mul, Nat.one_mul])
    have hs : Go.Src Tryz.prog i0.size K.sl (.slice (some ⟨g, (i + 1) * K.k, none⟩) (L.length - (i + 1)) (c - (i + 1))) (L.length - (i + 1)) (K.flat (L.drop (i + 1))) w := by
      rw [hz1]
      exact Go.Src.ofSlice w K.und ⟨g, (i + 1) * K.k, none⟩ _ _ _ hdl (fun j u hj => by rw [plain_add]; exact hr j u hj) (K.flat_one _)
    have := run_append_room_src (P := Tryz.prog) w K.sl K.sl K.sl K.e i0 K.und hi0 g 0 i c _ (L.length - (i + 1)) _ hs (by omega) (fun j hj => by
      rw [hz1, Nat.zero_add, hb0.cell, Array.getElem?_eq_getElem (by
        rw [hsz]
        rw [hdl] at hj
        have h5 : i * K.k + (L.length - (i + 1)) * K.k ≤ c * K.k := by rw [← Nat.add_mul]; exact Nat.mul_le_mul_right _ (by omega)
        omega)]
      rfl) (fun j _ => hb0.free _)
    rw [show i + (L.length - (i + 1)) = L.length - 1 by omega, hz1, Nat.zero_add] at this
    exact this
  · rw [← hsz]
    simp only [List.size_toArray, List.length_append, htl, hdl, K.len, h2]
    omega
  · have := K.own_row (L := L.take i ++ L.drop (i + 1)) (base := base) (c := c) (post := zs ++ P2) (by rw [K.flat_del]; simpa only [List.append_assoc] using hb2) (by
      rw [del_len1 L i hi, List.length_append, hz, h4, hp]
      have : c - (L.length - 1) = (c - L.length) + 1 := by omega
      rw [this, Nat.add_mul, Nat.one_mul]
      omega) (by rw [del_len1 L i hi]; omega) hm hg
    rwa [del_len1 L i hi] at this
set_option maxRecDepth 100000 in
/-- clear of one place. -/
theorem EK.clear1 {α : Type} (K : EK α) (w : World) (ty : TypeId) (g o c : Nat) {row : Array Value} (hb : Box w g K.e row) (hs : o + K.k ≤ row.size) (hzv : ∀ w, (zeroValue K.e).run Tryz.prog w = .ok K.z w) :
    (clAll #[K.sl] ty #[.slice (some ⟨g, o, none⟩) 1 c]).run Tryz.prog w = .ok (.tuple #[]) (w.setCells g o K.z.cells.toList) := by
  have hzs := K.hzs
  have he : Builtin.zeroCells K.z.cells 1 = K.z.cells := by
    apply Array.ext_getElem?
    intro j
    rcases Nat.lt_or_ge j K.z.cells.size with hj | hj
    · simp [Builtin.zeroCells, hj, Nat.mod_eq_of_lt hj]
    · rw [Array.getElem?_eq_none hj, Array.getElem?_eq_none (by rw [zero_cells_len, Nat.one_mul]; exact hj)]
  have hst := run_storeCells_cells (P := Tryz.prog) g o K.z.cells.toList 0 w (by
      intro j hj
      rw [Array.length_toList, hzs] at hj
      rw [hb.cell, Array.getElem?_eq_getElem (by omega)]
      rfl) (fun j _ => hb.free _) K.zone
  simp only [Nat.add_zero] at hst
  show (Builtin.clear_ _ _ _).run _ _ = _
  simp [Builtin.clear_, run_underlying K.und, hzv, he, hst]

end Go.Proofs.YtejnfgcnifcpaaaGreatDoor

namespace Go.Proofs.YtejnfgcnifcpaaaGreatDoor
open Go.RowKit

/-! ### Slice literals -/
section
variable {α : Type} (K : EK α)
def partsV : Nat → List Value → List (Nat × Value)
  | _, [] => []
  | k, v :: r => (k, v) :: partsV (k + 1) r
def EK.zer (n : Nat) : List Value := (List.replicate n K.z.cells.toList).flatten
set_option maxRecDepth 100000 in
theorem EK.zer_succ (n : Nat) : K.zer (n + 1) = K.z.cells.toList ++ K.zer n := by unfold EK.zer; rw [List.replicate_succ, List.flatten_cons]
set_option maxRecDepth 100000 in
theorem EK.zer_len (n : Nat) : (K.zer n).length = n * K.k := by
  induction n with
  | zero => simp [EK.zer]
  | succ n ih => rw [K.zer_succ, List.length_append, ih, Array.length_toList, K.hzs, Nat.add_mul, Nat.one_mul, Nat.add_comm]
set_option maxRecDepth 100000 in
theorem EK.zer_at : ∀ (n j : Nat), j < n * K.k → (K.zer n)[j]? = K.z.cells[j % K.k]?
  | 0, j, h => by simp at h
  | n + 1, j, h => by
    rw [K.zer_succ]
    rcases Nat.lt_or_ge j K.k with hlt | hge
    · rw [List.getElem?_append_left (by rw [Array.length_toList, K.hzs]; exact hlt), Nat.mod_eq_of_lt hlt, Array.getElem?_toList]
    · rw [List.getElem?_append_right (by rw [Array.length_toList, K.hzs]; exact hge), Array.length_toList, K.hzs, EK.zer_at n (j - K.k) (by rw [Nat.add_mul] at h; omega), ← Nat.mod_eq_sub_mod hge]
set_option maxRecDepth 100000 in
theorem EK.zer_eq (n : Nat) : ((Array.range (n * K.k)).map fun x => K.z.cells[x % K.z.cells.size]!) = (K.zer n).toArray := by
  apply Array.ext_getElem?
  intro j
  have hk := K.hk
  rcases Nat.lt_or_ge j (n * K.k) with hj | hj
  · have hm : j % K.z.cells.size < K.z.cells.size := Nat.mod_lt _ (by rw [K.hzs]; exact hk)
    have e := K.zer_at n j hj
    have hr : (K.zer n).toArray[j]? = K.z.cells[j % K.k]? := by rw [List.getElem?_toArray, e]
    rw [hr, Array.getElem?_map, Array.getElem?_eq_getElem (by rw [Array.size_range]; exact hj), Option.map_some, Array.getElem_range]
    rw [getElem!_pos K.z.cells (j % K.z.cells.size) hm]
    have e2 : j % K.k = j % K.z.cells.size := by rw [K.hzs]
    rw [e2, Array.getElem?_eq_getElem hm]
  · rw [Array.getElem?_eq_none (by simpa using hj), Array.getElem?_eq_none (by rw [List.size_toArray, K.zer_len]; exact hj)]
set_option maxRecDepth 100000 in
theorem EK.fill : ∀ (r : List α) (vs : List Value) (k : Nat) (pre : List Value), pre.length = k * K.k → vs.map Value.cells = r.map (fun x => (K.enc x).toArray) →
    Instr.fill (fun i => some (i * K.k, K.k)) (pre ++ K.zer r.length).toArray (partsV k vs) = some (pre ++ K.flat r).toArray
  | [], vs, k, pre, _, h => by
    have : vs = [] := by simpa using h
    subst this
    rfl
  | x :: r, [], k, pre, _, h => by simp at h
  | x :: r, v :: vs, k, pre, hp, h => by
    simp only [List.map_cons, List.cons.injEq] at h
    rw [List.length_cons, K.zer_succ]
    unfold partsV
    rw [fill_step (off := k * K.k) (size := K.k) (vs := K.enc x) rfl hp (by rw [Array.length_toList, K.hzs]) h.1 (K.len x)]
    have e2 : pre ++ (K.enc x ++ K.zer r.length) = (pre ++ K.enc x) ++ K.zer r.length := by rw [List.append_assoc]
    rw [e2, EK.fill r vs (k + 1) (pre ++ K.enc x) (by rw [List.length_append, K.len, hp, Nat.add_mul, Nat.one_mul]) h.2, List.append_assoc]
    rfl
set_option maxRecDepth 100000 in
theorem EK.build (r : List α) (vs : List Value) (h0 : 0 < r.length) (h1 : r.length * K.k ≤ 16777216) (h : vs.map Value.cells = r.map (fun x => (K.enc x).toArray)) (w : World) :
    (bsT K.sl r.length (partsV 0 vs).toArray).run Tryz.prog w = .ok (.slice (some ⟨w.heap.size, 0, none⟩) r.length r.length) (w.alloc (.cells (K.flat r).toArray K.e)) := by
  obtain ⟨i0, hi0, hz0, hz1, hz2⟩ := info_parts K.info
  have hk := K.hk
  have hz := K.zer_eq r.length
  have hf := K.fill r vs 0 [] (by simp) h
  refine run_buildSlice (P := Tryz.prog) w K.sl K.e r.length _ _ i0 _ K.und hi0 hz0 (by rw [hz1]; omega) (by rw [hz1]; have := Nat.mul_pos h0 hk; omega) ?_
  rw [hz1]
  show Instr.fill _ ((Array.range (r.length * K.k)).map fun x => K.z.cells[x % K.z.cells.size]!) (partsV 0 vs).toArray.toList = _
  rw [hz, List.toList_toArray]
  exact hf
set_option maxRecDepth 100000 in
theorem EK.build1 (x : α) (v : Value) (h : v.cells = (K.enc x).toArray) (hk : K.k ≤ 1000) (w : World) :
    (bsT K.sl 1 #[(0, v)]).run Tryz.prog w = .ok (.slice (some ⟨w.heap.size, 0, none⟩) 1 1) (w.alloc (.cells (K.enc x).toArray K.e)) := by
  have := K.build [x] [v] (by simp) (by simp; omega) (by simp [h]) w
  rw [K.flat_one'] at this
  exact this
end

attribute [local go_sem ↓] bsT_def apAll_def

/-! ### strings.HasPrefix -/
/-! ### state.begun -/
set_option maxRecDepth 100000 in
theorem begun_snoc (p : ByteArray) (l : List PairX) (k : Nat) (h : k < l.length) : begunL p (l.take (k + 1)) = if beginsB p (l[k]'h).key = true then begunL p (l.take k) ++ [(l[k]'h).key] else begunL p (l.take k) := by
  unfold begunL
  rw [List.take_succ_eq_append_getElem h, List.filter_append, List.map_append]
  by_cases e : beginsB p (l[k]'h).key = true
  · rw [if_pos e]
    simp [e]
  · rw [if_neg e]
    simp [e]

end Go.Proofs.YtejnfgcnifcpaaaGreatDoor

namespace Go.Proofs.YtejnfgcnifcpaaaGreatDoor
open Go.RowKit

/-- Nothing of what was there has turned, but block b, and the row at A. -/
structure Twx (w w' : World) (b : Nat) (A : Option Addr) : Prop where
  os : w'.os = w.os
  tape : w'.tape = w.tape
  output : w'.output = w.output
  size : w.heap.size ≤ w'.heap.size
  block : ∀ k, k < w.heap.size → k ≠ b → A.map Addr.block ≠ some k → w'.heap[k]? = w.heap[k]?
section
variable {w w' w'' : World} {b : Nat} {A : Option Addr}
set_option maxRecDepth 100000 in
theorem Twx.of_below (h : Below w.heap.size w w') : Twx w w' b A := ⟨h.os, h.tape, h.output, h.size, fun k hk _ _ => h.block k hk⟩
set_option maxRecDepth 100000 in
theorem Twx.of_row (h : w.grownBy w' (A.map Addr.block)) : Twx w w' b A := ⟨h.os, h.tape, h.output, h.size, fun k hk _ hn => h.block k hk (fun e => hn e.symm)⟩
set_option maxRecDepth 100000 in
theorem Twx.of_b (h : w.grownBy w' (some b)) : Twx w w' b A := ⟨h.os, h.tape, h.output, h.size, fun k hk hn _ => h.block k hk (fun e => hn (by injection e))⟩
set_option maxRecDepth 100000 in
theorem Twx.trans (h : Twx w w' b A) (h' : Twx w' w'' b A) : Twx w w'' b A := ⟨h'.os.trans h.os, h'.tape.trans h.tape, h'.output.trans h.output, Nat.le_trans h.size h'.size, fun k hk hn hA => (h'.block k (Nat.lt_of_lt_of_le hk h.size) hn hA).trans (h.block k hk hn hA)⟩
set_option maxRecDepth 100000 in
theorem Twx.box (h : Twx w w' b A) {g : Nat} {t : TypeId} {cs : Array Value} (hb : Box w g t cs) (hn : g ≠ b) (hA : A.map Addr.block ≠ some g) : Box w' g t cs := (h.block g hb.lt hn hA).trans hb
end
section
variable {s : StM} {w w' : World} {base b : Nat}
end

/-- What put answers. -/
def PutIs (s : StX) (k v : ByteArray) (s' : StX) (c : Int) : Prop :=
  if (pLook k s.ps).isNone = true ∧ 256 ≤ s.ps.length then s' = s ∧ c = 11 else s' = { s with ps := pPut ⟨k, v⟩ s.ps } ∧ c = 0

attribute [local go_sem ↓] bsT_def apAll_def

end Go.Proofs.YtejnfgcnifcpaaaGreatDoor
