/-
  Digests compared; append of what is seen onto an owned row (layer 2's own copy of what layer 1 has).
-/
import Derived.Test.YtdgedhaiefingaaDoorSMem
import Derived.ChangeKeysEq
import Derived.Laws.AppendOwnNone
namespace Go.Proofs.YtdgedhaiefingaaDoor
open Go.RowKit

theorem w_byte_info : (Tryd.prog.info? 5).map (fun i => (i.zero, i.size, i.bytes)) = some (some (.int .u8 0), 1, 1) := by kernel_rfl
theorem Tryd.cells_byte : Tryd.prog.cellsOf 5 = 1 := by kernel_rfl
/-- Two digests are equal just if their bytes are. -/
theorem bv_beq (a b : UInt8) : ((a.toNat : Int) == (b.toNat : Int)) = (a == b) := by
  rw [Bool.eq_iff_iff]
  simp only [beq_iff_eq]
  exact ⟨fun h => UInt8.toNat_inj.1 (by omega), fun h => by rw [h]⟩
theorem bv_get {l : List UInt8} {i : Nat} (h : i < l.length) : (l.map bv).toArray[i]? = some (bv l[i]) := by simp [h]
theorem eqItems_bytes (w : World) (xs ys : List UInt8) : ∀ is : List Nat, (∀ i ∈ is, i < xs.length ∧ i < ys.length) →
    (Op.eqItems 9999 5 1 (xs.map bv).toArray (ys.map bv).toArray is).run Tryd.prog w = .ok (is.all fun i => xs[i]? == ys[i]?) w
  | [], _ => by simp [Op.eqItems]
  | i :: is, h => by
    obtain ⟨h1, h2⟩ := h i (List.mem_cons_self ..)
    have hp : Tryd.prog.plainKey 5 = true := by kernel_rfl
    have p1 := run_part_plain (P := Tryd.prog) w hp (off := i * 1) (by rw [Nat.mul_one]; exact bv_get h1)
    have p2 := run_part_plain (P := Tryd.prog) w hp (off := i * 1) (by rw [Nat.mul_one]; exact bv_get h2)
    have p3 : (Op.equalIn 9999 5 (bv xs[i]) (bv ys[i])).run Tryd.prog w = .ok (((xs[i].toNat : Int)) == ((ys[i].toNat : Int))) w := run_equalIn_int w 9998 5 .u8 .u8 _ _ Tryd.underlying5
    have ih := eqItems_bytes w xs ys is (fun j hj => h j (List.mem_cons_of_mem _ hj))
    rw [bv_beq] at p3
    simp only [Op.eqItems, Sem.run_bind, p1, p2, p3, Result.andThen_ok, List.all_cons, List.getElem?_eq_getElem h1, List.getElem?_eq_getElem h2]
    by_cases he : xs[i] = ys[i]
    · rw [he]
      simp only [beq_self_eq_true, Bool.not_true, Bool.false_eq_true, if_false, Bool.true_and]
      exact ih
    · have e1 : (xs[i] == ys[i]) = false := by simpa using he
      have e2 : (some xs[i] == some ys[i]) = false := by simpa using he
      rw [e1, e2]
      simp
theorem dig_info : ∃ i, Tryd.prog.info? 5 = some i := by
  obtain ⟨i, h, _⟩ := info_parts w_byte_info
  exact ⟨i, h⟩
/-- Digests, compared. -/
theorem dig_eq (xs ys : List UInt8) (h1 : xs.length = 32) (h2 : ys.length = 32) (w : World) :
    (Op.equalIn 10000 23 (.agg (xs.map bv).toArray) (.agg (ys.map bv).toArray)).run Tryd.prog w = .ok (decide (xs = ys)) w := by
  obtain ⟨i, hi⟩ := dig_info
  have hc : Tryd.prog.cellsOf 5 = 1 := Tryd.cells_byte
  have h := run_equalIn_array (P := Tryd.prog) w 9999 (xs.map bv).toArray (ys.map bv).toArray Tryd.underlying23 hi
  rw [hc, eqItems_bytes w xs ys _ (fun j hj => by rw [List.mem_range] at hj; omega)] at h
  have e : ((List.range 32).all fun i => xs[i]? == ys[i]?) = decide (xs = ys) := by
    rw [Bool.eq_iff_iff, List.all_eq_true, decide_eq_true_iff]
    constructor
    · intro h
      apply List.ext_getElem?
      intro j
      rcases Nat.lt_or_ge j 32 with hj | hj
      · simpa using h j (List.mem_range.2 hj)
      · rw [List.getElem?_eq_none (by omega), List.getElem?_eq_none (by omega)]
    · rintro rfl j _
      simp
  rw [e] at h
  exact h

/-- An owned row that isn't nil, in its form. -/
theorem own_form {w : World} {base n : Nat} {e : TypeId} {v : Value} {xs : List Value} (h : w.ownsRow base e 1 v n xs) (hv : v ≠ .slice none 0 0) : ∃ g cap, v = .slice (some ⟨g, 0, none⟩) n cap ∧ base ≤ g ∧ g < w.heap.size ∧ n ≤ cap ∧ cap ≤ maxLen := by
  rcases h.2 with ⟨h1, _⟩ | ⟨g, cap, cur, h1, hb, hg, hn, hm, _⟩
  · exact absurd h1 hv
  · refine ⟨g, cap, h1, hb, ?_, hn, hm⟩
    have : Box w g e cur := hg
    exact this.lt

/-- append of what is seen, of cells of one each, onto an owned row that isn't nil: for the walk. -/
theorem wpList_append_seen {P : Program} {w : World} {ops : Array Oper} {rest : List Oper} {o : Oper} {a : Act} {Q : Exit → Act → World → Prop} (hgd : o.guard = none) (s x : Operand) (t : TypeId)
    (ho : o.op = .call { callee := .builtin .append, args := #[s, x], argTypes := #[t, t] })
    (base : Nat) (e : TypeId) (i : TypeInfo) (z : Value) (ht : P.underlying t = some (.slice e)) (hi : P.info? e = some i) (hz : i.zero = some z)
    (hsize : i.size = 1) (hby : i.bytes = 1) (hzs : z.cells.size = 1)
    (v : Value) (n : Nat) (xs : List Value) (hs : a.eval s = v) (hown : w.ownsRow base e 1 v n xs) (hv : v ≠ .slice none 0 0)
    (B : Nat) (A : Option Addr) (m c : Nat) (news : List Value) (hx : a.eval x = .slice A m c) (hsee : Sees w B A news) (hl : news.length = m) (h1 : ∀ u ∈ news, u.oneCell' = true)
    (hb : n + m ≤ 70368744177664) (hbase : base ≤ w.heap.size)
    (h : ∀ g cap w', w'.ownsRow base e 1 (.slice (some ⟨g, 0, none⟩) (n + m) cap) (n + m) (xs ++ news) → w.grownBy w' v.ownBlock → wpList P ops Q rest (a.put o.dst (.slice (some ⟨g, 0, none⟩) (n + m) cap)) w') : wpList P ops Q (o :: rest) a w := by
  have some_case : ∀ ad : Addr, A = some ad → (∀ j u, news[j]? = some u → w.cell? (ad.add j) = some u) → wpList P ops Q (o :: rest) a w := by
    rintro ad rfl hn
    refine wpList_append_own w hgd s x t ho base e i z 1 1 ht hi hz hsize hby hzs (by omega) v n xs hs hown ad m c news hx (by omega) hn h1 (by unfold maxLen; omega) (by omega) hbase ?_
    intro v' w' h2 h3 h4
    have hne : v' ≠ .slice none 0 0 := fun e => hv (h4.1 e).1
    obtain ⟨g, cap, rfl, _⟩ := own_form h2 hne
    exact h g cap w' h2 h3
  rcases hsee with rfl | ⟨g, o', rfl, _, hc⟩
  · cases A with
    | some ad => exact some_case ad rfl (fun j u hu => by cases hu)
    | none =>
      simp only [List.length_nil] at hl
      subst hl
      refine wpList_plain hgd fun K hK => ?_
      obtain ⟨g, cap, rfl, _, _, hnc, _⟩ := own_form hown hv
      have hrun : (Builtin.append_ #[t, t] o.type #[.slice (some ⟨g, 0, none⟩) n cap, .slice none 0 c]).run P w = .ok (.slice (some ⟨g, 0, none⟩) n cap) w := by
        simp [Builtin.append_, run_underlying ht, sizeOf, typeInfo, hi, Builtin.lenOf, Builtin.firstCells, hnc, storeCells]
      unfold Oper.wp
      simp [execOp, ho, resolve, invoke, builtin, hs, hx, hrun, Result.andThen]
      have h0 := h g cap w (by simpa using hown) (only_refl _ _)
      exact hK _ _ h0
  · exact some_case _ rfl (fun j u hu => by rw [plain_add]; exact hc j u hu)

end Go.Proofs.YtdgedhaiefingaaDoor
