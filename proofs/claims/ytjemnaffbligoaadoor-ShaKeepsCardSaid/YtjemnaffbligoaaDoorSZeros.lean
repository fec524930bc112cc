/-
  append(s, make([]byte, k)...) onto an owned row that isn't nil: what was there, then k zeros.
-/
import Derived.Test.YtjemnaffbligoaaDoorSPairs
import Derived.Lib.AppendZerosOnto
namespace Go.Proofs.YtjemnaffbligoaaDoor
open Go.RowKit

theorem zeroCells_one (u : Value) (k : Nat) : Builtin.zeroCells #[u] k = (List.replicate k u).toArray := by
  apply Array.ext'
  simp [Builtin.zeroCells, Nat.mod_one, List.map_const']
theorem run_append_zeros {P : Program} (w : World) (base : Nat) (t tn ty e : TypeId) (i : TypeInfo) (z : Value) (ht : P.underlying t = some (.slice e)) (htn : P.underlying tn = some (.int .i64)) (hi : P.info? e = some i) (hz : i.zero = some z)
    (hsize : i.size = 1) (hby : i.bytes = 1) (hzs : z.cells = #[z]) (hzo : z.oneCell' = true) (g cap n : Nat) (xs : List Value) (hown : w.ownsRow base e 1 (.slice (some ⟨g, 0, none⟩) n cap) n xs) (k : Nat) (hk : 0 < k)
    (hb : n + k ≤ 70368744177664) (hbase : base ≤ w.heap.size) :
    ∃ gg cap' w', (Builtin.append_ #[t, tn] ty #[.slice (some ⟨g, 0, none⟩) n cap, .int .i64 k]).run P w = .ok (.slice (some ⟨gg, 0, none⟩) (n + k) cap') w' ∧
      w'.ownsRow base e 1 (.slice (some ⟨gg, 0, none⟩) (n + k) cap') (n + k) (xs ++ List.replicate k z) ∧ w.grownBy w' (some g) := by
  have hlr : (List.replicate k z).length = k := List.length_replicate
  rcases hown.2 with ⟨h, _⟩ | ⟨g', cap', cur, hv, hbg, hg, hnc, hcm, hcs, htake⟩
  · cases h
  · injection hv with e1 e2 e3
    injection e1 with e1
    injection e1 with e1
    subst e1
    subst e3
    have hbox : Box w g e cur := hg
    have hlen : xs.length = n := by have := hown.1; omega
    have hcur : ∀ j, j < n → cur[j]? = xs[j]? := by
      intro j hj
      rw [← htake, List.getElem?_take, if_pos (by omega)]
      simp
    by_cases hroom : n + k ≤ cap
    · have hst := run_storeCells_at P g n e (List.replicate k z) 0 cur w hg (by rw [hlr]; omega) (fun u hu => by rw [List.eq_of_mem_replicate hu]; exact hzo)
      simp only [Nat.add_zero, hlr] at hst
      have hw : IntKind.i64.wrap (k : Int) = k := by rw [IntKind.wrap_i64]; omega
      have hneg : ¬ ((k : Int) < 0) := by omega
      have h48i : ¬ (281474976710656 < (k : Int)) := by omega
      have hk0 : k ≠ 0 := by omega
      have hr : (Builtin.append_ #[t, tn] ty #[.slice (some ⟨g, 0, none⟩) n cap, .int .i64 k]).run P w = .ok (.slice (some ⟨g, 0, none⟩) (n + k) cap) (w.setRow g (cur.toList.take n ++ List.replicate k z ++ cur.toList.drop (n + k)).toArray) := by
        simp [Builtin.append_, run_underlying ht, run_underlying htn, sizeOf, typeInfo, zeroValue, hi, hz, asInt, asIntOf, hw, hk0, hneg, hby, hsize, h48i, hroom, hzs, zeroCells_one, Addr.add_lit, hst]
      refine ⟨g, cap, _, hr, ⟨by rw [List.length_append, hlen, hlr]; omega, .inr ⟨g, cap, _, rfl, hbg, setRow_heap w g cur _ e _ hg, hroom, hcm, ?_, ?_⟩⟩, ⟨rfl, rfl, rfl, by simp, fun j _ hj => setRow_other w g j _ (fun e => hj (by rw [e]))⟩⟩
      · simp only [List.size_toArray, List.length_append, List.length_take, List.length_drop, Array.length_toList, hlr]
        omega
      · rw [List.toList_toArray, List.take_append_of_le_length (by rw [List.length_append, List.length_take, hlr, Array.length_toList]; omega), List.take_of_length_le (by rw [List.length_append, List.length_take, hlr]; omega)]
        congr 1
        rw [← htake, Nat.mul_one]
    · have hold : (Builtin.firstCells i.size n (.slice (some ⟨g, 0, none⟩) n cap)).run P w.drew = .ok xs.toArray w.drew :=
        run_firstCells_some w.drew i.size n ⟨g, 0, none⟩ n cap xs (by rw [hlen, hsize]; omega) (fun j u hu => by
          have hj : j < n := by
            rcases Nat.lt_or_ge j xs.length with h | h
            · omega
            · rw [List.getElem?_eq_none h] at hu; cases hu
          rw [plain_add, Nat.zero_add]
          show w.cell? _ = _
          rw [hbox.cell, hcur j hj, hu])
      have hfit : Builtin.nextslicecap (n + k) cap * i.bytes ≤ 281474976710656 := growslice_fits (by omega) (by rw [hby]; omega)
      have hr := Lib.run_append_grow_zeros (P := P) w t tn ty e i z .i64 .i64 ht htn hi hz (some ⟨g, 0, none⟩) n cap xs hold k hk (by omega) (by omega) (by omega) (by rw [hby]; omega) hfit
      have hge := grownCap_ge w (n + k) cap e
      have hle := grownCap_le_maxLen w (n + k) cap e (by unfold maxLen; omega)
      refine ⟨w.heap.size, _, _, hr, ⟨by rw [List.length_append, hlen, hlr]; omega, .inr ⟨w.heap.size, _, _, rfl, hbase, heap_alloc_new w.drew _, hge, hle, ?_, ?_⟩⟩, ⟨rfl, rfl, rfl, by simp, fun k hk _ => Below.heap_alloc w.drew _ k hk⟩⟩
      · simp only [Array.size_append, List.size_toArray, size_zeroCells, hzs, hlen, List.size_toArray, List.length_cons, List.length_nil]
        omega
      · rw [hzs, zeroCells_one, Array.toList_append, Array.toList_append, List.toList_toArray, List.toList_toArray, List.take_append_of_le_length (by rw [List.length_append, hlen, hlr]; omega), List.take_of_length_le (by rw [List.length_append, hlen, hlr]; omega)]
theorem wpList_append_zeros {P : Program} {w : World} {ops : Array Oper} {rest : List Oper} {o : Oper} {a : Act} {Q : Exit → Act → World → Prop} (hgd : o.guard = none) (s x : Operand) (t tn : TypeId)
    (ho : o.op = .call { callee := .builtin .append, args := #[s, x], argTypes := #[t, tn] }) (base : Nat) (e : TypeId) (i : TypeInfo) (z : Value) (ht : P.underlying t = some (.slice e)) (htn : P.underlying tn = some (.int .i64)) (hi : P.info? e = some i) (hz : i.zero = some z)
    (hsize : i.size = 1) (hby : i.bytes = 1) (hzs : z.cells = #[z]) (hzo : z.oneCell' = true) (g cap n : Nat) (xs : List Value) (hs : a.eval s = .slice (some ⟨g, 0, none⟩) n cap) (hown : w.ownsRow base e 1 (.slice (some ⟨g, 0, none⟩) n cap) n xs) (k : Nat) (hx : a.eval x = .int .i64 (k : Int)) (hk : 0 < k)
    (hb : n + k ≤ 70368744177664) (hbase : base ≤ w.heap.size)
    (h : ∀ gg cap' w', w'.ownsRow base e 1 (.slice (some ⟨gg, 0, none⟩) (n + k) cap') (n + k) (xs ++ List.replicate k z) → w.grownBy w' (some g) → wpList P ops Q rest (a.put o.dst (.slice (some ⟨gg, 0, none⟩) (n + k) cap')) w') :
    wpList P ops Q (o :: rest) a w := by
  obtain ⟨gg, cap', w', hr, h2, h3⟩ := run_append_zeros (P := P) w base t tn o.type e i z ht htn hi hz hsize hby hzs hzo g cap n xs hown k hk hb hbase
  exact Lib.wpList_append_run w hgd s x t tn ho _ _ hs hx _ _ hr (h gg cap' w' h2 h3)
end Go.Proofs.YtjemnaffbligoaaDoor
