/-
  What reads as a key of the ring's map is a key.
-/
import Derived.Test.YtejnfgcnifcpaaaGreatDoorRiKey
namespace Go.Proofs.YtejnfgcnifcpaaaGreatDoor
open Go.RowKit Go.Maps

set_option maxRecDepth 100000 in
theorem mapM_get {α β : Type} (f : α → Option β) : ∀ (l : List α) (ys : List β), l.mapM f = some ys → ∀ x ∈ l, ∃ y, f x = some y
  | [], _, _, x, hx => by cases hx
  | a :: r, ys, h, x, hx => by
    rw [List.mapM_cons] at h
    cases ha : f a with
    | none => rw [ha] at h; cases h
    | some y =>
      rw [ha] at h
      cases hr : r.mapM f with
      | none => rw [hr] at h; cases h
      | some zs =>
        rcases List.mem_cons.1 hx with rfl | hx
        · exact ⟨y, ha⟩
        · exact mapM_get f r zs hr x hx
set_option maxRecDepth 100000 in
theorem byte_inv {d : Nat} {v : Value} {L : List Lit} (h : Tryz.prog.keyLits (d + 1) 5 [v] = some L) : ∃ b : UInt8, v = bv b := by
  unfold Program.keyLits at h
  rw [Tryz.underlying5] at h
  cases v <;> simp at h
  rename_i q n
  obtain ⟨⟨rfl, hw⟩, _⟩ := h
  simp [Lit.wf, IntKind.min, IntKind.max, IntKind.signed, IntKind.bits] at hw
  refine ⟨UInt8.ofNat n.toNat, ?_⟩
  unfold bv
  rw [UInt8.toNat_ofNat']
  congr 1
  omega
set_option maxRecDepth 100000 in
theorem dig_inv {d : Nat} {cs : List Value} {L : List Lit} (h : Tryz.prog.keyLits (d + 2) 26 cs = some L) : ∃ r : List UInt8, r.length = 32 ∧ cs = r.map bv := by
  unfold Program.keyLits at h
  rw [Tryz.underlying26] at h
  simp only [dig_cells] at h
  by_cases hl : cs.length = 32
  · rw [if_pos hl] at h
    cases hm : (List.range 32).mapM fun i => Tryz.prog.keyLits (d + 1) 5 ((cs.drop (i * Tryz.prog.cellsOf 5)).take (Tryz.prog.cellsOf 5)) with
    | none => rw [hm] at h; cases h
    | some ys =>
      have hg := mapM_get _ _ _ hm
      have hb : ∀ i (hi : i < cs.length), ∃ b : UInt8, cs[i] = bv b := fun i hi => by
        obtain ⟨y, hy⟩ := hg i (List.mem_range.2 (by omega))
        have e : (cs.drop (i * Tryz.prog.cellsOf 5)).take (Tryz.prog.cellsOf 5) = [cs[i]] := by
          rw [Tryz.cells_byte, Nat.mul_one, List.drop_eq_getElem_cons hi, List.take_succ_cons, List.take_zero]
        rw [e] at hy
        exact byte_inv hy
      refine ⟨cs.map fun v => match v with | .int _ n => UInt8.ofNat n.toNat | _ => 0, by simp [hl], ?_⟩
      apply List.ext_getElem (by simp)
      intro i h1 h2
      obtain ⟨b, hb⟩ := hb i h1
      have e : UInt8.ofNat ((b.toNat : Int)).toNat = b := by simp
      rw [List.getElem_map, List.getElem_map, hb]
      show bv b = bv (UInt8.ofNat ((b.toNat : Int)).toNat)
      rw [e]
  · rw [if_neg hl] at h
    cases h
set_option maxRecDepth 100000 in
theorem key_inv {v : Value} {l : Lit} (h : keyOf Tryz.prog 58 v = some l) : ∃ (r : List UInt8) (k : Int), r.length = 32 ∧ (Lit.int .i64 k).wf = true ∧ v = .agg (keyV r k) := by
  obtain ⟨d, hd⟩ : ∃ d, Tryz.prog.types.size + 1 = d + 3 := ⟨Tryz.prog.types.size - 2, by
    have h2 : 2 ≤ Tryz.prog.types.size := of_decide_eq_true (by kernel_rfl)
    omega⟩
  have hwide := key_wide
  obtain ⟨xs, L, rfl, h1, _⟩ := keyOf_top hwide h
  rw [hd] at h1
  unfold Program.keyLits at h1
  rw [key_struct] at h1
  simp only [key_cells] at h1
  have hfs : (Tryz.prog.fieldsOf 58).toList.map (fun f => (f.type, f.offset)) = [(26, 0), (3, 32)] := by kernel_rfl
  generalize (Tryz.prog.fieldsOf 58) = fs at hfs h1
  by_cases hl : xs.toList.length = 33 ∧ fs.all (·.name != "_") = true
  · rw [if_pos hl] at h1
    cases hm : fs.toList.mapM fun f => Tryz.prog.keyLits (d + 2) f.type ((xs.toList.drop f.offset).take (Tryz.prog.cellsOf f.type)) with
    | none => rw [hm] at h1; cases h1
    | some ys =>
      have hg := mapM_get _ _ _ hm
      have at_ : ∀ t o, (t, o) ∈ [(26, 0), (3, 32)] → ∃ y, Tryz.prog.keyLits (d + 2) t ((xs.toList.drop o).take (Tryz.prog.cellsOf t)) = some y := fun t o hto => by
        rw [← hfs] at hto
        obtain ⟨f, hf, he⟩ := List.mem_map.1 hto
        obtain ⟨y, hy⟩ := hg f hf
        simp only [Prod.mk.injEq] at he
        rw [he.1, he.2] at hy
        exact ⟨y, hy⟩
      obtain ⟨y0, h0⟩ := at_ 26 0 (by simp)
      obtain ⟨y1, h2⟩ := at_ 3 32 (by simp)
      rw [dig_cells] at h0
      rw [int_cells] at h2
      obtain ⟨r, hr, er⟩ := dig_inv h0
      have hl33 := hl.1
      have e32 : (xs.toList.drop 32).take 1 = [xs.toList[32]'(by omega)] := by
        rw [List.drop_eq_getElem_cons (by omega)]
        simp
      rw [e32] at h2
      unfold Program.keyLits at h2
      rw [Tryz.underlying3] at h2
      generalize hv : xs.toList[32]'(by omega) = v at *
      cases v <;> simp at h2
      rename_i q k
      obtain ⟨⟨rfl, hw⟩, _⟩ := h2
      refine ⟨r, k, hr, hw, ?_⟩
      congr 1
      apply Array.ext'
      unfold keyV keyL
      rw [List.toList_toArray]
      have e1 : xs.toList = xs.toList.take 32 ++ xs.toList.drop 32 := (List.take_append_drop 32 _).symm
      rw [List.drop_zero] at er
      have e3 : xs.toList.drop 32 = [.int .i64 k] := by
        rw [← e32]
        exact (List.take_of_length_le (by rw [List.length_drop, hl33]; decide)).symm
      rw [e1, er, e3]
  · rw [if_neg hl] at h1
    cases h1
end Go.Proofs.YtejnfgcnifcpaaaGreatDoor
