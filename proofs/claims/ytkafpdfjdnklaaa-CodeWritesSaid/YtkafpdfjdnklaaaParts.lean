/-
  The laws' Parts: an argument that is a slice of Parts, opened to plain lists; and what 'great' answers.
-/
import Derived.Test.YtkafpdfjdnklaaaAlive
import Derived.ProofKit
import Derived.SizedLaws
import Derived.OpenShut
import Derived.Deep.Slices
import Derived.Deep.MidRow
namespace Go.Proofs.Ytkafpdfjdnklaaa
open Go.RowKit Go.Deep Go.ChangeShapes Go.WideShapes

structure PartV where
  kind : Int
  num : Int
  s : ByteArray
  d : List UInt8
  lo : Int
  hi : Int

def I64 (n : Int) : Prop := -9223372036854775808 ≤ n ∧ n ≤ 9223372036854775807
def partCells (p : PartV) : List Value := .int .i64 p.kind :: .int .i64 p.num :: .string p.s :: (p.d.map bv ++ [.int .i64 p.lo, .int .i64 p.hi])
structure PartWf (p : PartV) : Prop where
  d : p.d.length = 32
  s : p.s.size ≤ 140737488351232
  kind : I64 p.kind
  num : I64 p.num
  lo : I64 p.lo
  hi : I64 p.hi

theorem partCells_len {p : PartV} (h : p.d.length = 32) : (partCells p).length = 37 := by simp [partCells, h]
theorem partCells_one (p : PartV) : ∀ v ∈ partCells p, v.oneCell' = true := by
  intro v hv
  simp only [partCells, List.mem_cons, List.mem_append, List.not_mem_nil, or_false] at hv
  rcases hv with rfl | rfl | rfl | h | rfl | rfl <;> first | rfl | exact bv_one _ _ h

theorem peel {α : Type} (cs : List α) (k n : Nat) : cs.drop k = (cs.drop k).take n ++ cs.drop (k + n) := by
  rw [← List.drop_drop, List.take_append_drop]
theorem i64_of_wf {n : Int} (h : (Lit.int .i64 n).wf = true) : I64 n := by
  simp [Lit.wf, IntKind.min, IntKind.max, IntKind.signed, IntKind.bits] at h
  exact ⟨by omega, by omega⟩

theorem Try.cells_int : Try.prog.cellsOf 3 = 1 := by kernel_rfl
theorem Try.cells_string : Try.prog.cellsOf 9 = 1 := by kernel_rfl
theorem Try.cells_digest : Try.prog.cellsOf 39 = 32 := by kernel_rfl
theorem Try.cells_part : Try.prog.cellsOf 48 = 37 := by kernel_rfl
theorem Try.cells_byte : Try.prog.cellsOf 5 = 1 := by kernel_rfl

section
variable {H : Type} {enc : TypeId × Value → H} {w : World} {base : Nat} {spare : Nat → Bool} {held : Bool}

theorem open_digest {fuel : Nat} {cs : List Value} {x : DataW H × List MemPlace} (h : DataW.trod enc Try.prog w base spare held fuel 39 cs = some x) : ∃ d : List UInt8, d.length = 32 ∧ cs = d.map bv := by
  obtain ⟨xs, m, _, _, hl, hxl, hf⟩ := DataW.trod_array Try.underlying39 h
  rw [Try.cells_digest] at hl
  have hv : ∀ i, i < 32 → ∃ b : UInt8, cs[i]? = some (bv b) := by
    intro i hi
    have h1 := hf i hi
    rw [Try.cells_byte, Nat.mul_one] at h1
    have hx : xs[i]? = some (xs[i]'(by omega)) := List.getElem?_eq_getElem (by omega)
    rw [hx] at h1
    obtain ⟨n, e1, _, hw⟩ := DataW.trod_int Try.underlying5 h1
    have e2 : cs[i]? = some (.int .u8 n) := by
      have := congrArg (fun l : List Value => l[0]?) e1
      simpa using this
    have hb : 0 ≤ n ∧ n ≤ 255 := by
      simp [Lit.wf, IntKind.min, IntKind.max, IntKind.signed, IntKind.bits] at hw
      exact ⟨by omega, by omega⟩
    refine ⟨UInt8.ofNat n.toNat, ?_⟩
    rw [e2]
    unfold bv
    have e3 : ((UInt8.ofNat n.toNat).toNat : Int) = n := by
      rw [UInt8.toNat_ofNat']
      omega
    rw [e3]
  refine ⟨cs.map fun v => match v with | .int _ n => UInt8.ofNat n.toNat | _ => 0, by rw [List.length_map]; exact hl, ?_⟩
  apply List.ext_getElem?
  intro i
  rcases Nat.lt_or_ge i 32 with hi | hi
  · obtain ⟨b, hb⟩ := hv i hi
    rw [hb]
    simp only [List.getElem?_map, hb, Option.map_some]
    unfold bv
    simp
  · rw [List.getElem?_eq_none (by omega), List.getElem?_eq_none (by simp; omega)]

theorem open_part {fuel : Nat} {cs : List Value} {x : DataW H × List MemPlace} (h : DataW.trod enc Try.prog w base spare held fuel 48 cs = some x) :
    ∃ p : PartV, cs = partCells p ∧ p.d.length = 32 ∧ I64 p.kind ∧ I64 p.num ∧ I64 p.lo ∧ I64 p.hi ∧ p.s.size ∈ x.1.weights Try.prog 48 := by
  obtain ⟨xs, m, _, hx, hl, hxl, hf⟩ := DataW.trod_struct Try.underlying48 h
  rw [Try.cells_part] at hl
  match xs, hxl with
  | [y0, y1, y2, y3, y4, y5], _ =>
    have h0 : DataW.trod enc Try.prog w base spare held m 3 ((cs.drop 0).take (Try.prog.cellsOf 3)) = some y0 := hf 0 _ rfl
    have h1 : DataW.trod enc Try.prog w base spare held m 3 ((cs.drop 1).take (Try.prog.cellsOf 3)) = some y1 := hf 1 _ rfl
    have h2 : DataW.trod enc Try.prog w base spare held m 9 ((cs.drop 2).take (Try.prog.cellsOf 9)) = some y2 := hf 2 _ rfl
    have h3 : DataW.trod enc Try.prog w base spare held m 39 ((cs.drop 3).take (Try.prog.cellsOf 39)) = some y3 := hf 3 _ rfl
    have h4 : DataW.trod enc Try.prog w base spare held m 3 ((cs.drop 35).take (Try.prog.cellsOf 3)) = some y4 := hf 4 _ rfl
    have h5 : DataW.trod enc Try.prog w base spare held m 3 ((cs.drop 36).take (Try.prog.cellsOf 3)) = some y5 := hf 5 _ rfl
    rw [Try.cells_int] at h0 h1 h4 h5
    rw [Try.cells_string] at h2
    rw [Try.cells_digest] at h3
    obtain ⟨n0, e0, _, w0⟩ := DataW.trod_int Try.underlying3 h0
    obtain ⟨n1, e1, _, w1⟩ := DataW.trod_int Try.underlying3 h1
    obtain ⟨s, e2, x2, _⟩ := DataW.trod_string Try.underlying9 h2
    obtain ⟨d, hd, e3⟩ := open_digest h3
    obtain ⟨n4, e4, _, w4⟩ := DataW.trod_int Try.underlying3 h4
    obtain ⟨n5, e5, _, w5⟩ := DataW.trod_int Try.underlying3 h5
    refine ⟨⟨n0, n1, s, d, n4, n5⟩, ?_, hd, i64_of_wf w0, i64_of_wf w1, i64_of_wf w4, i64_of_wf w5, ?_⟩
    · have e : cs = cs.drop 0 := rfl
      rw [e, peel cs 0 1, e0, peel cs (0 + 1) 1, e1, peel cs (0 + 1 + 1) 1, e2, peel cs (0 + 1 + 1 + 1) 32, e3, peel cs (0 + 1 + 1 + 1 + 32) 1, e4, peel cs (0 + 1 + 1 + 1 + 32 + 1) 1, e5, List.drop_eq_nil_of_le (by omega)]
      simp [partCells]
    · subst hx
      subst x2
      simp [DataW.weights, DataW.weightsEach, Try.underlying48]
end


theorem flat_get {α β : Type} (f : α → List β) (n : Nat) : ∀ (l : List α), (∀ x ∈ l, (f x).length = n) → ∀ (j : Nat) (u : β), (l.flatMap f)[j]? = some u → ∃ k r, j = k * n + r ∧ r < n ∧ ∃ hk : k < l.length, (f l[k])[r]? = some u
  | [], _, j, u, hu => by simp at hu
  | x :: t, h, j, u, hu => by
    have hx := h x List.mem_cons_self
    rw [List.flatMap_cons] at hu
    rcases Nat.lt_or_ge j n with hj | hj
    · rw [List.getElem?_append_left (by omega)] at hu
      exact ⟨0, j, by omega, hj, by simp, by simpa using hu⟩
    · rw [List.getElem?_append_right (by omega), hx] at hu
      obtain ⟨k, r, e, hr, hk, hc⟩ := flat_get f n t (fun y hy => h y (List.mem_cons_of_mem _ hy)) _ u hu
      exact ⟨k + 1, r, by rw [Nat.add_mul]; omega, hr, by simpa using hk, by simpa using hc⟩
theorem flat_at {α β : Type} (f : α → List β) (n : Nat) : ∀ (l : List α), (∀ x ∈ l, (f x).length = n) → ∀ (k : Nat) (hk : k < l.length) (r : Nat), r < n → (l.flatMap f)[k * n + r]? = (f l[k])[r]?
  | [], _, k, hk, _, _ => by simp at hk
  | x :: t, h, 0, _, r, hr => by
    have hx := h x List.mem_cons_self
    rw [List.flatMap_cons, List.getElem?_append_left (by omega)]
    simp
  | x :: t, h, k + 1, hk, r, hr => by
    have hx := h x List.mem_cons_self
    rw [List.flatMap_cons, List.getElem?_append_right (by rw [Nat.add_mul]; omega)]
    have e : (k + 1) * n + r - (f x).length = k * n + r := by rw [Nat.add_mul]; omega
    rw [e, flat_at f n t (fun y hy => h y (List.mem_cons_of_mem _ hy)) k (by simpa using hk) r hr]
    simp

theorem mem_weightsAll {H : Type} {P : Program} {e : TypeId} {l : List (DataW H)} {d : DataW H} (h : d ∈ l) {n : Nat} (hn : n ∈ d.weights P e) : n ∈ DataW.weightsAll P e l := by
  induction l with
  | nil => cases h
  | cons x t ih =>
    simp only [DataW.weightsAll, List.mem_append]
    cases List.mem_cons.1 h with
    | inl e => subst e; exact .inl hn
    | inr e => exact .inr (ih e)

theorem open_parts {H : Type} {enc : TypeId × Value → H} {w : World} {base : Nat} {spare : Nat → Bool} {held : Bool} {fuel : Nat} {cs : List Value} {x : DataW H × List MemPlace}
    (h : DataW.trod enc Try.prog w base spare held fuel 22 cs = some x) :
    ∃ (A : Option Addr) (ps : List PartV) (cap : Nat), cs = [.slice A ps.length cap] ∧ ps.length ≤ cap ∧ cap ≤ maxLen ∧ Sees w w.heap.size A (ps.flatMap partCells) ∧
      ∀ p ∈ ps, p.d.length = 32 ∧ I64 p.kind ∧ I64 p.num ∧ I64 p.lo ∧ I64 p.hi ∧ p.s.size ∈ x.1.weights Try.prog 22 := by
  rcases open_slice Try.underlying22 h with ⟨rfl, rfl⟩ | ⟨a, len, cap, m, n, D, Pl, rfl, hb, hl, hm, hmm, rfl, hi⟩
  · exact ⟨none, [], 0, rfl, Nat.le_refl _, by simp [maxLen], .inl rfl, fun p hp => by cases hp⟩
  · have hlm : len ≤ m := by rw [hmm]; split <;> omega
    have hex : ∀ i, i < len → ∃ p : PartV, (∀ j u, (partCells p)[j]? = some u → w.cell? ((a.add (i * 37)).add j) = some u) ∧ p.d.length = 32 ∧ I64 p.kind ∧ I64 p.num ∧ I64 p.lo ∧ I64 p.hi ∧ p.s.size ∈ (D i).weights Try.prog 48 := by
      intro i hil
      obtain ⟨cs', hc, ht⟩ := hi i (by omega)
      rw [Try.cells_part] at hc
      obtain ⟨_, hcl, hat⟩ := World.cells?_some hc
      obtain ⟨p, rfl, hp⟩ := open_part ht
      refine ⟨p, fun j u hu => ?_, hp⟩
      have hj : j < 37 := by
        rcases Nat.lt_or_ge j 37 with h | h
        · exact h
        · rw [List.getElem?_eq_none (by omega)] at hu; cases hu
      rw [hat j hj, hu]
    obtain ⟨F, hF⟩ : ∃ F : Nat → PartV, ∀ i, i < len → (∀ j u, (partCells (F i))[j]? = some u → w.cell? ((a.add (i * 37)).add j) = some u) ∧ (F i).d.length = 32 ∧ I64 (F i).kind ∧ I64 (F i).num ∧ I64 (F i).lo ∧ I64 (F i).hi ∧ (F i).s.size ∈ (D i).weights Try.prog 48 :=
      ⟨fun i => if hi : i < len then (hex i hi).choose else ⟨0, 0, ByteArray.empty, [], 0, 0⟩, fun i hi => by
        simp only [dif_pos hi]
        exact (hex i hi).choose_spec⟩
    have hmem : ∀ p ∈ (List.range len).map F, p.d.length = 32 ∧ I64 p.kind ∧ I64 p.num ∧ I64 p.lo ∧ I64 p.hi ∧ p.s.size ∈ (DataW.slice ((List.range len).map D) ((List.range (m - len)).map fun j => D (len + j))).weights Try.prog 22 := by
      intro p hp
      obtain ⟨i, hi, rfl⟩ := List.mem_map.1 hp
      have hi' := List.mem_range.1 hi
      obtain ⟨_, h1, h2, h3, h4, h5, h6⟩ := hF i hi'
      refine ⟨h1, h2, h3, h4, h5, ?_⟩
      simp only [DataW.weights, Try.underlying22, List.mem_cons, List.mem_append]
      exact .inr (.inl (mem_weightsAll (List.mem_map.2 ⟨i, hi, rfl⟩) h6))
    refine ⟨some a, (List.range len).map F, cap, by simp, by simpa using hl, hm, ?_, hmem⟩
    rcases Nat.eq_zero_or_pos len with h0 | hpos
    · subst h0
      exact .inl rfl
    · have hsp : a.spot = none := by
        have h1 := (hF 0 hpos).1 0 _ (by simp only [partCells]; rfl)
        rcases hs : a.spot with _ | sp
        · rfl
        · exfalso
          simp [World.cell?, Addr.add, hs] at h1
          split at h1 <;> simp_all
      obtain ⟨g, o, sp⟩ := a
      subst hsp
      refine .inr ⟨g, o, rfl, ?_, fun j u hu => ?_⟩
      · have h1 := (hF 0 hpos).1 0 _ (by simp only [partCells]; rfl)
        have := World.block_lt_of_cell? w _ h1
        simpa [plain_add] using this
      · obtain ⟨k, r, rfl, hr, hk, hc⟩ := flat_get partCells 37 _ (fun p hp => partCells_len (hmem p hp).1) j u hu
        have hk' : k < len := by simpa using hk
        have := (hF k hk').1 r u (by simpa using hc)
        rw [plain_add, plain_add] at this
        rw [← Nat.add_assoc]
        exact this

theorem sees_of_addr {w : World} {a : Addr} {xs : List Value} (h : ∀ j u, xs[j]? = some u → w.cell? (a.add j) = some u) : Sees w w.heap.size (some a) xs := by
  rcases xs with _ | ⟨x, r⟩
  · exact .inl rfl
  · have h1 := h 0 x rfl
    obtain ⟨g, o, sp⟩ := a
    have hsp : sp = none := by
      rcases sp with _ | sp
      · rfl
      · exfalso
        simp [World.cell?, Addr.add] at h1
        split at h1 <;> simp_all
    subst hsp
    refine .inr ⟨g, o, rfl, ?_, fun j u hu => ?_⟩
    · have := World.block_lt_of_cell? w _ h1
      simpa [plain_add] using this
    · rw [← plain_add]
      exact h j u hu

theorem open_bytes {H : Type} {enc : TypeId × Value → H} {w : World} {base : Nat} {spare : Nat → Bool} {held : Bool} {fuel : Nat} {cs : List Value} {x : DataW H × List MemPlace}
    (h : DataW.trod enc Try.prog w base spare held fuel 27 cs = some x) :
    ∃ (A : Option Addr) (l : List UInt8) (cap : Nat), cs = [.slice A l.length cap] ∧ l.length ≤ cap ∧ cap ≤ maxLen ∧ Sees w w.heap.size A (l.map bv) := by
  rcases open_ints Try.underlying27 Try.underlying5 Try.cells_byte h with ⟨rfl, rfl⟩ | ⟨a, len, cap, zs, rfl, _, hl, hm, hz, _, hc, hw⟩
  · exact ⟨none, [], 0, rfl, Nat.le_refl _, by simp [maxLen], .inl rfl⟩
  · have hzl : len ≤ zs.length := by rw [hz]; split <;> omega
    have e : ((zs.take len).map fun n => UInt8.ofNat n.toNat).length = len := by simp; omega
    refine ⟨some a, (zs.take len).map fun n => UInt8.ofNat n.toNat, cap, by rw [e], by rw [e]; exact hl, hm, sees_of_addr fun j u hu => ?_⟩
    rw [List.map_map, List.getElem?_map, List.getElem?_take] at hu
    split at hu
    · rename_i hj
      have hjz : j < zs.length := by omega
      rw [List.getElem?_eq_getElem hjz, Option.map_some, Option.some.injEq] at hu
      rw [hc j hjz, ← hu]
      have hwj := hw zs[j] (List.getElem_mem hjz)
      simp [Lit.wf, IntKind.min, IntKind.max, IntKind.signed, IntKind.bits] at hwj
      simp only [Function.comp_apply, bv, List.getD, List.getElem?_eq_getElem hjz, Option.getD_some, UInt8.toNat_ofNat']
      congr 2
      omega
    · cases hu

theorem open_nums {H : Type} {enc : TypeId × Value → H} {w : World} {base : Nat} {spare : Nat → Bool} {held : Bool} {fuel : Nat} {cs : List Value} {x : DataW H × List MemPlace} {t : TypeId} (ht : Try.prog.underlying t = some (.slice 3))
    (h : DataW.trod enc Try.prog w base spare held fuel t cs = some x) :
    ∃ (A : Option Addr) (ns : List Int) (cap : Nat), cs = [.slice A ns.length cap] ∧ ns.length ≤ cap ∧ cap ≤ maxLen ∧ Sees w w.heap.size A (ns.map (Value.int .i64)) ∧ ∀ n ∈ ns, I64 n := by
  rcases open_ints ht Try.underlying3 Try.cells_int h with ⟨rfl, rfl⟩ | ⟨a, len, cap, zs, rfl, _, hl, hm, hz, _, hc, hw⟩
  · exact ⟨none, [], 0, rfl, Nat.le_refl _, by simp [maxLen], .inl rfl, fun n hn => by cases hn⟩
  · have hzl : len ≤ zs.length := by rw [hz]; split <;> omega
    have e : (zs.take len).length = len := by simp; omega
    refine ⟨some a, zs.take len, cap, by rw [e], by rw [e]; exact hl, hm, sees_of_addr fun j u hu => ?_, fun n hn => i64_of_wf (hw n (List.mem_of_mem_take hn))⟩
    rw [List.getElem?_map, List.getElem?_take] at hu
    split at hu
    · rename_i hj
      have hjz : j < zs.length := by omega
      rw [List.getElem?_eq_getElem hjz, Option.map_some, Option.some.injEq] at hu
      rw [hc j hjz, ← hu]
      simp only [List.getD, List.getElem?_eq_getElem hjz, Option.getD_some]
    · cases hu

/-- What a Part's block reads as. -/
theorem part_cells {w : World} {g : Nat} {p : PartV} (hd : p.d.length = 32) (h : Box w g 48 (partCells p).toArray) :
    w.cell? ⟨g, 0, none⟩ = some (.int .i64 p.kind) ∧ w.cell? ⟨g, 1, none⟩ = some (.int .i64 p.num) ∧ w.cell? ⟨g, 2, none⟩ = some (.string p.s) ∧ w.rangeAt g 3 (p.d.map bv) ∧ w.cell? ⟨g, 35, none⟩ = some (.int .i64 p.lo) ∧ w.cell? ⟨g, 36, none⟩ = some (.int .i64 p.hi) := by
  refine ⟨by rw [h.cell]; rfl, by rw [h.cell]; rfl, by rw [h.cell]; rfl, fun j v hj => ?_, ?_, ?_⟩
  · rw [h.cell, List.getElem?_toArray, partCells, show 3 + j = j + 1 + 1 + 1 from by omega, List.getElem?_cons_succ, List.getElem?_cons_succ, List.getElem?_cons_succ]
    have hjl : j < (p.d.map bv).length := by
      rcases Nat.lt_or_ge j (p.d.map bv).length with h | h
      · exact h
      · rw [List.getElem?_eq_none h] at hj; cases hj
    rw [List.getElem?_append_left hjl]
    exact hj
  · rw [h.cell, List.getElem?_toArray, partCells, List.getElem?_cons_succ, List.getElem?_cons_succ, List.getElem?_cons_succ, List.getElem?_append_right (by rw [List.length_map]; omega), List.length_map, hd]
    rfl
  · rw [h.cell, List.getElem?_toArray, partCells, List.getElem?_cons_succ, List.getElem?_cons_succ, List.getElem?_cons_succ, List.getElem?_append_right (by rw [List.length_map]; omega), List.length_map, hd]
    rfl
abbrev pzero : Array Value := #[Value.int IntKind.i64 0, Value.int IntKind.i64 0, Value.string ⟨#[]⟩, Value.int IntKind.u8 0, Value.int IntKind.u8 0, Value.int IntKind.u8 0, Value.int IntKind.u8 0, Value.int IntKind.u8 0, Value.int IntKind.u8 0, Value.int IntKind.u8 0, Value.int IntKind.u8 0, Value.int IntKind.u8 0, Value.int IntKind.u8 0, Value.int IntKind.u8 0, Value.int IntKind.u8 0, Value.int IntKind.u8 0, Value.int IntKind.u8 0, Value.int IntKind.u8 0, Value.int IntKind.u8 0, Value.int IntKind.u8 0, Value.int IntKind.u8 0, Value.int IntKind.u8 0, Value.int IntKind.u8 0, Value.int IntKind.u8 0, Value.int IntKind.u8 0, Value.int IntKind.u8 0, Value.int IntKind.u8 0, Value.int IntKind.u8 0, Value.int IntKind.u8 0, Value.int IntKind.u8 0, Value.int IntKind.u8 0, Value.int IntKind.u8 0, Value.int IntKind.u8 0, Value.int IntKind.u8 0, Value.int IntKind.u8 0, Value.int IntKind.i64 0, Value.int IntKind.i64 0]
/-- A Part of a slice of Parts, as a range of cells. -/
theorem Sees.part {w : World} {B : Nat} {A : Option Addr} {ps : List PartV} (h : Sees w B A (ps.flatMap partCells)) (hd : ∀ p ∈ ps, p.d.length = 32) {k : Nat} (hk : k < ps.length) :
    ∃ g o, A = some ⟨g, o, none⟩ ∧ g < B ∧ w.rangeAt g (o + k * 37) (partCells ps[k]) := by
  have hkd := hd ps[k] (List.getElem_mem hk)
  have hat := flat_at partCells 37 ps (fun p hp => partCells_len (hd p hp)) k hk
  rcases h with h | ⟨g, o, e, hg, hc⟩
  · have := hat 0 (by omega)
    rw [h] at this
    simp [partCells] at this
  · refine ⟨g, o, e, hg, fun j v hj => ?_⟩
    have hj37 : j < 37 := by
      rcases Nat.lt_or_ge j 37 with h | h
      · exact h
      · rw [List.getElem?_eq_none (by rw [partCells_len hkd]; omega)] at hj; cases hj
    rw [Nat.add_assoc]
    refine hc _ v ?_
    rw [hat j hj37]
    exact hj
end Go.Proofs.Ytkafpdfjdnklaaa
