/-
  Slices of slices of bytes, slices of bools, as they are handed in; texts joined and cut.
-/
import Derived.Test.YtaobhkalnnmnhaaDkInWalk
import Derived.Test.YtaobhkalnnmnhaaDkLoPl
namespace Go.Proofs.Ytaobhkalnnmnhaa
open Go.RowKit Go.Maps

/-- A text that is handed in: bytes that lie somewhere. -/
structure TX where
  A : Option Addr
  l : List UInt8
  c : Nat
noncomputable def TK : EK TX where
  e := 25
  sl := 22
  k := 1
  bys := 24
  z := .slice none 0 0
  enc := fun t => [.slice t.A t.l.length t.c]
  hk := by decide
  und := Try.underlying22
  els := by kernel_rfl
  info := by kernel_rfl
  hzs := rfl
  zone := by
    intro v hv
    simp only [Value.cells, List.mem_cons, List.not_mem_nil, or_false] at hv
    rcases hv with rfl
    rfl
  len := fun _ => rfl
  one := by
    intro x v hv
    simp only [List.mem_cons, List.not_mem_nil, or_false] at hv
    rcases hv with rfl
    rfl
  hby := by decide
noncomputable def BoK : EK Bool where
  e := 4
  sl := 23
  k := 1
  bys := 1
  z := .bool false
  enc := fun b => [.bool b]
  hk := by decide
  und := Try.underlying23
  els := by kernel_rfl
  info := by kernel_rfl
  hzs := rfl
  zone := by
    intro v hv
    simp only [Value.cells, List.mem_cons, List.not_mem_nil, or_false] at hv
    rcases hv with rfl
    rfl
  len := fun _ => rfl
  one := by
    intro x v hv
    simp only [List.mem_cons, List.not_mem_nil, or_false] at hv
    rcases hv with rfl
    rfl
  hby := by decide
set_option maxRecDepth 100000 in
theorem TK_at {w : World} {B : Nat} {A : Option Addr} {ts : List TX} (h : TK.See w B A ts) {i : Nat} (hi : i < ts.length) : ∃ g o, A = some ⟨g, o, none⟩ ∧ w.cell? ⟨g, o + i, none⟩ = some (.slice ts[i].A ts[i].l.length ts[i].c) := by
  obtain ⟨g, o, rfl, _, hc⟩ := EK.See.range (K := TK) h hi
  refine ⟨g, o, rfl, ?_⟩
  have := hc i hi 0 (.slice ts[i].A ts[i].l.length ts[i].c) rfl
  simpa [TK] using this
set_option maxRecDepth 100000 in
theorem BoK_at {w : World} {B : Nat} {A : Option Addr} {bs : List Bool} (h : BoK.See w B A bs) {i : Nat} (hi : i < bs.length) : ∃ g o, A = some ⟨g, o, none⟩ ∧ w.cell? ⟨g, o + i, none⟩ = some (.bool bs[i]) := by
  obtain ⟨g, o, rfl, _, hc⟩ := EK.See.range (K := BoK) h hi
  refine ⟨g, o, rfl, ?_⟩
  have := hc i hi 0 (.bool bs[i]) rfl
  simpa [BoK] using this

set_option maxRecDepth 100000 in
theorem BoK_cell {w : World} {B g o : Nat} {bs : List Bool} (h : BoK.See w B (some ⟨g, o, none⟩) bs) {i : Nat} (hi : i < bs.length) : w.cell? ⟨g, o + i, none⟩ = some (.bool bs[i]) := by
  obtain ⟨g', o', e, hc⟩ := BoK_at h hi
  injection e with e
  injection e with e1 e2
  subst e1
  subst e2
  exact hc

/-- The first texts, joined. -/
def catT (ts : List TX) (k : Nat) : List UInt8 := (ts.take k).flatMap TX.l
set_option maxRecDepth 100000 in
theorem catT_zero (ts : List TX) : catT ts 0 = [] := rfl
set_option maxRecDepth 100000 in
theorem catT_succ (ts : List TX) (k : Nat) (h : k < ts.length) : catT ts (k + 1) = catT ts k ++ ts[k].l := by
  unfold catT
  rw [List.take_succ_eq_append_getElem h, List.flatMap_append]
  simp
set_option maxRecDepth 100000 in
theorem catT_mono (ts : List TX) (k : Nat) (h : k < ts.length) : (catT ts k).length + ts[k].l.length = (catT ts (k + 1)).length := by
  rw [catT_succ ts k h, List.length_append]
set_option maxRecDepth 100000 in
theorem catT_le (ts : List TX) {j k : Nat} (h : j ≤ k) (hk : k ≤ ts.length) : (catT ts j).length ≤ (catT ts k).length := by
  induction k with
  | zero => rw [show j = 0 by omega]; exact Nat.le_refl _
  | succ k ih =>
    by_cases e : j = k + 1
    · rw [e]; exact Nat.le_refl _
    · have h1 := ih (by omega) (by omega)
      have h2 := catT_mono ts k (by omega)
      omega
set_option maxRecDepth 100000 in
theorem str_add16 (a b : List UInt8) (h : (a ++ b).length ≤ 4194304) (w : World) : (binOp .add 9 (str a) (str b)).run Try.prog w = .ok (str (a ++ b)) w := by
  have hs : (⟨a.toArray⟩ : ByteArray).size = a.length := by simp [ByteArray.size]
  have hs2 : (⟨b.toArray⟩ : ByteArray).size = b.length := by simp [ByteArray.size]
  rw [List.length_append] at h
  have hr : (binOp .add 9 (.string ⟨a.toArray⟩) (.string ⟨b.toArray⟩)).run Try.prog w = .ok (.string (⟨a.toArray⟩ ++ ⟨b.toArray⟩)) w := by
    simp [binOp, Op.stringOp, hs, hs2]
    omega
  rw [bytes_cat] at hr
  exact hr
set_option maxRecDepth 100000 in
theorem str_cut16 (a : List UInt8) (k : Nat) (h : k ≤ a.length) (w : World) : (Instr.slice 9 (str a) none (some (.int .i64 (k : Int))) none).run Try.prog w = .ok (str (a.take k)) w := by
  have hs : (⟨a.toArray⟩ : ByteArray).size = a.length := by simp [ByteArray.size]
  have hr := run_slice_string_h (P := Try.prog) w 9 ⟨a.toArray⟩ Try.underlying9 .i64 (k : Int) (by omega) (by rw [hs]; omega)
  rw [Int.toNat_natCast] at hr
  have he : (⟨a.toArray⟩ : ByteArray).extract 0 k = ⟨(a.take k).toArray⟩ := by
    apply ByteArray.ext
    simp [ByteArray.data_extract]
  rw [he] at hr
  exact hr
end Go.Proofs.Ytaobhkalnnmnhaa
