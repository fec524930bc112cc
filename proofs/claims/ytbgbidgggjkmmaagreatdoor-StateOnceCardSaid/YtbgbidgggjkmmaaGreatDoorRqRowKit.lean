/-
  Opening the handed arguments of request's laws: requests, replies, bytes.
-/
import Derived.Test.YtbgbidgggjkmmaaGreatDoorRqAlive
import Derived.Deep.Strs
import Derived.ProofKit
import Derived.OpenShut
import Derived.SizedLaws
import Derived.Carry
import Derived.ChangeAt
import Derived.JoinedOf
import Derived.ChangeShapes
import Derived.Deep.Slices
import Derived.Deep.DeepHandedRow
namespace Go.Proofs.YtbgbidgggjkmmaaGreatDoor
open Go.ChangeShapes Go.WideShapes Go.ChangeAt Go.RowKit Go.Deep

set_option maxRecDepth 100000 in
theorem row_own9 : ownKnob Tryz.prog.godebug = none := by kernel_rfl
set_option maxRecDepth 100000 in
theorem row_laidOut9 : laidOutB Tryz.prog = true := by kernel_rfl
set_option maxRecDepth 100000 in
theorem cells_byte9 : Tryz.prog.cellsOf 5 = 1 := by kernel_rfl
set_option maxRecDepth 100000 in
theorem cells_digest9 : Tryz.prog.cellsOf 48 = 32 := by kernel_rfl
set_option maxRecDepth 100000 in
theorem cells_key9 : Tryz.prog.cellsOf 50 = 33 := by kernel_rfl
set_option maxRecDepth 100000 in
theorem cells_int9 : Tryz.prog.cellsOf 3 = 1 := by kernel_rfl
set_option maxRecDepth 100000 in
theorem cells_string9 : Tryz.prog.cellsOf 9 = 1 := by kernel_rfl
set_option maxRecDepth 100000 in
theorem cells_chg9 : Tryz.prog.cellsOf 52 = 36 := by kernel_rfl
set_option maxRecDepth 100000 in
theorem cells_op9 : Tryz.prog.cellsOf 54 = 40 := by kernel_rfl
set_option maxRecDepth 100000 in
theorem cells_req9 : Tryz.prog.cellsOf 56 = 42 := by kernel_rfl
set_option maxRecDepth 100000 in
theorem cells_rep9 : Tryz.prog.cellsOf 36 = 4 := by kernel_rfl
set_option maxRecDepth 100000 in
theorem cells_errno9 : Tryz.prog.cellsOf 33 = 1 := by kernel_rfl
set_option maxRecDepth 100000 in
theorem cells_strings9 : Tryz.prog.cellsOf 34 = 1 := by kernel_rfl
set_option maxRecDepth 100000 in
theorem i64_wf9 {n : Int} (h : (Lit.int .i64 n).wf = true) : R64 n := by
  simp [Lit.wf, IntKind.min, IntKind.max, IntKind.signed, IntKind.bits] at h
  exact ⟨by omega, by omega⟩
set_option maxRecDepth 100000 in
theorem sees_of_addr9 {w : World} {a : Addr} {xs : List Value} (h : ∀ j u, xs[j]? = some u → w.cell? (a.add j) = some u) : Sees w w.heap.size (some a) xs := by
  rcases xs with _ | ⟨x, r⟩
  · exact .inl rfl
  · have h1 := h 0 x rfl
    obtain ⟨g, o, sp⟩ := a
    have hsp : sp = none := by
      rcases sp with _ | sp
      · rfl
      · exfalso
        simp [World.cell?, Addr.add] at h1
        split at h1 <;> simp_all
    subst hsp
    refine .inr ⟨g, o, rfl, ?_, fun j u hu => ?_⟩
    · have := World.block_lt_of_cell? w _ h1
      simpa [plain_add] using this
    · rw [← plain_add]
      exact h j u hu
section
variable {H : Type} {enc : TypeId × Value → H} {w : World} {base : Nat} {spare : Nat → Bool} {held : Bool} {fuel : Nat} {cs : List Value} {x : DataW H × List MemPlace}
set_option maxRecDepth 100000 in
theorem open_digest9 (h : DataW.trod enc Tryz.prog w base spare held fuel 48 cs = some x) : ∃ d : List UInt8, d.length = 32 ∧ cs = d.map bv := by
  obtain ⟨xs, m, _, _, hl, hxl, hf⟩ := DataW.trod_array Tryz.underlying48 h
  rw [cells_digest9] at hl
  have hv : ∀ i, i < 32 → ∃ b : UInt8, cs[i]? = some (bv b) := by
    intro i hi
    have h1 := hf i hi
    rw [cells_byte9, Nat.mul_one] at h1
    have hx : xs[i]? = some (xs[i]'(by omega)) := List.getElem?_eq_getElem (by omega)
    rw [hx] at h1
    obtain ⟨n, e1, _, hw⟩ := DataW.trod_int Tryz.underlying5 h1
    have e2 : cs[i]? = some (.int .u8 n) := by
      have := congrArg (fun l : List Value => l[0]?) e1
      simpa using this
    have hb : 0 ≤ n ∧ n ≤ 255 := by
      simp [Lit.wf, IntKind.min, IntKind.max, IntKind.signed, IntKind.bits] at hw
      exact ⟨by omega, by omega⟩
    refine ⟨UInt8.ofNat n.toNat, ?_⟩
    rw [e2]
    unfold bv
    have e3 : ((UInt8.ofNat n.toNat).toNat : Int) = n := by
      rw [UInt8.toNat_ofNat']
      omega
    rw [e3]
  refine ⟨cs.map fun v => match v with | .int _ n => UInt8.ofNat n.toNat | _ => 0, by rw [List.length_map]; exact hl, ?_⟩
  apply List.ext_getElem?
  intro i
  rcases Nat.lt_or_ge i 32 with hi | hi
  · obtain ⟨b, hb⟩ := hv i hi
    rw [hb]
    simp only [List.getElem?_map, hb, Option.map_some]
    unfold bv
    simp
  · rw [List.getElem?_eq_none (by omega), List.getElem?_eq_none (by simp; omega)]
set_option maxRecDepth 100000 in
theorem open_key9 (h : DataW.trod enc Tryz.prog w base spare held fuel 50 cs = some x) : ∃ (r : List UInt8) (k : Int), r.length = 32 ∧ R64 k ∧ cs = keyL r k := by
  obtain ⟨y0, y1, n, _, hl, h0, h1⟩ := trod_struct2 Tryz.underlying50 h
  rw [cells_key9] at hl
  have e0 : DataW.trod enc Tryz.prog w base spare held n 48 (cs.take 32) = some y0 := by
    have h := h0
    rw [cells_digest9] at h
    exact h
  have e1 : DataW.trod enc Tryz.prog w base spare held n 3 ((cs.drop 32).take 1) = some y1 := by
    have h := h1
    rw [cells_int9] at h
    exact h
  obtain ⟨r, hr, hc⟩ := open_digest9 e0
  obtain ⟨k, hk, _, hw⟩ := DataW.trod_int Tryz.underlying3 e1
  refine ⟨r, k, hr, i64_wf9 hw, ?_⟩
  have e : cs = cs.take 32 ++ cs.drop 32 := (List.take_append_drop 32 cs).symm
  have e2 : (cs.drop 32).take 1 = cs.drop 32 := List.take_of_length_le (by rw [List.length_drop, hl]; omega)
  rw [e, hc, ← e2, hk]
  rfl
set_option maxRecDepth 100000 in
theorem cut9 (l : List Value) (o q : Nat) : l.drop o = (l.drop o).take q ++ l.drop (o + q) := by rw [← List.drop_drop, List.take_append_drop]
set_option maxRecDepth 100000 in
theorem open_chg9 (h : DataW.trod enc Tryz.prog w base spare held fuel 52 cs = some x) : ∃ (k i n : Int) (r : List UInt8) (hh : Int), r.length = 32 ∧ R64 k ∧ R64 i ∧ R64 n ∧ R64 hh ∧ cs = chgL k i n r hh := by
  obtain ⟨xs, m, _, _, hl, hxl, hf⟩ := DataW.trod_struct Tryz.underlying52 h
  rw [cells_chg9] at hl
  match xs, hxl with
  | [y0, y1, y2, y3], _ =>
    have h0 : DataW.trod enc Tryz.prog w base spare held m 3 ((cs.drop 0).take (Tryz.prog.cellsOf 3)) = some y0 := hf 0 _ rfl
    have h1 : DataW.trod enc Tryz.prog w base spare held m 3 ((cs.drop 1).take (Tryz.prog.cellsOf 3)) = some y1 := hf 1 _ rfl
    have h2 : DataW.trod enc Tryz.prog w base spare held m 3 ((cs.drop 2).take (Tryz.prog.cellsOf 3)) = some y2 := hf 2 _ rfl
    have h3 : DataW.trod enc Tryz.prog w base spare held m 50 ((cs.drop 3).take (Tryz.prog.cellsOf 50)) = some y3 := hf 3 _ rfl
    rw [cells_int9] at h0 h1 h2
    rw [cells_key9] at h3
    obtain ⟨k, e0, _, w0⟩ := DataW.trod_int Tryz.underlying3 h0
    obtain ⟨i, e1, _, w1⟩ := DataW.trod_int Tryz.underlying3 h1
    obtain ⟨n, e2, _, w2⟩ := DataW.trod_int Tryz.underlying3 h2
    obtain ⟨r, hh, hr, hw, e3⟩ := open_key9 h3
    refine ⟨k, i, n, r, hh, hr, i64_wf9 w0, i64_wf9 w1, i64_wf9 w2, hw, ?_⟩
    have e : cs = cs.drop 0 := rfl
    rw [e, cut9 cs 0 1, e0, cut9 cs (0 + 1) 1, e1, cut9 cs (0 + 1 + 1) 1, e2, cut9 cs (0 + 1 + 1 + 1) 33, e3, List.drop_eq_nil_of_le (by omega)]
    simp [chgL]
set_option maxRecDepth 100000 in
theorem open_op9 (h : DataW.trod enc Tryz.prog w base spare held fuel 54 cs = some x) :
    ∃ (d : Int) (s1 s2 s3 : ByteArray) (k i n : Int) (r : List UInt8) (hh : Int), r.length = 32 ∧ R64 d ∧ R64 k ∧ R64 i ∧ R64 n ∧ R64 hh ∧ cs = .int .i64 d :: .string s1 :: .string s2 :: .string s3 :: chgL k i n r hh := by
  obtain ⟨xs, m, _, _, hl, hxl, hf⟩ := DataW.trod_struct Tryz.underlying54 h
  rw [cells_op9] at hl
  match xs, hxl with
  | [y0, y1, y2, y3, y4], _ =>
    have h0 : DataW.trod enc Tryz.prog w base spare held m 3 ((cs.drop 0).take (Tryz.prog.cellsOf 3)) = some y0 := hf 0 _ rfl
    have h1 : DataW.trod enc Tryz.prog w base spare held m 9 ((cs.drop 1).take (Tryz.prog.cellsOf 9)) = some y1 := hf 1 _ rfl
    have h2 : DataW.trod enc Tryz.prog w base spare held m 9 ((cs.drop 2).take (Tryz.prog.cellsOf 9)) = some y2 := hf 2 _ rfl
    have h3 : DataW.trod enc Tryz.prog w base spare held m 9 ((cs.drop 3).take (Tryz.prog.cellsOf 9)) = some y3 := hf 3 _ rfl
    have h4 : DataW.trod enc Tryz.prog w base spare held m 52 ((cs.drop 4).take (Tryz.prog.cellsOf 52)) = some y4 := hf 4 _ rfl
    rw [cells_int9] at h0
    rw [cells_string9] at h1 h2 h3
    rw [cells_chg9] at h4
    obtain ⟨d, e0, _, w0⟩ := DataW.trod_int Tryz.underlying3 h0
    obtain ⟨s1, e1, _, _⟩ := DataW.trod_string Tryz.underlying9 h1
    obtain ⟨s2, e2, _, _⟩ := DataW.trod_string Tryz.underlying9 h2
    obtain ⟨s3, e3, _, _⟩ := DataW.trod_string Tryz.underlying9 h3
    obtain ⟨k, i, n, r, hh, hr, k1, k2, k3, k4, e4⟩ := open_chg9 h4
    refine ⟨d, s1, s2, s3, k, i, n, r, hh, hr, i64_wf9 w0, k1, k2, k3, k4, ?_⟩
    have e : cs = cs.drop 0 := rfl
    rw [e, cut9 cs 0 1, e0, cut9 cs (0 + 1) 1, e1, cut9 cs (0 + 1 + 1) 1, e2, cut9 cs (0 + 1 + 1 + 1) 1, e3, cut9 cs (0 + 1 + 1 + 1 + 1) 36, e4, List.drop_eq_nil_of_le (by omega)]
    simp
set_option maxRecDepth 100000 in
theorem open_req9 (h : DataW.trod enc Tryz.prog w base spare held fuel 56 cs = some x) :
    ∃ y : ReqX, (R64 y.client ∧ R64 y.num ∧ R64 y.kind ∧ R64 y.ck ∧ R64 y.cid ∧ R64 y.cn ∧ R64 y.high) ∧ cs = y.cells := by
  obtain ⟨xs, m, _, _, hl, hxl, hf⟩ := DataW.trod_struct Tryz.underlying56 h
  rw [cells_req9] at hl
  match xs, hxl with
  | [y0, y1, y2], _ =>
    have h0 : DataW.trod enc Tryz.prog w base spare held m 3 ((cs.drop 0).take (Tryz.prog.cellsOf 3)) = some y0 := hf 0 _ rfl
    have h1 : DataW.trod enc Tryz.prog w base spare held m 3 ((cs.drop 1).take (Tryz.prog.cellsOf 3)) = some y1 := hf 1 _ rfl
    have h2 : DataW.trod enc Tryz.prog w base spare held m 54 ((cs.drop 2).take (Tryz.prog.cellsOf 54)) = some y2 := hf 2 _ rfl
    rw [cells_int9] at h0 h1
    rw [cells_op9] at h2
    obtain ⟨c, e0, _, w0⟩ := DataW.trod_int Tryz.underlying3 h0
    obtain ⟨u, e1, _, w1⟩ := DataW.trod_int Tryz.underlying3 h1
    obtain ⟨d, s1, s2, s3, k, i, n, r, hh, hr, k0, k1, k2, k3, k4, e2⟩ := open_op9 h2
    refine ⟨⟨c, u, d, s1, s2, s3, k, i, n, r, hh, hr⟩, ⟨i64_wf9 w0, i64_wf9 w1, k0, k1, k2, k3, k4⟩, ?_⟩
    have e : cs = cs.drop 0 := rfl
    rw [e, cut9 cs 0 1, e0, cut9 cs (0 + 1) 1, e1, cut9 cs (0 + 1 + 1) 40, e2, List.drop_eq_nil_of_le (by omega)]
    simp [ReqX.cells, opL]
set_option maxRecDepth 100000 in
theorem open_bytes9 (h : DataW.trod enc Tryz.prog w base spare held fuel 127 cs = some x) :
    ∃ (A : Option Addr) (l : List UInt8) (cap : Nat), cs = [.slice A l.length cap] ∧ l.length ≤ cap ∧ cap ≤ maxLen ∧ Sees w w.heap.size A (l.map bv) := by
  rcases open_ints Tryz.underlying127 Tryz.underlying5 cells_byte9 h with ⟨rfl, rfl⟩ | ⟨a, len, cap, zs, rfl, _, hl, hm, hz, _, hc, hw⟩
  · exact ⟨none, [], 0, rfl, Nat.le_refl _, by simp [maxLen], .inl rfl⟩
  · have hzl : len ≤ zs.length := by rw [hz]; split <;> omega
    have e : ((zs.take len).map fun n => UInt8.ofNat n.toNat).length = len := by simp; omega
    refine ⟨some a, (zs.take len).map fun n => UInt8.ofNat n.toNat, cap, by rw [e], by rw [e]; exact hl, hm, sees_of_addr9 fun j u hu => ?_⟩
    rw [List.map_map, List.getElem?_map, List.getElem?_take] at hu
    split at hu
    · rename_i hj
      have hjz : j < zs.length := by omega
      rw [List.getElem?_eq_getElem hjz, Option.map_some, Option.some.injEq] at hu
      rw [hc j hjz, ← hu]
      have hwj := hw zs[j] (List.getElem_mem hjz)
      simp [Lit.wf, IntKind.min, IntKind.max, IntKind.signed, IntKind.bits] at hwj
      simp only [Function.comp_apply, bv, List.getD, List.getElem?_eq_getElem hjz, Option.getD_some, UInt8.toNat_ofNat']
      congr 2
      omega
    · cases hu
set_option maxRecDepth 100000 in
theorem mem_weightsAll9 {H : Type} {P : Program} {e : TypeId} {l : List (DataW H)} {d : DataW H} (h : d ∈ l) {n : Nat} (hn : n ∈ d.weights P e) : n ∈ DataW.weightsAll P e l := by
  induction l with
  | nil => cases h
  | cons y r ih =>
    rcases List.mem_cons.1 h with rfl | h
    · simp [DataW.weightsAll, hn]
    · simp [DataW.weightsAll, ih h]
set_option maxRecDepth 100000 in
theorem open_strings9 (h : DataW.trod enc Tryz.prog w base spare held fuel 34 cs = some x) :
    ∃ (A : Option Addr) (ss : List ByteArray) (cap : Nat), cs = [.slice A ss.length cap] ∧ ss.length ≤ cap ∧ cap ≤ maxLen ∧ Sees w w.heap.size A (ss.map Value.string) ∧
      ∀ s ∈ ss, s.size ∈ x.1.weights Tryz.prog 34 := by
  rcases open_slice Tryz.underlying34 h with ⟨rfl, rfl⟩ | ⟨a, len, cap, m, n, D, Pl, rfl, hb, hl, hm, hmm, rfl, hi⟩
  · exact ⟨none, [], 0, rfl, Nat.le_refl _, by simp [maxLen], .inl rfl, fun p hp => by cases hp⟩
  · have hlm : len ≤ m := by rw [hmm]; split <;> omega
    have hex : ∀ i, i < len → ∃ s : ByteArray, w.cell? (a.add i) = some (.string s) ∧ s.size ∈ (D i).weights Tryz.prog 9 := by
      intro i hil
      obtain ⟨cs', hc, ht⟩ := hi i (by omega)
      rw [cells_string9, Nat.mul_one] at hc
      obtain ⟨_, hcl, hat⟩ := World.cells?_some hc
      obtain ⟨s, e2, x2, _⟩ := DataW.trod_string Tryz.underlying9 ht
      have h0 := hat 0 (by omega)
      subst e2
      refine ⟨s, ?_, ?_⟩
      · have e : (a.add i).add 0 = a.add i := by unfold Addr.add; split <;> simp_all
        rw [e] at h0
        exact h0
      · have : D i = .lit (.string s.data.toList) := by
          have := congrArg Prod.fst x2
          exact this
        rw [this]
        simp [DataW.weights]
    obtain ⟨F, hF⟩ : ∃ F : Nat → ByteArray, ∀ i, i < len → w.cell? (a.add i) = some (.string (F i)) ∧ (F i).size ∈ (D i).weights Tryz.prog 9 :=
      ⟨fun i => if hi : i < len then (hex i hi).choose else ByteArray.empty, fun i hi => by
        simp only [dif_pos hi]
        exact (hex i hi).choose_spec⟩
    refine ⟨some a, (List.range len).map F, cap, by simp, by simpa using hl, hm, sees_of_addr9 fun j u hu => ?_, fun s hs => ?_⟩
    · rw [List.getElem?_map, List.getElem?_map] at hu
      rcases Nat.lt_or_ge j len with hj | hj
      · rw [List.getElem?_range hj] at hu
        simp only [Option.map_some, Option.some.injEq] at hu
        rw [← hu]
        exact (hF j hj).1
      · rw [List.getElem?_eq_none (by simpa using hj)] at hu
        cases hu
    · obtain ⟨i, hi, rfl⟩ := List.mem_map.1 hs
      have hi' := List.mem_range.1 hi
      simp only [DataW.weights, Tryz.underlying34, List.mem_cons, List.mem_append]
      exact .inr (.inl (mem_weightsAll9 (List.mem_map.2 ⟨i, hi, rfl⟩) (hF i hi').2))
set_option maxRecDepth 100000 in
theorem open_reply9 (h : DataW.trod enc Tryz.prog w base spare held fuel 36 cs = some x) :
    ∃ (c n k : Int) (A : Option Addr) (vs : List ByteArray) (z : Nat), R64 c ∧ R64 n ∧ R64 k ∧ cs = [.int .i64 c, .int .i64 n, .int .i64 k, .slice A vs.length z] ∧ vs.length ≤ maxLen ∧ Sees w w.heap.size A (vs.map Value.string) ∧ ∀ s ∈ vs, s.size ∈ x.1.weights Tryz.prog 36 := by
  obtain ⟨xs, m, _, hx, hl, hxl, hf⟩ := DataW.trod_struct Tryz.underlying36 h
  rw [cells_rep9] at hl
  match xs, hxl with
  | [y0, y1, y2, y3], _ =>
    have h0 : DataW.trod enc Tryz.prog w base spare held m 3 ((cs.drop 0).take (Tryz.prog.cellsOf 3)) = some y0 := hf 0 _ rfl
    have h1 : DataW.trod enc Tryz.prog w base spare held m 3 ((cs.drop 1).take (Tryz.prog.cellsOf 3)) = some y1 := hf 1 _ rfl
    have h2 : DataW.trod enc Tryz.prog w base spare held m 33 ((cs.drop 2).take (Tryz.prog.cellsOf 33)) = some y2 := hf 2 _ rfl
    have h3 : DataW.trod enc Tryz.prog w base spare held m 34 ((cs.drop 3).take (Tryz.prog.cellsOf 34)) = some y3 := hf 3 _ rfl
    rw [cells_int9] at h0 h1
    rw [cells_errno9] at h2
    rw [cells_strings9] at h3
    obtain ⟨c, e0, _, w0⟩ := DataW.trod_int Tryz.underlying3 h0
    obtain ⟨n, e1, _, w1⟩ := DataW.trod_int Tryz.underlying3 h1
    obtain ⟨k, e2, _, w2⟩ := DataW.trod_int Tryz.underlying33 h2
    obtain ⟨A, vs, z, e3, hz1, hz2, hs, hwt⟩ := open_strings9 h3
    refine ⟨c, n, k, A, vs, z, i64_wf9 w0, i64_wf9 w1, i64_wf9 w2, ?_, Nat.le_trans hz1 hz2, hs, fun s hm => ?_⟩
    · have e : cs = cs.drop 0 := rfl
      rw [e, cut9 cs 0 1, e0, cut9 cs (0 + 1) 1, e1, cut9 cs (0 + 1 + 1) 1, e2, cut9 cs (0 + 1 + 1 + 1) 1, e3, List.drop_eq_nil_of_le (by omega)]
      simp
    · have h9 := hwt s hm
      subst hx
      simp [DataW.weights, DataW.weightsEach, Tryz.underlying36, h9]
end
end Go.Proofs.YtbgbidgggjkmmaaGreatDoor
