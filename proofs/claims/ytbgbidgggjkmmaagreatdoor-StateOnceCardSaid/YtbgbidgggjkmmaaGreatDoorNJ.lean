/-
  strconv.Itoa and what it calls, as they lie in this program: told plainly for the library's contract.
  state.digits: strconv.Itoa, by the library's contract.
  For tied cards of state's laws that read the table of powers of ten: what the rows' list gives.
-/
import Derived.Shelf.Strconv.Itoa3
import Derived.Test.YtbgbidgggjkmmaaGreatDoorProg
import Derived.Test.YtbgbidgggjkmmaaGreatDoorStChange
import Derived.Test.YtbgbidgggjkmmaaGreatDoorND
import Derived.Lib.LaidTab
import Derived.Test.YtbgbidgggjkmmaaGreatDoorStTyKit
namespace Go.Proofs.YtbgbidgggjkmmaaGreatDoor
open Go.Shelf

def itoaRen : Go.Shelf.Ren := ⟨fun | 129 => 87 | 171 => 55 | 243 => 62 | 246 => 67 | 283 => 78 | 284 => 79 | 285 => 80 | 286 => 81 | 317 => 86 | 318 => 88 | 319 => 89 | 320 => 90 | 337 => 101 | 338 => 102 | n => n, fun | 0 => 0 | 2 => 2 | 3 => 3 | 4 => 4 | 5 => 5 | 9 => 9 | 20 => 20 | 37 => 127 | 46 => 90 | 51 => 137 | 53 => 124 | 171 => 123 | 173 => 128 | 212 => 136 | 213 => 138 | 232 => 47 | 233 => 153 | n => n, fun | 17 => 0 | 18 => 1 | 19 => 2 | n => n⟩
set_option maxRecDepth 100000 in
theorem itoaLay : Go.Proofs.LaysM.n171 Tryz.prog itoaRen where
  mixed := by kernel_rfl
  f129 := Tryz.func87.trans (congrArg some (by kernel_rfl))
  f171 := Tryz.func55.trans (congrArg some (by kernel_rfl))
  f243 := Tryz.func62.trans (congrArg some (by kernel_rfl))
  f246 := Tryz.func67.trans (congrArg some (by kernel_rfl))
  f283 := Tryz.func78.trans (congrArg some (by kernel_rfl))
  f284 := Tryz.func79.trans (congrArg some (by kernel_rfl))
  f285 := Tryz.func80.trans (congrArg some (by kernel_rfl))
  f286 := Tryz.func81.trans (congrArg some (by kernel_rfl))
  f317 := Tryz.func86.trans (congrArg some (by kernel_rfl))
  f318 := Tryz.func88.trans (congrArg some (by kernel_rfl))
  f319 := Tryz.func89.trans (congrArg some (by kernel_rfl))
  f320 := Tryz.func90.trans (congrArg some (by kernel_rfl))
  f337 := Tryz.func101.trans (congrArg some (by kernel_rfl))
  f338 := Tryz.func102.trans (congrArg some (by kernel_rfl))
  t0 := Tryz.underlying0
  a0 := fun _ => by kernel_rfl
  z0 := fun _ => by kernel_rfl
  v0 := fun _ => by kernel_rfl
  t2 := Tryz.underlying2
  a2 := fun _ => by kernel_rfl
  z2 := fun _ => by kernel_rfl
  v2 := fun _ => by kernel_rfl
  t3 := Tryz.underlying3
  a3 := fun _ => by kernel_rfl
  z3 := fun _ => by kernel_rfl
  v3 := fun _ => by kernel_rfl
  t4 := Tryz.underlying4
  a4 := fun _ => by kernel_rfl
  z4 := fun _ => by kernel_rfl
  v4 := fun _ => by kernel_rfl
  t5 := Tryz.underlying5
  a5 := fun _ => by kernel_rfl
  z5 := fun _ => by kernel_rfl
  v5 := fun _ => by kernel_rfl
  t9 := Tryz.underlying9
  a9 := fun _ => by kernel_rfl
  z9 := fun _ => by kernel_rfl
  v9 := fun _ => by kernel_rfl
  t20 := Tryz.underlying20
  a20 := fun _ => by kernel_rfl
  z20 := fun _ => by kernel_rfl
  v20 := fun _ => by kernel_rfl
  t37 := Tryz.underlying127
  a37 := fun _ => by kernel_rfl
  z37 := fun _ => by kernel_rfl
  v37 := fun _ => by kernel_rfl
  t46 := Tryz.underlying90
  a46 := fun _ => by kernel_rfl
  z46 := fun _ => by kernel_rfl
  v46 := fun _ => by kernel_rfl
  t51 := Tryz.underlying137
  a51 := fun _ => by kernel_rfl
  z51 := fun _ => by kernel_rfl
  v51 := fun _ => by kernel_rfl
  t53 := Tryz.underlying124
  a53 := fun _ => by kernel_rfl
  z53 := fun _ => by kernel_rfl
  v53 := fun _ => by kernel_rfl
  t171 := Tryz.underlying123
  a171 := fun _ => by kernel_rfl
  z171 := fun _ => by kernel_rfl
  v171 := fun _ => by kernel_rfl
  t173 := Tryz.underlying128
  a173 := fun _ => by kernel_rfl
  z173 := fun _ => by kernel_rfl
  v173 := fun _ => by kernel_rfl
  t212 := Tryz.underlying136
  a212 := fun _ => by kernel_rfl
  z212 := fun _ => by kernel_rfl
  v212 := fun _ => by kernel_rfl
  t213 := Tryz.underlying138
  a213 := fun _ => by kernel_rfl
  z213 := fun _ => by kernel_rfl
  t232 := Tryz.underlying47
  a232 := fun _ => by kernel_rfl
  z232 := fun _ => by kernel_rfl
  v232 := fun _ => by kernel_rfl
  t233 := Tryz.underlying153
  a233 := fun _ => by kernel_rfl
  z233 := fun _ => by kernel_rfl
  v233 := fun _ => by kernel_rfl
  g17 := by kernel_rfl
  g18 := by kernel_rfl
  g19 := by kernel_rfl
  i0 := by kernel_rfl
  i2 := by kernel_rfl
  i3 := by kernel_rfl
  i4 := by kernel_rfl
  i5 := by kernel_rfl
  i9 := by kernel_rfl
  i20 := by kernel_rfl
  i37 := by kernel_rfl
  i46 := by kernel_rfl
  i51 := by kernel_rfl
  i53 := by kernel_rfl
  i171 := by kernel_rfl
  i173 := by kernel_rfl
  i212 := by kernel_rfl
  i232 := by kernel_rfl
  i233 := by kernel_rfl
  m17 := by kernel_rfl
  m18 := by kernel_rfl
  m19 := by kernel_rfl
end Go.Proofs.YtbgbidgggjkmmaaGreatDoor

namespace Go.Proofs.YtbgbidgggjkmmaaGreatDoor
open Go.RowKit Go.Sort

/-- The table of powers of ten lies in memory as the program's text has it. -/
def Tab10 (w : World) : Prop := Lib.TabIs Tryz.prog w "internal/strconv.uint64pow10" .u64 Lib.pow10Tab
set_option maxRecDepth 100000 in
theorem Tab10.below {w w' : World} (h : Tab10 w) (hb : Below w.heap.size w w') : Tab10 w' := by
  unfold Tab10 Lib.TabIs World.var? at *
  have hg : Tryz.prog.globalNamed "internal/strconv.uint64pow10" = some 0 := by kernel_rfl
  rw [hg] at h ⊢
  simp only [Option.bind_some] at h ⊢
  have hlt : 0 < w.heap.size := by
    cases hc : w.heap[0]? with
    | none => rw [hc] at h; cases h
    | some o => exact (Array.getElem?_eq_some_iff.1 hc).1
  rw [hb.block _ hlt]
  exact h
set_option maxRecDepth 100000 in
theorem itoa_any10 (n : Int) (hn : R64 n) (w : World) (ht : Tab10 w) : Calls Tryz.prog 55 #[.int .i64 n] w fun e w' => e = .returned (.string ⟨(Lib.itoa n).toArray⟩) ∧ Below w.heap.size w w' :=
  (Any.strconv_Itoa itoaLay n hn.1 hn.2 w ht).mono fun e w' ⟨he, k, os, hw⟩ => ⟨he, by
    subst hw
    exact ⟨rfl, rfl, rfl, by show _ ≤ _; simp [grow, World.drewN], fun b hb => by
      show (grow (w.drewN k) os).heap[b]? = _
      simp [grow, World.drewN, hb, Array.getElem?_append_left]⟩⟩

attribute [local go_sem ↓] ldMem_def stMem_def bsT_def apAll_def ldCf_def

set_option maxRecDepth 100000 in
theorem digits_any (ep : Int) (ms : List MemX) (A : Option Addr) (c : Nat) (hn : ms.length ≤ 20) (hep : R64 ep) (hid : ∀ m ∈ ms, R64 m.id) (w : World) (ht : Tab10 w) (hS : MK.See w w.heap.size A ms) :
    Calls Tryz.prog 46 #[.agg (cfgV ep A ms.length c)] w fun e w' => ∃ (vs : List ByteArray) (A' : Option Addr) (z : Nat), e = .returned (.slice A' vs.length z) ∧ vs.length = ms.length + 1 ∧ SK.Own w' w.heap.size (.slice A' vs.length z) vs ∧ Below w.heap.size w w' := by
  obtain ⟨w1, hw1⟩ : ∃ w1, w1 = w.alloc (.cells (cfgV ep A ms.length c) 26) := ⟨_, rfl⟩
  have HX : Hid (Box w1 w.heap.size 26 (cfgV ep A ms.length c)) := by rw [hw1]; exact Box.made w _ _
  have HF : Hid (Below w.heap.size w w1) := by rw [hw1]; exact (Below.refl _ _).alloc (Nat.le_refl _) _
  have HS := Lib.hid (EK.See.far hS HF.out)
  have HT := Lib.hid (ht.below HF.out)
  have HN := Lib.hid hn
  have HID := Lib.hid hid
  have HIT := Lib.hid (itoa_any10 ep hep w1 HT.out)
  have c0 : w1.cell? ⟨w.heap.size, 0, none⟩ = some (.int .i64 ep) := HX.out.cell 0
  clear hS ht hn hid hep
  generalize (⟨(Lib.itoa ep).toArray⟩ : ByteArray) = t0 at *
  go_enter Tryz.func46, Tryz.ntmps46
  go_upto_region 1 with fail
  change Code.wp _ _ _ _ (w.alloc (.cells (cfgV ep A ms.length c) 26))
  rw [← hw1]
  clear hw1
  have hbs : ∀ w', (bsT 34 1 #[(0, .string t0)]).run Tryz.prog w' = .ok (.slice (some ⟨w'.heap.size, 0, none⟩) 1 1) (w'.alloc (.cells #[.string t0] 9)) := fun w' => SK.build1 t0 (.string t0) rfl (by decide) w'
  go_upto_region 2 with (go_at_call 55; (with_reducible refine (HIT.out).mono ?_); rintro e w2 ⟨rfl, hb2⟩; have HB2 := Lib.hid hb2; clear hb2)
  obtain ⟨w3, hw3⟩ : ∃ w3, w3 = w2.alloc (.cells #[.string t0] 9) := ⟨_, rfl⟩
  have hal : Below w2.heap.size w2 w3 := by rw [hw3]; exact (Below.refl _ _).alloc (Nat.le_refl _) _
  have HF3 : Hid (Below w1.heap.size w1 w3) := Lib.hid (HB2.out.trans (hal.mono HB2.out.size))
  have HO : Hid (SK.Own w3 w1.heap.size (.slice (some ⟨w2.heap.size, 0, none⟩) 1 1) [t0]) := Lib.hid (by
    rw [hw3]
    exact SK.own_lit w2 HB2.out.size [t0] (by simp [maxLen]))
  rw [← hw3]
  clear hw3 hal hbs c0 HIT
  generalize w2.heap.size = g2 at *
  have c1 : w3.cell? ⟨w.heap.size, 1, none⟩ = some (.slice A ms.length c) := (HX.out.below HF3.out HX.out.lt).cell 1
  go_wp2
  clear c1
  go_loopw [3, 13] (fun v i wr => ∃ (k : Nat) (vs : List ByteArray) (A' : Option Addr) (n' c' : Nat), k ≤ ms.length ∧ i = .int .i64 (k : Int) ∧ v = .slice A' n' c' ∧ Hid (n' = vs.length ∧ vs.length = k + 1 ∧ SK.Own wr w1.heap.size (.slice A' vs.length c') vs) ∧ Hid (Below w1.heap.size w1 wr)) (fun _ i _ => ms.length - (intOf i).toNat)
  case atStart => exact ⟨0, [t0], some ⟨g2, 0, none⟩, 1, 1, Nat.zero_le _, rfl, rfl, Lib.hid ⟨rfl, rfl, HO.out⟩, HF3⟩
  case round =>
    obtain ⟨k, vs, vA, vn, vc, hk, rfl, rfl, HV, HW⟩ := hrel
    by_cases hlt : k < ms.length
    · obtain ⟨g, o, hA, _, hr⟩ := EK.See.range (EK.See.far HS.out HW.out) hlt
      have lk : (ldMem (.pointer (some ⟨g, o + k * 34, none⟩))).run Tryz.prog wr = .ok (.agg (ms[k]'hlt).cells.toArray) wr := range_ldm (hr k hlt)
      rw [hA]
      obtain ⟨w5, hst0, hb5, hbl5⟩ := laid_mem wr (ms[k]'hlt)
      have hst : (stMem (.pointer (some ⟨wr.heap.size, 0, none⟩)) (.agg (ms[k]'hlt).cells.toArray)).run Tryz.prog (wr.alloc (.cells zmemV 74)) = .ok () w5 := hst0
      unfold zmemV at hst
      have c5 : w5.cell? ⟨wr.heap.size, 0, none⟩ = some (.int .i64 (ms[k]'hlt).id) := by
        rw [hb5.cell 0]
        rfl
      have HF5 := Lib.hid (HW.out.trans (hbl5.mono HW.out.size))
      have HV5 := Lib.hid (EK.Own.keep HV.out.2.2 hbl5)
      have HVL := Lib.hid (And.intro HV.out.1 HV.out.2.1)
      have HLT := Lib.hid hlt
      have HIT := Lib.hid (itoa_any10 (ms[k]'hlt).id (HID.out _ (List.getElem_mem hlt)) w5 (HT.out.below HF5.out))
      have i1 : (k : Int) < (ms.length : Int) := by omega
      have i0 : (0 : Int) ≤ (k : Int) := by omega
      have wk : IntKind.i64.wrap ((k : Int) + 1) = ((k + 1 : Nat) : Int) := by rw [IntKind.wrap_i64]; have := HN.out; omega
      generalize (⟨(Lib.itoa (ms[k]'hlt).id).toArray⟩ : ByteArray) = t1 at *
      generalize (ms[k]'hlt).id = mid at *
      generalize (ms[k]'hlt).cells.toArray = mcs at *
      clear hr hA hst0 hb5 hbl5 HV
      go_upto_region 5 with fail
      clear lk hst
      generalize wr.heap.size = m5 at *
      go_wp2_with (go_at_call 55; (with_reducible refine (HIT.out).mono ?_); rintro e w6 ⟨rfl, hb6⟩; have hbs : (bsT 34 1 #[(0, .string t1)]).run Tryz.prog w6 = .ok (.slice (some ⟨w6.heap.size, 0, none⟩) 1 1) (w6.alloc (.cells #[.string t1] 9)) := SK.build1 t1 (.string t1) rfl (by decide) w6; have hal : Below w6.heap.size w6 (w6.alloc (.cells #[.string t1] 9)) := (Below.refl _ _).alloc (Nat.le_refl _) _; have hF7 := (HF5.out.trans (hb6.mono HF5.out.size)).trans (hal.mono (Nat.le_trans HF5.out.size hb6.size)); have hO7 := EK.Own.keep (EK.Own.keep HV5.out hb6) hal; obtain ⟨v8, w8, hap0, ho8, hg8⟩ := SK.append hO7 (A := some ⟨w6.heap.size, 0, none⟩) (m := 1) (c := 1) (es := [t1]) rfl (SK.see_one w6 t1) (by have := HVL.out.2; have := HN.out; have := HLT.out; omega) (by have := HVL.out.2; have := HN.out; have := HLT.out; show (_ + 1) * 16 ≤ _; omega) hF7.size; obtain ⟨v8A, v8c, rfl⟩ := ho8.slice; have hap : (apAll #[34, 34] 34 #[.slice vA vn vc, .slice (some ⟨w6.heap.size, 0, none⟩) 1 1]).run Tryz.prog (w6.alloc (.cells #[.string t1] 9)) = .ok (.slice v8A (vs ++ [t1]).length v8c) w8 := (by rw [HVL.out.1]; exact hap0); have HO8 := Lib.hid ho8; have HF8 := Lib.hid (hF7.trans (below_own hO7 hg8 hF7.size)); clear hb6 hal hF7 hO7 hap0 ho8 hg8)
      go_roundw
      case rel => exact ⟨k + 1, vs ++ [t1], v8A, _, v8c, HLT.out, by go_num, rfl, Lib.hid ⟨by rw [List.length_append]; rfl, by rw [List.length_append, HVL.out.2]; rfl, HO8.out⟩, HF8⟩
      case measure => have := HLT.out; simp [intOf]; omega
    · have hke : k = ms.length := by omega
      have i1 : ¬ (k : Int) < (ms.length : Int) := by omega
      clear hlt hk
      go_wp2
      go_ret
      exact ⟨vs, vA, vc, by rw [← HV.out.1]; rfl, by rw [HV.out.2.1, hke], EK.Own.base HV.out.2.2 HF.out.size, HF.out.trans (HW.out.mono HF.out.size)⟩

set_option maxRecDepth 100000 in
theorem hop_all (x : ReqX) (hi : R64 x.cid) (hn : R64 x.cn) : HopFor x Tab10 := by
  intro hg s base b w ht hps hs hms hok h
  have hk : 1 ≤ x.kind ∧ x.kind ≤ 7 := by
    unfold reqGood at hg
    simp only [Bool.and_eq_true, decide_eq_true_eq] at hg
    omega
  by_cases h5 : x.kind ≤ 5
  · exact hop_five x (fun _ => h5) hg s base b w trivial hps hs hms hok h
  · by_cases h6 : x.kind = 6
    · exact oper_config s base b hps hs x h6 w h (fun w' hb => digits_any s.ep s.ms s.mA s.mc hms hok.1 hok.2 w' (ht.below hb) (EK.Own.see (h.call hb).own.ms))
    · exact oper_change s base b hps hs x (by omega) w h (fun w' ho => change_any s base b hms x.ck x.cid x.cn hi hn x.root x.len x.high w' ho)
end Go.Proofs.YtbgbidgggjkmmaaGreatDoor

namespace Go.Proofs.YtbgbidgggjkmmaaGreatDoor
open Go.ChangeShapes Go.WideShapes Go.ChangeAt Go.RowKit Go.Deep

set_option maxRecDepth 100000 in
theorem laid_tail10 {P : Program} {x : String × DataW Unit} {r : List (String × DataW Unit)} {w : World} (h : laidMet P (x :: r) w) : laidMet P r w := by
  obtain ⟨ps, ⟨g, t, cs, fuel, p, q, e1, e2, e3, e4, hr, rfl⟩, hnd, hrows⟩ := h
  exact ⟨q, hr, hnd.sublist (List.sublist_append_right _ _), fun b off hp => hrows b off (List.mem_append_right _ hp)⟩
set_option maxRecDepth 100000 in
theorem stPow10 : Tryz.prog.globalNamed "internal/strconv.uint64pow10" = some 0 := by kernel_rfl
set_option maxRecDepth 100000 in
theorem stPow10Type : (Tryz.prog.globals[0]?).map (·.type) = some 136 := by kernel_rfl
set_option maxRecDepth 100000 in
theorem stCells_words : Tryz.prog.cellsOf 136 = 20 := by kernel_rfl
set_option maxRecDepth 100000 in
theorem stCells_word : Tryz.prog.cellsOf 124 = 1 := by kernel_rfl
set_option maxRecDepth 100000 in
theorem pow10_eq : Lib.pow10Tab = pow10s := by decide +kernel
set_option maxRecDepth 100000 in
theorem stTable {W : World} (h : laidMetH Tryz.prog [("math/bits.deBruijn32tab", Rows.laid_math_bits_deBruijn32tab), ("math/bits.deBruijn64tab", Rows.laid_math_bits_deBruijn64tab), ("internal/strconv.uint64pow10", Rows.laid_internal_strconv_uint64pow10)] W) : Tab10 W := by
  have h1 : laidMet Tryz.prog [("math/bits.deBruijn32tab", Rows.laid_math_bits_deBruijn32tab), ("math/bits.deBruijn64tab", Rows.laid_math_bits_deBruijn64tab), ("internal/strconv.uint64pow10", Rows.laid_internal_strconv_uint64pow10)] W := h
  unfold Tab10
  rw [pow10_eq]
  exact Lib.tabIs_of_head (rest := []) stPow10 stPow10Type Tryz.underlying136 Tryz.underlying124 stCells_word stCells_words (laid_tail10 (laid_tail10 h1))
end Go.Proofs.YtbgbidgggjkmmaaGreatDoor
