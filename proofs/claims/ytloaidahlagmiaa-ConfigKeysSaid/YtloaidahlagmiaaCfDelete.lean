/-
  slices.Clone and slices.DeleteFunc of members.
-/
import Derived.Test.YtloaidahlagmiaaCfOwn
namespace Go.Proofs.Ytloaidahlagmiaa
open Go.RowKit Go.Sort

attribute [local go_sem ↓] ldMem_def stMem_def eqMem_def bdMem_def bsMem_def clMem_def apAll_def

set_option maxRecDepth 100000 in
theorem clone_any (ms : List MemX) (A : Option Addr) (c : Nat) (hn : ms.length ≤ 1000) (w : World) (hS : Mems w w.heap.size A ms) :
    Calls Try.prog 31 #[.slice A ms.length c] w fun e w' => ∃ A' c', e = .returned (.slice A' ms.length c') ∧ OwnM w' w.heap.size (.slice A' ms.length c') ms ∧ Below w.heap.size w w' := by
  cases A with
  | none =>
    have hms : ms = [] := by
      rcases hS with h | ⟨g, o, h, _⟩
      · have hl := flatM_len ms
        rw [h, List.length_nil] at hl
        exact List.eq_nil_of_length_eq_zero (by omega)
      · cases h
    subst hms
    have hq : ∀ w, (binOp .eql 22 (.slice none 0 c) (.slice none 0 0)).run Try.prog w = .ok (.bool true) w := fun w => Lib.run_eql_slice_nil w _ 31 none 0 c 0 0 Try.underlying22
    go_enter Try.func31, Try.ntmps31
    go_wp2
    go_ret
    exact ⟨none, 0, rfl, own_nil _ _, Below.refl _ _⟩
  | some ad =>
    obtain ⟨w1, hw1⟩ : ∃ w1, w1 = w.alloc (.cells #[] 31) := ⟨_, rfl⟩
    have hF1 : Below w.heap.size w w1 := by
      rw [hw1]
      exact (Below.refl _ _).alloc (Nat.le_refl _) _
    have hb0 := build_mem0 w
    rw [← hw1] at hb0
    have ho1 : OwnM w1 w.heap.size (.slice (some ⟨w.heap.size, 0, none⟩) 0 0) [] := by
      rw [hw1]
      exact own_mem0 w (Nat.le_refl _)
    obtain ⟨v2, w2, hap, ho2, hg2⟩ := append_mems (n := 0) (ms := []) rfl ho1 (A := some ad) (m := ms.length) (c := c) (es := ms) rfl (hS.far hF1) (by omega) hF1.size
    obtain ⟨A2, c2, rfl⟩ := ho2.slice
    have HO : Hid (OwnM w2 w.heap.size (.slice A2 ms.length c2) ms) := Lib.hid ho2
    have HF : Hid (Below w.heap.size w w2) := Lib.hid (hF1.trans (below_own ho1 hg2 hF1.size))
    simp only [List.nil_append] at hap
    have hq : ∀ w, (binOp .eql 22 (.slice (some ad) ms.length c) (.slice none 0 0)).run Try.prog w = .ok (.bool false) w := fun w => Lib.run_eql_slice_nil w _ 31 (some ad) _ c 0 0 Try.underlying22
    clear hS hw1 hF1 ho1 ho2 hg2 hn
    go_enter Try.func31, Try.ntmps31
    go_wp2
    go_ret
    exact ⟨A2, c2, rfl, HO.out, HF.out⟩

/-- All but those of a number. -/
def dropId (i : Int) (ms : List MemX) : List MemX := ms.filter (fun m => !(m.id == i))
set_option maxRecDepth 100000 in
theorem dropId_take_all {ms : List MemX} {i : Int} {k : Nat} (h : ∀ j (hj : j < ms.length), j < k → (ms[j]'hj).id ≠ i) : dropId i (ms.take k) = ms.take k := by
  unfold dropId
  rw [List.filter_eq_self]
  intro m hm
  obtain ⟨j, hj, rfl⟩ := List.mem_iff_getElem.1 hm
  rw [List.getElem_take]
  rw [List.length_take] at hj
  have := h j (by omega) (by omega)
  simpa using this
set_option maxRecDepth 100000 in
theorem dropId_succ {ms : List MemX} {i : Int} {k : Nat} (hk : k < ms.length) : dropId i (ms.take (k + 1)) = if (ms[k]'hk).id = i then dropId i (ms.take k) else dropId i (ms.take k) ++ [ms[k]'hk] := by
  unfold dropId
  rw [List.take_succ_eq_append_getElem hk, List.filter_append]
  by_cases h : (ms[k]'hk).id = i
  · rw [if_pos h]
    simp [h]
  · rw [if_neg h]
    simp [h]
set_option maxRecDepth 100000 in
theorem dropId_le (i : Int) (ms : List MemX) : (dropId i ms).length ≤ ms.length := List.length_filter_le _ _

/-- What the loop of DeleteFunc carries: the row's members, those that stay ahead. -/
structure DelL (i : Int) (ms : List MemX) (q j : Nat) (L : List MemX) : Prop where
  len : L.length = ms.length
  qj : q < j
  jn : j ≤ ms.length
  keep : L.take q = dropId i (ms.take j)
  rest : L.drop j = ms.drop j
set_option maxRecDepth 100000 in
theorem DelL.start {i : Int} {ms : List MemX} (h : posN ms i < ms.length) : DelL i ms (posN ms i) (posN ms i + 1) ms := by
  refine ⟨rfl, by omega, by omega, ?_, rfl⟩
  rw [dropId_succ h, if_pos (posN_eq h)]
  exact (dropId_take_all (fun j hj hk => posN_ne hk hj)).symm
set_option maxRecDepth 100000 in
theorem DelL.at_ {i : Int} {ms L : List MemX} {q j : Nat} (h : DelL i ms q j L) (hj : j < ms.length) : L[j]'(by rw [h.len]; exact hj) = ms[j]'hj := by
  have h1 := congrArg (fun l : List MemX => l[0]?) h.rest
  simp only [List.getElem?_drop, Nat.add_zero] at h1
  rw [List.getElem?_eq_getElem (by rw [h.len]; exact hj), List.getElem?_eq_getElem hj] at h1
  injection h1
set_option maxRecDepth 100000 in
theorem DelL.gone {i : Int} {ms L : List MemX} {q j : Nat} (h : DelL i ms q j L) (hj : j < ms.length) (hx : (ms[j]'hj).id = i) : DelL i ms q (j + 1) L := by
  refine ⟨h.len, by have := h.qj; omega, by omega, ?_, ?_⟩
  · rw [dropId_succ hj, if_pos hx]
    exact h.keep
  · rw [← List.drop_drop, h.rest, List.drop_drop]
set_option maxRecDepth 100000 in
theorem DelL.stay {i : Int} {ms L : List MemX} {q j : Nat} (h : DelL i ms q j L) (hj : j < ms.length) (hx : (ms[j]'hj).id ≠ i) : DelL i ms (q + 1) (j + 1) (L.set q (ms[j]'hj)) := by
  have hq := h.qj
  have hl := h.len
  refine ⟨by rw [List.length_set, hl], by omega, by omega, ?_, ?_⟩
  · rw [dropId_succ hj, if_neg hx, ← h.keep, List.take_succ_eq_append_getElem (by rw [List.length_set]; omega), List.getElem_set_self, List.take_set_of_le (Nat.le_refl q)]
  · rw [List.drop_set_of_lt (by omega), ← List.drop_drop, h.rest, List.drop_drop]

set_option maxRecDepth 100000 in
set_option maxHeartbeats 4000000 in
theorem delete_any (ms : List MemX) (A : Option Addr) (c : Nat) (hn : ms.length ≤ 1000) (i : Int) (b base : Nat) (w : World) (hO : OwnM w base (.slice A ms.length c) ms) (hbs : base ≤ w.heap.size) (hbb : b < base) (hc : w.cell? ⟨b, 1, none⟩ = some (.int .i64 i)) :
    Calls Try.prog 32 #[.slice A ms.length c, .func (.func 33) #[] #[.pointer (some ⟨b, 0, none⟩)]] w fun e w' => ∃ A' c', e = .returned (.slice A' (dropId i ms).length c') ∧ OwnM w' base (.slice A' (dropId i ms).length c') (dropId i ms) ∧ Below base w w' := by
  have HX := Lib.hid (index_gone ms A c (Nat.le_trans hn (by simp [maxLen])) i b w hO.mems hc)
  have HN := Lib.hid hn
  by_cases h : posN ms i < ms.length
  case neg =>
    have HE : Hid (posI ms i = -1) := Lib.hid (by unfold posI; rw [if_neg h])
    have HD : Hid (dropId i ms = ms) := Lib.hid (by
      have := dropId_take_all (ms := ms) (i := i) (k := ms.length) (fun j hj hk => posN_ne (by have := posN_le ms i; omega) hj)
      rwa [List.take_length] at this)
    rw [HE.out] at HX
    have HO := Lib.hid hO
    have HBS := Lib.hid hbs
    clear hO hbs h hn hc hbb HE
    go_enter Try.func32, Try.ntmps32
    go_wp2_with (go_at_call 22; (with_reducible refine (HX.out).mono ?_); rintro e w2 ⟨rfl, hb2⟩; have HB2 := Lib.hid hb2; clear hb2)
    go_ret
    refine ⟨A, c, by rw [HD.out]; rfl, ?_, HB2.out.mono HBS.out⟩
    rw [HD.out]
    exact World.ownsRow.kept HO.out (only_below HB2.out none) (by cases (Value.slice A ms.length c).ownBlock <;> simp)
  have HE : Hid (posI ms i = ((posN ms i : Nat) : Int)) := Lib.hid (by unfold posI; rw [if_pos h])
  have HD0 := Lib.hid (DelL.start h)
  have HLT := Lib.hid h
  rw [HE.out] at HX
  obtain ⟨_, hcap, hmax, hsome⟩ := hO.bounds
  obtain ⟨g, rfl, hbg, hgw⟩ := hsome (by omega)
  have HCAP := Lib.hid hcap
  have HMAX : Hid (c ≤ 9223372036854775807) := Lib.hid (Nat.le_trans hmax (by simp [maxLen]))
  have HBG := Lib.hid hbg
  have HO := Lib.hid hO
  have HBS := Lib.hid hbs
  have HBB := Lib.hid hbb
  have HC := Lib.hid hc
  generalize posN ms i = k0 at *
  have hk0 : (0 : Int) ≤ (k0 : Int) := by omega
  have hk1 : (k0 : Int) ≤ 1000 := by omega
  have hneq : ((k0 : Int) == -1) = false := by rw [beq_eq_false_iff_ne]; omega
  clear hO hbs hbb h hn hc hcap hmax hsome hbg hgw HE
  go_enter Try.func32, Try.ntmps32
  go_wp2_with (go_at_call 22; (with_reducible refine (HX.out).mono ?_); rintro e w2 ⟨rfl, hb2⟩; have HB2 := Lib.hid hb2; clear hb2)
  clear HX hneq hk0 hk1
  go_loopw [5, 6] (fun iq ij wr => ∃ (q j : Nat) (L : List MemX), iq = .int .i64 (q : Int) ∧ ij = .int .i64 (j : Int) ∧ Hid (DelL i ms q j L) ∧ Hid (OwnM wr base (.slice (some ⟨g, 0, none⟩) ms.length c) L) ∧ Hid (Below base w wr)) (fun _ ij _ => ms.length - (intOf ij).toNat)
  case atStart => exact ⟨k0, k0 + 1, ms, rfl, by go_num, HD0, Lib.hid (World.ownsRow.kept HO.out (only_below HB2.out none) (by cases (Value.slice (some ⟨g, 0, none⟩) ms.length c).ownBlock <;> simp)), Lib.hid (HB2.out.mono HBS.out)⟩
  case round =>
    obtain ⟨q, j, L, rfl, rfl, HD, HW, HF⟩ := hrel
    have HN' := Lib.hid HN.out
    by_cases hlt : j < ms.length
    · have hLj : j < L.length := by rw [HD.out.len]; exact hlt
      obtain ⟨g', oo, eg, _, hr⟩ := HW.out.mems.range hLj
      injection eg with eg
      injection eg with e1 e2
      subst e1
      subst e2
      have lk := range_mem (hr j hLj)
      rw [HD.out.at_ hlt, Nat.zero_add] at lk
      obtain ⟨w3, hst0, hb3, hg3⟩ := laid_mem wr (ms[j]'hlt)
      have hst := hst0
      unfold zmemV at hst
      have l3 := hb3.ld_mem
      have HF3 : Hid (Below base w w3) := Lib.hid (HF.out.trans (hg3.mono (Nat.le_trans HBS.out HF.out.size)))
      have HW3 : Hid (OwnM w3 base (.slice (some ⟨g, 0, none⟩) ms.length c) L) := Lib.hid (World.ownsRow.kept HW.out (only_below hg3 none) (by cases (Value.slice (some ⟨g, 0, none⟩) ms.length c).ownBlock <;> simp))
      have HB3 := Lib.hid hb3
      have HK := Lib.hid (behind1_any (ms[j]'hlt) i b w3 ((HF3.out.cell (p := ⟨b, 1, none⟩) HBB.out).trans HC.out))
      have HLE := Lib.hid hlt
      have wk : IntKind.i64.wrap ((j : Int) + 1) = ((j + 1 : Nat) : Int) := by
        rw [IntKind.wrap_i64]
        have := HN.out
        omega
      have wq : IntKind.i64.wrap ((q : Int) + 1) = ((q + 1 : Nat) : Int) := by
        rw [IntKind.wrap_i64]
        have := HN.out
        have := HD.out.qj
        omega
      have i1 : (j : Int) < (ms.length : Int) := by omega
      have HQL : Hid (q < ms.length) := Lib.hid (by have := HD.out.qj; omega)
      have i2 : (q : Int) < (ms.length : Int) := by have := HQL.out; omega
      clear hr hst0 hb3 hg3
      by_cases hx : (ms[j]'hlt).id = i
      · have HD2 := Lib.hid (HD.out.gone hlt hx)
        have e1 : ((ms[j]'hlt).id == i) = true := by simpa using hx
        rw [e1] at HK
        generalize ms[j]'hlt = x at *
        clear hx e1 HD
        go_wp2_with ((with_reducible refine (HK.out).mono ?_); rintro e w4 ⟨rfl, hb4⟩; have HB4 := Lib.hid hb4; clear hb4)
        go_roundw
        case rel => exact ⟨q, j + 1, L, rfl, by go_num, HD2, Lib.hid (World.ownsRow.kept HW3.out (only_below HB4.out none) (by cases (Value.slice (some ⟨g, 0, none⟩) ms.length c).ownBlock <;> simp)), Lib.hid (HF3.out.trans (HB4.out.mono (Nat.le_trans HBS.out HF3.out.size)))⟩
        case measure => have := HLE.out; simp [intOf]; omega
      · have HD2 := Lib.hid (HD.out.stay hlt hx)
        have e1 : ((ms[j]'hlt).id == i) = false := by simpa using hx
        rw [e1] at HK
        have HQ3 : Hid (q < L.length) := Lib.hid (by have := HQL.out; rw [HD.out.len]; exact this)
        generalize ms[j]'hlt = x at *
        clear hx e1 HD
        go_upto_region 9 with ((with_reducible refine (HK.out).mono ?_); rintro e w4 ⟨rfl, hb4⟩; have HB4 := Lib.hid hb4; clear hb4)
        have l4 := (HB3.out.below HB4.out HB3.out.lt).ld_mem
        have hW4 : OwnM w4 base (.slice (some ⟨g, 0, none⟩) ms.length c) L := World.ownsRow.kept HW3.out (only_below HB4.out none) (by cases (Value.slice (some ⟨g, 0, none⟩) ms.length c).ownBlock <;> simp)
        obtain ⟨w5, hst5, hW5, hg5⟩ := hW4.put HQ3.out x
        have HW5 := Lib.hid hW5
        have HF4 := HF3.out.trans (HB4.out.mono (Nat.le_trans HBS.out HF3.out.size))
        have HF5 : Hid (Below base w w5) := Lib.hid (HF4.trans (below_only hg5 HBG.out (Nat.le_trans HBS.out HF4.size)))
        clear lk l3 hst hW4 hW5 hg5 HF4
        go_wp2
        go_roundw
        case rel => exact ⟨q + 1, j + 1, L.set q x, by go_num, by go_num, HD2, HW5, HF5⟩
        case measure => have := HLE.out; simp [intOf]; omega
    · have hj : j = ms.length := by have := HD.out.jn; omega
      have HKP : Hid (L.take q = dropId i ms) := Lib.hid (by
        have := HD.out.keep
        rw [hj, List.take_length] at this
        exact this)
      have hq : q < ms.length := by have := HD.out.qj; omega
      have hlen := HD.out.len
      have hqc : q < c := by have := HCAP.out; omega
      have hfr := mem_from (g := g) (n := ms.length) hqc (Nat.le_of_lt hq)
      have hup := mem_upto (g := g) (n := ms.length) (Nat.le_of_lt hqc)
      have HQL := Lib.hid hq
      obtain ⟨hbx, hcs⟩ : (∃ cur, Box wr g 31 cur ∧ cur.size = c * 34) ∧ True := by
        refine ⟨?_, trivial⟩
        rcases HW.out.2 with ⟨h1, _⟩ | ⟨g', cap, cur, h1, _, hb, _, _, hsz, _⟩
        · cases h1
        · injection h1 with e1 e2 e3
          injection e1 with e1
          injection e1 with e1
          subst e1
          subst e3
          exact ⟨cur, hb, hsz⟩
      obtain ⟨cur, hbx, hcs⟩ := hbx
      obtain ⟨vs, hvl, hcl⟩ := clear_mems wr 0 g (q * 34) (ms.length - q) (c - q) (by omega) hbx (by have := HCAP.out; omega)
      have hcut := HW.out.cut (i := q) (by omega) (vs := vs) (by have := HCAP.out; omega) rfl
      have HW5 := Lib.hid hcut.1
      have HF5 : Hid (Below base w (wr.setCells g (q * 34) vs)) := Lib.hid (HF.out.trans (below_only hcut.2 HBG.out (Nat.le_trans HBS.out HF.out.size)))
      have HLL : Hid ((dropId i ms).length = q) := Lib.hid (by rw [← HKP.out, List.length_take]; omega)
      generalize wr.setCells g (q * 34) vs = w6 at *
      have i1 : ¬ (j : Int) < (ms.length : Int) := by omega
      have i2 : (q : Int) ≤ (ms.length : Int) := by omega
      clear hbx hcs hvl hcut hj hq hlen hqc HD HW HF
      go_wp2
      go_ret
      refine ⟨some ⟨g, 0, none⟩, c, by rw [HLL.out]; rfl, ?_, HF5.out⟩
      rw [← HKP.out]
      have e : (L.take q).length = q := by rw [HKP.out, HLL.out]
      rw [e]
      exact HW5.out
end Go.Proofs.Ytloaidahlagmiaa
