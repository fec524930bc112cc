/-
  The law's own small parts: one member's state.
  More than is played?: wapentakelaw11.long.
  The document's Great at 4096. Written by gen_chgreat.py out of layer 10's text.
  How long a small state's bytes are.
  The chunks, one behind the other, are the bytes.
  The walk of ChunkParts (alive's contract as a hypothesis).
  What the law's alive asks, on plain lists: a state of one member, its bytes, its piece, read again.
  wapentakelaw11.alive.
  The walk of ChunkParts, whole.
-/
import Derived.Test.YtlogceoeodjeoaaDoorHH
import Derived.Test.YtlogceoeodjeoaaDoorHF
import Derived.Test.YtlogceoeodjeoaaDoorNG
namespace Go.Proofs.YtlogceoeodjeoaaDoor
open Go.RowKit

def oneM : MemX := ⟨1, zeros, 0, rfl⟩
def oneS : StX := ⟨[], [], 0, [oneM]⟩
set_option maxRecDepth 100000 in
theorem bd_one (w : World) : (bdMem #[(0, .int .i64 1)]).run Tryd.prog w = .ok (.agg oneM.cells.toArray) w := run_build w _ _ _ (by kernel_rfl)
set_option maxRecDepth 100000 in
theorem bd_cf1 (A : Option Addr) (n c : Nat) (w : World) : (Instr.build 35 #[(1, .slice A n c)]).run Tryd.prog w = .ok (.agg (cfgV 0 A n c)) w := run_build w _ _ _ (by kernel_rfl)
set_option maxRecDepth 100000 in
theorem bd_st1 (A : Option Addr) (n c : Nat) (w : World) : (Instr.build 37 #[(2, .agg (cfgV 0 A n c))]).run Tryd.prog w = .ok (.agg (stV none 0 0 none 0 0 0 A n c)) w := run_build w _ _ _ (by kernel_rfl)
def OneIs (w : World) (e : Ending) (w' : World) : Prop := ∃ m : StM, e = .returned (.agg m.cells) ∧ m.pl = oneS ∧ m.See w' w'.heap.size ∧ Below w.heap.size w w'
attribute [local go_sem ↓] ldSt_def stSt_def ldMem_def stMem_def bdMem_def bsT_def
set_option maxRecDepth 100000 in
set_option maxHeartbeats 2000000 in
theorem one_any (w : World) : Calls Tryd.prog 15 #[] w (OneIs w) := by
  obtain ⟨w1, hw1⟩ : ∃ w1, w1 = w.alloc (.cells (stV none 0 0 none 0 0 0 none 0 0) 37) := ⟨_, rfl⟩
  have HB1 : Hid (Box w1 w.heap.size 37 (stV none 0 0 none 0 0 0 none 0 0)) := by rw [hw1]; exact Box.made _ _ _
  have HF1 : Hid (Below w.heap.size w w1) := by rw [hw1]; exact (Below.refl _ _).alloc (Nat.le_refl _) _
  have hbm := fun w' => bd_one w'
  have hbs : (bsT 33 1 #[(0, .agg oneM.cells.toArray)]).run Tryd.prog w1 = .ok (.slice (some ⟨w1.heap.size, 0, none⟩) 1 1) (w1.alloc (.cells oneM.cells.toArray 85)) := MK.build1 oneM (.agg oneM.cells.toArray) rfl (by decide) w1
  have hbc := fun w' => bd_cf1 (some ⟨w1.heap.size, 0, none⟩) 1 1 w'
  have hbt := fun w' => bd_st1 (some ⟨w1.heap.size, 0, none⟩) 1 1 w'
  have hse : MK.See (w1.alloc (.cells oneM.cells.toArray 85)) (w1.alloc (.cells oneM.cells.toArray 85)).heap.size (some ⟨w1.heap.size, 0, none⟩) [oneM] := MK.see_one w1 oneM
  have HB2 := Lib.hid (HB1.out.alloc (.cells oneM.cells.toArray 85))
  have HF2 : Hid (Below w.heap.size w (w1.alloc (.cells oneM.cells.toArray 85))) := HF1.out.alloc HF1.out.size _
  obtain ⟨w3, hst, HB3, HG3⟩ : ∃ w3, (stSt (.pointer (some ⟨w.heap.size, 0, none⟩)) (.agg (stV none 0 0 none 0 0 0 (some ⟨w1.heap.size, 0, none⟩) 1 1))).run Tryd.prog (w1.alloc (.cells oneM.cells.toArray 85)) = .ok () w3 ∧ Hid (Box w3 w.heap.size 37 (stV none 0 0 none 0 0 0 (some ⟨w1.heap.size, 0, none⟩) 1 1)) ∧ Hid ((w1.alloc (.cells oneM.cells.toArray 85)).grownBy w3 (some w.heap.size)) := by
    obtain ⟨w3, h1, h2, h3⟩ := HB2.out.s_st rfl none 0 0 none 0 0 0 (some ⟨w1.heap.size, 0, none⟩) 1 1
    exact ⟨w3, h1, Lib.hid h2, Lib.hid h3⟩
  have HSE : Hid ((⟨[], none, 0, [], none, 0, 0, [oneM], some ⟨w1.heap.size, 0, none⟩, 1⟩ : StM).See w3 w3.heap.size) := Lib.hid (StM.See.off ⟨.inl rfl, .inl rfl, fun r hr => (by cases hr), hse⟩ HB2.out HG3.out)
  have HFF : Hid (Below w.heap.size w w3) := Lib.hid (HF2.out.trans (below_only HG3.out (Nat.le_refl _) HF2.out.size))
  clear hse
  go_enter Tryd.func15, Tryd.ntmps15
  go_upto_region 1 with fail
  change Code.wp _ _ _ _ (w.alloc (.cells (stV none 0 0 none 0 0 0 none 0 0) 37))
  rw [← hw1]
  clear hw1
  generalize oneM.cells.toArray = oc at *
  go_wp2
  refine bodyPost_ret (results_cell_row rfl _ w3 w.heap.size 37 _ (0, 0) _ rfl HB3.out Tryd.underlying37 rfl (by kernel_rfl)) rfl ?_
  exact ⟨⟨[], none, 0, [], none, 0, 0, [oneM], some ⟨w1.heap.size, 0, none⟩, 1⟩, rfl, rfl, HSE.out, HFF.out⟩
end Go.Proofs.YtlogceoeodjeoaaDoor

namespace Go.Proofs.YtlogceoeodjeoaaDoor
open Go.RowKit

def pcN (p : PcM) : Nat := 1 + p.x.data.size + 32 * p.x.path.length
def longN (L : List PcM) : Nat := (L.map pcN).sum
set_option maxRecDepth 100000 in
theorem longN_snoc (L : List PcM) (p : PcM) : longN (L ++ [p]) = longN L + pcN p := by unfold longN; rw [List.map_append, List.sum_append]; simp
set_option maxRecDepth 100000 in
theorem longN_le (L : List PcM) : L.length ≤ longN L ∧ totL L ≤ longN L := by
  induction L with
  | nil => exact ⟨Nat.le_refl _, Nat.le_refl _⟩
  | cons p L ih =>
    have e1 : longN (p :: L) = pcN p + longN L := by unfold longN; rw [List.map_cons, List.sum_cons]
    have e2 : totL (p :: L) = (datL p).length + totL L := by unfold totL; rw [List.map_cons, List.sum_cons]
    have e3 : (datL p).length = p.x.data.size := by unfold datL; exact Array.length_toList
    rw [e1, e2, e3, List.length_cons]
    unfold pcN
    omega
set_option maxRecDepth 100000 in
theorem longN_mem {L : List PcM} {p : PcM} (h : p ∈ L) : pcN p ≤ longN L := by
  induction L with
  | nil => cases h
  | cons q L ih =>
    have e1 : longN (q :: L) = pcN q + longN L := by unfold longN; rw [List.map_cons, List.sum_cons]
    rw [e1]
    rcases List.mem_cons.1 h with rfl | h
    · omega
    · have := ih h
      omega
set_option maxRecDepth 100000 in
theorem longN_take (L : List PcM) (k : Nat) : longN (L.take k) ≤ longN L := by
  have e : longN L = longN (L.take k) + longN (L.drop k) := by
    unfold longN
    rw [← List.sum_append, ← List.map_append, List.take_append_drop]
  omega
attribute [local go_sem ↓] ldPc_def stPc_def
set_option maxRecDepth 100000 in
set_option maxHeartbeats 4000000 in
theorem long_any (ps : List PcM) (A : Option Addr) (c : Nat) (hn : ps.length ≤ 140737488355328) (hok : ∀ p ∈ ps, p.x.data.size ≤ 140737488355328 ∧ p.x.path.length ≤ 140737488355328) (w : World) (hP : PcK.See w w.heap.size A ps) :
    Calls Tryd.prog 6 #[.slice A ps.length c] w fun e w' => e = .returned (.bool (decide (16384 < longN ps))) ∧ Below w.heap.size w w' := by
  have HP := Lib.hid hP
  have HOK := Lib.hid hok
  have HN := Lib.hid hn
  clear hP hok hn
  go_enter Tryd.func6, Tryd.ntmps6
  go_upto_region 3 with fail
  go_loopw [3, 8] (fun n i wr => ∃ k x : Nat, k ≤ ps.length ∧ n = .int .i64 (x : Int) ∧ i = .int .i64 (k : Int) ∧ Hid (x = longN (ps.take k) ∧ x ≤ 16384) ∧ Hid (Below w.heap.size w wr)) (fun _ i _ => ps.length - (intOf i).toNat)
  case atStart => exact ⟨0, 0, Nat.zero_le _, rfl, rfl, Lib.hid ⟨rfl, by omega⟩, Lib.hid (Below.refl _ _)⟩
  case round =>
    obtain ⟨k, x, hk, rfl, rfl, HX, HB⟩ := hrel
    by_cases hlt : k < ps.length
    · have HLT := Lib.hid hlt
      obtain ⟨g, o, hA, _, hr⟩ := EK.See.range (EK.See.far HP.out HB.out) hlt
      have lk : (ldPc (.pointer (some ⟨g, o + k * 36, none⟩))).run Tryd.prog wr = .ok (.agg (ps[k]'hlt).cells.toArray) wr := range_pc (hr k hlt)
      obtain ⟨w3, hst0, hb3, hbl3⟩ := laid_pc wr (ps[k]'hlt)
      have hst := hst0
      unfold zpcV at hst
      have HB3 := Lib.hid (HB.out.trans (hbl3.mono HB.out.size))
      have c34 := hb3.pc34
      have c35 := hb3.pc35
      have HTK : Hid (longN (ps.take (k + 1)) = longN (ps.take k) + pcN (ps[k]'hlt)) := Lib.hid (by rw [List.take_succ_eq_append_getElem hlt, longN_snoc])
      have hbd := HOK.out _ (List.getElem_mem hlt)
      rw [hA]
      have i1 : (k : Int) < (ps.length : Int) := by omega
      have i0 : (0 : Int) ≤ (k : Int) := by omega
      have wk : IntKind.i64.wrap ((k : Int) + 1) = ((k + 1 : Nat) : Int) := by rw [IntKind.wrap_i64]; have := HN.out; omega
      generalize ps[k]'hlt = m at *
      have HPN : Hid (pcN m = 1 + m.x.data.size + 32 * m.x.path.length) := Lib.hid rfl
      generalize hds : m.x.data.size = dn at *
      generalize hpl : m.x.path.length = pn at *
      have w1 : IntKind.i64.wrap (1 + (dn : Int)) = 1 + (dn : Int) := by rw [IntKind.wrap_i64]; omega
      have w2 : IntKind.i64.wrap (32 * (pn : Int)) = 32 * (pn : Int) := by rw [IntKind.wrap_i64]; omega
      have w4 : IntKind.i64.wrap (1 + (dn : Int) + 32 * (pn : Int)) = 1 + (dn : Int) + 32 * (pn : Int) := by rw [IntKind.wrap_i64]; omega
      have w5 : IntKind.i64.wrap ((x : Int) + (1 + (dn : Int) + 32 * (pn : Int))) = (x : Int) + (1 + (dn : Int) + 32 * (pn : Int)) := by rw [IntKind.wrap_i64]; have := HX.out; omega
      have HDS := Lib.hid hds
      by_cases hg : 16384 < x + pcN m
      · have g1 : (16384 : Int) < (x : Int) + (1 + (dn : Int) + 32 * (pn : Int)) := by have := HPN.out; omega
        have HR : Hid (decide (16384 < longN ps) = true) := Lib.hid (decide_eq_true (by have h1 := longN_take ps (k + 1); have := HTK.out; have := HX.out; omega))
        clear hr hst0 hb3 hbl3 hg hbd hpl
        go_wp2
        go_ret
        exact ⟨by rw [HR.out]; rfl, HB3.out⟩
      · have g1 : ¬ (16384 : Int) < (x : Int) + (1 + (dn : Int) + 32 * (pn : Int)) := by have := HPN.out; omega
        have HX2 : Hid (x + pcN m = longN (ps.take (k + 1)) ∧ x + pcN m ≤ 16384) := Lib.hid ⟨by rw [HTK.out, HX.out.1], by omega⟩
        clear hr hst0 hb3 hbl3 hg hbd hpl
        go_wp2
        go_roundw
        case rel => exact ⟨k + 1, x + pcN m, HLT.out, by rw [HPN.out]; go_num, by go_num, HX2, HB3⟩
        case measure => have := HLT.out; simp [intOf]; omega
    · have i1 : ¬ (k : Int) < (ps.length : Int) := by omega
      have HR : Hid (decide (16384 < longN ps) = false) := Lib.hid (decide_eq_false (by have h := HX.out; rw [List.take_of_length_le (by omega)] at h; omega))
      have hke : k = ps.length := by omega
      subst hke
      clear hk hlt
      go_wp2
      go_ret
      exact ⟨by rw [HR.out]; rfl, HB.out⟩
end Go.Proofs.YtlogceoeodjeoaaDoor

namespace Go.Proofs.YtlogceoeodjeoaaDoor
open Go.RowKit

attribute [local go_sem ↓] ldRp_def stRp_def ldSt_def stSt_def ldCf_def stCf_def ldPr_def stPr_def

def szP (L : List PairX) : Nat := (L.map (fun p => 1 + p.key.size + p.val.size)).sum
def szV (L : List ByteArray) : Nat := (L.map (fun v => 1 + v.size)).sum
def szR (L : List RepM) : Nat := (L.map (fun r => szV r.x.vals)).sum
set_option maxRecDepth 100000 in
theorem szP_snoc (L : List PairX) (p : PairX) : szP (L ++ [p]) = szP L + (1 + p.key.size + p.val.size) := by unfold szP; rw [List.map_append, List.sum_append]; simp
set_option maxRecDepth 100000 in
theorem szV_snoc (L : List ByteArray) (v : ByteArray) : szV (L ++ [v]) = szV L + (1 + v.size) := by unfold szV; rw [List.map_append, List.sum_append]; simp
set_option maxRecDepth 100000 in
theorem szR_snoc (L : List RepM) (r : RepM) : szR (L ++ [r]) = szR L + szV r.x.vals := by unfold szR; rw [List.map_append, List.sum_append]; simp
def GreatP11 (s : StM) (w : World) (e : Ending) (w' : World) : Prop := ∃ g : Bool, e = .returned (.bool g) ∧ (g = false → Small0 s ∧ szP s.ps + szR s.rs ≤ 4096) ∧ Below w.heap.size w w'
set_option maxRecDepth 100000 in
theorem GreatP11.yes {s : StM} {w w' : World} (h : Below w.heap.size w w') : GreatP11 s w (.returned (.bool true)) w' := ⟨true, rfl, fun h => (by cases h), h⟩

set_option maxRecDepth 100000 in
set_option maxHeartbeats 4000000 in
theorem great_any11 (s : StM) (hz : s.Sz) (w : World) (hS : s.See w w.heap.size) :
    Calls Tryd.prog 12 #[.agg s.cells, .int .i64 4096] w (GreatP11 s w) := by
  obtain ⟨w1, hw1⟩ : ∃ w1, w1 = w.alloc (.cells s.cells 37) := ⟨_, rfl⟩
  have HX : Hid (Box w1 w.heap.size 37 s.cells) := by rw [hw1]; exact Box.made w _ _
  have HF : Hid (Below w.heap.size w w1) := by rw [hw1]; exact (Below.refl _ _).alloc (Nat.le_refl _) _
  have HS := Lib.hid (hS.keep HF.out HF.out.size)
  have HZ := Lib.hid hz
  have HOK := Lib.hid hz.ok
  have c0 : w1.cell? ⟨w.heap.size, 0, none⟩ = some (.slice s.pA s.ps.length s.pc) := HX.out.cell 0
  have c1 : w1.cell? ⟨w.heap.size, 1, none⟩ = some (.slice s.rA s.rs.length s.rc) := HX.out.cell 1
  have c3 : w1.cell? ⟨w.heap.size, 3, none⟩ = some (.slice s.mA s.ms.length s.mc) := HX.out.cell 3
  have HC : Hid (∀ w', Below w1.heap.size w1 w' → w'.cell? ⟨w.heap.size, 1, none⟩ = some (.slice s.rA s.rs.length s.rc)) := Lib.hid (fun w' hb => (HX.out.below hb HX.out.lt).cell 1)
  clear hS hz HX
  by_cases h1 : 300 < s.ps.length
  · have e1 : decide ((300 : Int) < (s.ps.length : Int)) = true := decide_eq_true (by omega)
    have e2 : decide (300 < s.ps.length) = true := decide_eq_true h1
    have e3 : (300 : Int) < (s.ps.length : Int) := by omega
    go_enter Tryd.func12, Tryd.ntmps12
    go_upto_region 1 with fail
    change Code.wp _ _ _ _ (w.alloc (.cells s.cells 37))
    rw [← hw1]
    clear hw1
    go_wp2
    go_ret
    exact GreatP11.yes HF.out
  have e1 : decide ((300 : Int) < (s.ps.length : Int)) = false := decide_eq_false (by omega)
  have e1' : decide (300 < s.ps.length) = false := decide_eq_false h1
  have e1n : ¬ (300 : Int) < (s.ps.length : Int) := by omega
  have H1 : Hid (s.ps.length ≤ 300) := Lib.hid (by omega)
  clear h1
  by_cases h2 : 100 < s.rs.length
  · have e2 : decide ((100 : Int) < (s.rs.length : Int)) = true := decide_eq_true (by omega)
    have e2' : (100 : Int) < (s.rs.length : Int) := by omega
    go_enter Tryd.func12, Tryd.ntmps12
    go_upto_region 1 with fail
    change Code.wp _ _ _ _ (w.alloc (.cells s.cells 37))
    rw [← hw1]
    clear hw1
    go_wp2
    go_ret
    exact GreatP11.yes HF.out
  have e2 : decide ((100 : Int) < (s.rs.length : Int)) = false := decide_eq_false (by omega)
  have e2n : ¬ (100 : Int) < (s.rs.length : Int) := by omega
  have H2 : Hid (s.rs.length ≤ 100) := Lib.hid (by omega)
  clear h2
  by_cases h3 : 20 < s.ms.length
  · have e3 : decide ((20 : Int) < (s.ms.length : Int)) = true := decide_eq_true (by omega)
    have e3' : (20 : Int) < (s.ms.length : Int) := by omega
    go_enter Tryd.func12, Tryd.ntmps12
    go_upto_region 1 with fail
    change Code.wp _ _ _ _ (w.alloc (.cells s.cells 37))
    rw [← hw1]
    clear hw1
    go_wp2
    go_ret
    exact GreatP11.yes HF.out
  have e3 : decide ((20 : Int) < (s.ms.length : Int)) = false := decide_eq_false (by omega)
  have e3n : ¬ (20 : Int) < (s.ms.length : Int) := by omega
  have H3 : Hid (s.ms.length ≤ 20) := Lib.hid (by omega)
  clear h3
  go_enter Tryd.func12, Tryd.ntmps12
  go_upto_region 1 with fail
  change Code.wp _ _ _ _ (w.alloc (.cells s.cells 37))
  rw [← hw1]
  clear hw1
  go_wp2
  clear c0 c1 c3 e1 e1' e1n e2 e2n e3 e3n
  go_loopw [5, 32] (fun n i wr => ∃ k t : Nat, k ≤ s.ps.length ∧ i = .int .i64 (k : Int) ∧ n = .int .i64 (t : Int) ∧ Hid (t ≤ 4096 ∧ t = szP (s.ps.take k)) ∧ Hid (Below w1.heap.size w1 wr)) (fun _ i _ => s.ps.length - (intOf i).toNat)
  case atStart => exact ⟨0, 0, Nat.zero_le _, rfl, rfl, Lib.hid ⟨by omega, rfl⟩, Lib.hid (Below.refl _ _)⟩
  case round =>
    obtain ⟨k, t, hk, rfl, rfl, HT, HW⟩ := hrel
    by_cases hlt : k < s.ps.length
    · have HLT := Lib.hid hlt
      obtain ⟨g, o, hA, _, hr⟩ := EK.See.range (EK.See.far HS.out.ps HW.out) hlt
      have lk : (ldPr (.pointer (some ⟨g, o + k * 2, none⟩))).run Tryd.prog wr = .ok (.agg #[.string (s.ps[k]'hlt).key, .string (s.ps[k]'hlt).val]) wr := range_pr (hr k hlt)
      rw [hA]
      have HKV := Lib.hid (HZ.out.kv _ (List.getElem_mem hlt))
      have i1 : (k : Int) < (s.ps.length : Int) := by omega
      have i0 : (0 : Int) ≤ (k : Int) := by omega
      have wk : IntKind.i64.wrap ((k : Int) + 1) = ((k + 1 : Nat) : Int) := by rw [IntKind.wrap_i64]; have := H1.out; omega
      obtain ⟨w3, hst, hb3, hbl3, _⟩ := laid_pr wr #[.string ⟨#[]⟩, .string ⟨#[]⟩] rfl (s.ps[k]'hlt).key (s.ps[k]'hlt).val
      have d0 : w3.cell? ⟨wr.heap.size, 0, none⟩ = some (.string (s.ps[k]'hlt).key) := hb3.cell 0
      have d1 : w3.cell? ⟨wr.heap.size, 1, none⟩ = some (.string (s.ps[k]'hlt).val) := hb3.cell 1
      have HW3 := Lib.hid (HW.out.trans (hbl3.mono HW.out.size))
      have HSP : Hid (szP (s.ps.take (k + 1)) = szP (s.ps.take k) + (1 + (s.ps[k]'hlt).key.size + (s.ps[k]'hlt).val.size)) := Lib.hid (by rw [List.take_succ_eq_append_getElem hlt, szP_snoc])
      generalize (s.ps[k]'hlt).key = x at *
      generalize (s.ps[k]'hlt).val = y at *
      obtain ⟨q, hq⟩ : ∃ q : Nat, q = t + 1 + x.size + y.size := ⟨_, rfl⟩
      have a1 : IntKind.i64.wrap ((t : Int) + 1) = (t : Int) + 1 := by rw [IntKind.wrap_i64]; have := HT.out; omega
      have a2 : IntKind.i64.wrap ((t : Int) + 1 + (x.size : Int)) = (t : Int) + 1 + (x.size : Int) := by rw [IntKind.wrap_i64]; have := HT.out; have := HKV.out.1; omega
      have a3 : IntKind.i64.wrap ((t : Int) + 1 + (x.size : Int) + (y.size : Int)) = (q : Int) := by rw [IntKind.wrap_i64]; have := HT.out; have := HKV.out.1; have := HKV.out.2; omega
      have HQQ := Lib.hid hq
      clear hr hb3 hbl3 hq
      by_cases hb : 4096 < q
      · have e2 : decide ((4096 : Int) < (q : Int)) = true := decide_eq_true (by omega)
        have e2' : (4096 : Int) < (q : Int) := by omega
        go_wp2
        go_ret
        exact GreatP11.yes (HF.out.trans (HW3.out.mono HF.out.size))
      · have e2 : decide ((4096 : Int) < (q : Int)) = false := decide_eq_false (by omega)
        have e2' : ¬ (4096 : Int) < (q : Int) := by omega
        have HQ : Hid (q ≤ 4096 ∧ q = szP (s.ps.take (k + 1))) := Lib.hid ⟨by omega, by have h1 := HSP.out; have h2 := HQQ.out; have h3 := HT.out.2; omega⟩
        go_wp2
        go_roundw
        case rel => exact ⟨k + 1, q, HLT.out, by go_num, rfl, HQ, HW3⟩
        case measure => have := HLT.out; simp [intOf]; omega
    · have i1 : ¬ (k : Int) < (s.ps.length : Int) := by omega
      have c1 := HC.out wr HW.out
      have HTE : Hid (t ≤ 4096 ∧ t = szP s.ps + szR (s.rs.take 0)) := Lib.hid ⟨HT.out.1, by have h := HT.out.2; rw [List.take_of_length_le (by omega)] at h; rw [h]; rfl⟩
      clear hk
      go_wp2
      clear c1 i1 hlt
      go_loopw [5, 53] (fun n i wr => ∃ k t : Nat, k ≤ s.rs.length ∧ i = .int .i64 (k : Int) ∧ n = .int .i64 (t : Int) ∧ Hid (t ≤ 4096 ∧ t = szP s.ps + szR (s.rs.take k)) ∧ Hid (∀ j (hj : j < s.rs.length), j < k → (s.rs[j]'hj).x.vals.length ≤ 300) ∧ Hid (Below w1.heap.size w1 wr)) (fun _ i _ => s.rs.length - (intOf i).toNat)
      case atStart => exact ⟨0, t, Nat.zero_le _, rfl, rfl, HTE, Lib.hid (fun j _ h => absurd h (by omega)), HW⟩
      case round =>
        obtain ⟨k2, t2, hk2, rfl, rfl, HT2, HV, HW2⟩ := hrel
        by_cases hlt : k2 < s.rs.length
        · have HLT := Lib.hid hlt
          obtain ⟨g, o, hA, _, hr⟩ := EK.See.range (EK.See.far HS.out.rs HW2.out) hlt
          have lk : (ldRp (.pointer (some ⟨g, o + k2 * 4, none⟩))).run Tryd.prog wr = .ok (.agg (repv (s.rs[k2]'hlt).x.client (s.rs[k2]'hlt).x.num (s.rs[k2]'hlt).x.code (s.rs[k2]'hlt).A (s.rs[k2]'hlt).x.vals.length (s.rs[k2]'hlt).z)) wr := range_rp (hr k2 hlt)
          rw [hA]
          have HVS := Lib.hid (HZ.out.vs _ (List.getElem_mem hlt))
          have HSV : Hid (∀ w', Below w1.heap.size w1 w' → SK.See w' w'.heap.size (s.rs[k2]'hlt).A (s.rs[k2]'hlt).x.vals) := Lib.hid (fun w' hb => EK.See.far (HS.out.vals _ (List.getElem_mem hlt)) hb)
          have HNX : Hid ((s.rs[k2]'hlt).x.vals.length ≤ 300 → ∀ j (hj : j < s.rs.length), j < k2 + 1 → (s.rs[j]'hj).x.vals.length ≤ 300) := Lib.hid (fun h j hj hjk => by
            by_cases e : j = k2
            · subst e
              exact h
            · exact HV.out j hj (by omega))
          have i1 : (k2 : Int) < (s.rs.length : Int) := by omega
          have i0 : (0 : Int) ≤ (k2 : Int) := by omega
          have wk : IntKind.i64.wrap ((k2 : Int) + 1) = ((k2 + 1 : Nat) : Int) := by rw [IntKind.wrap_i64]; have := H2.out; omega
          obtain ⟨w3, hst, hb3, hbl3, _⟩ := laid_rp wr (repv 0 0 0 none 0 0) rfl (s.rs[k2]'hlt).x.client (s.rs[k2]'hlt).x.num (s.rs[k2]'hlt).x.code (s.rs[k2]'hlt).A (s.rs[k2]'hlt).x.vals.length (s.rs[k2]'hlt).z
          have HW3 := Lib.hid (HW2.out.trans (hbl3.mono HW2.out.size))
          have HSR : Hid (szR (s.rs.take (k2 + 1)) = szR (s.rs.take k2) + szV (s.rs[k2]'hlt).x.vals) := Lib.hid (by rw [List.take_succ_eq_append_getElem hlt, szR_snoc])
          generalize (s.rs[k2]'hlt).x.client = xc at *
          generalize (s.rs[k2]'hlt).x.num = xn at *
          generalize (s.rs[k2]'hlt).x.code = xk at *
          generalize (s.rs[k2]'hlt).x.vals = vs at *
          generalize (s.rs[k2]'hlt).A = xA at *
          generalize (s.rs[k2]'hlt).z = xz at *
          have d3 : w3.cell? ⟨wr.heap.size, 3, none⟩ = some (.slice xA vs.length xz) := hb3.cell 3
          clear hr hb3 hbl3 HV
          by_cases hv : 300 < vs.length
          · have e2 : decide ((300 : Int) < (vs.length : Int)) = true := decide_eq_true (by omega)
            have e2' : (300 : Int) < (vs.length : Int) := by omega
            clear HNX HSV
            go_wp2
            go_ret
            exact GreatP11.yes (HF.out.trans (HW3.out.mono HF.out.size))
          · have e2 : decide ((300 : Int) < (vs.length : Int)) = false := decide_eq_false (by omega)
            have e2' : ¬ (300 : Int) < (vs.length : Int) := by omega
            have HVN := Lib.hid (HNX.out (by omega))
            have HVL : Hid (vs.length ≤ 300) := Lib.hid (by omega)
            clear HNX hv
            go_wp2
            clear d3 e2 e2' hst lk
            go_loopw [5, 64] (fun n i wr' => ∃ j t : Nat, j ≤ vs.length ∧ i = .int .i64 (j : Int) ∧ n = .int .i64 (t : Int) ∧ Hid (t ≤ 4096 ∧ t = t2 + szV (vs.take j)) ∧ Hid (Below w1.heap.size w1 wr')) (fun _ i _ => vs.length - (intOf i).toNat)
            case atStart => exact ⟨0, t2, Nat.zero_le _, rfl, rfl, Lib.hid ⟨HT2.out.1, by show t2 = t2 + 0; omega⟩, HW3⟩
            case round =>
              obtain ⟨j, t3, hj, rfl, rfl, HT3, HW4⟩ := hrel
              by_cases hjl : j < vs.length
              · have HJL := Lib.hid hjl
                have hsv := HSV.out _ HW4.out
                unfold EK.See at hsv
                rw [SK_flat] at hsv
                obtain ⟨gv, ov, hAv, _, hcv⟩ := hsv.at_ (k := j) (by simpa using hjl)
                simp only [List.getElem_map] at hcv
                have HSZ := Lib.hid (HVS.out.2 _ (List.getElem_mem hjl))
                rw [hAv]
                have j1 : (j : Int) < (vs.length : Int) := by omega
                have j0 : (0 : Int) ≤ (j : Int) := by omega
                have wj : IntKind.i64.wrap ((j : Int) + 1) = ((j + 1 : Nat) : Int) := by rw [IntKind.wrap_i64]; have := HVL.out; omega
                have HSW : Hid (szV (vs.take (j + 1)) = szV (vs.take j) + (1 + vs[j].size)) := Lib.hid ((congrArg szV (List.take_succ_eq_append_getElem hjl)).trans (szV_snoc _ _))
                generalize vs[j] = y at *
                obtain ⟨q, hq⟩ : ∃ q : Nat, q = t3 + 1 + y.size := ⟨_, rfl⟩
                have a1 : IntKind.i64.wrap ((t3 : Int) + 1) = (t3 : Int) + 1 := by rw [IntKind.wrap_i64]; have := HT3.out; omega
                have a2 : IntKind.i64.wrap ((t3 : Int) + 1 + (y.size : Int)) = (q : Int) := by rw [IntKind.wrap_i64]; have := HT3.out; have := HSZ.out; omega
                have HQQ := Lib.hid hq
                clear hsv hq
                by_cases hb : 4096 < q
                · have e2 : decide ((4096 : Int) < (q : Int)) = true := decide_eq_true (by omega)
                  have e2' : (4096 : Int) < (q : Int) := by omega
                  go_wp2
                  go_ret
                  exact GreatP11.yes (HF.out.trans (HW4.out.mono HF.out.size))
                · have e2 : decide ((4096 : Int) < (q : Int)) = false := decide_eq_false (by omega)
                  have e2' : ¬ (4096 : Int) < (q : Int) := by omega
                  have HQ : Hid (q ≤ 4096 ∧ q = t2 + szV (vs.take (j + 1))) := Lib.hid ⟨by omega, by have h1 := HSW.out; have h2 := HQQ.out; have h3 := HT3.out.2; omega⟩
                  go_wp2
                  go_roundw
                  case rel => exact ⟨j + 1, q, HJL.out, by go_num, rfl, HQ, HW4⟩
                  case measure => have := HJL.out; simp [intOf]; omega
              · have j1 : ¬ (j : Int) < (vs.length : Int) := by omega
                have HT4 : Hid (t3 ≤ 4096 ∧ t3 = szP s.ps + szR (s.rs.take (k2 + 1))) := Lib.hid ⟨HT3.out.1, by have h := HT3.out.2; rw [List.take_of_length_le (by omega)] at h; have h1 := HSR.out; have h2 := HT2.out.2; omega⟩
                clear hj
                go_wp2
                go_roundw
                case rel => exact ⟨k2 + 1, t3, HLT.out, by go_num, rfl, HT4, HVN, HW4⟩
                case measure => have := HLT.out; simp [intOf]; omega
        · have i1 : ¬ (k2 : Int) < (s.rs.length : Int) := by omega
          have HVA : Hid (∀ r ∈ s.rs, r.x.vals.length ≤ 300) := Lib.hid (fun r hr => by
            obtain ⟨j, hj, rfl⟩ := List.mem_iff_getElem.1 hr
            exact HV.out j hj (by omega))
          have HFIN : Hid (szP s.ps + szR s.rs ≤ 4096) := Lib.hid (by have h := HT2.out.2; have h3 := HT2.out.1; rw [List.take_of_length_le (by omega)] at h; omega)
          clear HV hk2
          go_wp2
          go_ret
          exact ⟨false, rfl, fun _ => ⟨⟨H1.out, H2.out, H3.out, HVA.out, HOK.out⟩, HFIN.out⟩, HF.out.trans (HW2.out.mono HF.out.size)⟩
end Go.Proofs.YtlogceoeodjeoaaDoor

namespace Go.Proofs.YtlogceoeodjeoaaDoor
open Go.RowKit

set_option maxRecDepth 100000 in
theorem sum_le {α : Type} (f : α → List UInt8) (g : α → Nat) (c : Nat) : ∀ L : List α, (∀ x ∈ L, (f x).length ≤ c + g x) → (L.flatMap f).length ≤ L.length * c + (L.map g).sum
  | [], _ => Nat.zero_le _
  | x :: L, h => by
    have h1 := h x (by simp)
    have h2 := sum_le f g c L (fun y hy => h y (by simp [hy]))
    rw [List.flatMap_cons, List.length_append, List.length_cons, List.map_cons, List.sum_cons, Nat.succ_mul]
    omega
set_option maxRecDepth 100000 in
theorem texts_le (L : List ByteArray) : (L.flatMap textBytes).length ≤ L.length * 4 + szV L :=
  sum_le textBytes (fun v => 1 + v.size) 4 L (fun x _ => by rw [textBytes_len]; omega)
set_option maxRecDepth 100000 in
theorem pairs_le (L : List PairX) : (L.flatMap pairB).length ≤ L.length * 8 + szP L :=
  sum_le pairB (fun p => 1 + p.key.size + p.val.size) 8 L (fun x _ => by rw [pairB_len]; omega)
set_option maxRecDepth 100000 in
theorem mems_le (L : List MemX) : (L.flatMap memB).length ≤ L.length * 48 + (L.map (fun _ => 0)).sum :=
  sum_le memB (fun _ => 0) 48 L (fun x _ => by rw [memB_len]; omega)
set_option maxRecDepth 100000 in
theorem zeros_sum {α : Type} (L : List α) : (L.map (fun _ => 0)).sum = 0 := by
  induction L with
  | nil => rfl
  | cons x L ih => rw [List.map_cons, List.sum_cons, ih]
set_option maxRecDepth 100000 in
theorem reps_le (L : List RepM) (h : ∀ r ∈ L, r.x.vals.length ≤ 300) : (L.flatMap (fun r => repXB r.x)).length ≤ L.length * 1232 + szR L :=
  sum_le (fun r : RepM => repXB r.x) (fun r => szV r.x.vals) 1232 L (fun r hr => by
    have h1 := h r hr
    have h2 := texts_le r.x.vals
    show (repB _ _ _ _).length ≤ _
    unfold repB
    simp only [List.length_append, numBytes_len]
    omega)
set_option maxRecDepth 100000 in
/-- The bytes of a state that isn't great. -/
theorem stB_le {s : StM} (h : Small0 s) (hz : szP s.ps + szR s.rs ≤ 4096) : (stB s.pl).length ≤ 67108864 := by
  obtain ⟨h1, h2, h3, h4, _⟩ := h
  have e : stB s.pl = (((cfgB s.ep s.ms ++ [(s.ps.length : Int)].flatMap numBytes) ++ s.ps.flatMap pairB) ++ [((s.rs.map RepM.x).length : Int)].flatMap numBytes) ++ (s.rs.map RepM.x).flatMap repXB := rfl
  have e2 : (s.rs.map RepM.x).flatMap repXB = s.rs.flatMap (fun r => repXB r.x) := by rw [List.flatMap_map]
  have a1 := pairs_le s.ps
  have a2 := reps_le s.rs h4
  have a3 := mems_le s.ms
  rw [zeros_sum] at a3
  have a4 : (cfgB s.ep s.ms).length ≤ 16 + s.ms.length * 48 := by
    unfold cfgB
    rw [List.length_append, nums_len]
    simp only [List.length_cons, List.length_nil]
    omega
  rw [e, e2]
  simp only [List.length_append, nums_len, List.length_cons, List.length_nil]
  omega
end Go.Proofs.YtlogceoeodjeoaaDoor

namespace Go.Proofs.YtlogceoeodjeoaaDoor
open Go.RowKit

set_option maxRecDepth 100000 in
theorem chunks_cat (bs : List UInt8) : ∀ k, (List.range k).flatMap (chunkL bs) = bs.take (k * 256)
  | 0 => by simp
  | k + 1 => by
    rw [List.range_succ, List.flatMap_append, chunks_cat bs k, List.flatMap_cons, List.flatMap_nil, List.append_nil]
    unfold chunkL
    rw [Nat.succ_mul, List.take_add]
set_option maxRecDepth 100000 in
theorem chunks_all (bs : List UInt8) : (List.range (nCh bs)).flatMap (chunkL bs) = bs := by
  rw [chunks_cat, List.take_of_length_le (by unfold nCh; omega)]
set_option maxRecDepth 100000 in
theorem chunk_full {bs : List UInt8} {k : Nat} (h : k + 1 < nCh bs) : (chunkL bs k).length = 256 := by
  rw [chunk_len]
  have := nCh_lt h
  omega
set_option maxRecDepth 100000 in
theorem chunk_most (bs : List UInt8) (k : Nat) : (chunkL bs k).length ≤ 256 := by
  rw [chunk_len]
  omega
end Go.Proofs.YtlogceoeodjeoaaDoor

namespace Go.Proofs.YtlogceoeodjeoaaDoor
open Go.RowKit

def AliveIs : Prop := ∀ w : World, Roots w → Calls Tryd.prog 5 #[] w fun e w' => e = .returned (.bool true) ∧ Below w.heap.size w w'
attribute [local go_sem ↓] ldSt_def stSt_def ldPc_def stPc_def
set_option maxRecDepth 100000 in
set_option maxHeartbeats 4000000 in
theorem parts_walk (hal : AliveIs) (s : StM) (hz : s.Sz) (w : World) (hS : s.See w w.heap.size) (hR : Roots w) :
    Calls Tryd.prog 4 #[.agg s.cells] w fun e w' => e = .returned (.bool true) ∧ Below w.heap.size w w' := by
  obtain ⟨w1, hw1⟩ : ∃ w1, w1 = w.alloc (.cells s.cells 37) := ⟨_, rfl⟩
  have HB1 : Hid (Box w1 w.heap.size 37 s.cells) := by rw [hw1]; exact Box.made _ _ _
  have HF1 : Hid (Below w.heap.size w w1) := by rw [hw1]; exact (Below.refl _ _).alloc (Nat.le_refl _) _
  have HR := Lib.hid hR
  have HS := Lib.hid (hS.far HF1.out)
  have HZ := Lib.hid hz
  have HAL := Lib.hid (hal w1 (hR.of_below HF1.out))
  have HLS : Hid (∀ w', Below w1.heap.size w1 w' → (ldSt (.pointer (some ⟨w.heap.size, 0, none⟩))).run Tryd.prog w' = .ok (.agg s.cells) w') := Lib.hid (fun w' hb => (HB1.out.below hb HB1.out.lt).l_st)
  clear hal hS hR hz HB1
  go_enter Tryd.func4, Tryd.ntmps4
  go_upto_region 1 with fail
  change Code.wp _ _ _ _ (w.alloc (.cells s.cells 37))
  rw [← hw1]
  clear hw1
  go_upto_region 3 with (go_at_call 5; (with_reducible refine (HAL.out).mono ?_); rintro e w2 ⟨rfl, hb2⟩; have HB2 := Lib.hid hb2; have HG := Lib.hid (great_any11 s HZ.out w2 (HS.out.far hb2)); have ls2 := HLS.out w2 hb2; clear hb2)
  unfold GreatP11 at HG
  go_upto_region 4 with (go_at_call 12; (with_reducible refine (HG.out).mono ?_); rintro e w3 ⟨gb, rfl, hsm, hb3⟩; have HSM := Lib.hid hsm; have HB3 := Lib.hid (HB2.out.trans (hb3.mono HB2.out.size)); have ls3 := HLS.out w3 HB3.out; clear hsm hb3)
  · go_wp2
    go_ret
    exact ⟨rfl, HF1.out.trans (HB3.out.mono HF1.out.size)⟩
  have hgb : gb = false := by assumption
  obtain ⟨hsm, hsz⟩ := HSM.out hgb
  have HLE := Lib.hid (stB_le hsm hsz)
  have HPI := Lib.hid (pieces_any s w3 (HS.out.far HB3.out) HLE.out (HR.out.of_below (HF1.out.trans (HB3.out.mono HF1.out.size))))
  have HBY : Hid (∀ w', Below w1.heap.size w1 w' → Calls Tryd.prog 14 #[.agg s.cells] w' (BytesIs w' (stB s.pl))) := Lib.hid (fun w' hb => bytes_any11 s w' (HS.out.far hb) (by have := HLE.out; omega))
  have HPO := Lib.hid (nCh_pos (stB_pos s.pl))
  unfold PcsIs2 at HPI
  clear hsm hsz hgb HSM HG HAL ls2
  generalize stB s.pl = bs at *
  go_upto_region 8 with (go_at_call 13; (with_reducible refine (HPI.out).mono ?_); rintro e w4 ⟨G, ps, vs, hrt, rfl, hps, hv, hse, hb4⟩; have HPS := Lib.hid hps; have HSE := Lib.hid hse; have HB4 := Lib.hid (HB3.out.trans (hb4.mono HB3.out.size)); clear hps hv hse hb4)
  have HPN : Hid (ps.length = nCh bs) := Lib.hid (by rw [HPS.out, List.length_map, List.length_range])
  have HN : Hid (ps.length ≤ 1073741824) := Lib.hid (by rw [HPN.out]; have := nCh_le bs; have := HLE.out; omega)
  go_loopw [3, 15] (fun a0 i wr => ∃ (k : Nat) (a : ByteArray), k ≤ ps.length ∧ a0 = .string a ∧ i = .int .i64 (k : Int) ∧ Hid (a = ⟨(bs.take (k * 256)).toArray⟩) ∧ Hid (Below w4.heap.size w4 wr)) (fun _ i _ => ps.length - (intOf i).toNat)
  case atStart => exact ⟨0, _, Nat.zero_le _, rfl, rfl, Lib.hid (by simp), Lib.hid (Below.refl _ _)⟩
  case round =>
    obtain ⟨k, a, hk, rfl, rfl, HA, HB⟩ := hrel
    by_cases hlt : k < ps.length
    · have HLT := Lib.hid hlt
      obtain ⟨g, o, hA, _, hr⟩ := EK.See.range (EK.See.far HSE.out HB.out) hlt
      injection hA with hA
      injection hA with hA1 hA2
      subst hA1
      subst hA2
      have lk : (ldPc (.pointer (some ⟨G, 0 + k * 36, none⟩))).run Tryd.prog wr = .ok (.agg (ps[k]'hlt).cells.toArray) wr := range_pc (hr k hlt)
      rw [Nat.zero_add] at lk
      obtain ⟨w5, hst0, hb5, hbl5⟩ := laid_pc wr (ps[k]'hlt)
      have hst := hst0
      unfold zpcV at hst
      have HB5 := Lib.hid (HB.out.trans (hbl5.mono HB.out.size))
      have hpk : ps[k]'hlt = pieceM bs (rootT (leafL bs)) hrt vs k := by
        have h := HPS.out
        subst h
        simp
      have c0 := hb5.pc0
      have c1 := hb5.pc1
      have c34 := hb5.pc34
      have p0 : (ps[k]'hlt).x.pos = (k : Int) := by rw [hpk]; rfl
      have p1 : (ps[k]'hlt).x.cnt = (ps.length : Int) := by rw [hpk, HPN.out]; rfl
      have HPD : Hid ((ps[k]'hlt).x.data = ⟨(chunkL bs k).toArray⟩) := Lib.hid (by rw [hpk]; rfl)
      rw [p0] at c0
      rw [p1] at c1
      clear p0 p1 hpk
      generalize ps[k]'hlt = m at *
      generalize m.x.data = db at *
      have HDZ : Hid (db.size = (chunkL bs k).length) := Lib.hid (by rw [HPD.out]; show (chunkL bs k).toArray.size = _; simp)
      have HAD : Hid (a ++ db = ⟨(bs.take ((k + 1) * 256)).toArray⟩) := Lib.hid (by
        rw [HA.out, HPD.out]
        apply ByteArray.ext
        rw [ByteArray.data_append]
        show (bs.take (k * 256)).toArray ++ (chunkL bs k).toArray = _
        unfold chunkL
        rw [Nat.succ_mul, List.take_add]
        simp)
      have i1 : (k : Int) < (ps.length : Int) := by omega
      have i0 : (0 : Int) ≤ (k : Int) := by omega
      have wk : IntKind.i64.wrap ((k : Int) + 1) = (k : Int) + 1 := by rw [IntKind.wrap_i64]; have := HN.out; omega
      have hsz : ¬ (a.size + db.size > 9223372036854775807) := by
        have h1 : a.size ≤ bs.length := by rw [HA.out]; show (bs.take (k * 256)).toArray.size ≤ _; simp; omega
        have h2 := chunk_most bs k
        have h3 := HDZ.out
        have h4 := HLE.out
        omega
      by_cases hl : k + 1 < ps.length
      · have j1 : (k : Int) + 1 < (ps.length : Int) := by omega
        have hd : db.size = 256 := by rw [HDZ.out]; exact chunk_full (by rw [← HPN.out]; exact hl)
        clear hr hst0 hb5 hbl5 hl hlt
        go_wp2
        go_roundw
        case rel => exact ⟨k + 1, _, HLT.out, rfl, by go_num, HAD, HB5⟩
        case measure => have := HLT.out; simp [intOf]; omega
      · have j1 : ¬ (k : Int) + 1 < (ps.length : Int) := by omega
        have hd : ¬ (256 : Int) < (db.size : Int) := by have h2 := chunk_most bs k; have h3 := HDZ.out; omega
        clear hr hst0 hb5 hbl5 hl hlt
        go_wp2
        go_roundw
        case rel => exact ⟨k + 1, _, HLT.out, rfl, by go_num, HAD, HB5⟩
        case measure => have := HLT.out; simp [intOf]; omega
    · have i1 : ¬ (k : Int) < (ps.length : Int) := by omega
      have hke : k = ps.length := by omega
      subst hke
      have HAE : Hid (a = ⟨bs.toArray⟩) := Lib.hid (by
        rw [HA.out, List.take_of_length_le (by rw [HPN.out]; unfold nCh; omega)])
      have HB6 := Lib.hid (HB4.out.trans (HB.out.mono HB4.out.size))
      have HBC := Lib.hid (HBY.out wr HB6.out)
      have ls6 := HLS.out wr HB6.out
      have g1 : 0 < ps.length := by have := HPO.out; have := HPN.out; omega
      have hae := HAE.out
      unfold BytesIs at HBC
      clear hk hlt HA HAE
      go_wp2_with (go_at_call 14; (with_reducible refine (HBC.out).mono ?_); rintro e w6 ⟨A6, c6, rfl, hlc, hcm, hse6, hb6⟩; have hcv : (convert 46 9 (.slice A6 bs.length c6)).run Tryd.prog w6 = .ok (.string ⟨bs.toArray⟩) w6 := convert_sees (P := Tryd.prog) 46 5 9 Tryd.underlying46 Tryd.underlying5 Tryd.underlying9 hse6 _; have HB7 := Lib.hid (HB6.out.trans (hb6.mono HB6.out.size)); clear hlc hcm hse6 hb6)
      go_ret
      exact ⟨rfl, HF1.out.trans (HB7.out.mono HF1.out.size)⟩
end Go.Proofs.YtlogceoeodjeoaaDoor

namespace Go.Proofs.YtlogceoeodjeoaaDoor
open Go.RowKit

set_option maxRecDepth 100000 in
theorem one_len : (stB oneS).length = 80 := by decide +kernel
set_option maxRecDepth 100000 in
theorem one_ch : nCh (stB oneS) = 1 := by unfold nCh; rw [one_len]
set_option maxRecDepth 100000 in
theorem one_crF : crF (stB oneS) false = (List.replicate 16 0, false) := by decide +kernel
set_option maxRecDepth 100000 in
theorem one_ms : (crMs (stB oneS) false).length = 1 := by decide +kernel
set_option maxRecDepth 100000 in
theorem one_in0 : inV 0 256 (List.replicate 16 0) false = (0, List.replicate 8 0, false) := by decide +kernel
set_option maxRecDepth 100000 in
theorem one_in1 : inV 0 64 (List.replicate 8 0) false = (0, [], false) := by decide +kernel
set_option maxRecDepth 100000 in
theorem one_ok {F : List UInt8 × Bool} {P Q : Nat} {g0 g1 : Int × List UInt8 × Bool} {S : Nat → List UInt8 × Bool} {T : Nat → List PairX} {S2 : Nat → List UInt8 × Bool} {T2 : Nat → List RepX} (hf : SfFacts (stB oneS) F P Q g0 g1 S T S2 T2) : StOk P Q T S2 T2 := by
  have h1 := hf.cfg
  rw [one_crF] at h1
  have h2 := hf.e0
  rw [h1, one_in0] at h2
  have h3 := hf.n0
  rw [← h2] at h3
  have hP : P = 0 := by simpa using h3.symm
  subst hP
  have h4 := hf.s0
  rw [← h2] at h4
  have h5 := hf.e1
  rw [h4, one_in1] at h5
  have h6 := hf.n1
  rw [← h5] at h6
  have hQ : Q = 0 := by simpa using h6.symm
  subst hQ
  have h7 := hf.s02
  rw [← h5] at h7
  unfold StOk
  rw [h7, hf.t0, hf.t02]
  refine ⟨rfl, ?_, ?_⟩
  · exact List.Pairwise.nil
  · exact List.Pairwise.nil
set_option maxRecDepth 100000 in
theorem root_one (d : List UInt8) : rootT [d] = d := by
  unfold rootT
  rw [top_one pT _ (by simp)]
  rfl
set_option maxRecDepth 100000 in
theorem check_one (d : List UInt8) : checkT d d 0 1 [] = true := by
  unfold checkT
  rw [decide_eq_true_iff]
  simp [ends]
set_option maxRecDepth 100000 in
theorem one_leaf : leafL (stB oneS) = [shaOf (0 :: chunkL (stB oneS) 0)] := by
  unfold leafL
  rw [one_ch]
  rfl
set_option maxRecDepth 100000 in
theorem one_chunk : chunkL (stB oneS) 0 = stB oneS := by
  unfold chunkL
  rw [List.take_of_length_le (by rw [List.length_drop, one_len]; omega)]
  rfl
/-- The one piece of it. -/
def oneP (hrt : (rootT (leafL (stB oneS))).length = 32) : PcM := pieceM (stB oneS) (rootT (leafL (stB oneS))) hrt [nilP] 0
set_option maxRecDepth 100000 in
theorem one_pc (hrt : (rootT (leafL (stB oneS))).length = 32) : pcB (stD 1 (rootT (leafL (stB oneS)))) (oneP hrt).x = true := by
  have e0 : (oneP hrt).x.cnt = 1 := by
    show (nCh (stB oneS) : Int) = 1
    rw [one_ch]
    rfl
  have e1 : (oneP hrt).x.tree = rootT (leafL (stB oneS)) := rfl
  have e2 : (oneP hrt).x.pos = 0 := rfl
  have e3 : (oneP hrt).x.path = [] := rfl
  have e4 : (oneP hrt).x.data.data.toList = chunkL (stB oneS) 0 := by
    show (chunkL (stB oneS) 0).toArray.toList = _
    simp
  have e5 : rootT (leafL (stB oneS)) = shaOf (0 :: chunkL (stB oneS) 0) := by rw [one_leaf, root_one]
  unfold pcB pinB
  rw [e0, e1, e2, e3, e4, e5]
  simp only [decide_true, Bool.true_and]
  exact check_one _
set_option maxRecDepth 100000 in
theorem one_cnt (hrt : (rootT (leafL (stB oneS))).length = 32) : cntF (stD 1 (rootT (leafL (stB oneS)))) [oneP hrt] = 1 := by
  have h := cntF_snoc (stD 1 (rootT (leafL (stB oneS)))) [] (oneP hrt)
  rw [List.nil_append] at h
  rw [h, one_pc hrt, if_pos rfl]
  show (nCh (stB oneS) : Int) = 1
  rw [one_ch]
  rfl
set_option maxRecDepth 100000 in
theorem one_last (hrt : (rootT (leafL (stB oneS))).length = 32) : lastM (stD 1 (rootT (leafL (stB oneS)))) [oneP hrt] 0 = some (oneP hrt) := by
  have h := lastM_snoc (stD 1 (rootT (leafL (stB oneS)))) (oneP hrt) 0 []
  rw [List.nil_append] at h
  have e2 : (oneP hrt).x.pos = 0 := rfl
  rw [h, one_pc hrt, e2]
  rfl
set_option maxRecDepth 100000 in
theorem one_cat (hrt : (rootT (leafL (stB oneS))).length = 32) : catF (stD 1 (rootT (leafL (stB oneS)))) [oneP hrt] 1 = stB oneS := by
  have e : lastM (stD 1 (rootT (leafL (stB oneS)))) [oneP hrt] ((0 : Nat) : Int) = some (oneP hrt) := one_last hrt
  rw [catF_succ, catF_zero, List.nil_append]
  unfold datF
  rw [e]
  show (chunkL (stB oneS) 0).toArray.toList = _
  rw [one_chunk]
set_option maxRecDepth 100000 in
theorem one_join (hrt : (rootT (leafL (stB oneS))).length = 32) : JnOk (stD 1 (rootT (leafL (stB oneS)))) [oneP hrt] := by
  unfold JnOk
  rw [one_cnt hrt]
  refine ⟨by decide, fun i hi => ?_⟩
  have hi0 : i = 0 := by
    have : i < 1 := hi
    omega
  subst hi0
  unfold hasF
  have e : lastM (stD 1 (rootT (leafL (stB oneS)))) [oneP hrt] ((0 : Nat) : Int) = some (oneP hrt) := one_last hrt
  rw [e]
  rfl
end Go.Proofs.YtlogceoeodjeoaaDoor

namespace Go.Proofs.YtlogceoeodjeoaaDoor
open Go.RowKit

set_option maxRecDepth 100000 in
theorem join_one (hrt : (rootT (leafL (stB oneS))).length = 32) (G : Nat) (w : World) (hS : PcK.See w w.heap.size (some ⟨G, 0, none⟩) [oneP hrt]) (hR : Roots w) :
    Calls Tryd.prog 9 #[.agg ((stD 1 (rootT (leafL (stB oneS)))).map bv).toArray, .slice (some ⟨G, 0, none⟩) 1 1] w fun e w' => ∃ m : StM, e = .returned (.tuple #[.agg m.cells, .int .i64 0]) ∧ m.ms.length = 1 ∧ Below w.heap.size w w' := by
  have hc : catF (stD 1 (rootT (leafL (stB oneS)))) [oneP hrt] (cntF (stD 1 (rootT (leafL (stB oneS)))) [oneP hrt]).toNat = stB oneS := by
    rw [one_cnt hrt]
    exact one_cat hrt
  obtain ⟨F, P, Q, g0, g1, S, T, S2, T2, hf⟩ := sf_facts (stB oneS)
  have hok := one_ok hf
  have hd : (oneP hrt).x.data.size = 80 := by
    show (chunkL (stB oneS) 0).toArray.size = 80
    rw [one_chunk, List.size_toArray, one_len]
  have hcn : (oneP hrt).x.cnt = 1 := by
    show (nCh (stB oneS) : Int) = 1
    rw [one_ch]
    rfl
  have hpo : PcOk (oneP hrt) := ⟨by show R64 0; unfold R64; omega, by rw [hcn]; unfold R64; omega, by rw [hd]; omega, Nat.zero_le _⟩
  have ht : totL [oneP hrt] ≤ 1073741824 := by
    unfold totL datL
    simp only [List.map_cons, List.map_nil, List.sum_cons, List.sum_nil]
    have : (oneP hrt).x.data.data.toList.length = 80 := by rw [Array.length_toList]; exact hd
    omega
  have hsee : PcsSee w w.heap.size (some ⟨G, 0, none⟩) [oneP hrt] := ⟨hS, fun p hp => by
    obtain rfl := List.mem_singleton.1 hp
    exact Digs.empty _ _ _⟩
  have h := pjoin_any (stD 1 (rootT (leafL (stB oneS)))) (stD_len _ _) [oneP hrt] (some ⟨G, 0, none⟩) 1 (by simp) ht w hsee (fun p hp => by
    obtain rfl := List.mem_singleton.1 hp
    exact hpo) hR (E := crE (stB oneS) false) (V := crMs (stB oneS) false) (by rw [hc]) (by rw [hc]) (by rw [hc]; exact hf)
  refine h.mono ?_
  rintro e w' ⟨m, x, rfl, hmx, _, hb⟩
  rcases hmx with ⟨_, ⟨_, rfl, hm⟩ | ⟨h1, _⟩⟩ | ⟨h1, _⟩
  · refine ⟨m, rfl, ?_, hb⟩
    have : m.ms = crMs (stB oneS) false := congrArg StX.ms hm
    rw [this, one_ms]
  · exact absurd hok h1
  · exact absurd (one_join hrt) h1

attribute [local go_sem ↓] ldSt_def stSt_def ldPc_def stPc_def
set_option maxRecDepth 100000 in
set_option maxHeartbeats 4000000 in
theorem alive11 : AliveIs := by
  intro w hR
  have HR := Lib.hid hR
  have HO := Lib.hid (fun w' => one_any w')
  clear hR
  have HPI : Hid (∀ (m : StM) (w' : World), m.pl = oneS → m.See w' w'.heap.size → Roots w' → Calls Tryd.prog 13 #[.agg m.cells] w' fun e w'' => ∃ G hrt, e = .returned (.slice (some ⟨G, 0, none⟩) 1 1) ∧ PcK.See w'' w''.heap.size (some ⟨G, 0, none⟩) [oneP hrt] ∧ Below w'.heap.size w' w'') := Lib.hid (fun m w' hm hs hr => by
    have h := pieces_any m w' hs (by rw [hm, one_len]; omega) hr
    rw [hm] at h
    refine h.mono ?_
    rintro e w'' ⟨G, ps, vs, hrt, rfl, rfl, hv, hse, hb⟩
    have e1 : (List.range (nCh (stB oneS))).map (pieceM (stB oneS) (rootT (leafL (stB oneS))) hrt vs) = [oneP hrt] := by
      rw [hv one_ch, one_ch]
      rfl
    rw [e1] at hse
    refine ⟨G, hrt, by rw [e1]; rfl, hse, hb⟩)
  have HRO : Hid (∀ (m : StM) (w' : World), m.pl = oneS → m.See w' w'.heap.size → Roots w' → Calls Tryd.prog 16 #[.agg m.cells] w' fun e w'' => e = .returned (.agg ((stD 1 (rootT (leafL (stB oneS)))).map bv).toArray) ∧ Below w'.heap.size w' w'') := Lib.hid (fun m w' hm hs hr => by
    have h := sroot_any m w' hs (by rw [hm, one_len]; omega) hr
    rw [hm, one_ch] at h
    exact h)
  have HBY : Hid (∀ (m : StM) (w' : World), m.pl = oneS → m.See w' w'.heap.size → Calls Tryd.prog 14 #[.agg m.cells] w' fun e w'' => ∃ A c, e = .returned (.slice A 80 c) ∧ Below w'.heap.size w' w'') := Lib.hid (fun m w' hm hs => by
    have h := bytes_any11 m w' hs (by rw [hm, one_len]; omega)
    rw [hm] at h
    refine h.mono ?_
    rintro e w'' ⟨A, c, rfl, _, _, _, hb⟩
    exact ⟨A, c, by rw [one_len], hb⟩)
  have HJN : Hid (∀ hrt (G : Nat) (w : World), PcK.See w w.heap.size (some ⟨G, 0, none⟩) [oneP hrt] → Roots w → Calls Tryd.prog 9 #[.agg ((stD 1 (rootT (leafL (stB oneS)))).map bv).toArray, .slice (some ⟨G, 0, none⟩) 1 1] w fun e w' => ∃ m : StM, e = .returned (.tuple #[.agg m.cells, .int .i64 0]) ∧ m.ms.length = 1 ∧ Below w.heap.size w w') := Lib.hid (fun hrt G w h hr => join_one hrt G w h hr)
  generalize stD 1 (rootT (leafL (stB oneS))) = dg at HRO HJN
  go_enter Tryd.func5, Tryd.ntmps5
  go_upto_region 2 with (first
    | (go_at_call 15; (with_reducible refine (HO.out _).mono ?_); rintro e w2 ⟨m1, rfl, hm1, hse1, hb1⟩; have HB2 := Lib.hid hb1; have HP2 := Lib.hid (HPI.out m1 w2 hm1 hse1 (HR.out.of_below hb1)); clear hm1 hse1 hb1)
    | (go_at_call 13; (with_reducible refine (HP2.out).mono ?_); rintro e w3 ⟨G, hrt, rfl, hse, hb⟩; have HB3 := Lib.hid (HB2.out.trans (hb.mono HB2.out.size)); have HSE := Lib.hid hse; clear hse hb))
  go_upto_region 3 with (first
    | (go_at_call 15; (with_reducible refine (HO.out _).mono ?_); rintro e w4 ⟨m2, rfl, hm2, hse2, hb2⟩; have HSE4 := Lib.hid (EK.See.far HSE.out hb2); have HB4 := Lib.hid (HB3.out.trans (hb2.mono HB3.out.size)); have HR4 := Lib.hid (HRO.out m2 w4 hm2 hse2 (HR.out.of_below HB4.out)); clear hm2 hse2 hb2)
    | (go_at_call 16; (with_reducible refine (HR4.out).mono ?_); rintro e w5 ⟨rfl, hb⟩; have HB5 := Lib.hid (HB4.out.trans (hb.mono HB4.out.size)); have HJ5 := Lib.hid (HJN.out hrt G w5 (EK.See.far HSE4.out hb) (HR.out.of_below HB5.out)); clear hb)
    | (go_at_call 9; (with_reducible refine (HJ5.out).mono ?_); rintro e w6 ⟨m3, rfl, hms, hb⟩; have HB6 := Lib.hid (HB5.out.trans (hb.mono HB5.out.size)); obtain ⟨w7, hst, hx7, hb7, _⟩ := laid_st w6 (stV none 0 0 none 0 0 0 none 0 0) rfl m3.pA m3.ps.length m3.pc m3.rA m3.rs.length m3.rc m3.ep m3.mA m3.ms.length m3.mc; have HX7 := Lib.hid hx7; have HB7 := Lib.hid (HB6.out.trans (hb7.mono HB6.out.size)); have HMS := Lib.hid hms; clear hb hx7 hb7 hms))
  go_wp2_with (first
    | (go_at_call 15; (with_reducible refine (HO.out _).mono ?_); rintro e w8 ⟨m4, rfl, hm4, hse4, hb4⟩; have HX8 := Lib.hid (HX7.out.below hb4 HX7.out.lt); have HB8 := Lib.hid (HB7.out.trans (hb4.mono HB7.out.size)); have HY8 := Lib.hid (HBY.out m4 w8 hm4 hse4); clear hm4 hse4 hb4)
    | (go_at_call 14; (with_reducible refine (HY8.out).mono ?_); rintro e w9 ⟨A9, c9, rfl, hb9⟩; have HB9 := Lib.hid (HB8.out.trans (hb9.mono HB8.out.size)); have c3 : w9.cell? ⟨w6.heap.size, 3, none⟩ = some (.slice m3.mA 1 m3.mc) := (by rw [← HMS.out]; exact (HX8.out.below hb9 HX8.out.lt).cell 3); clear hb9))
  go_ret
  exact ⟨rfl, HB9.out⟩
end Go.Proofs.YtlogceoeodjeoaaDoor

namespace Go.Proofs.YtlogceoeodjeoaaDoor
open Go.RowKit

set_option maxRecDepth 100000 in
theorem chparts_walk (s : StM) (hz : s.Sz) (w : World) (hS : s.See w w.heap.size) (hR : Roots w) :
    Calls Tryd.prog 4 #[.agg s.cells] w fun e w' => e = .returned (.bool true) ∧ Below w.heap.size w w' := parts_walk alive11 s hz w hS hR
end Go.Proofs.YtlogceoeodjeoaaDoor
