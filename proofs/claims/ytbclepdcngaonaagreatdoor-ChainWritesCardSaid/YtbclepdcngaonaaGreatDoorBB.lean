/-
  Whether a block is great: wapentakeref12.Great; what is known of one that isn't.
  Whether two blocks are the same: wapentakeref12.Same.
  A block is written: block.Write.
  A block's digest: block.Digest.
-/
import Derived.Test.YtbclepdcngaonaaGreatDoorBA
import Derived.Lib.QuietBelow
import Derived.Test.YtbclepdcngaonaaGreatDoorRB
import Derived.Test.YtbclepdcngaonaaGreatDoorSD
import Derived.Test.YtbclepdcngaonaaGreatDoorTG
import Derived.Lib.SlBytesConst
namespace Go.Proofs.YtbclepdcngaonaaGreatDoor
open Go.RowKit

attribute [local go_sem ↓] ldReq_def stReq_def ldBlk_def stBlk_def

/-- A block's bytes are few. -/
structure Few (x : BlkX) : Prop where
  len : x.reqs.length ≤ 40
  txt : ∀ q ∈ x.reqs, q.key.size ≤ 8192 ∧ q.val.size ≤ 8192 ∧ q.old.size ≤ 8192
def GreatB (b : BlkM) (w : World) (e : Ending) (w' : World) : Prop := ∃ g : Bool, e = .returned (.bool g) ∧ (g = false → Few b.x) ∧ Below w.heap.size w w'
set_option maxRecDepth 100000 in
theorem GreatB.yes {b : BlkM} {w w' : World} (h : Below w.heap.size w w') : GreatB b w (.returned (.bool true)) w' := ⟨true, rfl, fun h => (by cases h), h⟩

end Go.Proofs.YtbclepdcngaonaaGreatDoor

namespace Go.Proofs.YtbclepdcngaonaaGreatDoor
open Go.RowKit Go.Sort

attribute [local go_sem ↓] ldReq_def stReq_def ldBlk_def stBlk_def eqReq_def ldDigest_def stDigest_def eqDigest_def

set_option maxRecDepth 100000 in
set_option maxHeartbeats 4000000 in
theorem same_any12 (a b : BlkM) (hn : a.x.reqs.length ≤ 1000000) (w : World) (hS : QSee w w.heap.size a.A a.x.reqs) (hT : QSee w w.heap.size b.A b.x.reqs) :
    Calls Tryz.prog 37 #[.agg a.cells.toArray, .agg b.cells.toArray] w fun e w' => e = .returned (.bool (decide (a.x = b.x))) ∧ Below w.heap.size w w' := by
  obtain ⟨w1, hw1⟩ : ∃ w1, w1 = (w.alloc (.cells a.cells.toArray 32)).alloc (.cells b.cells.toArray 32) := ⟨_, rfl⟩
  have HX : Hid (Box w1 w.heap.size 32 a.cells.toArray) := by rw [hw1]; exact (Box.made w _ _).alloc _
  have HY : Hid (Box w1 (w.heap.size + 1) 32 b.cells.toArray) := by rw [hw1]; exact Box.made_at (by simp) _ _
  have HF : Hid (Below w.heap.size w w1) := by rw [hw1]; exact ((Below.refl _ _).alloc (Nat.le_refl _) _).alloc (by simp) _
  have HS := Lib.hid (hS.far HF.out)
  have HT := Lib.hid (hT.far HF.out)
  have x0 : w1.cell? ⟨w.heap.size, 0, none⟩ = some (.int .i64 a.x.epoch) := HX.out.bk_0
  have x1 : w1.cell? ⟨w.heap.size, 1, none⟩ = some (.int .i64 a.x.height) := HX.out.bk_1
  have x98 : w1.cell? ⟨w.heap.size, 98, none⟩ = some (.slice a.A a.x.reqs.length a.z) := HX.out.bk_98 a.x.lp a.x.ls a.x.ln
  have y0 : w1.cell? ⟨w.heap.size + 1, 0, none⟩ = some (.int .i64 b.x.epoch) := HY.out.bk_0
  have y1 : w1.cell? ⟨w.heap.size + 1, 1, none⟩ = some (.int .i64 b.x.height) := HY.out.bk_1
  have y98 : w1.cell? ⟨w.heap.size + 1, 98, none⟩ = some (.slice b.A b.x.reqs.length b.z) := HY.out.bk_98 b.x.lp b.x.ls b.x.ln
  have xp := range_load HX.out.bk_prev a.x.lp
  have xs := range_load (HX.out.bk_state a.x.lp) a.x.ls
  have xn := range_load (HX.out.bk_next a.x.lp a.x.ls) a.x.ln
  have yp := range_load HY.out.bk_prev b.x.lp
  have ys := range_load (HY.out.bk_state b.x.lp) b.x.ls
  have yn := range_load (HY.out.bk_next b.x.lp b.x.ls) b.x.ln
  have ep := eq_digest a.x.prev b.x.prev a.x.lp b.x.lp
  have es := eq_digest a.x.state b.x.state a.x.ls b.x.ls
  have en := eq_digest a.x.next b.x.next a.x.ln b.x.ln
  have HC : Hid (∀ w', Below w1.heap.size w1 w' → w'.cell? ⟨w.heap.size, 98, none⟩ = some (.slice a.A a.x.reqs.length a.z) ∧ w'.cell? ⟨w.heap.size + 1, 98, none⟩ = some (.slice b.A b.x.reqs.length b.z)) := Lib.hid (fun w' hb => ⟨(HX.out.below hb HX.out.lt).bk_98 a.x.lp a.x.ls a.x.ln, (HY.out.below hb HY.out.lt).bk_98 b.x.lp b.x.ls b.x.ln⟩)
  have HE : Hid (decide (a.x = b.x) = (decide (a.x.epoch = b.x.epoch) && (decide (a.x.height = b.x.height) && (decide (a.x.prev = b.x.prev) && (decide (a.x.state = b.x.state) && (decide (a.x.next = b.x.next) && decide (a.x.reqs = b.x.reqs))))))) := Lib.hid (by
    rw [Bool.eq_iff_iff]
    simp only [Bool.and_eq_true, decide_eq_true_iff, BlkX.eq_iff])
  clear hS hT HX HY
  generalize decide (a.x = b.x) = r at *
  generalize a.cells.toArray = ca at *
  generalize b.cells.toArray = cb at *
  generalize (a.x.prev.map bv).toArray = p1 at *
  generalize (b.x.prev.map bv).toArray = p2 at *
  generalize (a.x.state.map bv).toArray = s1 at *
  generalize (b.x.state.map bv).toArray = s2 at *
  generalize (a.x.next.map bv).toArray = n1 at *
  generalize (b.x.next.map bv).toArray = n2 at *
  generalize decide (a.x.prev = b.x.prev) = dp at *
  generalize decide (a.x.state = b.x.state) = ds at *
  generalize decide (a.x.next = b.x.next) = dn at *
  generalize a.x.epoch = e1 at *
  generalize b.x.epoch = e2 at *
  generalize a.x.height = h1 at *
  generalize b.x.height = h2 at *
  generalize a.x.reqs = L at *
  generalize b.x.reqs = M at *
  generalize a.A = A at *
  generalize b.A = B at *
  generalize a.z = za at *
  generalize b.z = zb at *
  by_cases g0 : e1 = e2
  rotate_left
  · have HR : Hid (r = false) := Lib.hid (by rw [HE.out, decide_eq_false g0]; rfl)
    have m0 : (e1 != e2) = true := by simpa using g0
    clear HE hn g0
    go_enter Tryz.func37, Tryz.ntmps37
    go_upto_region 1 with fail
    change Code.wp _ _ _ _ ((w.alloc (.cells ca 32)).alloc (.cells cb 32))
    rw [← hw1]
    clear hw1
    go_wp2
    go_ret
    exact ⟨ret_val (congrArg Value.bool HR.out.symm), HF.out⟩
  subst g0
  have m0 : (e1 != e1) = false := by simp
  by_cases g1 : h1 = h2
  rotate_left
  · have HR : Hid (r = false) := Lib.hid (by rw [HE.out, decide_eq_false g1]; simp)
    have m1 : (h1 != h2) = true := by simpa using g1
    clear HE hn g1
    go_enter Tryz.func37, Tryz.ntmps37
    go_upto_region 1 with fail
    change Code.wp _ _ _ _ ((w.alloc (.cells ca 32)).alloc (.cells cb 32))
    rw [← hw1]
    clear hw1
    go_wp2
    go_ret
    exact ⟨ret_val (congrArg Value.bool HR.out.symm), HF.out⟩
  subst g1
  have m1 : (h1 != h1) = false := by simp
  rcases dp with _ | _
  · have HR : Hid (r = false) := Lib.hid (by rw [HE.out]; simp)
    clear HE hn
    go_enter Tryz.func37, Tryz.ntmps37
    go_upto_region 1 with fail
    change Code.wp _ _ _ _ ((w.alloc (.cells ca 32)).alloc (.cells cb 32))
    rw [← hw1]
    clear hw1
    go_wp2
    go_ret
    exact ⟨ret_val (congrArg Value.bool HR.out.symm), HF.out⟩
  rcases ds with _ | _
  · have HR : Hid (r = false) := Lib.hid (by rw [HE.out]; simp)
    clear HE hn
    go_enter Tryz.func37, Tryz.ntmps37
    go_upto_region 1 with fail
    change Code.wp _ _ _ _ ((w.alloc (.cells ca 32)).alloc (.cells cb 32))
    rw [← hw1]
    clear hw1
    go_wp2
    go_ret
    exact ⟨ret_val (congrArg Value.bool HR.out.symm), HF.out⟩
  rcases dn with _ | _
  · have HR : Hid (r = false) := Lib.hid (by rw [HE.out]; simp)
    clear HE hn
    go_enter Tryz.func37, Tryz.ntmps37
    go_upto_region 1 with fail
    change Code.wp _ _ _ _ ((w.alloc (.cells ca 32)).alloc (.cells cb 32))
    rw [← hw1]
    clear hw1
    go_wp2
    go_ret
    exact ⟨ret_val (congrArg Value.bool HR.out.symm), HF.out⟩
  by_cases gl : L.length = M.length
  rotate_left
  · have HR : Hid (r = false) := Lib.hid (by rw [HE.out, decide_eq_false (p := L = M) (fun e => gl (by rw [e]))]; simp)
    have m2 : ((L.length : Int) != (M.length : Int)) = true := by
      rw [bne_iff_ne]
      omega
    clear HE hn gl
    go_enter Tryz.func37, Tryz.ntmps37
    go_upto_region 1 with fail
    change Code.wp _ _ _ _ ((w.alloc (.cells ca 32)).alloc (.cells cb 32))
    rw [← hw1]
    clear hw1
    go_wp2
    go_ret
    exact ⟨ret_val (congrArg Value.bool HR.out.symm), HF.out⟩
  have HR : Hid (r = decide (L = M)) := Lib.hid (by rw [HE.out]; simp)
  have HGL := Lib.hid gl
  have HN := Lib.hid hn
  rw [← gl] at y98 HC
  have m2 : ((L.length : Int) != (L.length : Int)) = false := by simp
  clear HE hn gl
  go_enter Tryz.func37, Tryz.ntmps37
  go_upto_region 1 with fail
  change Code.wp _ _ _ _ ((w.alloc (.cells ca 32)).alloc (.cells cb 32))
  rw [← hw1]
  clear hw1
  go_wp2
  clear x0 x1 x98 y0 y1 y98 xp xs xn yp ys yn ep es en m0 m1 m2
  go_loopw [51] (fun i wr => ∃ k : Nat, k ≤ L.length ∧ i = .int .i64 (k : Int) ∧ Hid (L.take k = M.take k) ∧ Hid (Below w1.heap.size w1 wr)) (fun i _ => L.length - (intOf i).toNat)
  case atStart => exact ⟨0, Nat.zero_le _, rfl, Lib.hid (by rw [List.take_zero, List.take_zero]), Lib.hid (Below.refl _ _)⟩
  case round =>
    obtain ⟨k, hk, rfl, HTK, HW⟩ := hrel
    by_cases hlt : k < L.length
    · have HLT := Lib.hid hlt
      have hlt' : k < M.length := by have := HGL.out; omega
      obtain ⟨g, o, hA, _, hr⟩ := EK.See.range (HS.out.far HW.out) hlt
      obtain ⟨g', o', hA', _, hr'⟩ := EK.See.range (HT.out.far HW.out) hlt'
      have hq1 : ∀ j v, (L[k]'hlt).cells[j]? = some v → wr.cell? ⟨g, o + k * 42 + j, none⟩ = some v := hr k hlt
      have hq2 : ∀ j v, (M[k]'hlt').cells[j]? = some v → wr.cell? ⟨g', o' + k * 42 + j, none⟩ = some v := hr' k hlt'
      obtain ⟨x98, y98⟩ := HC.out wr HW.out
      rw [hA] at x98
      rw [hA'] at y98
      have i1 : (k : Int) < (L.length : Int) := by omega
      have i0 : (0 : Int) ≤ (k : Int) := by omega
      have wk : IntKind.i64.wrap ((k : Int) + 1) = ((k + 1 : Nat) : Int) := by rw [IntKind.wrap_i64]; have := HN.out; omega
      have heq := eq_req (L[k]'hlt) (M[k]'hlt')
      have HNX : Hid ((L[k]'hlt) = (M[k]'hlt') → L.take (k + 1) = M.take (k + 1)) := Lib.hid (fun h => by rw [List.take_succ_eq_append_getElem hlt, List.take_succ_eq_append_getElem hlt', HTK.out, h])
      have HNN : Hid ((L[k]'hlt) ≠ (M[k]'hlt') → decide (L = M) = false) := Lib.hid (fun h => decide_eq_false (fun e => h (by subst e; rfl)))
      have l1 : ∀ d os, (ldReq (.pointer (some ⟨g, o + k * 42, none⟩))).run Tryz.prog (grow (redrawn wr d) os) = .ok (.agg (L[k]'hlt).cells.toArray) (grow (redrawn wr d) os) := fun d os => run_loadAt_mid (P := Tryz.prog) _ g (o + k * 42) 100 (L[k]'hlt).cells _ (fun j v hv => cell_regrown (hq1 j v hv) d os) Tryz.underlying100 rfl (L[k]'hlt).size
      have l2 : ∀ d os, (ldReq (.pointer (some ⟨g', o' + k * 42, none⟩))).run Tryz.prog (grow (redrawn wr d) os) = .ok (.agg (M[k]'hlt').cells.toArray) (grow (redrawn wr d) os) := fun d os => run_loadAt_mid (P := Tryz.prog) _ g' (o' + k * 42) 100 (M[k]'hlt').cells _ (fun j v hv => cell_regrown (hq2 j v hv) d os) Tryz.underlying100 rfl (M[k]'hlt').size
      have X0 := Lib.hid (fun d os => cell_regrown x98 d os)
      have Y0 := Lib.hid (fun d os => cell_regrown y98 d os)
      clear hr hr' hA hA' hq1 hq2 x98 y98
      generalize (L[k]'hlt) = q1 at *
      generalize (M[k]'hlt') = q2 at *
      obtain ⟨dq, hdq⟩ : ∃ dq, decide (q1 = q2) = dq := ⟨_, rfl⟩
      rw [hdq] at heq
      rcases dq with _ | _
      · have HRF : Hid (r = false) := Lib.hid (by rw [HR.out, HNN.out (of_decide_eq_false hdq)])
        clear hdq HNX HNN hlt hlt'
        generalize q1.cells.toArray = c1 at *
        generalize q2.cells.toArray = c2 at *
        go_upto_region 6 with fail
        have q3 := X0.out
        have q4 := Y0.out
        refine wp_region_quiet_below (by kernel_rfl) (by kernel_rfl) ?_
        repeat (quiet_step (fail))
        refine wpQuiet_nil ?_
        intro _ hw'
        obtain ⟨⟨dq, osq⟩, hw''⟩ := hw'
        subst hw''
        clear q3 q4 l1 l2 X0 Y0 heq
        have HW2 := Lib.hid (HW.out.trans ((below_regrown wr dq osq).mono HW.out.size))
        generalize grow (redrawn wr dq) osq = w6 at *
        go_wp2
        go_ret
        exact ⟨ret_val (congrArg Value.bool HRF.out.symm), HF.out.trans (HW2.out.mono HF.out.size)⟩
      · have HTK2 := Lib.hid (HNX.out (of_decide_eq_true hdq))
        clear hdq HNX HNN hlt hlt'
        generalize q1.cells.toArray = c1 at *
        generalize q2.cells.toArray = c2 at *
        go_upto_region 6 with fail
        have q3 := X0.out
        have q4 := Y0.out
        refine wp_region_quiet_below (by kernel_rfl) (by kernel_rfl) ?_
        repeat (quiet_step (fail))
        refine wpQuiet_nil ?_
        intro _ hw'
        obtain ⟨⟨dq, osq⟩, hw''⟩ := hw'
        subst hw''
        clear q3 q4 l1 l2 X0 Y0 heq
        have HW2 := Lib.hid (HW.out.trans ((below_regrown wr dq osq).mono HW.out.size))
        generalize grow (redrawn wr dq) osq = w6 at *
        go_wp2
        go_roundw
        case rel => exact ⟨k + 1, HLT.out, by go_num, HTK2, HW2⟩
        case measure => have := HLT.out; simp [intOf]; omega
    · have i1 : ¬ (k : Int) < (L.length : Int) := by omega
      have HRT : Hid (r = true) := Lib.hid (by
        have h := HTK.out
        have h2 := HGL.out
        rw [List.take_of_length_le (by omega), List.take_of_length_le (by omega)] at h
        rw [HR.out, decide_eq_true h])
      clear hk
      go_wp2
      go_ret
      exact ⟨ret_val (congrArg Value.bool HRT.out.symm), HF.out.trans (HW.out.mono HF.out.size)⟩
end Go.Proofs.YtbclepdcngaonaaGreatDoor

namespace Go.Proofs.YtbclepdcngaonaaGreatDoor
open Go.RowKit

attribute [local go_sem ↓] ldReq_def stReq_def ldBlk_def stBlk_def ldDigest_def stDigest_def bsAll_def

set_option maxRecDepth 100000 in
theorem wdigs_made {base a : Nat} {bs : List UInt8} {ds : List (List UInt8)} (hd : ∀ d ∈ ds, d.length = 32) {W : World} (h : Wr W base a bs) (hl : bs.length + 32 * ds.length ≤ 70368744177664) :
    Calls Tryz.prog 64 #[.pointer (some ⟨a, 0, none⟩), .slice (some ⟨W.heap.size, 0, none⟩) ds.length ds.length] (W.alloc (.cells (ds.flatten.map bv).toArray 29)) fun e w' => e = .returned (.tuple #[]) ∧ Wr w' base a (bs ++ ds.flatten) ∧ WF a W w' := by
  have hF : Below W.heap.size W (W.alloc (.cells (ds.flatten.map bv).toArray 29)) := (Below.refl _ _).alloc (Nat.le_refl _) _
  have hb : Box (W.alloc (.cells (ds.flatten.map bv).toArray 29)) W.heap.size 29 (ds.flatten.map bv).toArray := Box.made _ _ _
  have h1 := h.below_size hF
  have e : ds.flatMap id = ds.flatten := by simp
  have hs : Src (W.alloc (.cells (ds.flatten.map bv).toArray 29)) a (some ⟨W.heap.size, 0, none⟩) ((ds.flatMap id).map bv) := by
    rw [e]
    exact Src.of_box h1 hb (by decide) (by decide)
  have hc := wdigest_any base a _ ds hd ds.length bs _ h1 hs hl
  rw [e] at hc
  exact hc.mono fun e w' ⟨he, hw, hf⟩ => ⟨he, hw, (WF.of_below hF h.lt).trans hf⟩

/-- It can be written: few requests, of small texts. -/
structure Small12 (x : BlkX) : Prop where
  len : x.reqs.length ≤ 64
  txt : ∀ q ∈ x.reqs, q.key.size ≤ 16777216 ∧ q.val.size ≤ 16777216 ∧ q.old.size ≤ 16777216
set_option maxRecDepth 100000 in
theorem reqB_size {q : ReqX} (h : q.key.size ≤ 16777216 ∧ q.val.size ≤ 16777216 ∧ q.old.size ≤ 16777216) : (reqB q).length ≤ 67108864 := by
  obtain ⟨h1, h2, h3⟩ := h
  unfold reqB
  simp only [List.length_append, numBytes_len, textBytes_len, q.len]
  omega
set_option maxRecDepth 100000 in
theorem reqs_size : ∀ {xs : List ReqX}, (∀ q ∈ xs, q.key.size ≤ 16777216 ∧ q.val.size ≤ 16777216 ∧ q.old.size ≤ 16777216) → (xs.flatMap reqB).length ≤ xs.length * 67108864
  | [], _ => Nat.zero_le _
  | x :: xs, h => by
    have h1 := reqB_size (h x List.mem_cons_self)
    have h2 := reqs_size (xs := xs) (fun q hq => h q (List.mem_cons_of_mem _ hq))
    rw [List.flatMap_cons, List.length_append, List.length_cons, Nat.add_mul]
    omega
set_option maxRecDepth 100000 in
theorem Small12.bytes {x : BlkX} (h : Small12 x) : (blkB x).length ≤ 4294967416 := by
  have h1 := reqs_size h.txt
  have h2 := h.len
  have h3 : x.reqs.length * 67108864 ≤ 64 * 67108864 := Nat.mul_le_mul_right _ h2
  unfold blkB
  simp only [List.length_append, numBytes_len, x.lp, x.ls, x.ln]
  omega
set_option maxRecDepth 100000 in
theorem blkB_split (x : BlkX) (bs : List UInt8) : bs ++ blkB x = (((bs ++ [x.epoch, x.height].flatMap numBytes) ++ [x.prev, x.state, x.next].flatten) ++ [(x.reqs.length : Int)].flatMap numBytes) ++ x.reqs.flatMap reqB := by
  unfold blkB
  simp only [List.flatMap_cons, List.flatMap_nil, List.flatten_cons, List.flatten_nil, List.append_nil, List.append_assoc]
set_option maxRecDepth 100000 in
theorem reqs_take12 {xs : List ReqX} {k : Nat} (hk : k < xs.length) : (xs.take (k + 1)).flatMap reqB = (xs.take k).flatMap reqB ++ reqB (xs[k]'hk) := by
  rw [List.take_succ_eq_append_getElem hk, List.flatMap_append, List.flatMap_cons, List.flatMap_nil, List.append_nil]
set_option maxRecDepth 100000 in
theorem three_digs {p s n : List UInt8} (hp : p.length = 32) (hs : s.length = 32) (hn : n.length = 32) : ∀ d ∈ [p, s, n], d.length = 32 := by
  intro d hd
  simp only [List.mem_cons, List.not_mem_nil, or_false] at hd
  rcases hd with rfl | rfl | rfl <;> assumption

set_option maxRecDepth 100000 in
set_option maxHeartbeats 4000000 in
theorem write_any12 (base a : Nat) (bs : List UInt8) (b : BlkM) (w : World) (h : Wr w base a bs) (hS : QSee w base b.A b.x.reqs) (hbs : bs.length ≤ 4294967296) (hz : Small12 b.x) :
    Calls Tryz.prog 32 #[.pointer (some ⟨a, 0, none⟩), .agg b.cells.toArray] w fun e w' => e = .returned (.tuple #[]) ∧ Wr w' base a (bs ++ blkB b.x) ∧ WF a w w' := by
  obtain ⟨w1, hw1⟩ : ∃ w1, w1 = w.alloc (.cells b.cells.toArray 32) := ⟨_, rfl⟩
  have hF1 : Below w.heap.size w w1 := by rw [hw1]; exact (Below.refl _ _).alloc (Nat.le_refl _) _
  have HB1 : Hid (Box w1 w.heap.size 32 b.cells.toArray) := by rw [hw1]; exact Box.made _ _ _
  have HW1 := Lib.hid (h.below_size hF1)
  have HA1 := Lib.hid (WF.of_below hF1 h.lt)
  have HWB := Lib.hid h
  have HSE := Lib.hid hS
  have HBS := Lib.hid hbs
  have HLN := Lib.hid hz.len
  have HTX := Lib.hid hz.txt
  have HSP := Lib.hid (blkB_split b.x bs)
  have HD3 := Lib.hid (three_digs b.x.lp b.x.ls b.x.ln)
  have c0 : w1.cell? ⟨w.heap.size, 0, none⟩ = some (.int .i64 b.x.epoch) := HB1.out.bk_0
  have c1 : w1.cell? ⟨w.heap.size, 1, none⟩ = some (.int .i64 b.x.height) := HB1.out.bk_1
  have HC : Hid (∀ w', Box w' w.heap.size 32 b.cells.toArray → w'.cell? ⟨w.heap.size, 98, none⟩ = some (.slice b.A b.x.reqs.length b.z)) := Lib.hid (fun w' hb => hb.bk_98 b.x.lp b.x.ls b.x.ln)
  have HL : Hid (∀ w', Box w' w.heap.size 32 b.cells.toArray → (ldDigest (.pointer (some ⟨w.heap.size, 2, none⟩))).run Tryz.prog w' = .ok (.agg (b.x.prev.map bv).toArray) w' ∧ (ldDigest (.pointer (some ⟨w.heap.size, 34, none⟩))).run Tryz.prog w' = .ok (.agg (b.x.state.map bv).toArray) w' ∧ (ldDigest (.pointer (some ⟨w.heap.size, 66, none⟩))).run Tryz.prog w' = .ok (.agg (b.x.next.map bv).toArray) w') :=
    Lib.hid (fun w' hb => ⟨range_load hb.bk_prev b.x.lp, range_load (hb.bk_state b.x.lp) b.x.ls, range_load (hb.bk_next b.x.lp b.x.ls) b.x.ln⟩)
  have HBD : Hid (∀ w', (bsAll 3 #[(0, .agg (b.x.prev.map bv).toArray), (1, .agg (b.x.state.map bv).toArray), (2, .agg (b.x.next.map bv).toArray)]).run Tryz.prog w' = .ok (.slice (some ⟨w'.heap.size, 0, none⟩) 3 3) (w'.alloc (.cells ([b.x.prev, b.x.state, b.x.next].flatten.map bv).toArray 29))) := Lib.hid (fun w' => build_digs [b.x.prev, b.x.state, b.x.next] HD3.out (by simp) (by simp) w')
  have HN : Hid (Calls Tryz.prog 62 #[.pointer (some ⟨a, 0, none⟩), .slice (some ⟨w1.heap.size, 0, none⟩) 2 2] (w1.alloc (.cells #[.int .i64 b.x.epoch, .int .i64 b.x.height] 3)) fun e w' => e = .returned (.tuple #[]) ∧ Wr w' base a (bs ++ [b.x.epoch, b.x.height].flatMap numBytes) ∧ WF a w1 w') :=
    wnum_made [b.x.epoch, b.x.height] HW1.out (by have := HBS.out; simp only [List.length_cons, List.length_nil]; omega)
  have HDG : Hid (∀ W bs', Wr W base a bs' → bs'.length ≤ 8589934592 → Calls Tryz.prog 64 #[.pointer (some ⟨a, 0, none⟩), .slice (some ⟨W.heap.size, 0, none⟩) 3 3] (W.alloc (.cells ([b.x.prev, b.x.state, b.x.next].flatten.map bv).toArray 29)) fun e w' => e = .returned (.tuple #[]) ∧ Wr w' base a (bs' ++ [b.x.prev, b.x.state, b.x.next].flatten) ∧ WF a W w') :=
    Lib.hid (fun W bs' hw hl => wdigs_made HD3.out hw (by simp only [List.length_cons, List.length_nil]; omega))
  have HFL : Hid ([b.x.prev, b.x.state, b.x.next].flatten.length = 96) := Lib.hid (by simp [b.x.lp, b.x.ls, b.x.ln])
  have hB1l : (bs ++ [b.x.epoch, b.x.height].flatMap numBytes).length = bs.length + 16 := by rw [List.length_append, nums_len]; rfl
  generalize hb1 : bs ++ [b.x.epoch, b.x.height].flatMap numBytes = b1 at *
  have HB1l : Hid (b1.length ≤ 4294967312) := Lib.hid (by omega)
  clear hB1l hb1 hF1 h hS hbs hz
  have HEQ : Hid (bs ++ blkB b.x = ((b1 ++ [b.x.prev, b.x.state, b.x.next].flatten) ++ [(b.x.reqs.length : Int)].flatMap numBytes) ++ b.x.reqs.flatMap reqB) := HSP
  generalize blkB b.x = BB at *
  generalize b.cells.toArray = cs at *
  generalize b.x.epoch = n0 at *
  generalize b.x.height = n1 at *
  generalize ([b.x.prev, b.x.state, b.x.next].flatten.map bv).toArray = FD at *
  generalize [b.x.prev, b.x.state, b.x.next].flatten = F3 at *
  generalize (b.x.prev.map bv).toArray = P1 at *
  generalize (b.x.state.map bv).toArray = P2 at *
  generalize (b.x.next.map bv).toArray = P3 at *
  generalize b.x.reqs = xs at *
  generalize b.A = A at *
  generalize b.z = z at *
  clear HD3 HSP
  go_enter Tryz.func32, Tryz.ntmps32
  go_upto_region 1 with fail
  change Code.wp _ _ _ _ (w.alloc (.cells cs 32))
  rw [← hw1]
  clear hw1
  go_upto_region 2 with (go_at_call 62; (with_reducible refine (HN.out).mono ?_); rintro e w2 ⟨rfl, hw, hf⟩; have HB2 := Lib.hid (hf.box HW1.out HB1.out (by decide) (by decide)); have HW2 := Lib.hid hw; have HA2 := Lib.hid (HA1.out.trans hf); clear hw hf)
  clear c0 c1 HN HB1 HW1 HA1
  obtain ⟨lp, ls, ln⟩ := HL.out w2 HB2.out
  have hbd := HBD.out w2
  have HN := Lib.hid (HDG.out w2 _ HW2.out (by have := HB1l.out; omega))
  have hB2l : (b1 ++ F3).length = b1.length + 96 := by rw [List.length_append, HFL.out]
  generalize hb2 : b1 ++ F3 = b2 at *
  have HB2l : Hid (b2.length ≤ 4294967408) := Lib.hid (by have := HB1l.out; omega)
  clear hB2l hb2
  go_upto_region 3 with (go_at_call 64; (with_reducible refine (HN.out).mono ?_); rintro e w3 ⟨rfl, hw, hf⟩; have HB3 := Lib.hid (hf.box HW2.out HB2.out (by decide) (by decide)); have HW3 := Lib.hid hw; have HA3 := Lib.hid (HA2.out.trans hf); clear hw hf)
  clear lp ls ln hbd HN HB2 HW2 HA2 HBD HDG HL
  have c98 := HC.out w3 HB3.out
  have HN : Hid (Calls Tryz.prog 62 #[.pointer (some ⟨a, 0, none⟩), .slice (some ⟨w3.heap.size, 0, none⟩) 1 1] (w3.alloc (.cells #[.int .i64 (xs.length : Int)] 3)) fun e w' => e = .returned (.tuple #[]) ∧ Wr w' base a (b2 ++ [(xs.length : Int)].flatMap numBytes) ∧ WF a w3 w') :=
    wnum_made [(xs.length : Int)] HW3.out (by have := HB2l.out; simp only [List.length_cons, List.length_nil]; omega)
  have hB3l : (b2 ++ [(xs.length : Int)].flatMap numBytes).length = b2.length + 8 := by rw [List.length_append, nums_len]; rfl
  generalize hb3 : b2 ++ [(xs.length : Int)].flatMap numBytes = b3 at *
  have HB3l : Hid (b3.length ≤ 4294967416) := Lib.hid (by have := HB2l.out; omega)
  clear hB3l hb3
  go_upto_region 4 with (go_at_call 62; (with_reducible refine (HN.out).mono ?_); rintro e w4 ⟨rfl, hw, hf⟩; have HB4 := Lib.hid (hf.box HW3.out HB3.out (by decide) (by decide)); have HW4 := Lib.hid hw; have HA4 := Lib.hid (HA3.out.trans hf); clear hw hf)
  clear c98 HN HB3 HW3 HA3
  have c98 := HC.out w4 HB4.out
  go_wp2
  clear c98 HC HB4 HB1l HB2l
  go_loopw [31] (fun i wr => ∃ k : Nat, k ≤ xs.length ∧ i = .int .i64 (k : Int) ∧ Hid (Wr wr base a (b3 ++ (xs.take k).flatMap reqB)) ∧ Hid (WF a w wr)) (fun i _ => xs.length - (intOf i).toNat)
  case atStart => exact ⟨0, Nat.zero_le _, rfl, Lib.hid (by rw [List.take_zero, List.flatMap_nil, List.append_nil]; exact HW4.out), HA4⟩
  case round =>
    clear HW4 HA4
    obtain ⟨k, hk, rfl, HW, HA⟩ := hrel
    by_cases hlt : k < xs.length
    · have HLT := Lib.hid hlt
      obtain ⟨g, o, rfl, _, hr⟩ := QSee.at_ (Sees.below HSE.out (HA.out.below HWB.out)) hlt
      have lk := hr k hlt
      have i1 : (k : Int) < (xs.length : Int) := by omega
      have i0 : (0 : Int) ≤ (k : Int) := by omega
      have wk : IntKind.i64.wrap ((k : Int) + 1) = ((k + 1 : Nat) : Int) := by rw [IntKind.wrap_i64]; have := HLN.out; omega
      obtain ⟨w5, hst, hb5, hg5⟩ := (Box.made wr 100 zreqV).st_req rfl (xs[k]'hlt)
      have hF5 : Below wr.heap.size wr w5 := ((Below.refl _ _).alloc (Nat.le_refl _) _).trans (below_only hg5 (Nat.le_refl _) (by simp))
      have HW5 := Lib.hid (HW.out.below_size hF5)
      have HA5 := Lib.hid (HA.out.trans (WF.of_below hF5 HW.out.lt))
      have l5 := hb5.ld_req
      have HKV := Lib.hid (HTX.out _ (List.getElem_mem hlt))
      have HTL : Hid ((b3 ++ (xs.take k).flatMap reqB).length ≤ 8589934832) := Lib.hid (by
        have h1 := reqs_size (xs := xs.take k) (fun q hq => HTX.out q (List.mem_of_mem_take hq))
        have h2 : (xs.take k).length ≤ 64 := by rw [List.length_take]; have := HLN.out; omega
        have h3 : (xs.take k).length * 67108864 ≤ 64 * 67108864 := Nat.mul_le_mul_right _ h2
        have h4 := HB3l.out
        rw [List.length_append]
        omega)
      have HN := Lib.hid (write_any9 base a _ (xs[k]'hlt) w5 HW5.out (by have := HTL.out; omega) (by have := HKV.out; omega) (by have := HKV.out; omega) (by have := HKV.out; omega))
      have HNX : Hid (b3 ++ (xs.take (k + 1)).flatMap reqB = (b3 ++ (xs.take k).flatMap reqB) ++ reqB (xs[k]'hlt)) := Lib.hid (by rw [reqs_take12 hlt, List.append_assoc])
      generalize xs[k]'hlt = q at *
      generalize b3 ++ (xs.take k).flatMap reqB = T at *
      clear hr hb5 hg5 hF5
      go_wp2_with (go_at_call 65; (with_reducible refine (HN.out).mono ?_); rintro e w6 ⟨rfl, hw, hf⟩; have HW6 := Lib.hid hw; have HA6 := Lib.hid (HA5.out.trans hf); clear hw hf)
      rw [← HNX.out] at HW6
      go_roundw
      case rel => exact ⟨k + 1, HLT.out, by go_num, HW6, HA6⟩
      case measure => have := HLT.out; simp [intOf]; omega
    · have i1 : ¬ (k : Int) < (xs.length : Int) := by omega
      have HWE : Hid (Wr wr base a (bs ++ BB)) := Lib.hid (by
        have h := HW.out
        rw [List.take_of_length_le (by omega)] at h
        rw [HEQ.out]
        exact h)
      clear hk
      go_wp2
      go_end0
      exact ⟨rfl, HWE.out, HA.out⟩
end Go.Proofs.YtbclepdcngaonaaGreatDoor

namespace Go.Proofs.YtbclepdcngaonaaGreatDoor
open Go.RowKit

attribute [local go_sem ↓] ldReq_def stReq_def ldBlk_def stBlk_def ldDigest_def stDigest_def

/-- "block". -/
def bkMark : List UInt8 := [98, 108, 111, 99, 107]
def blkD (x : BlkX) : List UInt8 := shaOf (bkMark ++ blkB x)
set_option maxRecDepth 100000 in
theorem blkD_len (x : BlkX) : (blkD x).length = 32 := rfl

set_option maxRecDepth 100000 in
set_option maxHeartbeats 2000000 in
theorem bkdgt_any (b : BlkM) (hz : Small12 b.x) (w : World) (hS : QSee w w.heap.size b.A b.x.reqs) (hR : Roots w) :
    Calls Tryz.prog 50 #[.agg b.cells.toArray] w fun e w' => e = .returned (.agg ((blkD b.x).map bv).toArray) ∧ Below w.heap.size w w' := by
  have HS : Hid (Box ((w.alloc (.cells b.cells.toArray 32)).alloc (.cells zs32 29)) w.heap.size 32 b.cells.toArray) := (Box.made w _ _).alloc _
  have HO : Hid (Box ((w.alloc (.cells b.cells.toArray 32)).alloc (.cells zs32 29)) (w.heap.size + 1) 29 zs32) := Box.made_at (by simp) _ _
  have HF : Hid (Below w.heap.size w ((w.alloc (.cells b.cells.toArray 32)).alloc (.cells zs32 29))) := ((Below.refl _ _).alloc (Nat.le_refl _) _).alloc (by simp) _
  have HD : Hid (blkD b.x = shaOf ([bkMark, blkB b.x] : List (List UInt8)).flatten) := Lib.hid (by simp [blkD])
  have HDL := Lib.hid (blkD_len b.x)
  have HQ1 := Lib.hid (hS.far HF.out)
  generalize blkD b.x = d at *
  go_enter Tryz.func50, Tryz.ntmps50
  go_upto_region 1 with fail
  change Code.wp _ _ _ _ ((w.alloc (.cells b.cells.toArray 32)).alloc (.cells zs32 29))
  generalize (w.alloc (.cells b.cells.toArray 32)).alloc (.cells zs32 29) = w1 at *
  have HW2 : Hid (Wr (w1.alloc (.cells #[.slice none 0 0] 48)) w1.heap.size w1.heap.size []) := wr_new (Box.made _ _ _) (Nat.le_refl _)
  have HF2 : Hid (Below w1.heap.size w1 (w1.alloc (.cells #[.slice none 0 0] 48))) := (Below.refl _ _).alloc (Nat.le_refl _) _
  have l2 := (HS.out.below HF2.out HS.out.lt).ld_blk
  have HN := Lib.hid (write_any12 w1.heap.size w1.heap.size [] b _ HW2.out (Sees.below HQ1.out HF2.out) (by simp) hz)
  have HBL : Hid ((blkB b.x).length ≤ 4294967416) := Lib.hid hz.bytes
  rw [List.nil_append] at HN
  generalize blkB b.x = bs at *
  clear hz hS HQ1 HS
  go_upto_region 3 with (go_at_call 32; (with_reducible refine (HN.out).mono ?_); rintro e w3 ⟨rfl, hw, hf⟩; have HW3 := Lib.hid hw; have HB3 := Lib.hid (HF2.out.trans (hf.below HW2.out)); clear hw hf)
  clear HN HF2 l2
  have HWK : Hid (Below w.heap.size w w3) := Lib.hid (HF.out.trans (HB3.out.mono HF.out.size))
  have HM : Hid (∀ w', Below (w3.heap.size + 1) (w3.alloc (.cells #[.int .u8 98, .int .u8 108, .int .u8 111, .int .u8 99, .int .u8 107] 5 (5, 6))) w' → Sees w' w'.heap.size (some ⟨w3.heap.size, 0, none⟩) (bkMark.map bv)) := Lib.hid (fun w' hb => by
    refine .inr ⟨w3.heap.size, 0, rfl, Nat.lt_of_lt_of_le (by simp) hb.size, fun j u hu => ?_⟩
    rw [Nat.zero_add, hb.cell (p := ⟨w3.heap.size, j, none⟩) (Nat.lt_succ_self _), World.cell?_alloc_mark, List.getElem?_toArray]
    exact hu)
  have HF4 : Hid (Below w3.heap.size w3 (w3.alloc (.cells #[.int .u8 98, .int .u8 108, .int .u8 111, .int .u8 99, .int .u8 107] 5 (5, 6)))) := (Below.refl _ _).alloc (Nat.le_refl _) _
  have HZ4 : Hid ((w3.alloc (.cells #[.int .u8 98, .int .u8 108, .int .u8 111, .int .u8 99, .int .u8 107] 5 (5, 6))).heap.size = w3.heap.size + 1) := Lib.hid (by simp)
  have HBY := Lib.hid (bytes_any w1.heap.size w1.heap.size bs _ (HW3.out.below_size HF4.out) (by have := HBL.out; omega))
  have hcv : (convert 45 45 (.slice (some ⟨w3.heap.size, 0, none⟩) 5 5)).run Tryz.prog (w3.alloc (.cells #[.int .u8 98, .int .u8 108, .int .u8 111, .int .u8 99, .int .u8 107] 5)) = .ok (.slice (some ⟨w3.heap.size, 0, none⟩) 5 5) (w3.alloc (.cells #[.int .u8 98, .int .u8 108, .int .u8 111, .int .u8 99, .int .u8 107] 5 (5, 6))) :=
    Lib.run_convert_bytes_const (P := Tryz.prog) w3 45 5 _ 5 5 Tryz.underlying45 Tryz.underlying5
  have HRW := Lib.hid hR
  clear hR HW3 HW2
  go_wp2_with fail
  clear hcv
  refine (HBY.out).mono ?_
  rintro e w5 ⟨A, c, rfl, hc1, hc2, hsee, hb⟩
  have HS5 := Lib.hid hsee
  have HB5 := Lib.hid hb
  have HC5 := Lib.hid hc1
  have HC6 := Lib.hid hc2
  clear hsee hb hc1 hc2
  have HX6 : Hid (Box (w5.alloc (.cells #[.slice (some ⟨w3.heap.size, 0, none⟩) 5 5, .slice A bs.length c] 45)) w5.heap.size 45 #[.slice (some ⟨w3.heap.size, 0, none⟩) 5 5, .slice A bs.length c]) := Box.made _ _ _
  have HB6 : Hid (Below w5.heap.size w5 (w5.alloc (.cells #[.slice (some ⟨w3.heap.size, 0, none⟩) 5 5, .slice A bs.length c] 45))) := (Below.refl _ _).alloc (Nat.le_refl _) _
  have HB46 := Lib.hid (HB5.out.trans (HB6.out.mono HB5.out.size))
  have HFA := Lib.hid (HWK.out.trans ((HF4.out.trans (HB46.out.mono HF4.out.size)).mono HWK.out.size))
  have HFB := Lib.hid (HB3.out.trans ((HF4.out.trans (HB46.out.mono HF4.out.size)).mono HB3.out.size))
  have HOF := Lib.hid (of_any [bkMark, bs] (some ⟨w5.heap.size, 0, none⟩) 2 _ (Pieces.two (p := bkMark) HX6.out HX6.out.lt (by decide) (by decide) (HM.out _ (by have h := HB46.out; rw [HZ4.out] at h; exact h)) HC5.out HC6.out ((HS5.out.below HB6.out).more HB6.out.size)) (by simp) (by have := HBL.out; simp [bkMark]; omega) (HRW.out.of_below HFA.out))
  rw [← HD.out] at HOF
  clear HB46 HM HS5 HB5 HBY HZ4 HF4 HX6 HB6 HC5 HC6
  go_wp2_with fail
  refine (HOF.out).mono ?_
  rintro e w7 ⟨rfl, hb⟩
  have HF7 := Lib.hid (HFA.out.trans (hb.mono HFA.out.size))
  have HFC := Lib.hid (HFB.out.trans (hb.mono HFB.out.size))
  have hst := (HO.out.below HFC.out HO.out.lt).store_digest rfl d HDL.out
  have HB9 := Lib.hid ((HO.out.below HFC.out HO.out.lt).cells_dig rfl HDL.out)
  have HF9 : Hid (Below w.heap.size w (w7.setCells (w.heap.size + 1) 0 (d.map bv))) := below_cells HF7.out (by omega) HF7.out.size 0 _
  clear hb HOF HD HFA HF HO
  go_wp2
  exact ret_dig rfl rfl rfl HB9.out HDL.out ⟨rfl, HF9.out⟩

end Go.Proofs.YtbclepdcngaonaaGreatDoor
