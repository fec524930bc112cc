/-
  Chunks collected: slices.AppendSeq, slices.Collect; chunk.parts.
  A state's bytes in parts: chunk.parts; their digests as leaves: chunk.leavesOf.
  The parts' digests as leaves: chunk.leavesOf.
  A state's digest: chunk.Root.
-/
import Derived.Test.YtlogceoeodjeoaaDoorHC
import Derived.Test.YtlogceoeodjeoaaDoorHA
import Derived.Test.YtlogceoeodjeoaaDoorHF
import Derived.Test.YtlogceoeodjeoaaDoorOB
namespace Go.Proofs.YtlogceoeodjeoaaDoor
open Go.RowKit Go.Maps Go.Shelf

set_option maxRecDepth 100000 in
theorem row_info3 : (Tryd.prog.info? 46).map (fun i => (i.zero, i.size, i.bytes)) = some (some (.slice none 0 0), 1, 24) := by kernel_rfl
set_option maxRecDepth 100000 in
theorem KeepAt.of_below {n₀ : Nat} {T : Nat → Prop} {w w' : World} (h : Below n₀ w w') (hT : ∀ b, T b → b < n₀) : KeepAt T w w' := fun p hp => h.cell (p := p) (hT _ hp)
set_option maxRecDepth 100000 in
theorem keepAt_b {n₀ : Nat} {T : Nat → Prop} {w : World} (hn : n₀ ≤ w.heap.size) (hT : ∀ b, T b → b < n₀) (W : World) (l : Nat) (o o' : Obj) (hl : w.heap.size ≤ l) (h : W.heap[l]? = some o) (h1 : o.isCells = false) (h2 : o.isWalk = false) : KeepAt T W (W.putObj l o') :=
  KeepAt.of_below (belowK_b hn W l o o' hl h h1 h2) hT

attribute [local go_sem] Oper.semAt_some
set_option maxRecDepth 100000 in
set_option maxHeartbeats 2000000 in
theorem appseq_any (Bs Bn g o L c : Nat) (hL : 0 < L) (hLc : L ≤ c) (hm : L ≤ 1099511627776) (w : World) (hBs : Bs < w.heap.size) (hBn : Bn < w.heap.size)
    (hs : w.cell? ⟨Bs, 0, none⟩ = some (.slice (some ⟨g, o, none⟩) L c)) (hb : w.cell? ⟨Bn, 0, none⟩ = some (.int .i64 256)) :
    Calls Tryd.prog 85 #[.slice none 0 0, .func (.func 86) #[] #[.pointer (some ⟨Bs, 0, none⟩), .pointer (some ⟨Bn, 0, none⟩)]] w fun e w' => ∃ v, e = .returned v ∧ w'.ownsRow w.heap.size 46 1 v (List.range ((L + 255) / 256)).length ((List.range ((L + 255) / 256)).map (chkB g o L)) ∧ Below w.heap.size w w' := by
  refine (callsIn_wide (n := 3)).1 ?_
  refine callsIn_of_wp_marks Tryd.func85 rfl trivial ?_ rfl
  simp only [Tryd.ntmps85, List.size_toArray, List.length_cons, List.length_nil, Nat.reduceAdd, Nat.reduceSub, Array.replicate_succ, Array.replicate_zero, List.push_toArray, List.append_toArray, List.nil_append, List.cons_append]
  gi_wp2
  have bO := Boxed.new w 68 (.slice none 0 0)
  have hB0 : Below w.heap.size w (w.alloc (.cells #[.slice none 0 0] 68)) := (Below.refl _ w).alloc (Nat.le_refl _) _
  have hsz : (w.alloc (.cells #[.slice none 0 0] 68)).heap.size = w.heap.size + 1 := by simp
  have hs0 := (hB0.cell (p := ⟨Bs, 0, none⟩) hBs).trans hs
  have hb0 := (hB0.cell (p := ⟨Bn, 0, none⟩) hBn).trans hb
  obtain ⟨i0, hi, hz0, hz1, hz2⟩ := info_parts row_info3
  obtain ⟨W0, hW0⟩ : ∃ W0, w.alloc (.cells #[.slice none 0 0] 68) = W0 := ⟨_, rfl⟩
  rw [hW0] at bO hB0 hsz hs0 hb0 ⊢
  clear hW0
  refine wpIn_rangeFunc_ownH (α := Nat) (encs := fun k => #[chkB g o L k]) (Kp := KeepAt (fun b => b = Bs ∨ b = Bn)) rfl (by decide) (gf := 86) (lb := #[.pointer (some ⟨Bs, 0, none⟩), .pointer (some ⟨Bn, 0, none⟩)]) rfl trivial (enters_of Tryd.func86 (by kernel_rfl) rfl)
    (cstopsB Fence.wide (3 - 1) trivial rfl (by decide) Bs Bn g o L c hL hLc hm W0 (by omega) (by omega) hs0 hb0) KeepAt.trans (keepAt_b (n₀ := w.heap.size) (by omega) (fun b hb => by rcases hb with rfl | rfl <;> assumption)) (Below.refl _ _) (fun _ => rfl)
    (fun (pre : List Nat) W => (∃ v, Boxed W w.heap.size 68 v ∧ W.ownsRow w.heap.size 46 1 v pre.length (pre.map (chkB g o L)) ∧ True) ∧ Below w.heap.size w W)
    (fun _ _ _ => False)
    (OwnFrom.and (Own.from (holdsRow_own w.heap.size w.heap.size 68 46 1 (fun (pre : List Nat) => pre.length) (fun (pre : List Nat) => pre.map (chkB g o L)) (fun _ _ => True)) _) (ownFrom_below (Nat.le_refl _) (by omega)))
    (fun _ _ _ _ _ hs _ _ => hs)
    ⟨⟨_, bO, World.ownsRow_nil _ _ _ _, trivial⟩, hB0⟩
    (fun k a' W => a' = { tmps := #[.slice none 0 0, .func (.func 86) #[] #[.pointer (some ⟨Bs, 0, none⟩), .pointer (some ⟨Bn, 0, none⟩)], .pointer (some ⟨w.heap.size, 0, none⟩), undef, .slice none 0 0, chkB g o L k, .func (.func 86) #[] #[.pointer (some ⟨Bs, 0, none⟩), .pointer (some ⟨Bn, 0, none⟩)], chkB g o L k, undef, undef, undef, undef, undef], defers := [] })
    (fun x a' _ X Y row hs hg hr => hs)
    ?assign ?body ?done ?stop
  case assign =>
    rintro l pre x W K hi hK
    gi_wp2
    exact hK _ _ (KeepsFrom.refl _ _) (KeepAt.refl _ _) hi rfl
  case body =>
    rintro l pre x a' W hl ⟨r, hr1⟩ ⟨⟨v, bv1, hrow, _⟩, hB1⟩ rfl hlt
    obtain ⟨A, m, hcv⟩ : ∃ A m, chkB g o L x = .slice A m m := ⟨_, _, rfl⟩
    rw [hcv]
    have HCV := Lib.hid hcv
    have hc := bv1.cell
    have HN1 : Hid (pre.length < 1099511627776) := Lib.hid (by omega)
    have HB1 := Lib.hid hB1
    have HROW := Lib.hid hrow
    have HBV := Lib.hid bv1
    have HKT : Hid (∀ b, (b = Bs ∨ b = Bn) → b < w.heap.size) := Lib.hid (fun b hb => by rcases hb with rfl | rfl <;> assumption)
    clear hB1 hrow hlt hr1 hcv hs hb hs0 hb0 hm hL hLc hB0 hBs hBn
    gi_wp2_with (gi_at_builtin; refine wpListIn_append_own _ rfl _ _ 68 rfl w.heap.size 46 i0 (.slice none 0 0) 1 24 Tryd.underlying68 hi hz0 hz1 hz2 rfl (by decide) _ _ _ rfl (HROW.out.alloc _) ⟨W.heap.size, 0, none⟩ 1 1 [.slice A m m] rfl rfl (cell_one_new _ _ _) (by simp [Value.oneCell']) (by have := HN1.out; unfold maxLen; omega) (by have := HN1.out; omega) (by have := HB1.out.size; simp; omega) ?_; intro v' w1 hown' hgrow _; obtain ⟨g', cap', rfl⟩ := ownsRow_succ hown'; obtain ⟨hv1, hv2, hr2, hk2, hb2⟩ := HBV.out.appended (by decide) HROW.out HB1.out.size (Nat.le_refl _) hown' hgrow; have hc1 := hv1.cell; have hf1 := hv1.frozen)
    exact ⟨hk2.from _, KeepAt.of_below hb2 HKT.out, ⟨_, hv2, by simpa [HCV.out] using hr2, trivial⟩, HB1.out.trans hb2⟩
  case done =>
    rintro D1 ys W hD1 rfl ⟨⟨v, bv1, hrow, _⟩, hB1⟩ hK
    have hc := bv1.cell
    have HROW := Lib.hid hrow
    have HB1 := Lib.hid hB1
    have HKK := Lib.hid hK
    have HD1 : Hid (w.heap.size ≤ D1) := Lib.hid (by omega)
    clear hrow hB1 hK hD1 hs hb hs0 hb0 hm hL hLc hB0 hBs hBn
    gi_wp2
    refine ⟨by simp, .inl ⟨_, _, rfl, run_takeDeferred HKK.out, ?_⟩⟩
    exact ⟨_, results_tmp rfl _ _ _, v, rfl, ownsRow_putObj HROW.out _ HKK.out rfl, HB1.out.trans (belowK_b (w := w) (Nat.le_refl _) W D1 _ _ HD1.out HKK.out rfl rfl)⟩
  case stop =>
    rintro D c pre W _ _ h _
    exact h.elim

set_option maxRecDepth 100000 in
set_option maxHeartbeats 2000000 in
theorem collect_any (Bs Bn g o L c : Nat) (hL : 0 < L) (hLc : L ≤ c) (hm : L ≤ 1099511627776) (w : World) (hBs : Bs < w.heap.size) (hBn : Bn < w.heap.size)
    (hs : w.cell? ⟨Bs, 0, none⟩ = some (.slice (some ⟨g, o, none⟩) L c)) (hb : w.cell? ⟨Bn, 0, none⟩ = some (.int .i64 256)) :
    Calls Tryd.prog 65 #[.func (.func 86) #[] #[.pointer (some ⟨Bs, 0, none⟩), .pointer (some ⟨Bn, 0, none⟩)]] w fun e w' => ∃ v, e = .returned v ∧ w'.ownsRow w.heap.size 46 1 v (List.range ((L + 255) / 256)).length ((List.range ((L + 255) / 256)).map (chkB g o L)) ∧ Below w.heap.size w w' := by
  have HC := Lib.hid (appseq_any Bs Bn g o L c hL hLc hm w hBs hBn hs hb)
  clear hL hLc hm hs hb hBs hBn
  go_enter Tryd.func65, Tryd.ntmps65
  go_wp2_with (go_at_call 85; (with_reducible refine (HC.out).mono ?_); rintro e w2 ⟨v, rfl, ho, hb⟩; have HO := Lib.hid ho; have HB := Lib.hid hb; clear ho hb)
  go_ret
  exact ⟨v, rfl, HO.out, HB.out⟩
end Go.Proofs.YtlogceoeodjeoaaDoor

namespace Go.Proofs.YtlogceoeodjeoaaDoor
open Go.RowKit Go.Maps Go.Shelf

/-- How many parts, and each one's bytes. -/
def nCh (bs : List UInt8) : Nat := (bs.length + 255) / 256
def chunkL (bs : List UInt8) (k : Nat) : List UInt8 := (bs.drop (k * 256)).take 256
set_option maxRecDepth 100000 in
theorem chunk_len (bs : List UInt8) (k : Nat) : (chunkL bs k).length = min 256 (bs.length - k * 256) := by
  unfold chunkL
  rw [List.length_take, List.length_drop]
set_option maxRecDepth 100000 in
theorem nCh_lt {bs : List UInt8} {k : Nat} (h : k < nCh bs) : k * 256 < bs.length := by
  unfold nCh at h
  omega
set_option maxRecDepth 100000 in
theorem nCh_pos {bs : List UInt8} (h : 0 < bs.length) : 0 < nCh bs := by
  unfold nCh
  omega
set_option maxRecDepth 100000 in
theorem nCh_le (bs : List UInt8) : nCh bs ≤ bs.length := by
  unfold nCh
  omega
set_option maxRecDepth 100000 in
theorem stB_pos (s : StX) : 0 < (stB s).length := by
  unfold stB
  simp only [List.length_append]
  have : 0 < (cfgB s.ep s.ms).length := by
    unfold cfgB
    have h : (numBytes s.ep).length = 8 := numBytes_len _
    simp only [List.length_append, List.flatMap_cons, h]
    omega
  omega

/-- Parts as memory has them. -/
structure PartsW (bs : List UInt8) (A : Option Addr) (g o : Nat) (w : World) : Prop where
  see : Sees w w.heap.size A ((List.range (nCh bs)).map (chkB g o bs.length))
  lt : g < w.heap.size
  bytes : ∀ j u, (bs.map bv)[j]? = some u → w.cell? ⟨g, o + j, none⟩ = some u
set_option maxRecDepth 100000 in
theorem PartsW.far {bs : List UInt8} {A : Option Addr} {g o : Nat} {w w' : World} (h : PartsW bs A g o w) (hb : Below w.heap.size w w') : PartsW bs A g o w' :=
  ⟨(Sees.below h.see hb).more hb.size, Nat.lt_of_lt_of_le h.lt hb.size, fun j u hu => (hb.cell (p := ⟨g, o + j, none⟩) h.lt).trans (h.bytes j u hu)⟩
set_option maxRecDepth 100000 in
theorem PartsW.part {bs : List UInt8} {A : Option Addr} {g o : Nat} {w : World} (h : PartsW bs A g o w) (k : Nat) : Sees w w.heap.size (some ⟨g, o + k * 256, none⟩) ((chunkL bs k).map bv) :=
  .inr ⟨g, o + k * 256, rfl, h.lt, fun j u hu => by
    have e : o + k * 256 + j = o + (k * 256 + j) := by omega
    rw [e]
    refine h.bytes (k * 256 + j) u ?_
    unfold chunkL at hu
    rw [List.getElem?_map] at hu ⊢
    rw [List.getElem?_take] at hu
    split at hu
    · rwa [List.getElem?_drop] at hu
    · cases hu⟩
set_option maxRecDepth 100000 in
theorem PartsW.val {bs : List UInt8} (g o k : Nat) : chkB g o bs.length k = .slice (some ⟨g, o + k * 256, none⟩) (chunkL bs k).length (chunkL bs k).length := by
  rw [chunk_len]
  rfl

attribute [local go_sem ↓] ldSt_def stSt_def ldDigest_def stDigest_def
set_option maxRecDepth 100000 in
set_option maxHeartbeats 2000000 in
theorem parts_any (s : StM) (w : World) (hS : s.See w w.heap.size) (hl : (stB s.pl).length ≤ 1073741824) :
    Calls Tryd.prog 28 #[.agg s.cells] w fun e w' => ∃ A c g o, e = .returned (.slice A (nCh (stB s.pl)) c) ∧ PartsW (stB s.pl) A g o w' ∧ nCh (stB s.pl) ≤ c ∧ Below w.heap.size w w' := by
  obtain ⟨w1, hw1⟩ : ∃ w1, w1 = w.alloc (.cells s.cells 37) := ⟨_, rfl⟩
  have HB1 : Hid (Box w1 w.heap.size 37 s.cells) := by rw [hw1]; exact Box.made _ _ _
  have HF1 : Hid (Below w.heap.size w w1) := by rw [hw1]; exact (Below.refl _ _).alloc (Nat.le_refl _) _
  have HL := Lib.hid hl
  have HP := Lib.hid (stB_pos s.pl)
  have HBY := Lib.hid (bytes_any11 s w1 (hS.far HF1.out) hl)
  unfold BytesIs at HBY
  have ls : (ldSt (.pointer (some ⟨w.heap.size, 0, none⟩))).run Tryd.prog w1 = .ok (.agg s.cells) w1 := HB1.out.l_st
  have HCL : Hid (∀ (A : Option Addr) (c : Nat) (w2 w3 : World), (stB s.pl).length ≤ c → Sees w2 w2.heap.size A ((stB s.pl).map bv) → w3 = (w2.alloc (.cells #[.slice A (stB s.pl).length c] 46)).alloc (.cells #[.int .i64 256] 3) → Calls Tryd.prog 65 #[.func (.func 86) #[] #[.pointer (some ⟨w2.heap.size, 0, none⟩), .pointer (some ⟨w2.heap.size + 1, 0, none⟩)]] w3 fun e w' => ∃ A c g o, e = .returned (.slice A (nCh (stB s.pl)) c) ∧ PartsW (stB s.pl) A g o w' ∧ nCh (stB s.pl) ≤ c ∧ Below w2.heap.size w2 w') := Lib.hid (fun A c w2 w3 hc hs e => by
    subst e
    have hp := HP.out
    generalize stB s.pl = bs at *
    have hb3 : Below w2.heap.size w2 ((w2.alloc (.cells #[.slice A bs.length c] 46)).alloc (.cells #[.int .i64 256] 3)) := ((Below.refl _ _).alloc (Nat.le_refl _) _).alloc (by simp) _
    rcases hs with hn | ⟨g, o, rfl, hg, hcs⟩
    · rw [List.map_eq_nil_iff] at hn
      rw [hn] at hp
      cases hp
    have b1 : Box ((w2.alloc (.cells #[.slice (some ⟨g, o, none⟩) bs.length c] 46)).alloc (.cells #[.int .i64 256] 3)) w2.heap.size 46 #[.slice (some ⟨g, o, none⟩) bs.length c] := (Box.made _ _ _).alloc _
    have b2 : Box ((w2.alloc (.cells #[.slice (some ⟨g, o, none⟩) bs.length c] 46)).alloc (.cells #[.int .i64 256] 3)) (w2.heap.size + 1) 3 #[.int .i64 256] := Box.made_at (by simp) _ _
    refine (collect_any w2.heap.size (w2.heap.size + 1) g o bs.length c hp hc (by omega) _ b1.lt b2.lt (b1.cell 0) (b2.cell 0)).mono ?_
    rintro e w' ⟨v, rfl, ho, hb⟩
    obtain ⟨A', c', rfl⟩ := own_slice_s ho
    have ho2 := ho
    rw [List.length_range] at ho2
    have hcc : nCh bs ≤ c' := by
      rcases ho2.2 with ⟨h1, h2⟩ | ⟨_, cap, _, h1, _, _, h3, _⟩
      · injection h1 with _ e2 e3
        unfold nCh
        omega
      · injection h1 with _ e2 e3
        unfold nCh
        omega
    refine ⟨A', c', g, o, by rw [List.length_range]; rfl, ⟨Sees.of_own ho2, ?_, fun j u hu => ?_⟩, hcc, hb3.trans (hb.mono hb3.size)⟩
    · exact Nat.lt_of_lt_of_le hg (hb3.trans (hb.mono hb3.size)).size
    · exact ((hb3.trans (hb.mono hb3.size)).cell (p := ⟨g, o + j, none⟩) hg).trans (hcs j u hu))
  generalize stB s.pl = bs at *
  clear hS hl HB1 HP HL
  go_enter Tryd.func28, Tryd.ntmps28
  go_upto_region 1 with fail
  change Code.wp _ _ _ _ (w.alloc (.cells s.cells 37))
  rw [← hw1]
  clear hw1
  go_wp2_with (first
    | (go_at_call 14; (with_reducible refine (HBY.out).mono ?_); rintro e w2 ⟨A, c, rfl, hlc, hcm, hse, hb2⟩; have HB2 := Lib.hid hb2; have HC2 := Lib.hid (HCL.out A c w2 _ hlc hse rfl); have HMK := Lib.hid (cmakeB A bs.length c w2); clear hlc hcm hse hb2)
    | (go_at_call 66; (with_reducible refine (HMK.out).mono ?_); rintro e w3 ⟨rfl, rfl⟩)
    | (go_at_call 65; (with_reducible refine (HC2.out).mono ?_); rintro e w4 ⟨A2, c2, g, o, rfl, hpw, hc2, hb4⟩; have HPW := Lib.hid hpw; have HCC := Lib.hid hc2; have HB4 := Lib.hid hb4; clear hpw hc2 hb4))
  go_ret
  have h2 := HF1.out.trans (HB2.out.mono HF1.out.size)
  exact ⟨A2, c2, g, o, rfl, HPW.out, HCC.out, h2.trans (HB4.out.mono h2.size)⟩
end Go.Proofs.YtlogceoeodjeoaaDoor

namespace Go.Proofs.YtlogceoeodjeoaaDoor
open Go.RowKit Go.Maps Go.Shelf

/-- The leaves. -/
def leafL (bs : List UInt8) : List (List UInt8) := (List.range (nCh bs)).map (fun k => shaOf (0 :: chunkL bs k))
set_option maxRecDepth 100000 in
theorem leaf_len (bs : List UInt8) : (leafL bs).length = nCh bs := by
  unfold leafL
  rw [List.length_map, List.length_range]
set_option maxRecDepth 100000 in
theorem leaf_all (bs : List UInt8) : AllD (leafL bs) := by
  intro x hx
  obtain ⟨i, _, rfl⟩ := List.mem_map.1 hx
  exact sha_len _
set_option maxRecDepth 100000 in
theorem leaf_at (bs : List UInt8) {k : Nat} (hk : k < nCh bs) : (leafL bs).getD k [] = shaOf (0 :: chunkL bs k) := by
  unfold leafL
  rw [List.getD_eq_getElem?_getD, List.getElem?_map, List.getElem?_range hk]
  rfl

attribute [local go_sem ↓] ldDigest_def stDigest_def
set_option maxRecDepth 100000 in
set_option maxHeartbeats 2000000 in
theorem leaves_any (bs : List UInt8) (A : Option Addr) (g o c : Nat) (w : World) (hP : PartsW bs A g o w) (hl : bs.length ≤ 1073741824) (hR : Roots w) :
    Calls Tryd.prog 29 #[.slice A (nCh bs) c] w fun e w' => ∃ A' c', e = .returned (.slice A' (nCh bs) c') ∧ Digs w' w'.heap.size A' (leafL bs) ∧ nCh bs ≤ c' ∧ Below w.heap.size w w' := by
  have hmk : ∀ w' : World, (Instr.makeSlice 27 (.int .i64 (nCh bs : Int)) (.int .i64 (nCh bs : Int))).run Tryd.prog w' = .ok (.slice (some ⟨w'.heap.size, 0, none⟩) (nCh bs) (nCh bs)) (w'.alloc (.cells (zerosD (nCh bs * 32)).toArray 23)) := fun w' => make_digs (nCh bs) (by have := nCh_le bs; omega) w'
  obtain ⟨w1, hw1⟩ : ∃ w1, w1 = w.alloc (.cells (zerosD (nCh bs * 32)).toArray 23) := ⟨_, rfl⟩
  have HB1 : Hid (Box w1 w.heap.size 23 (fillD (leafL bs) 0)) := by rw [fillD_zero, leaf_len, hw1]; exact Box.made _ _ _
  have HF1 : Hid (Below w.heap.size w w1) := by rw [hw1]; exact (Below.refl _ _).alloc (Nat.le_refl _) _
  have HP := Lib.hid hP
  have HR := Lib.hid hR
  have HN : Hid (nCh bs ≤ 1073741824) := Lib.hid (by have := nCh_le bs; omega)
  have HL := Lib.hid hl
  obtain ⟨n, hn⟩ : ∃ n, n = nCh bs := ⟨_, rfl⟩
  have HLN : Hid ((leafL bs).length = n) := Lib.hid (by rw [leaf_len, hn])
  have HAT : Hid (∀ k, k < n → (leafL bs).getD k [] = shaOf (0 :: chunkL bs k)) := Lib.hid (fun k hk => leaf_at bs (by omega))
  have HSE : Hid (∀ w', Below w.heap.size w w' → ∀ k, k < n → ∃ ga oa, A = some ⟨ga, oa, none⟩ ∧ w'.cell? ⟨ga, oa + k, none⟩ = some (chkB g o bs.length k)) := Lib.hid (fun w' hb k hk => by
    rcases (HP.out.far hb).see with h | ⟨ga, oa, e, _, hc⟩
    · rw [List.map_eq_nil_iff, List.range_eq_nil] at h
      omega
    · exact ⟨ga, oa, e, hc k _ (by rw [List.getElem?_map, List.getElem?_range (by omega)]; rfl)⟩)
  rw [← hn] at hmk hw1 HN ⊢
  clear hP hl hR hn
  go_enter Tryd.func29, Tryd.ntmps29
  go_upto_region 2 with fail
  change Code.wp _ _ _ _ (w.alloc (.cells (zerosD (n * 32)).toArray 23))
  rw [← hw1]
  clear hw1 hmk
  go_upto_region 3 with fail
  go_loopw [11] (fun i wr => ∃ k : Nat, k ≤ n ∧ i = .int .i64 (k : Int) ∧ Hid (Box wr w.heap.size 23 (fillD (leafL bs) k)) ∧ Hid (Below w.heap.size w wr)) (fun i _ => n - (intOf i).toNat)
  case atStart => exact ⟨0, Nat.zero_le _, rfl, HB1, HF1⟩
  case round =>
    clear HB1 HF1
    obtain ⟨k, hk, rfl, HB, HF⟩ := hrel
    by_cases hlt : k < n
    · have HLT := Lib.hid hlt
      obtain ⟨ga, oa, rfl, hc⟩ := HSE.out wr HF.out k hlt
      rw [PartsW.val] at hc
      have i1 : (k : Int) < (n : Int) := by omega
      have i0 : (0 : Int) ≤ (k : Int) := by omega
      have wk : IntKind.i64.wrap ((k : Int) + 1) = ((k + 1 : Nat) : Int) := by rw [IntKind.wrap_i64]; have := HN.out; omega
      have HCK : Hid ((chunkL bs k).length ≤ 256) := Lib.hid (by rw [chunk_len]; omega)
      have HLF := Lib.hid (leaf_any (chunkL bs k) (some ⟨g, o + k * 256, none⟩) (chunkL bs k).length wr ((HP.out.far HF.out).part k) (Nat.le_refl _) (by have := HCK.out; unfold maxLen; omega) (by have := HCK.out; omega) (HR.out.of_below HF.out))
      have HSL := Lib.hid (sha_len (0 :: chunkL bs k))
      have HA : Hid ((leafL bs).getD k [] = shaOf (0 :: chunkL bs k)) := Lib.hid (HAT.out k hlt)
      generalize shaOf (0 :: chunkL bs k) = d at *
      have HZ : Hid (k * 32 + 32 ≤ (fillD (leafL bs) k).size) := Lib.hid (by rw [fillD_size (leaf_all bs) (by rw [HLN.out]; omega), HLN.out]; omega)
      have HPUT : Hid (∀ w', Box w' w.heap.size 23 (fillD (leafL bs) k) → Box (w'.setCells w.heap.size (k * 32) (d.map bv)) w.heap.size 23 (fillD (leafL bs) (k + 1))) := Lib.hid (fun w' h => by
        have h2 := h.fill_put (leaf_all bs) (k := k) (by rw [HLN.out]; exact HLT.out)
        rw [HA.out] at h2
        exact h2)
      clear HAT HSE hlt
      go_wp2_with (go_at_call 19; (with_reducible refine (HLF.out).mono ?_); rintro e w3 ⟨rfl, hb3⟩; have hst := (HB.out.below hb3 HB.out.lt).store_mid (o := k * 32) HZ.out d HSL.out; have HB4 := Lib.hid (HPUT.out w3 (HB.out.below hb3 HB.out.lt)); have HF4 := Lib.hid (HF.out.trans (hb3.mono HF.out.size)); clear hb3)
      have HF5 := Lib.hid (below_cells HF4.out (Nat.le_refl _) HF4.out.size (k * 32) (d.map bv))
      go_roundw
      case rel => exact ⟨k + 1, HLT.out, by go_num, HB4, HF5⟩
      case measure => have := HLT.out; simp [intOf]; omega
    · have i1 : ¬ (k : Int) < (n : Int) := by omega
      have hke : k = n := by omega
      subst hke
      have HD : Hid (Digs wr wr.heap.size (some ⟨w.heap.size, 0, none⟩) (leafL bs)) := Lib.hid ⟨leaf_all bs, by
        have h := HB.out
        rw [← HLN.out, fillD_all] at h
        have h2 := Sees.of_box h h.lt
        rwa [List.toList_toArray] at h2⟩
      clear HB HAT HSE hk hlt
      go_wp2
      go_ret
      exact ⟨_, _, rfl, HD.out, Nat.le_refl _, HF.out⟩
end Go.Proofs.YtlogceoeodjeoaaDoor

namespace Go.Proofs.YtlogceoeodjeoaaDoor
open Go.RowKit Go.Maps Go.Shelf

attribute [local go_sem ↓] ldSt_def stSt_def ldDigest_def stDigest_def
set_option maxRecDepth 100000 in
set_option maxHeartbeats 2000000 in
theorem sroot_any (s : StM) (w : World) (hS : s.See w w.heap.size) (hl : (stB s.pl).length ≤ 1073741824) (hR : Roots w) :
    Calls Tryd.prog 16 #[.agg s.cells] w fun e w' => e = .returned (.agg ((stD (nCh (stB s.pl) : Int) (rootT (leafL (stB s.pl)))).map bv).toArray) ∧ Below w.heap.size w w' := by
  obtain ⟨w1, hw1⟩ : ∃ w1, w1 = (w.alloc (.cells s.cells 37)).alloc (.cells (zerosD 32).toArray 23) := ⟨_, rfl⟩
  have HB1 : Hid (Box w1 w.heap.size 37 s.cells) := by rw [hw1]; exact (Box.made _ _ _).alloc _
  have HO1 : Hid (Box w1 (w.heap.size + 1) 23 (zerosD 32).toArray) := by rw [hw1]; exact Box.made_at (by simp) _ _
  have HF1 : Hid (Below w.heap.size w w1) := by rw [hw1]; exact ((Below.refl _ _).alloc (Nat.le_refl _) _).alloc (by simp) _
  have HPA := Lib.hid (parts_any s w1 (hS.far HF1.out) hl)
  have HR := Lib.hid hR
  have ls : (ldSt (.pointer (some ⟨w.heap.size, 0, none⟩))).run Tryd.prog w1 = .ok (.agg s.cells) w1 := HB1.out.l_st
  have HL := Lib.hid hl
  generalize stB s.pl = bs at *
  have HN : Hid (nCh bs ≤ 1073741824) := Lib.hid (by have := nCh_le bs; have := HL.out; omega)
  have HLV : Hid (∀ (A : Option Addr) (g o c : Nat) (w' : World), PartsW bs A g o w' → Roots w' → Calls Tryd.prog 29 #[.slice A (nCh bs) c] w' fun e w'' => ∃ A' c', e = .returned (.slice A' (nCh bs) c') ∧ Digs w'' w''.heap.size A' (leafL bs) ∧ nCh bs ≤ c' ∧ Below w'.heap.size w' w'') := Lib.hid (fun A g o c w' h hr => leaves_any bs A g o c w' h HL.out hr)
  have HRT : Hid (∀ (A : Option Addr) (c : Nat) (w' : World), Digs w' w'.heap.size A (leafL bs) → Roots w' → Calls Tryd.prog 30 #[.slice A (nCh bs) c] w' fun e w'' => e = .returned (.agg ((rootT (leafL bs)).map bv).toArray) ∧ Below w'.heap.size w' w'') := Lib.hid (fun A c w' h hr => by
    have h2 := root_any (leafL bs) A c w' h (by rw [leaf_len]; have := HN.out; omega) hr
    rwa [leaf_len] at h2)
  have HDG : Hid (∀ (w' : World), Roots w' → Calls Tryd.prog 17 #[.int .i64 (nCh bs : Int), .agg ((rootT (leafL bs)).map bv).toArray] w' fun e w'' => e = .returned (.agg ((stD (nCh bs : Int) (rootT (leafL bs))).map bv).toArray) ∧ Below w'.heap.size w' w'') := Lib.hid (fun w' hr => dgt_any _ (leaf_all bs).root w' hr)
  have HDL := Lib.hid (stD_len (nCh bs : Int) (rootT (leafL bs)))
  generalize rootT (leafL bs) = rt at *
  generalize stD (nCh bs : Int) rt = dg at *
  clear hS hl HB1 HL hR
  go_enter Tryd.func16, Tryd.ntmps16
  go_upto_region 1 with fail
  change Code.wp _ _ _ _ ((w.alloc (.cells s.cells 37)).alloc (.cells (zerosD 32).toArray 23))
  rw [← hw1]
  clear hw1
  go_wp2_with (first
    | (go_at_call 28; (with_reducible refine (HPA.out).mono ?_); rintro e w2 ⟨A, c, g, o, rfl, hpw, hc, hb2⟩; have HF2 := Lib.hid (HF1.out.trans (hb2.mono HF1.out.size)); have HO2 := Lib.hid (HO1.out.below hb2 HO1.out.lt); have HC2 := Lib.hid (HLV.out A g o c w2 hpw (HR.out.of_below HF2.out)); clear hpw hc hb2)
    | (go_at_call 29; (with_reducible refine (HC2.out).mono ?_); rintro e w3 ⟨A3, c3, rfl, hdg, hc3, hb3⟩; have HF3 := Lib.hid (HF2.out.trans (hb3.mono HF2.out.size)); have HO3 := Lib.hid (HO2.out.below hb3 HO2.out.lt); have HC3 := Lib.hid (HRT.out A3 c3 w3 hdg (HR.out.of_below HF3.out)); clear hdg hc3 hb3)
    | (go_at_call 30; (with_reducible refine (HC3.out).mono ?_); rintro e w4 ⟨rfl, hb4⟩; have HF4 := Lib.hid (HF3.out.trans (hb4.mono HF3.out.size)); have HO4 := Lib.hid (HO3.out.below hb4 HO3.out.lt); have HC4 := Lib.hid (HDG.out w4 (HR.out.of_below HF4.out)); clear hb4)
    | (go_at_call 17; (with_reducible refine (HC4.out).mono ?_); rintro e w5 ⟨rfl, hb5⟩; have HF5 := Lib.hid (HF4.out.trans (hb5.mono HF4.out.size)); have HO5 := Lib.hid (HO4.out.below hb5 HO4.out.lt); have hst := HO5.out.store_digest rfl dg HDL.out; clear hb5))
  have hb6 := HO5.out.cells_dig rfl HDL.out
  refine ret_dig rfl rfl rfl hb6 HDL.out ⟨rfl, below_cells HF5.out (by omega) HF5.out.size 0 (dg.map bv)⟩
end Go.Proofs.YtlogceoeodjeoaaDoor
