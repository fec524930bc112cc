/-
  Package sha: the end of a hash (sha.hash.end).
-/
import Derived.Test.YtoamcdbemhbphaaDoorSAdd
import Derived.Test.YtoamcdbemhbphaaDoorSB
import Derived.Lib.SliceRun
namespace Go.Proofs.YtoamcdbemhbphaaDoor
open Go.RowKit

attribute [local go_sem ↓] ldState_def ldBlock_def stState_def stDigest_def

theorem last_block (blk : List UInt8) (used : Nat) (h : blk.length = 64) (hu : used < 64) : into (into blk used [128]) (used + 1) (List.replicate (63 - used) 0) = lastBlock blk used := by
  have h1 : ([128] : List UInt8).length = 1 := rfl
  have hl := into_length blk used [128] (by omega)
  have ht := into_take blk used [128] (by omega)
  rw [h1] at ht
  have e : ∀ (X : List UInt8), X.length = 64 → into X (used + 1) (List.replicate (63 - used) 0) = X.take (used + 1) ++ List.replicate (63 - used) 0 := by
    intro X hX
    unfold into
    rw [List.length_replicate, List.drop_eq_nil_of_le (by omega), List.append_nil]
  rw [e _ (by omega), ht]
  unfold lastBlock
  simp
theorem put_count (n k : Nat) : 8 * (n : Int) / 2 ^ (8 * k) % 256 = ((UInt8.ofNat (8 * n / 256 ^ k)).toNat : Int) := by
  have h := put_byte (8 * n) k ((8 * k : Nat) : Int) (by omega)
  rw [IntKind.wrap_u8', Int.toNat_natCast, Int.natCast_mul] at h
  exact h
/-- What the walk of end carries of memory. -/
structure EndW (w0 : World) (a : Nat) (st : St) (blk : List UInt8) (used size : Nat) (w : World) : Prop where
  hash : HashW w a st blk used size
  out : ∃ z, Box w w0.heap.size 23 z ∧ z.size = 32
  only : w0.grownBy w (some a)
  roots : Roots w
  low : a < w0.heap.size
  ne : 0 < a
/-- What stands where the number of bits is still to be laid in. -/
def Padded (w0 : World) (a : Nat) (l : List UInt8) (wx : World) : Prop := ∃ st blk used, EndW w0 a st blk used l.length wx ∧ shaOf l = (mix st (counted blk l.length)).bytes
theorem EndW.drew {w0 w : World} {a : Nat} {st : St} {blk : List UInt8} {used size : Nat} (h : EndW w0 a st blk used size w) : EndW w0 a st blk used size w.drew :=
  ⟨h.hash.drew, h.out, only_drew h.only, h.roots, h.low, h.ne⟩
theorem EndW.turn {w0 w w' : World} {a : Nat} {st st' : St} {blk blk' : List UInt8} {used used' size size' : Nat} (h : EndW w0 a st blk used size w) (hg : w.grownBy w' (some a)) (hw : HashW w' a st' blk' used' size') : EndW w0 a st' blk' used' size' w' := by
  obtain ⟨z, hz, hs⟩ := h.out
  refine ⟨hw, ⟨z, hz.grown hg (by have := h.low; simp; omega), hs⟩, only_trans h.only hg, h.roots.of_below_only hg h.ne, h.low, h.ne⟩
theorem EndW.call {w0 w w' : World} {a : Nat} {st : St} {blk : List UInt8} {used size : Nat} (h : EndW w0 a st blk used size w) (hb : Below w.heap.size w w') : EndW w0 a st blk used size w' :=
  h.turn (only_below hb _) (h.hash.of_below hb h.hash.lt)

set_option maxRecDepth 100000 in
set_option maxHeartbeats 2000000 in
theorem end_any (a : Nat) (l : List UInt8) (w : World) (hF : HashF w a l l.length) (hz : l.length < 1152921504606846976) (hR : Roots w) (ha : 0 < a) :
    Calls Tryd.prog 22 #[.pointer (some ⟨a, 0, none⟩)] w fun e w' => e = .returned (.agg ((shaOf l).map bv).toArray) ∧ w.grownBy w' (some a) := by
  obtain ⟨st, blk, used, hW, hfed⟩ := hF
  have hu := hfed.lt
  have HR := Lib.hid hR
  have HW := Lib.hid hW
  have HFD := Lib.hid hfed
  clear hR hW hfed
  go_enter Tryd.func22, Tryd.ntmps22
  have HE : Hid (EndW w a st blk used l.length (w.alloc (.cells (List.replicate 32 (Value.int .u8 0)).toArray 23))) := by
    have hlt := HW.out.lt
    exact ⟨⟨HW.out.box.alloc _, HW.out.len⟩, ⟨_, Box.made _ _ _, rfl⟩, only_made (only_refl _ _) _, HR.out.of_below ((Below.refl _ _).alloc (Nat.le_refl _) _), hlt, ha⟩
  clear HW HR
  go_upto_region 1 with fail
  change Code.wp _ _ _ _ (w.alloc (.cells (List.replicate 32 (Value.int .u8 0)).toArray 23))
  generalize w.alloc (.cells (List.replicate 32 (Value.int .u8 0)).toArray 23) = w1 at *
  have HE1 : Hid (EndW w a st blk used l.length w1.drew) := HE.out.drew
  have c72 := HE1.out.hash.cell_used
  have cu := HE1.out.hash.cell_byte hu
  have fu := HE1.out.hash.free (8 + used)
  have b0 : 0 ≤ (used : Int) ∧ (used : Int) < 64 := by omega
  go_region_with (fail)
  have HE2 : Hid (EndW w a st (into blk used [128]) used l.length (w1.setCell ⟨a, 8 + used, none⟩ (.int .u8 128)).drew) := by
    have h := HE.out.hash.put_block used [128] (by simp; omega)
    exact (HE.out.turn (only_put (only_refl _ _) (8 + used) (.int .u8 128)) h).drew
  generalize (w1.setCell ⟨a, 8 + used, none⟩ (.int .u8 128)).drew = w2 at *
  clear HE HE1 c72 cu fu
  go_upto_region 2 with fail
  go_cut [21] (fun _ wx => EndW w a st (lastBlock blk used) used l.length wx)
  case first =>
    have HE3 : Hid (EndW w a st (into blk used [128]) used l.length w2.drew) := HE2.out.drew
    have c72 : w2.drew.cell? ⟨a, 72, none⟩ = some (.int .i64 (used : Int)) := HE2.out.hash.cell_used
    have hwr : IntKind.i64.wrap ((used : Int) + 1) = (used : Int) + 1 := IntWalk.i64_in _ (by omega)
    have ht : ((used : Int) + 1).toNat = used + 1 := by omega
    have b1 : 0 ≤ (used : Int) + 1 ∧ (used : Int) + 1 ≤ 64 := by omega
    have hz : ∀ w, (zeroValue 5).run Tryd.prog w = .ok (.int .u8 0) w := fun w => by kernel_rfl
    have hlb : Hid (into (into blk used [128]) (used + 1) (List.replicate (63 - used) 0) = lastBlock blk used) := Lib.hid (last_block blk used HFD.out.len hu)
    by_cases h63 : used = 63
    · have hcl : (Builtin.clear_ #[35] 0 #[.slice (some ⟨a, 8, none⟩) 0 0]).run Tryd.prog w2.drew = .ok (.tuple #[]) w2.drew := by
        simp [Builtin.clear_, run_underlying Tryd.underlying35 w2.drew]
      subst h63
      have HE4 : Hid (EndW w a st (lastBlock blk 63) 63 l.length w2.drew) := by
        have e : into blk 63 [128] = lastBlock blk 63 := by
          have h := hlb.out
          have hl := into_length blk 63 [128] (by rw [HFD.out.len]; decide)
          rw [← h]
          unfold into
          simp
        rw [← e]
        exact HE3.out
      have hw2 : IntKind.i64.wrap 64 = 64 := by decide
      clear hz hlb HFD hwr
      go_region_with (fail)
      all_goals go_wp2_with fail
      all_goals go_meet
      all_goals exact HE4.out
    · have h2 : ¬ 64 = used + 1 := by omega
      have hcl := Lib.run_clear_slice (P := Tryd.prog) w2.drew 35 5 0 (.int .u8 0) Tryd.underlying35 hz rfl rfl a (8 + (used + 1)) (63 - used) (63 - used) (by omega)
        (fun j hj => (HE3.out.hash.there (8 + (used + 1)) (63 - used) (by omega) j hj).1) (fun j hj => (HE3.out.hash.there (8 + (used + 1)) (63 - used) (by omega) j hj).2)
      have HE4 : Hid (EndW w a st (lastBlock blk used) used l.length (w2.drew.setCells a (8 + (used + 1)) (List.replicate (63 - used) (.int .u8 0)))) := by
        have h := HE3.out.hash.put_block (used + 1) (List.replicate (63 - used) 0) (by rw [List.length_replicate]; omega)
        rw [hlb.out, List.map_replicate] at h
        exact HE3.out.turn (only_cells _ _ _) h
      clear hz
      go_region_with (fail)
      all_goals go_wp2_with fail
      all_goals go_meet
      all_goals exact HE4.out
  case rest =>
    have HE3 := Lib.hid hcut
    clear hcut HE2
    have c72 := HE3.out.hash.cell_used
    have hlbl := Lib.hid (lastBlock_length blk used HFD.out.len hu)
    go_upto_if 26 with fail
    go_cut [26] (fun _ wx => Padded w a l wx)
    case first =>
      by_cases h56 : used < 56
      · have hd : decide ((56 : Int) ≤ (used : Int)) = false := by simp; omega
        have HP : Hid (Padded w a l wc) := ⟨_, _, _, HE3.out, HFD.out.end_room h56⟩
        clear HE3 HFD c72 hlbl
        go_wp2_with fail
        go_meet
        exact HP.out
      · have hd : decide ((56 : Int) ≤ (used : Int)) = true := by simp; omega
        have HEF := Lib.hid (HFD.out.end_full (by omega))
        clear HFD c72
        go_upto_region 4 with fail
        have HE4 : Hid (EndW w a st (lastBlock blk used) used l.length wc.drew) := HE3.out.drew
        have l1 := HE4.out.hash.load_state
        have l2 := HE4.out.hash.load_block
        have HC := Lib.hid (mixed_any st (lastBlock blk used) hlbl.out wc.drew HE4.out.roots)
        generalize hM : mix st (lastBlock blk used) = M at *
        clear hM HE3 hlbl
        go_region_with ((go_at_call 25; refine (HC.out).mono ?_; rintro e w6 ⟨rfl, hB6⟩; have HE6 := Lib.hid (HE4.out.call hB6); clear hB6; have hst := HE6.out.hash.store_state M))
        all_goals
          have HE7 := Lib.hid (HE6.out.turn (only_cells (M.list.map wv) 0 w6) (HE6.out.hash.put_state M))
          clear HE6 hst HC HE4 l1 l2
          generalize w6.setCells a 0 (M.list.map wv) = w7 at *
          have hz : ∀ w, (zeroValue 5).run Tryd.prog w = .ok (.int .u8 0) w := fun w => by kernel_rfl
          have hcl := Lib.run_clear_slice (P := Tryd.prog) w7 35 5 0 (.int .u8 0) Tryd.underlying35 hz rfl rfl a 8 64 64 (by omega)
            (fun j hj => (HE7.out.hash.there 8 64 (by omega) j hj).1) (fun j hj => (HE7.out.hash.there 8 64 (by omega) j hj).2)
          have HE8 : Hid (Padded w a l (w7.setCells a 8 (List.replicate 64 (.int .u8 0)))) := by
            have h := HE7.out.hash.put_block 0 (List.replicate 64 0) (by rw [List.length_replicate]; decide)
            have e : into (lastBlock blk used) 0 (List.replicate 64 0) = List.replicate 64 0 := by
              have hl := HE7.out.hash.len
              unfold into
              rw [List.drop_eq_nil_of_le (by rw [List.length_replicate]; omega)]
              simp
            rw [e, List.map_replicate] at h
            exact ⟨_, _, _, HE7.out.turn (only_cells (List.replicate 64 (.int .u8 0)) 8 w7) h, HEF.out⟩
          clear hz HE7
          go_wp2_with fail
          go_meet
          exact HE8.out
    case rest =>
      have HPD := Lib.hid hcut
      clear hcut HE3 HFD c72 hlbl
      obtain ⟨st2, blk2, used2, hE, hsha⟩ := HPD.out
      have HE5 := Lib.hid hE
      have HSH := Lib.hid hsha
      clear hE hsha HPD
      have c73 := HE5.out.hash.cell_size
      have b1 : (l.length : Int) < 1152921504606846976 := by omega
      go_wp2
      go_loopw [48] (fun i wr => ∃ k : Nat, k ≤ 8 ∧ i = .int .i64 k ∧ Hid (EndW w a st2 (cnt blk2 l.length k) used2 l.length wr)) (fun i _ => 8 - (intOf i).toNat)
      case atStart => exact ⟨0, by decide, rfl, by rw [cnt_zero _ _ HE5.out.hash.len]; exact HE5⟩
      case round =>
        have HBL := Lib.hid HE5.out.hash.len
        clear HE5 c73 b1 hz
        obtain ⟨k, hk, rfl, HE⟩ := hrel
        by_cases hlt : k < 8
        · have s1 : IntKind.i64.wrap (63 - (k : Int)) = 63 - (k : Int) := IntWalk.i64_in _ (by omega)
          have s2 : IntKind.i64.wrap (8 * (k : Int)) = 8 * (k : Int) := IntWalk.i64_in _ (by omega)
          have n1 : (63 - (k : Int)).toNat = 63 - k := by omega
          have n2 : (8 * (k : Int)).toNat = 8 * k := by omega
          have b2 : 0 ≤ 63 - (k : Int) ∧ 63 - (k : Int) < 64 := by omega
          have b3 : 0 ≤ 8 * (k : Int) ∧ 8 * (k : Int) < 64 := by omega
          have cb : wr.drew.cell? ⟨a, 8 + (63 - k), none⟩ = some (.int .u8 (((cnt blk2 l.length k).getD (63 - k) 0).toNat : Int)) := HE.out.hash.cell_byte (j := 63 - k) (by omega)
          have fb : wr.drew.frozen? ⟨a, 8 + (63 - k), none⟩ = false := HE.out.hash.free (8 + (63 - k))
          go_wp2
          go_region_with (fail)
          have HE7 : Hid (EndW w a st2 (cnt blk2 l.length (k + 1)) used2 l.length (wr.setCell ⟨a, 8 + (63 - k), none⟩ (.int .u8 (8 * (l.length : Int) / 2 ^ (8 * k) % 256))).drew) := by
            have h := HE.out.hash.put_block (63 - k) [UInt8.ofNat (8 * l.length / 256 ^ k)] (by simp)
            rw [cnt_put _ _ _ HBL.out hlt] at h
            have e : (wr.setCell ⟨a, 8 + (63 - k), none⟩ (.int .u8 (8 * (l.length : Int) / 2 ^ (8 * k) % 256))) = wr.setCells a (8 + (63 - k)) ([UInt8.ofNat (8 * l.length / 256 ^ k)].map bv) := by
              rw [put_count]
              rfl
            rw [e]
            exact (HE.out.turn (only_cells _ _ _) h).drew
          generalize (wr.setCell ⟨a, 8 + (63 - k), none⟩ (.int .u8 (8 * (l.length : Int) / 2 ^ (8 * k) % 256))).drew = w8 at *
          clear s1 s2 n1 n2 b2 b3 cb fb HE
          go_wp2
          go_roundw
          case rel => exact ⟨k + 1, by omega, by go_num, HE7⟩
          case measure => simp [intOf]; omega
        · obtain rfl : k = 8 := by omega
          have hh := HE.out
          rw [cnt_last] at hh
          have hcl : (counted blk2 l.length).length = 64 := hh.hash.len
          have HCL := Lib.hid hcl
          have HE8 : Hid (EndW w a st2 (counted blk2 l.length) used2 l.length wr.drew) := hh.drew
          clear hh hcl HE
          generalize counted blk2 l.length = blk3 at *
          go_upto_region 12 with fail
          have l1 := HE8.out.hash.load_state
          have l2 := HE8.out.hash.load_block
          have HC := Lib.hid (mixed_any st2 blk3 HCL.out wr.drew HE8.out.roots)
          generalize hM : mix st2 blk3 = M at *
          clear hM HCL
          go_region_with ((first
            | (go_at_call 25; refine (HC.out).mono ?_; rintro e w6 ⟨rfl, hB6⟩; have HE6 := Lib.hid (HE8.out.call hB6); clear hB6; have HJ := Lib.hid (joined_any M w6))
            | (go_at_call 26; refine (HJ.out).mono ?_; rintro e w7 ⟨rfl, hB7⟩; have HE7 := Lib.hid (HE6.out.call hB7); clear hB7; obtain ⟨z, hz1, hz2⟩ := HE7.out.out; have HZ1 := Lib.hid hz1; have hst := hz1.store_digest hz2 M.bytes rfl; clear hz1)))
          all_goals
            have hsz : Hid ((Tryd.prog.info? 23).map (·.size) = some (M.bytes.map bv).toArray.size) := by
              show _ = some 32
              kernel_rfl
            have HB9 : Hid (Box (w7.setCells w.heap.size 0 (M.bytes.map bv)) w.heap.size 23 (M.bytes.map bv).toArray) := HZ1.out.cells_all (M.bytes.map bv).toArray (by rw [hz2]; rfl)
            have HG9 := Lib.hid (only_new HE7.out.only (only_cells (M.bytes.map bv) 0 w7 (g := w.heap.size)) (Nat.le_refl _))
            clear l1 l2 HC HJ HE6 HE7 HZ1 hst hz2 HE8
            generalize w7.setCells w.heap.size 0 (M.bytes.map bv) = w9 at *
            go_wp2
            refine bodyPost_ret (v := .agg (M.bytes.map bv).toArray) (results_cell_row rfl _ w9 w.heap.size 23 (M.bytes.map bv).toArray (0, 0) _ rfl HB9.out Tryd.underlying23 rfl hsz.out) rfl ⟨by rw [HSH.out], HG9.out⟩
end Go.Proofs.YtoamcdbemhbphaaDoor
