/-
  Texts joined.
  What a vote signs, by the document: wapentakeref13.Head, wapentakeref13.Signs.
-/
import Derived.Test.YtbclepdcngaonaaGreatDoorTG
import Derived.Test.YtbclepdcngaonaaGreatDoorVD
import Derived.Test.YtbclepdcngaonaaGreatDoorOB
import Derived.Test.YtbclepdcngaonaaGreatDoorRA
namespace Go.Proofs.YtbclepdcngaonaaGreatDoor
open Go.RowKit

/-- Texts joined, and how long. -/
structure Cat14 (a b c : List UInt8) (k : Nat) : Prop where
  cat : (⟨a.toArray⟩ : ByteArray) ++ ⟨b.toArray⟩ = ⟨c.toArray⟩
  la : a.length ≤ k
  lb : b.length ≤ k
set_option maxRecDepth 100000 in
theorem cat14 (a b : List UInt8) {k : Nat} (ha : a.length ≤ k) (hb : b.length ≤ k) : Cat14 a b (a ++ b) k :=
  ⟨bytes_cat a b, ha, hb⟩
set_option maxRecDepth 100000 in
theorem cat14c {a b c : List UInt8} (h : a ++ b = c) {k : Nat} (ha : a.length ≤ k) (hb : b.length ≤ k) : Cat14 a b c k := by
  subst h
  exact cat14 a b ha hb
end Go.Proofs.YtbclepdcngaonaaGreatDoor

namespace Go.Proofs.YtbclepdcngaonaaGreatDoor
open Go.RowKit Go.Maps Go.Sort

/-- A vote's numbers are ints. -/
structure VtNum (x : VtX) : Prop where
  kind : R64 x.kind
  epoch : R64 x.epoch
  height : R64 x.height
  round : R64 x.round
  frm : R64 x.frm

attribute [local go_sem ↓] ldDigest_def
set_option maxRecDepth 100000 in
set_option maxHeartbeats 4000000 in
theorem rhead_any (m : VtM) (hN : VtNum m.x) (w : World) :
    Calls Tryz.prog 103 #[.agg m.cells.toArray] w fun e w' => e = .returned (str (headB m.x)) ∧ Below w.heap.size w w' := by
  obtain ⟨w1, hw1⟩ : ∃ w1, w1 = w.alloc (.cells m.cells.toArray 74) := ⟨_, rfl⟩
  have HX : Hid (Box w1 w.heap.size 74 m.cells.toArray) := by rw [hw1]; exact Box.made _ _ _
  have HF : Hid (Below w.heap.size w w1) := by rw [hw1]; exact (Below.refl _ _).alloc (Nat.le_refl _) _
  have c0 : w1.cell? ⟨w.heap.size, 0, none⟩ = some (.int .i64 m.x.kind) := HX.out.vt_0
  have c1 : w1.cell? ⟨w.heap.size, 1, none⟩ = some (.int .i64 m.x.epoch) := HX.out.vt_1
  have c2 : w1.cell? ⟨w.heap.size, 2, none⟩ = some (.int .i64 m.x.height) := HX.out.vt_2
  have c3 : w1.cell? ⟨w.heap.size, 3, none⟩ = some (.int .i64 m.x.round) := HX.out.vt_3
  have c36 : w1.cell? ⟨w.heap.size, 36, none⟩ = some (.int .i64 m.x.frm) := HX.out.vt_36 m.x.len
  have HLD : Hid (∀ w', Below w1.heap.size w1 w' → (ldDigest (.pointer (some ⟨w.heap.size, 4, none⟩))).run Tryz.prog w' = .ok (.agg (m.x.dig.map bv).toArray) w') := Lib.hid (fun w' hb => range_load (HX.out.below hb HX.out.lt).vt_dig m.x.len)
  have HDS : Hid (∀ w', Calls Tryz.prog 68 #[.agg (m.x.dig.map bv).toArray] w' fun e w'' => e = .returned (str m.x.dig) ∧ Below w'.heap.size w' w'') := Lib.hid (fun w' => digstr_any m.x.dig m.x.len w')
  have HE : Hid (headB m.x = [m.x.kind, m.x.epoch, m.x.height, m.x.round, m.x.frm].flatMap numBytes ++ m.x.dig) := Lib.hid rfl
  have HDL := Lib.hid m.x.len
  have HR := Lib.hid hN
  have l1 := hN.kind
  clear l1 hN HX
  generalize m.cells.toArray = cs at *
  generalize headB m.x = RS at *
  generalize (m.x.dig.map bv).toArray = DC at *
  generalize m.x.dig = dg at *
  have HR' : Hid (R64 m.x.kind ∧ R64 m.x.epoch ∧ R64 m.x.height ∧ R64 m.x.round ∧ R64 m.x.frm) := ⟨HR.out.kind, HR.out.epoch, HR.out.height, HR.out.round, HR.out.frm⟩
  clear HR
  generalize m.x.kind = n0 at *
  generalize m.x.epoch = n1 at *
  generalize m.x.height = n2 at *
  generalize m.x.round = n3 at *
  generalize m.x.frm = n4 at *
  go_enter Tryz.func103, Tryz.ntmps103
  go_upto_region 1 with fail
  change Code.wp _ _ _ _ (w.alloc (.cells cs 74))
  rw [← hw1]
  clear hw1
  go_wp2
  clear c0 c1 c2 c3 c36
  go_loopw [3, 17] (fun s i wr => ∃ (k : Nat) (T : List UInt8), k ≤ 5 ∧ s = .string ⟨T.toArray⟩ ∧ Hid (T = ([n0, n1, n2, n3, n4].take k).flatMap numBytes) ∧ i = .int .i64 (k : Int) ∧ Hid (Below w1.heap.size w1 wr)) (fun _ i _ => 5 - (intOf i).toNat)
  case atStart => exact ⟨0, [], by omega, rfl, Lib.hid (by simp), rfl, Lib.hid (Below.refl _ _)⟩
  case round =>
    obtain ⟨k, T, hk, rfl, HT, rfl, HW⟩ := hrel
    by_cases hlt : k < 5
    · have HLT := Lib.hid hlt
      obtain ⟨n, hix, hn, hnx⟩ : ∃ n : Int, (Instr.index 184 (.agg #[.int .i64 n0, .int .i64 n1, .int .i64 n2, .int .i64 n3, .int .i64 n4]) (.int .i64 (k : Int))).run Tryz.prog wr = .ok (.int .i64 n) wr ∧ R64 n ∧ ([n0, n1, n2, n3, n4].take (k + 1)).flatMap numBytes = ([n0, n1, n2, n3, n4].take k).flatMap numBytes ++ numBytes n := by
        have h := HR'.out
        match k, hlt with
        | 0, _ => exact ⟨n0, by kernel_rfl, h.1, by simp⟩
        | 1, _ => exact ⟨n1, by kernel_rfl, h.2.1, by simp⟩
        | 2, _ => exact ⟨n2, by kernel_rfl, h.2.2.1, by simp⟩
        | 3, _ => exact ⟨n3, by kernel_rfl, h.2.2.2.1, by simp⟩
        | 4, _ => exact ⟨n4, by kernel_rfl, h.2.2.2.2, by simp⟩
      have j1 : (k : Int) < 5 := by omega
      have j0 : (0 : Int) ≤ (k : Int) := by omega
      have wj : IntKind.i64.wrap ((k : Int) + 1) = ((k + 1 : Nat) : Int) := by rw [IntKind.wrap_i64]; omega
      have ht1 : T.length ≤ 40 := by
        rw [HT.out, nums_len]
        have := List.length_take_le k [n0, n1, n2, n3, n4]
        have h5 : ([n0, n1, n2, n3, n4].take k).length ≤ 5 := Nat.le_trans this (by omega)
        omega
      have HT2 : Hid (T ++ numBytes n = ([n0, n1, n2, n3, n4].take (k + 1)).flatMap numBytes) := Lib.hid (by rw [hnx, HT.out])
      have HNC : Hid (∀ w', Calls Tryz.prog 66 #[.int .i64 n] w' fun e w'' => e = .returned (str (numBytes n)) ∧ Below w'.heap.size w' w'') := Lib.hid (fun w' => refnum_any n hn.1 hn.2 w')
      obtain ⟨U, hU⟩ : ∃ U, T ++ numBytes n = U := ⟨_, rfl⟩
      rw [hU] at HT2
      obtain ⟨s1, t1, u1⟩ := cat14c hU (k := 1000) (by omega) (by rw [numBytes_len]; omega)
      have hs1 := Nat.add_le_add t1 u1
      generalize numBytes n = rb at *
      clear hn hnx hU ht1 hk hlt
      go_wp2_with (go_at_call 66; (with_reducible refine (HNC.out _).mono ?_); rintro e w5 ⟨rfl, hb⟩; have HW5 := Lib.hid (HW.out.trans (hb.mono HW.out.size)); clear hb)
      go_roundw
      case rel => exact ⟨k + 1, U, HLT.out, rfl, HT2, by go_num, HW5⟩
      case measure => have := HLT.out; simp [intOf]; omega
    · have j1 : ¬ (k : Int) < 5 := by omega
      have hT : T = [n0, n1, n2, n3, n4].flatMap numBytes := by
        rw [HT.out, List.take_of_length_le (by simp; omega)]
      have hl : T.length = 40 := by rw [hT, nums_len]; rfl
      have HE2 : Hid (RS = T ++ dg) := Lib.hid (by rw [HE.out, hT])
      obtain ⟨s1, t1, u1⟩ := cat14c HE2.out.symm (k := 1000) (by omega) (by rw [HDL.out]; omega)
      have hs1 := Nat.add_le_add t1 u1
      have ld := HLD.out wr HW.out
      clear hT hl HT hk hlt
      go_wp2_with (go_at_call 68; (with_reducible refine (HDS.out _).mono ?_); rintro e w5 ⟨rfl, hb⟩; have HW5 := Lib.hid (HW.out.trans (hb.mono HW.out.size)); clear hb)
      go_ret
      exact ⟨ret_val rfl, HF.out.trans (HW5.out.mono HF.out.size)⟩

attribute [local go_sem ↓] ldVt_def stDigest_def
end Go.Proofs.YtbclepdcngaonaaGreatDoor
