/-
  Package sha: a state's bytes (sha.joined).
-/
import Derived.Test.YtdgedhaiefingaaDoorSDig
namespace Go.Proofs.YtdgedhaiefingaaDoor
open Go.RowKit

/-- What the walk of joined carries of memory. -/
structure JoinW (w0 : World) (s : St) (n : Nat) (w : World) : Prop where
  st : Box w w0.heap.size 53 s.vals
  out : ∃ z, Box w (w0.heap.size + 1) 23 z ∧ z.size = 32
  d : Box w (w0.heap.size + 1 + 1) 23 (cellsD s.bytes n)
  far : Below w0.heap.size w0 w

set_option maxRecDepth 100000 in
set_option maxHeartbeats 1000000 in
theorem joined_any (s : St) (w : World) :
    Calls Tryd.prog 35 #[.agg s.vals] w fun e w' => e = .returned (.agg (s.bytes.map bv).toArray) ∧ Below w.heap.size w w' := by
  go_enter Tryd.func35, Tryd.ntmps35
  go_wp2
  go_loopw [5] (fun i wr => ∃ k : Nat, k ≤ 32 ∧ i = .int .i64 k ∧ Hid (JoinW w s k wr)) (fun i _ => 32 - (intOf i).toNat)
  case atStart =>
    refine ⟨0, by decide, rfl, ?_⟩
    exact ⟨((Box.made w _ _).alloc _).alloc _, ⟨_, (Box.made_at (by simp) _ _).alloc _, rfl⟩, by rw [cellsD_zero]; exact Box.made_at (by simp) _ _, (((Below.refl _ _).alloc (Nat.le_refl _) _).alloc (by simp) _).alloc (by simp; omega) _⟩
  case round =>
    obtain ⟨k, hk, rfl, HM⟩ := hrel
    by_cases hlt : k < 32
    · have HK := Lib.hid (bytes_at s (k / 4) (k % 4) (by omega) (by omega))
      have hq : k / 4 < 8 := by omega
      have c1 := HM.out.st.cell (k / 4)
      rw [list_get s hq] at c1
      obtain ⟨cv, hcv⟩ := cellsD_at s.bytes (n := k) (i := k) rfl (by omega) (by omega)
      have cg := HM.out.d.cell k
      rw [hcv] at cg
      clear hcv
      have f := HM.out.d.free k
      have bk : (k : Int) < 32 := by omega
      have b0 : 0 ≤ (k : Int) / 4 ∧ (k : Int) / 4 < 8 := by omega
      go_wp2
      go_roundw
      case rel =>
        refine ⟨k + 1, by omega, by go_num, ?_⟩
        obtain ⟨z, hz, hzs⟩ := HM.out.out
        have hb : s.bytes[k]? = some (dbyte s (k / 4) (k % 4)) := by
          have := HK.out
          rw [show 4 * (k / 4) + k % 4 = k from by omega] at this
          exact this
        have h := HM.out.d.put k (.int .u8 ((dbyte s (k / 4) (k % 4)).toNat : Int))
        rw [cellsD_put s.bytes rfl hlt _ hb, ← put_dbyte' s (k / 4) (k % 4) (by omega)] at h
        have hh : JoinW w s (k + 1) _ := ⟨HM.out.st.aside (by simp; omega) _, ⟨z, hz.aside (by simp) _, hzs⟩, h, HM.out.far.setCell (by simp; omega) _⟩
        exact hh
      case measure => simp [intOf]; omega
    · obtain rfl : k = 32 := by omega
      obtain ⟨z, hz, hzs⟩ := HM.out.out
      have HZ := Lib.hid hz
      have HFA := Lib.hid HM.out.far
      have hd := HM.out.d
      rw [cellsD_whole _ rfl] at hd
      have HD := Lib.hid hd
      have HZS : Hid ((s.bytes.map bv).toArray.size = z.size) := by rw [hzs]; exact Lib.hid rfl
      have hsz : Hid ((Tryd.prog.info? 23).map (·.size) = some (s.bytes.map bv).toArray.size) := by
        show _ = some 32
        kernel_rfl
      have hone : Hid (∀ v ∈ (s.bytes.map bv).toArray.toList, v.oneCell' = true) := bv_one _
      clear hz hzs HM hd
      generalize hm : s.bytes = m at *
      have HMM := Lib.hid hm
      clear hm
      go_upto_region 7 with fail
      go_step
      refine wpList_load_row (o := ⟨some 21, _, _, _, _, _⟩) rfl 23 (.tmp 3) rfl (w.heap.size + 1 + 1) rfl 23 (m.map bv).toArray (0, 0) _ HD.out Tryd.underlying23 rfl hsz.out ?_
      refine wpList_store_box (op := ⟨none, _, _, _, _, _⟩) rfl 23 (.tmp 2) (.tmp 21) rfl (w.heap.size + 1) (m.map bv).toArray (by simp [Act.eval, Act.put]) (by simp [Act.eval, Act.put]) 23 z HZ.out HZS.out hsz.out hone.out ?_
      intro w3 hb3 hg3
      have HB5 := Lib.hid hb3
      have HG5 := Lib.hid hg3
      clear hb3 hg3
      simp only [Act.put]
      go_wp2
      refine bodyPost_ret (v := .agg (m.map bv).toArray) (results_cell_row rfl _ w3 (w.heap.size + 1) 23 (m.map bv).toArray (0, 0) _ rfl HB5.out Tryd.underlying23 rfl hsz.out) rfl ⟨by rw [HMM.out], ?_⟩
      exact HFA.out.trans (below_only HG5.out (by omega) HFA.out.size)
end Go.Proofs.YtdgedhaiefingaaDoor
