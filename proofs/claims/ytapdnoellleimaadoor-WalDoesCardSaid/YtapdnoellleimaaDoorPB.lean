/-
  (*Disk).open, (*Disk).Off, (*Disk).fails.
  (*Disk).Append, Sync, Install.
  (*Disk).Sync, Install.
  (*Disk).Install.
  wapentakelaw16.alive.
  Slices of slices of bytes, slices of bools, as they are handed in; texts joined and cut.
-/
import Derived.Test.YtapdnoellleimaaDoorPA
import Derived.Lib.SlBytesConst
namespace Go.Proofs.YtapdnoellleimaaDoor
open Go.RowKit Go.Maps Go.Sort

section
attribute [local go_sem ↓] lkDk_def upDk_def
set_option maxRecDepth 100000 in
theorem dkopen_any (base p mb : Nat) (ms : List FM) (X : DX) (s : List UInt8) (hs : s.length ≤ maxLen) (hf : X.fs.length < 1000000) (w : World) (h : DkW w base p mb ms X) :
    Calls Tryd.prog 34 #[.pointer (some ⟨p, 0, none⟩), str s] w fun e w' => ∃ m ms', e = .returned (.pointer (some ⟨m.fb, 0, none⟩)) ∧ m ∈ ms' ∧ m.x.name = s ∧ DkW w' base p mb ms' { X with fs := openF X.fs s } ∧ w.grownBy w' (some mb) := by
  have c0 : w.cell? ⟨p, 0, none⟩ = some (.map (some mb)) := h.box.cell 0
  rcases h.fs.look s hs with ⟨m, hm, hn, hx, hl, _⟩ | ⟨hn, hx, hl, _⟩
  · have ho : openF X.fs s = X.fs := by
      unfold openF
      rw [if_pos (hasF_iff.2 ⟨m.x, by rw [h.eq]; exact List.mem_map.2 ⟨m, hm, rfl⟩, hn⟩)]
    rw [ho]
    have HW : Hid (DkW w base p mb ms X) := Lib.hid h
    have HM : Hid (m ∈ ms ∧ m.x.name = s) := Lib.hid ⟨hm, hn⟩
    clear h hm hn hx ho hf hs
    go_enter Tryd.func34, Tryd.ntmps34
    go_wp2
    go_ret
    exact ⟨m, ms, rfl, HM.out.1, HM.out.2, HW.out, only_refl _ _⟩
  · obtain ⟨w1, hw1⟩ : ∃ w1, w1 = w.alloc (.cells #[.slice none 0 0, .int .i64 0] 73) := ⟨_, rfl⟩
    have hF1 : Below w.heap.size w w1 := by rw [hw1]; exact (Below.refl _ _).alloc (Nat.le_refl _) _
    have hb1 : Box w1 w.heap.size 73 #[.slice none 0 0, .int .i64 0] := by rw [hw1]; exact Box.made _ _ _
    have hW1 := h.call hF1
    have hfw : FileW w1 base ⟨⟨s, [], 0⟩, w.heap.size, none, 0⟩ := ⟨hb1, EK.own_nil _ _ _, Nat.le_refl _, by have := h.low; have := h.box.lt; show base ≤ w.heap.size; omega, hs⟩
    have hlen : ms.length < 1000000 := by
      have := congrArg List.length h.eq
      rw [List.length_map] at this
      omega
    obtain ⟨w2, hr, hfs, hg⟩ := hW1.fs.put hfw (fun k hk => ⟨by
      have := (h.fs.files k hk).box.lt
      show w.heap.size ≠ k.fb
      omega, fun g hg => by cases hg⟩) hlen
    have c0' : w1.cell? ⟨p, 0, none⟩ = some (.map (some mb)) := hW1.box.cell 0
    have he : openF X.fs s = X.fs ++ [⟨s, [], 0⟩] := by
      unfold openF
      rw [if_neg (by rw [hasF_false.2 (by rw [h.eq]; exact lookF_none hx)]; simp)]
    have hp : putM ms ⟨⟨s, [], 0⟩, w.heap.size, none, 0⟩ = ms ++ [⟨⟨s, [], 0⟩, w.heap.size, none, 0⟩] := by
      unfold putM
      rw [if_neg]
      simp only [Bool.not_eq_true, List.any_eq_false, decide_eq_true_eq]
      exact hn
    rw [hp] at hfs
    have HW : Hid (DkW w2 base p mb (ms ++ [⟨⟨s, [], 0⟩, w.heap.size, none, 0⟩]) { X with fs := openF X.fs s }) := Lib.hid ⟨by
      have hb := hW1.box.grown hg (fun e => hW1.fs.map.ne hW1.box (by injection e))
      show Box w2 p _ (diskV mb (totF (openF X.fs s) : Int) _ _ _ _)
      rw [totF_open]
      exact hb, hfs, by
      show openF X.fs s = _
      rw [he, List.map_append, h.eq]
      rfl, by
      show totF (openF X.fs s) ≤ _
      rw [totF_open]
      exact h.tot, h.fuse, h.keep, h.low⟩
    have HG : Hid (w.grownBy w2 (some mb)) := Lib.hid (only_trans (only_below hF1 _) hg)
    clear h hF1 hb1 hW1 hfw hlen hfs hg he hp hn hx hf hs
    go_enter Tryd.func34, Tryd.ntmps34
    go_upto_region 4 with fail
    rw [← hw1]
    clear hw1
    go_wp2
    go_ret
    exact ⟨⟨⟨s, [], 0⟩, w.heap.size, none, 0⟩, rfl, _, List.mem_append.2 (.inr (List.mem_singleton.2 rfl)), rfl, HW.out, HG.out⟩
end

/-! ### (*Disk).Off -/
open Classical in
noncomputable def lostM (k : Int) (done : List (SX × Value)) (m : FM) : FM := if m.ent ∈ done then ⟨loseF k m.x, m.fb, m.A, m.c⟩ else m
set_option maxRecDepth 100000 in
theorem lostM_name (k : Int) (done : List (SX × Value)) (m : FM) : (lostM k done m).x.name = m.x.name := by
  unfold lostM
  split <;> rfl
set_option maxRecDepth 100000 in
theorem lostM_blk (k : Int) (done : List (SX × Value)) (m : FM) : (lostM k done m).fb = m.fb ∧ (lostM k done m).blk = m.blk := by
  unfold lostM
  split <;> exact ⟨rfl, rfl⟩
set_option maxRecDepth 100000 in
theorem lostM_nil (k : Int) (ms : List FM) : ms.map (lostM k []) = ms := by
  have : ms.map (lostM k []) = ms.map id := List.map_congr_left fun m _ => by
    unfold lostM
    rw [if_neg (by simp)]
    rfl
  rw [this, List.map_id]
set_option maxRecDepth 100000 in
theorem lostM_all (k : Int) (ms : List FM) (done : List (SX × Value)) (h : ∀ m ∈ ms, m.ent ∈ done) : (ms.map (lostM k done)).map FM.x = (ms.map FM.x).map (loseF k) := by
  rw [List.map_map, List.map_map]
  apply List.map_congr_left
  intro m hm
  simp only [Function.comp]
  unfold lostM
  rw [if_pos (h m hm)]
set_option maxRecDepth 100000 in
theorem lostM_step (k : Int) {w : World} {base mb : Nat} {ms : List FM} (h : DkFs w base mb ms) {m : FM} (hm : m ∈ ms) (done : List (SX × Value)) :
    repM (ms.map (lostM k done)) ⟨loseF k m.x, m.fb, m.A, m.c⟩ = ms.map (lostM k (done ++ [m.ent])) := by
  unfold repM
  rw [List.map_map]
  apply List.map_congr_left
  intro a ha
  simp only [Function.comp, lostM_name]
  by_cases e : a.x.name = m.x.name
  · have e2 := h.uniq ha hm e
    rw [if_pos (show a.x.name = (loseF k m.x).name from e), e2]
    unfold lostM
    rw [if_pos (by simp)]
  · rw [if_neg (show ¬ a.x.name = (loseF k m.x).name from e)]
    have hne : a.ent ≠ m.ent := fun e2 => e (sk_inj (h.files a ha).name (h.files m hm).name (congrArg Prod.fst e2))
    unfold lostM
    by_cases e3 : a.ent ∈ done
    · rw [if_pos e3, if_pos (List.mem_append.2 (.inl e3))]
    · rw [if_neg e3, if_neg (fun e4 => (List.mem_append.1 e4).elim e3 (fun e5 => hne (List.mem_singleton.1 e5)))]

set_option maxRecDepth 100000 in
set_option maxHeartbeats 2000000 in
theorem dkoff_bt (base p : Nat) (X : DX) (k : Int) (hk : -9223372036854775808 ≤ k ∧ k < 9223372036854775808) (w : World) (h : DkIs w base p X) :
    Calls Tryd.prog 23 #[.pointer (some ⟨p, 0, none⟩), .int .i64 k] w fun e w' => e = .returned (.tuple #[]) ∧ DkIs w' base p (X.off k) ∧ Bt false base w w' := by
  obtain ⟨mb, ms, h⟩ := h
  have c2 : w.cell? ⟨p, 2, none⟩ = some (.bool X.down) := h.box.cell 2
  cases hd : X.down with
  | true =>
    have he : X.off k = X := by
      unfold DX.off
      rw [hd]
      rfl
    rw [he]
    rw [hd] at c2
    have HW : Hid (DkIs w base p X) := Lib.hid ⟨mb, ms, h⟩
    clear h he hd
    go_enter Tryd.func23, Tryd.ntmps23
    go_wp2
    exact bodyPost_ret (results_none rfl _ _ _) rfl ⟨rfl, HW.out, Bt.refl _ _ _⟩
  | false =>
    have he : X.off k = { X with down := true, fuse := 0, fs := X.fs.map (loseF k) } := by
      unfold DX.off
      rw [hd]
      rfl
    rw [hd] at c2
    have c4 : w.cell? ⟨p, 4, none⟩ = some (.int .i64 X.fuse) := h.box.cell 4
    have f2 := h.box.free 2
    have f4 := h.box.free 4
    obtain ⟨w1, hw1⟩ : ∃ w1, w1 = (w.setCell ⟨p, 2, none⟩ (.bool true)).setCell ⟨p, 4, none⟩ (.int .i64 0) := ⟨_, rfl⟩
    have hg1 : w.grownBy w1 (some p) := by rw [hw1]; exact only_put (only_put (only_refl _ _) 2 _) 4 _
    have hb1 : Box w1 p 68 (diskV mb (totF X.fs : Int) true X.acts 0 X.keep) := by rw [hw1]; exact (h.box.put 2 _).put 4 _
    have HF1 : Hid (DkFs w1 base mb ms) := Lib.hid (h.fs.box h.box (by decide) (by decide) hg1)
    have HB1 := Lib.hid hb1
    have HG1 : Hid (Bt false base w w1) := Lib.hid (bt_box h.box (.inl rfl) hg1 h.low)
    have HSR : Hid (w.heap.size ≤ w1.heap.size ∧ base ≤ w.heap.size) := Lib.hid ⟨hg1.size, by have := h.box.lt; have := h.low; omega⟩
    have HX := Lib.hid h.eq
    have HT := Lib.hid h.tot
    have HK := Lib.hid h.keep
    have HL := Lib.hid h.low
    have HE := Lib.hid he
    have c0 : w1.cell? ⟨p, 0, none⟩ = some (.map (some mb)) := hb1.cell 0
    have HM1 : Hid (MapOr sKey w1 (some mb) (ms.map FM.ent)) := Lib.hid HF1.out.map
    clear h hg1 hb1 hd he
    go_enter Tryd.func23, Tryd.ntmps23
    go_upto_region 3 with fail
    rw [← hw1]
    clear hw1
    go_wp2_with (at_range; refine wpList_range_is sKey _ rfl _ 66 rfl 70 Tryd.underlying66 (some mb) _ rfl HM1.out ?_; intro w3 cnt hit hg3 hs3)
    go_frame
    have HI3 := Lib.hid hit
    have hb3 : Below w1.heap.size w1 w3 := ⟨hg3.os, hg3.tape, hg3.output, hg3.size, fun i hi => hg3.block i hi (by simp)⟩
    have HF3 := Lib.hid (HF1.out.call hb3)
    have HB3 := Lib.hid (HB1.out.below hb3 HB1.out.lt)
    have HLT : Hid ((mb < w1.heap.size ∧ p < w1.heap.size) ∧ ∀ m ∈ ms, m.fb < w1.heap.size ∧ ∀ g, m.blk = some g → g < w1.heap.size) := Lib.hid ⟨⟨HF1.out.map.lt, HB1.out.lt⟩, fun m hm => ⟨(HF1.out.files m hm).box.lt, fun g hg => by
      obtain ⟨_, cs, hb⟩ := (HF1.out.files m hm).blk_lt g hg
      exact hb.lt⟩⟩
    have HG3 : Hid (Bt false base w w3) := Lib.hid (HG1.out.trans (bt_call hb3 (by have := HL.out; have := HB1.out.lt; omega)))
    have HS3 : Hid (w1.heap.size < w3.heap.size) := Lib.hid (by omega)
    clear hit hg3 hs3 hb3 HF1 HB1 HG1 HM1 c0 c2 c4 f2 f4
    generalize w1.heap.size = r at *
    go_loopw [5] (fun _ wr => ∃ cnt done, Hid (IterIs sKey wr (some mb) r (ms.map FM.ent) done cnt) ∧ Hid (DkFs wr base mb (ms.map (lostM k done))) ∧ Hid (Box wr p 68 (diskV mb (totF ((ms.map (lostM k done)).map FM.x) : Int) true X.acts 0 X.keep)) ∧ Hid (Bt false base w wr) ∧ Hid (totF ((ms.map (lostM k done)).map FM.x) ≤ 4194304)) (fun _ wr => wr.rangeLeft mb r)
    case atStart =>
      refine ⟨cnt, [], HI3, ?_, ?_, HG3, ?_⟩
      · rw [lostM_nil]; exact HF3
      · rw [lostM_nil, ← HX.out]; exact HB3
      · rw [lostM_nil, ← HX.out]; exact HT
    case round =>
      obtain ⟨cnt2, done, HI, HF, HB, HG, HTT⟩ := hrel
      clear HI3 HB3 HG3
      go_upto_region 5 with (at_next; refine wpList_next_is sKey _ rfl _ rfl (some mb) r _ _ _ rfl HI.out (fun hperm => ?_) (fun x v w4 cnt4 hmem hnot hit4 hlt4 hg4 hs4 hen => ?_))
      · have HA : Hid (∀ m ∈ ms, m.ent ∈ done) := Lib.hid (fun m hm => hperm.mem_iff.2 (List.mem_map.2 ⟨m, hm, rfl⟩))
        clear hperm
        go_wp2
        all_goals first | go_end0 | go_ret
        have hall := lostM_all k ms done HA.out
        have hft : (ms.map (lostM k done)).map FM.x = X.fs.map (loseF k) := by rw [hall, ← HX.out]
        refine ⟨rfl, ?_, HG.out⟩
        rw [HE.out]
        have hB := HB.out
        have hT := HTT.out
        rw [hft] at hB hT
        exact ⟨mb, _, hB, HF.out, hft.symm, hT, ⟨Int.le_refl _, by show (0 : Int) < _; decide⟩, HK.out, HL.out⟩
      · obtain ⟨m, hm, hxv⟩ := List.mem_map.1 hmem
        obtain ⟨rfl, rfl⟩ : x = sk m.x.name ∧ v = .pointer (some ⟨m.fb, 0, none⟩) := by
          unfold FM.ent at hxv
          simp only [Prod.mk.injEq] at hxv
          exact ⟨hxv.1.symm, hxv.2.symm⟩
        have hun : lostM k done m = m := by
          unfold lostM
          rw [if_neg (show ¬ m.ent ∈ done from hnot)]
        have hmd : m ∈ ms.map (lostM k done) := List.mem_map.2 ⟨m, hm, hun⟩
        have hgo : ∀ a ∈ ms.map (lostM k done), some a.fb ≠ some r ∧ (a.blk = none ∨ a.blk ≠ some r) := by
          intro a ha
          obtain ⟨b, hb, rfl⟩ := List.mem_map.1 ha
          have h1 := lostM_blk k done b
          have h2 := HLT.out.2 b hb
          rw [h1.1, h1.2]
          refine ⟨fun e => by injection e; omega, ?_⟩
          cases e : b.blk with
          | none => exact .inl rfl
          | some g => exact .inr (fun e2 => by injection e2; have := h2.2 g e; omega)
        have hF4 := HF.out.aside hg4 (fun e => by injection e; have := HLT.out.1; omega) hgo
        have hB4 := HB.out.grown hg4 (fun e => by injection e; have := HLT.out.1; omega)
        have hstep := lostM_step k HF3.out hm done
        have hF5 := hF4.files m hmd
        have hlen : m.x.data.length ≤ 4194304 := Nat.le_trans (List.le_sum_of_mem' (List.mem_map.2 ⟨m.x, List.mem_map.2 ⟨m, hmd, rfl⟩, rfl⟩)) HTT.out
        have htot := totF_upd hF4.names' (List.mem_map.2 ⟨m, hmd, rfl⟩ : m.x ∈ (ms.map (lostM k done)).map FM.x) (fun _ => loseF k m.x)
        have hkl := keptF_le (k := k) hF5.safe
        have hll : (loseF k m.x).data.length = keptF k m.x := by
          show (m.x.data.take (keptF k m.x)).length = _
          rw [List.length_take]
          omega
        rw [hll] at htot
        have hU := HTT.out
        obtain ⟨U, hUU⟩ : ∃ U : Nat, U = totF ((ms.map (lostM k done)).map FM.x) := ⟨_, rfl⟩
        obtain ⟨V, hVV⟩ : ∃ V : Nat, V = totF ((ms.map (lostM k (done ++ [m.ent]))).map FM.x) := ⟨_, rfl⟩
        have hV : (V : Int) = (U : Int) - ((m.x.data.length : Int) - (keptF k m.x : Int)) := by
          have h9 : totF ((repM (ms.map (lostM k done)) ⟨loseF k m.x, m.fb, m.A, m.c⟩).map FM.x) + m.x.data.length = U + keptF k m.x := by
            rw [repM_x, hUU]
            exact htot
          rw [hVV, ← hstep]
          omega
        have HC : Hid (∀ q, Calls Tryd.prog 46 #[.pointer (some ⟨m.fb, 0, none⟩), .int .i64 k] (w4.drewN q) fun e w' => e = .returned (.int .i64 ((m.x.data.length : Int) - (keptF k m.x : Int))) ∧ DkFs w' base mb (ms.map (lostM k (done ++ [m.ent]))) ∧ w4.grownBy w' (some m.fb)) := Lib.hid (fun q => by
          have hq : w4.grownBy (w4.drewN q) none := ⟨rfl, rfl, rfl, Nat.le_refl _, fun _ _ _ => rfl⟩
          have hq' : w4.grownBy (w4.drewN q) m.blk := ⟨rfl, rfl, rfl, Nat.le_refl _, fun _ _ _ => rfl⟩
          refine (lose_any base m k hk hlen (w4.drewN q) (hF5.aside hq (by simp) (by cases m.blk <;> simp))).mono ?_
          rintro e w' ⟨he, hfw, hg⟩
          refine ⟨he, ?_, only_trans (⟨rfl, rfl, rfl, Nat.le_refl _, fun _ _ _ => rfl⟩ : w4.grownBy (w4.drewN q) (some m.fb)) hg⟩
          rw [← hstep]
          exact hF4.upd hmd hq' hg rfl rfl hfw (.inl rfl))
        rw [← hUU] at hB4 hU
        have hUV : 0 ≤ (m.x.data.length : Int) - (keptF k m.x : Int) ∧ (m.x.data.length : Int) - (keptF k m.x : Int) ≤ U ∧ (U : Int) ≤ 4194304 := by omega
        have hdq : 73 ≠ 68 := by decide
        have hpf : some p ≠ some m.fb := fun e => Box.apart hB4 hF5.box (fun e => hdq e.symm) (by injection e)
        generalize (m.x.data.length : Int) - (keptF k m.x : Int) = G at *
        have HE4 : Hid (∀ w5, w4.grownBy w5 (some m.fb) → Box w5 p 68 (diskV mb (U : Int) true X.acts 0 X.keep)) := Lib.hid (fun w5 hg => hB4.grown hg hpf)
        have HS : Hid ((∀ mb', some mb = some mb' → mb' ≠ m.fb) ∧ r ≠ m.fb) := Lib.hid ⟨fun mb' e => by injection e with e; rw [← e]; exact fun e => hF4.map.ne hF5.box e.symm, by have := (HLT.out.2 m hm).1; omega⟩
        have HS2 : Hid ((∀ mb', some mb = some mb' → mb' ≠ p) ∧ r ≠ p) := Lib.hid ⟨fun mb' e => by injection e with e; rw [← e]; exact fun e => hF4.map.ne hB4 e.symm, by have := HLT.out.1; omega⟩
        have HM4 : Hid (base ≤ m.fb ∧ m.fb < w4.heap.size ∧ r < w4.heap.size) := Lib.hid ⟨hF5.low, hF5.box.lt, hit4.lt⟩
        have HI4 := Lib.hid hit4
        have HL4 : Hid (w4.rangeLeft mb r = cnt4 ∧ cnt4 < wr.rangeLeft mb r) := Lib.hid ⟨hit4.left_eq, by
          have h1 := HI.out.left_eq
          simp only [Option.getD_some] at h1
          rw [h1]
          exact hlt4⟩
        have HG4 : Hid (Bt false base w w4) := Lib.hid (HG.out.fresh hg4 HSR.out.1 HSR.out.2)
        have HFX := Lib.hid hF5.box
        have HV := Lib.hid hV
        have hwr : IntKind.i64.wrap ((V : Nat) : Int) = V := by rw [IntKind.wrap_i64]; omega
        have HVV := Lib.hid hVV
        have HVT : Hid (V ≤ 4194304) := Lib.hid (by omega)
        have c1 : w4.cell? ⟨p, 1, none⟩ = some (.int .i64 (U : Int)) := hB4.cell 1
        have f1 := hB4.free 1
        clear hmem hnot hit4 hlt4 hg4 hs4 hxv hun hmd hgo hF4 hB4 hstep hF5 hlen htot hkl hll hU hUU hVV hV hpf HI HF HB HG HTT HF3
        go_upto_region 6 with fail
        go_region_with (go_at_call 46; refine (HC.out _).mono ?_; rintro e w5 ⟨rfl, hF5, hg5⟩; have HF5 := Lib.hid hF5; have HG5 := Lib.hid hg5; have c1' : w5.cell? ⟨p, 1, none⟩ = some (.int .i64 (U : Int)) := (HE4.out w5 hg5).cell 1; have f1' := (HE4.out w5 hg5).free 1; clear hF5 hg5)
        all_goals
          rw [← HV.out, hwr]
          have hB5 := HE4.out w5 HG5.out
          have hgp := only_put (only_refl w5 (some p)) 1 (.int .i64 (V : Int))
          have hb56 : Bt false base w4 (w5.setCell ⟨p, 1, none⟩ (.int .i64 (V : Int))) := (bt_box HFX.out (.inr rfl) HG5.out HM4.out.1).trans (bt_box hB5 (.inl rfl) hgp HL.out)
          have hI5 : IterIs sKey w5 (some mb) r (ms.map FM.ent) (done ++ [m.ent]) cnt4 := HI4.out.grown HG5.out (fun mb' e e2 => HS.out.1 mb' e (by injection e2)) (fun e => HS.out.2 (by injection e))
          have HI6 := Lib.hid (hI5.grown hgp (fun mb' e e2 => HS2.out.1 mb' e (by injection e2)) (fun e => HS2.out.2 (by injection e)))
          have HL6 : Hid ((w5.setCell ⟨p, 1, none⟩ (.int .i64 (V : Int))).rangeLeft mb r < wr.rangeLeft mb r) := Lib.hid (by
            have h1 := HI6.out.left_eq
            simp only [Option.getD_some] at h1
            rw [h1]
            exact HL4.out.2)
          have HF6 := Lib.hid (HF5.out.box hB5 (by decide) (by decide) hgp)
          have HG6 := Lib.hid (HG4.out.trans hb56)
          have HB6 : Hid (Box (w5.setCell ⟨p, 1, none⟩ (.int .i64 (V : Int))) p 68 (diskV mb (totF ((ms.map (lostM k (done ++ [m.ent]))).map FM.x) : Int) true X.acts 0 X.keep)) := Lib.hid (by rw [← HVV.out]; exact hB5.put 1 _)
          clear hB5 hgp hb56 hI5
          rw [HVV.out] at HVT
          go_wp2
          go_roundw
          case rel => exact ⟨cnt4, _, HI6, HF6, HB6, HG6, HVT⟩
          case measure => exact HL6.out

set_option maxRecDepth 100000 in
theorem dkoff_any (base p : Nat) (X : DX) (k : Int) (hk : -9223372036854775808 ≤ k ∧ k < 9223372036854775808) (w : World) (h : DkIs w base p X) :
    Calls Tryd.prog 23 #[.pointer (some ⟨p, 0, none⟩), .int .i64 k] w fun e w' => e = .returned (.tuple #[]) ∧ DkIs w' base p (X.off k) ∧ Below base w w' :=
  (dkoff_bt base p X k hk w h).mono fun _ _ ⟨h1, h2, h3⟩ => ⟨h1, h2, h3.lo⟩
set_option maxRecDepth 100000 in
theorem dkfails_bt (base p : Nat) (X : DX) (hk : -9223372036854775808 ≤ X.keep ∧ X.keep < 9223372036854775808) (w : World) (h : DkIs w base p X) :
    Calls Tryd.prog 36 #[.pointer (some ⟨p, 0, none⟩)] w fun e w' => e = .returned (.int .i64 21) ∧ DkIs w' base p (X.off X.keep) ∧ Bt false base w w' := by
  have HO := Lib.hid (dkoff_bt base p X X.keep hk w h)
  obtain ⟨mb, ms, h⟩ := h
  have c5 : w.cell? ⟨p, 5, none⟩ = some (.int .i64 X.keep) := h.box.cell 5
  clear h
  go_enter Tryd.func36, Tryd.ntmps36
  go_wp2_with (go_at_call 23; (with_reducible refine (HO.out).mono ?_); rintro e w1 ⟨rfl, hd, hb⟩; have HD := Lib.hid hd; have HB := Lib.hid hb; clear hd hb)
  go_ret
  exact ⟨rfl, HD.out, HB.out⟩
end Go.Proofs.YtapdnoellleimaaDoor

namespace Go.Proofs.YtapdnoellleimaaDoor
open Go.RowKit Go.Maps

set_option maxRecDepth 100000 in
theorem updF_eq {w : World} {base mb : Nat} {ms : List FM} (h : DkFs w base mb ms) {m : FM} (hm : m ∈ ms) (g : FX → FX) : updF (ms.map FM.x) m.x.name (fun _ => g m.x) = updF (ms.map FM.x) m.x.name g := by
  unfold updF
  rw [List.map_map, List.map_map]
  apply List.map_congr_left
  intro a ha
  simp only [Function.comp]
  by_cases e : a.x.name = m.x.name
  · rw [if_pos e, if_pos e, h.uniq ha hm e]
  · rw [if_neg e, if_neg e]
set_option maxRecDepth 100000 in
theorem DkW.few {w : World} {base p mb : Nat} {ms : List FM} {X : DX} (h : DkW w base p mb ms X) {m : FM} (hm : m ∈ ms) : m.x.data.length ≤ totF X.fs := by
  rw [h.eq]
  exact List.le_sum_of_mem' (List.mem_map.2 ⟨m.x, List.mem_map.2 ⟨m, hm, rfl⟩, rfl⟩)
set_option maxRecDepth 100000 in
theorem tick_fuse {X : DX} (h : 0 ≤ X.fuse ∧ X.fuse < 9223372036854775808) : 0 ≤ X.tick.fuse ∧ X.tick.fuse < 9223372036854775808 := by
  show 0 ≤ (if X.fuse = 0 then 0 else X.fuse - 1) ∧ (if X.fuse = 0 then 0 else X.fuse - 1) < _
  split <;> omega
set_option maxRecDepth 100000 in
/-- burns, of a disk that is whole. -/
theorem dkburns_any (base p mb : Nat) (ms : List FM) (X : DX) (ha : 0 ≤ X.acts ∧ X.acts < 1000000) (w : World) (h : DkW w base p mb ms X) :
    Calls Tryd.prog 35 #[.pointer (some ⟨p, 0, none⟩)] w fun e w' => e = .returned (.bool X.burns) ∧ DkW w' base p mb ms X.tick ∧ w.grownBy w' (some p) := by
  refine (burns_any p mb _ X.down X.acts X.fuse X.keep ha h.fuse w h.box).mono ?_
  rintro e w' ⟨he, hb, hg⟩
  exact ⟨he, h.grown hg hb rfl (tick_fuse h.fuse) h.keep, hg⟩
set_option maxRecDepth 100000 in
theorem dktakes_any (base p mb : Nat) (ms : List FM) (X : DX) (more : Int) (w : World) (h : DkW w base p mb ms X) :
    Calls Tryd.prog 33 #[.pointer (some ⟨p, 0, none⟩), .int .i64 more] w fun e w' => e = .returned (.int .i64 (X.takes more)) ∧ w' = w :=
  takes_any p mb _ X.down X.acts X.fuse X.keep more (by have := h.tot; omega) w h.box
set_option maxRecDepth 100000 in
theorem takes_zero {X : DX} {more : Int} (h : X.takes more = 0) : X.down = false ∧ more ≤ 4194304 - (totF X.fs : Int) := by
  unfold DX.takes at h
  cases hd : X.down with
  | true => rw [hd] at h; simp at h
  | false =>
    rw [hd] at h
    refine ⟨rfl, ?_⟩
    by_cases e : 4194304 - (totF X.fs : Int) < more
    · rw [if_neg (by simp), if_pos e] at h
      cases h
    · omega
set_option maxRecDepth 100000 in
theorem bt_mb {u : Bool} {w w' : World} {base p mb : Nat} {ms : List FM} {X : DX} (h : DkW w base p mb ms X) (hg : w.grownBy w' (some mb)) : Bt u base w w' := bt_map h.fs.map hg h.fs.low

set_option maxRecDepth 100000 in
/-- What is seen lies in no map. -/
theorem sees_map16 {κ : Type} {K : MKey κ} {w w' : World} {A : Option Addr} {xs : List Value} {mb : Nat} {es : List (κ × Value)} (h : Sees w w.heap.size A xs) (hm : MapIs K w mb es) (hg : w.grownBy w' (some mb)) : Sees w' w'.heap.size A xs := by
  rcases h with h0 | ⟨g, o, rfl, hlt, hc⟩
  · exact .inl h0
  · refine .inr ⟨g, o, rfl, Nat.lt_of_lt_of_le hlt hg.size, fun j u hu => ?_⟩
    have h1 := hc j u hu
    refine hg.cell h1 ?_
    obtain ⟨D, n, ⟨es', clock, h2, _⟩, _⟩ := hm.own
    intro e
    injection e with e
    unfold World.cell? at h1
    rw [e, h2] at h1
    cases h1

attribute [local go_sem ↓] apAll_def
set_option maxRecDepth 100000 in
set_option maxHeartbeats 2000000 in
theorem dkappend_bt (base p : Nat) (X : DX) (s l : List UInt8) (A : Option Addr) (c : Nat) (hs : s.length ≤ maxLen) (hf : X.Few) (w : World) (h : DkIs w base p X) (hS : Sees w w.heap.size A (l.map bv)) :
    Calls Tryd.prog 11 #[.pointer (some ⟨p, 0, none⟩), str s, .slice A l.length c] w fun e w' => e = .returned (.int .i64 (X.append s l).1) ∧ DkIs w' base p (X.append s l).2 ∧ Bt true base w w' := by
  obtain ⟨mb, ms, h⟩ := h
  by_cases ht : X.takes l.length = 0
  · have hz := takes_zero ht
    have HC1 := dktakes_any base p mb ms X l.length w h
    rw [ht] at HC1
    have HC1 := Lib.hid HC1
    have HC2 := Lib.hid (dkopen_any base p mb ms X s hs hf.fs w h)
    obtain ⟨Y, hY⟩ : ∃ Y, Y = X.put s fun f => ⟨f.name, f.data ++ l, f.safe⟩ := ⟨_, rfl⟩
    have hap1 : X.append s l = if Y.burns then (21, (Y.tick).off Y.keep) else (0, Y.tick) := by
      unfold DX.append
      rw [if_neg (by rw [ht]; simp), ← hY, show Y.burns = X.burns by rw [hY]; rfl, show Y.keep = X.keep by rw [hY]; rfl]
    obtain ⟨Z, hZ⟩ : ∃ Z : Int × DX, Z = if Y.burns then (21, (Y.tick).off Y.keep) else (0, Y.tick) := ⟨_, rfl⟩
    rw [hap1, ← hZ]
    have HZZ := Lib.hid hZ
    have HS := Lib.hid hS
    have HW := Lib.hid h
    have HZ := Lib.hid hz
    have HF := Lib.hid hf
    have hln : (l.length : Int) ≤ 4194304 := by have := h.tot; omega
    have HLN := Lib.hid hln
    have HY := Lib.hid hY
    have HYB : Hid (X.burns = Y.burns ∧ X.keep = Y.keep ∧ X.down = Y.down ∧ X.acts = Y.acts) := Lib.hid (by rw [hY]; exact ⟨rfl, rfl, rfl, rfl⟩)
    obtain ⟨n, hn⟩ : ∃ n, n = l.length := ⟨_, rfl⟩
    rw [← hn] at HC1 ⊢
    have HN := Lib.hid hn
    clear h hS hs hf ht hz hap1 hY hln hn hZ
    go_enter Tryd.func11, Tryd.ntmps11
    go_upto_region 5 with (first
      | (go_at_call 33; (with_reducible refine (HC1.out).mono ?_); rintro e w ⟨rfl, rfl⟩)
      | (go_at_call 34; (with_reducible refine (HC2.out).mono ?_); rintro e w2 ⟨m, ms2, rfl, hm, hnm, hW2, hg2⟩))
    have hF2 := hW2.fs.files m hm
    have hS2 : Sees w2 w2.heap.size A (l.map bv) := sees_map16 HS.out HW.out.fs.map hg2
    have hlm := hW2.few hm
    have htot2 : totF { X with fs := openF X.fs s }.fs = totF X.fs := totF_open X.fs s
    have htx := HW.out.tot
    have hbase2 : base ≤ w2.heap.size := by have := hW2.box.lt; have := hW2.low; omega
    obtain ⟨A3, c3, w3, hap, ho3, hg3, hbl3⟩ := dk_append hF2.own (c' := c) HN.out hS2 (by have := HLN.out; have := HN.out; omega) hbase2
    have k0 : w2.cell? ⟨m.fb, 0, none⟩ = some (.slice m.A m.x.data.length m.c) := hF2.box.cell 0
    have hb3 : Box w3 m.fb 73 #[.slice m.A m.x.data.length m.c, .int .i64 (m.x.safe : Int)] := box_own hF2.box hF2.own (by decide) (by rw [ownBlock_slice]; exact hg3)
    have k0' : w3.cell? ⟨m.fb, 0, none⟩ = some (.slice m.A m.x.data.length m.c) := hb3.cell 0
    have f0' := hb3.free 0
    have hg4 : w3.grownBy (w3.setCell ⟨m.fb, 0, none⟩ (.slice A3 (m.x.data ++ l).length c3)) (some m.fb) := only_put (only_refl _ _) 0 _
    have hb4 : Box (w3.setCell ⟨m.fb, 0, none⟩ (.slice A3 (m.x.data ++ l).length c3)) m.fb 73 #[.slice A3 (m.x.data ++ l).length c3, .int .i64 (m.x.safe : Int)] := hb3.put 0 _
    have hF4 : FileW (w3.setCell ⟨m.fb, 0, none⟩ (.slice A3 (m.x.data ++ l).length c3)) base ⟨⟨m.x.name, m.x.data ++ l, m.x.safe⟩, m.fb, A3, c3⟩ :=
      ⟨hb4, own_box ho3 hb3 (by decide) hg4, by
        have := hF2.safe
        show m.x.safe ≤ (m.x.data ++ l).length
        rw [List.length_append]
        omega, hF2.low, hF2.name⟩
    have hfs4 := hW2.fs.upd hm hg3 hg4 (m' := ⟨⟨m.x.name, m.x.data ++ l, m.x.safe⟩, m.fb, A3, c3⟩) rfl rfl hF4 hbl3
    obtain ⟨w4, hw4⟩ : ∃ w4, w4 = w3.setCell ⟨m.fb, 0, none⟩ (.slice A3 (m.x.data ++ l).length c3) := ⟨_, rfl⟩
    rw [← hw4] at hg4 hfs4
    have hlX : (Y.fs = (repM ms2 ⟨⟨m.x.name, m.x.data ++ l, m.x.safe⟩, m.fb, A3, c3⟩).map FM.x) := by
      rw [HY.out, repM_x]
      show updF (openF X.fs s) s _ = _
      rw [← hnm]
      have h8 : openF X.fs m.x.name = ms2.map FM.x := by rw [hnm]; exact hW2.eq
      rw [h8]
      exact (updF_eq hW2.fs hm fun f => ⟨f.name, f.data ++ l, f.safe⟩).symm
    have htY : totF Y.fs = totF X.fs + l.length := by
      have h9 := totF_upd hW2.fs.names' (List.mem_map.2 ⟨m, hm, rfl⟩ : m.x ∈ ms2.map FM.x) fun f => ⟨f.name, f.data ++ l, f.safe⟩
      have h10 : totF (ms2.map FM.x) = totF X.fs := by rw [← hW2.eq]; exact htot2
      rw [hlX, repM_x]
      show totF (updF (ms2.map FM.x) m.x.name fun _ => ⟨m.x.name, m.x.data ++ l, m.x.safe⟩) = _
      rw [updF_eq hW2.fs hm fun f => ⟨f.name, f.data ++ l, f.safe⟩]
      rw [h10, List.length_append] at h9
      omega
    have hb24 : Box w4 p 68 (diskV mb (totF X.fs : Int) X.down X.acts X.fuse X.keep) := by
      have h1 : Box w2 p 68 (diskV mb (totF X.fs : Int) X.down X.acts X.fuse X.keep) := by
        have := hW2.box
        rw [htot2] at this
        exact this
      have h2 := box_own h1 hF2.own (by decide) (by rw [ownBlock_slice]; exact hg3)
      exact h2.grown hg4 (fun e => Box.apart h1 hF2.box (by decide) (by injection e))
    have d1 : w4.cell? ⟨p, 1, none⟩ = some (.int .i64 (totF X.fs : Int)) := hb24.cell 1
    have e1 := hb24.free 1
    obtain ⟨w5, hw5⟩ : ∃ w5, w5 = w4.setCell ⟨p, 1, none⟩ (.int .i64 ((totF X.fs : Int) + n)) := ⟨_, rfl⟩
    have hg5 : w4.grownBy w5 (some p) := by rw [hw5]; exact only_put (only_refl _ _) 1 _
    have hz := HZ.out
    have hYB := HYB.out
    have hYf : Y.fuse = X.fuse := by rw [HY.out]; rfl
    have hW5 : DkW w5 base p mb (repM ms2 ⟨⟨m.x.name, m.x.data ++ l, m.x.safe⟩, m.fb, A3, c3⟩) Y := by
      refine ⟨?_, hfs4.box hb24 (by decide) (by decide) hg5, hlX, by rw [htY]; omega, by rw [hYf]; exact HW.out.fuse, by rw [← hYB.2.1]; exact HW.out.keep, HW.out.low⟩
      rw [htY, ← hYB.2.2.1, ← hYB.2.2.2, ← hYB.2.1, hYf, hw5, HN.out]
      have h1 := hb24.put 1 (.int .i64 ((totF X.fs : Int) + l.length))
      show Box _ p _ (diskV mb ((totF X.fs + l.length : Nat) : Int) _ _ _ _)
      rw [Int.natCast_add]
      exact h1
    have HB5 : Hid (Bt true base w w5) := Lib.hid (by
      have hA : Bt true base w w2 := bt_mb HW.out hg2
      have hB : Bt true base w2 w3 := bt_own hF2.own (by rw [ownBlock_slice]; exact hg3) hbase2
      have hC : Bt true base w3 w4 := bt_box hb3 (.inr rfl) hg4 hF2.low
      have hD : Bt true base w4 w5 := bt_box hb24 (.inl rfl) hg5 HW.out.low
      exact ((hA.trans hB).trans hC).trans hD)
    have HC3 := Lib.hid (dkburns_any base p mb _ Y (by rw [← hYB.2.2.2]; exact HF.out.acts) w5 hW5)
    have HBX5 := Lib.hid hW5.box
    have HKX := Lib.hid HW.out.keep
    have HUB : Hid (0 ≤ (totF X.fs : Int) ∧ (totF X.fs : Int) + n ≤ 4194304) := Lib.hid (by rw [HN.out]; omega)
    have HYK : Hid (-9223372036854775808 ≤ Y.keep ∧ Y.keep < 9223372036854775808) := Lib.hid (by rw [← hYB.2.1]; exact HW.out.keep)
    obtain ⟨q, hq⟩ : ∃ q, q = (m.x.data ++ l).length := ⟨_, rfl⟩
    rw [← hq] at hap hw4
    clear hq
    clear hF2 hS2 hlm htot2 htx hbase2 ho3 hg3 hbl3 hb3 hg4 hb4 hF4 hfs4 hlX htY hb24 hg5 hz hYB hYf hW5 hm hnm hW2 hg2
    generalize (totF X.fs : Int) = U at *
    go_upto_region 6 with fail
    rw [← hw4]
    clear hap k0 k0' f0' hw4
    have hUB := HUB.out
    go_upto_region 7 with fail
    rw [← hw5]
    clear hw5 d1 e1 hUB
    cases hbn : Y.burns with
    | true =>
      rw [hbn] at HC3
      go_upto_region 8 with (go_at_call 35; (with_reducible refine (HC3.out).mono ?_); rintro e w6 ⟨rfl, hW6, hg6⟩; have HW6 := Lib.hid hW6; have HG6 := Lib.hid hg6; clear hW6 hg6)
      have HC4 := Lib.hid (dkfails_bt base p Y.tick HYK.out _ ⟨mb, _, HW6.out⟩)
      have HB6 := Lib.hid (HB5.out.trans (bt_box HBX5.out (.inl rfl) HG6.out HW6.out.low))
      go_wp2_with (go_at_call 36; (with_reducible refine (HC4.out).mono ?_); rintro e w7 ⟨rfl, hd7, hb7⟩; have HD7 := Lib.hid hd7; have HB7 := Lib.hid hb7; clear hd7 hb7)
      go_ret
      have hz2 : Z = (21, (Y.tick).off Y.keep) := by rw [HZZ.out, hbn]; rfl
      rw [hz2]
      exact ⟨rfl, HD7.out, HB6.out.trans HB7.out.wide⟩
    | false =>
      rw [hbn] at HC3
      go_wp2_with (go_at_call 35; (with_reducible refine (HC3.out).mono ?_); rintro e w6 ⟨rfl, hW6, hg6⟩; have HW6 := Lib.hid hW6; have HG6 := Lib.hid hg6; clear hW6 hg6)
      go_ret
      have hz2 : Z = (0, Y.tick) := by rw [HZZ.out, hbn]; rfl
      rw [hz2]
      exact ⟨rfl, ⟨mb, _, HW6.out⟩, HB5.out.trans (bt_box HBX5.out (.inl rfl) HG6.out HW6.out.low)⟩
  · have hap1 : X.append s l = (X.takes l.length, X) := by
      unfold DX.append
      rw [if_pos ht]
    rw [hap1]
    have HC1 := Lib.hid (dktakes_any base p mb ms X l.length w h)
    have HW : Hid (DkIs w base p X) := Lib.hid ⟨mb, ms, h⟩
    have hnt : X.takes l.length ≠ 0 := ht
    obtain ⟨T, hT⟩ : ∃ T, T = X.takes l.length := ⟨_, rfl⟩
    rw [← hT] at HC1 hnt ⊢
    clear h hS hs hf ht hap1 hT
    go_enter Tryd.func11, Tryd.ntmps11
    go_wp2_with (go_at_call 33; (with_reducible refine (HC1.out).mono ?_); rintro e w ⟨rfl, rfl⟩)
    go_ret
    exact ⟨rfl, HW.out, Bt.refl _ _ _⟩
set_option maxRecDepth 100000 in
theorem dkappend_any (base p : Nat) (X : DX) (s l : List UInt8) (A : Option Addr) (c : Nat) (hs : s.length ≤ maxLen) (hf : X.Few) (w : World) (h : DkIs w base p X) (hS : Sees w w.heap.size A (l.map bv)) :
    Calls Tryd.prog 11 #[.pointer (some ⟨p, 0, none⟩), str s, .slice A l.length c] w fun e w' => e = .returned (.int .i64 (X.append s l).1) ∧ DkIs w' base p (X.append s l).2 ∧ Below base w w' :=
  (dkappend_bt base p X s l A c hs hf w h hS).mono fun _ _ ⟨h1, h2, h3⟩ => ⟨h1, h2, h3.lo⟩
end Go.Proofs.YtapdnoellleimaaDoor

namespace Go.Proofs.YtapdnoellleimaaDoor
open Go.RowKit Go.Maps

set_option maxRecDepth 100000 in
theorem totF_put {fs : List FX} (hn : (fs.map FX.name).Nodup) (s : List UInt8) (g : FX → FX) : totF (putF fs s g) + sizeF fs s = totF fs + (g ((lookF fs s).getD ⟨s, [], 0⟩)).data.length := by
  unfold putF sizeF
  cases e : lookF fs s with
  | some f =>
    obtain ⟨hf, rfl⟩ := lookF_some e
    have ho : openF fs f.name = fs := by
      unfold openF
      rw [if_pos (hasF_iff.2 ⟨f, hf, rfl⟩)]
    rw [ho]
    exact totF_upd hn hf g
  | none =>
    have hne := lookF_none e
    have ho : openF fs s = fs ++ [⟨s, [], 0⟩] := by
      unfold openF
      rw [if_neg (by rw [hasF_false.2 hne]; simp)]
    rw [ho]
    have hn2 : ((fs ++ [(⟨s, [], 0⟩ : FX)]).map FX.name).Nodup := by
      rw [List.map_append, List.nodup_append]
      refine ⟨hn, by simp, ?_⟩
      rintro a ha b hb rfl
      obtain ⟨f, hf, rfl⟩ := List.mem_map.1 ha
      simp at hb
      exact hne f hf hb
    have h := totF_upd hn2 (f := ⟨s, [], 0⟩) (List.mem_append.2 (.inr (List.mem_singleton.2 rfl))) g
    have h2 : totF (fs ++ [(⟨s, [], 0⟩ : FX)]) = totF fs := by rw [totF_app]; rfl
    rw [h2] at h
    exact h

set_option maxRecDepth 100000 in
set_option maxHeartbeats 2000000 in
theorem dksync_bt (base p : Nat) (X : DX) (s : List UInt8) (hs : s.length ≤ maxLen) (hf : X.Few) (w : World) (h : DkIs w base p X) :
    Calls Tryd.prog 44 #[.pointer (some ⟨p, 0, none⟩), str s] w fun e w' => e = .returned (.int .i64 (X.sync s).1) ∧ DkIs w' base p (X.sync s).2 ∧ Bt false base w w' := by
  obtain ⟨mb, ms, h⟩ := h
  obtain ⟨Z, hZ⟩ : ∃ Z, Z = X.sync s := ⟨_, rfl⟩
  rw [← hZ]
  have HZZ := Lib.hid hZ
  by_cases ht : X.takes 0 = 0
  · have HC1 := dktakes_any base p mb ms X 0 w h
    rw [ht] at HC1
    have HC1 := Lib.hid HC1
    have HC2 := dkburns_any base p mb ms X hf.acts w h
    have HW := Lib.hid h
    have HF := Lib.hid hf
    have HT := Lib.hid ht
    have HS := Lib.hid hs
    have HBW : Hid (∀ w', w.grownBy w' (some p) → Bt false base w w') := Lib.hid (fun w' hg => bt_box h.box (.inl rfl) hg h.low)
    clear h hf ht hs hZ
    cases hbn : X.burns with
    | true =>
      rw [hbn] at HC2
      have HC2 := Lib.hid HC2
      have hz2 : Z = (21, X.tick.off X.keep) := by
        rw [HZZ.out]
        unfold DX.sync
        rw [if_neg (by rw [HT.out]; simp), if_pos hbn]
      rw [hz2]
      clear HZZ hz2 hbn
      go_enter Tryd.func44, Tryd.ntmps44
      go_upto_region 5 with (first
        | (go_at_call 33; (with_reducible refine (HC1.out).mono ?_); rintro e w ⟨rfl, rfl⟩)
        | (go_at_call 35; (with_reducible refine (HC2.out).mono ?_); rintro e w1 ⟨rfl, hW1, hg1⟩; have HW1 := Lib.hid hW1; have HB1 := Lib.hid (HBW.out w1 hg1); clear hW1 hg1))
      have HC4 := Lib.hid (dkfails_bt base p X.tick HW.out.keep _ ⟨mb, _, HW1.out⟩)
      go_wp2_with (go_at_call 36; (with_reducible refine (HC4.out).mono ?_); rintro e w7 ⟨rfl, hd7, hb7⟩; have HD7 := Lib.hid hd7; have HB7 := Lib.hid hb7; clear hd7 hb7)
      go_ret
      exact ⟨rfl, HD7.out, HB1.out.trans HB7.out⟩
    | false =>
      rw [hbn] at HC2
      have HC2 := Lib.hid HC2
      have hz2 : Z = (0, X.tick.put s fun f => ⟨f.name, f.data, f.data.length⟩) := by
        rw [HZZ.out]
        unfold DX.sync
        rw [if_neg (by rw [HT.out]; simp), if_neg (by rw [hbn]; simp)]
      rw [hz2]
      clear HZZ hz2 hbn
      go_enter Tryd.func44, Tryd.ntmps44
      go_upto_region 6 with (first
        | (go_at_call 33; (with_reducible refine (HC1.out).mono ?_); rintro e w ⟨rfl, rfl⟩)
        | (go_at_call 35; (with_reducible refine (HC2.out).mono ?_); rintro e w1 ⟨rfl, hW1, hg1⟩; have HW1 := Lib.hid hW1; have HB1 := Lib.hid (HBW.out w1 hg1); clear hW1 hg1))
      have HC3 := Lib.hid (dkopen_any base p mb ms X.tick s HS.out HF.out.fs w1 HW1.out)
      go_upto_region 7 with (go_at_call 34; (with_reducible refine (HC3.out).mono ?_); rintro e w2 ⟨m, ms2, rfl, hm, hnm, hW2, hg2⟩)
      have hF2 := hW2.fs.files m hm
      have htot2 : totF { X.tick with fs := openF X.tick.fs s }.fs = totF X.fs := totF_open X.fs s
      have k0 : w2.cell? ⟨m.fb, 0, none⟩ = some (.slice m.A m.x.data.length m.c) := hF2.box.cell 0
      have k1 : w2.cell? ⟨m.fb, 1, none⟩ = some (.int .i64 (m.x.safe : Int)) := hF2.box.cell 1
      have f1 := hF2.box.free 1
      obtain ⟨w3, hw3⟩ : ∃ w3, w3 = w2.setCell ⟨m.fb, 1, none⟩ (.int .i64 (m.x.data.length : Int)) := ⟨_, rfl⟩
      have hg3 : w2.grownBy w3 (some m.fb) := by rw [hw3]; exact only_put (only_refl _ _) 1 _
      have hb3 : Box w3 m.fb 73 #[.slice m.A m.x.data.length m.c, .int .i64 (m.x.data.length : Int)] := by rw [hw3]; exact hF2.box.put 1 _
      have hF3 : FileW w3 base ⟨⟨m.x.name, m.x.data, m.x.data.length⟩, m.fb, m.A, m.c⟩ := ⟨hb3, own_box hF2.own hF2.box (by decide) hg3, Nat.le_refl _, hF2.low, hF2.name⟩
      have hfs3 := hW2.fs.upd hm (only_refl _ _) hg3 (m' := ⟨⟨m.x.name, m.x.data, m.x.data.length⟩, m.fb, m.A, m.c⟩) rfl rfl hF3 (.inl rfl)
      have hlX : (X.tick.put s fun f => ⟨f.name, f.data, f.data.length⟩).fs = (repM ms2 ⟨⟨m.x.name, m.x.data, m.x.data.length⟩, m.fb, m.A, m.c⟩).map FM.x := by
        rw [repM_x]
        show updF (openF X.tick.fs s) s _ = _
        rw [← hnm]
        have h8 : openF X.tick.fs m.x.name = ms2.map FM.x := by rw [hnm]; exact hW2.eq
        rw [h8]
        exact (updF_eq hW2.fs hm fun f => ⟨f.name, f.data, f.data.length⟩).symm
      have htY : totF (X.tick.put s fun f => ⟨f.name, f.data, f.data.length⟩).fs = totF X.fs := by
        have h9 := totF_upd hW2.fs.names' (List.mem_map.2 ⟨m, hm, rfl⟩ : m.x ∈ ms2.map FM.x) fun f => ⟨f.name, f.data, f.data.length⟩
        have h10 : totF (ms2.map FM.x) = totF X.fs := by rw [← hW2.eq]; exact htot2
        rw [hlX, repM_x]
        show totF (updF (ms2.map FM.x) m.x.name fun _ => ⟨m.x.name, m.x.data, m.x.data.length⟩) = _
        rw [updF_eq hW2.fs hm fun f => ⟨f.name, f.data, f.data.length⟩]
        rw [h10] at h9
        dsimp only at h9
        omega
      have HW3 : Hid (DkW w3 base p mb (repM ms2 ⟨⟨m.x.name, m.x.data, m.x.data.length⟩, m.fb, m.A, m.c⟩) (X.tick.put s fun f => ⟨f.name, f.data, f.data.length⟩)) := Lib.hid (by
        refine ⟨?_, hfs3, hlX, by rw [htY]; exact HW.out.tot, hW2.fuse, hW2.keep, hW2.low⟩
        rw [htY]
        have h1 := hW2.box.grown hg3 (fun e => Box.apart hW2.box hF2.box (by decide) (by injection e))
        rw [htot2] at h1
        exact h1)
      have HB3 : Hid (Bt false base w w3) := Lib.hid ((HB1.out.trans (bt_mb HW1.out hg2)).trans (bt_box hF2.box (.inr rfl) hg3 hF2.low))
      clear hF2 htot2 hg3 hb3 hF3 hfs3 hlX htY hm hnm hW2 hg2
      go_upto_region 8 with fail
      rw [← hw3]
      go_wp2
      go_ret
      exact ⟨rfl, ⟨mb, _, HW3.out⟩, HB3.out⟩
  · have hz2 : Z = (X.takes 0, X) := by
      rw [HZZ.out]
      unfold DX.sync
      rw [if_pos ht]
    rw [hz2]
    have HC1 := Lib.hid (dktakes_any base p mb ms X 0 w h)
    have HW : Hid (DkIs w base p X) := Lib.hid ⟨mb, ms, h⟩
    have hnt : X.takes 0 ≠ 0 := ht
    generalize X.takes 0 = T at *
    clear h hs hf ht hZ HZZ hz2
    go_enter Tryd.func44, Tryd.ntmps44
    go_wp2_with (go_at_call 33; (with_reducible refine (HC1.out).mono ?_); rintro e w1 ⟨rfl, rfl⟩)
    go_ret
    exact ⟨rfl, HW.out, Bt.refl _ _ _⟩
set_option maxRecDepth 100000 in
theorem dksync_any (base p : Nat) (X : DX) (s : List UInt8) (hs : s.length ≤ maxLen) (hf : X.Few) (w : World) (h : DkIs w base p X) :
    Calls Tryd.prog 44 #[.pointer (some ⟨p, 0, none⟩), str s] w fun e w' => e = .returned (.int .i64 (X.sync s).1) ∧ DkIs w' base p (X.sync s).2 ∧ Below base w w' :=
  (dksync_bt base p X s hs hf w h).mono fun _ _ ⟨h1, h2, h3⟩ => ⟨h1, h2, h3.lo⟩
end Go.Proofs.YtapdnoellleimaaDoor

namespace Go.Proofs.YtapdnoellleimaaDoor
open Go.RowKit Go.Maps

set_option maxRecDepth 100000 in
/-- Bytes that are seen lie in no block without bytes. -/
theorem sees_box16 {w w' : World} {A : Option Addr} {l : List UInt8} {p : Nat} {t : TypeId} {cs : Array Value} (h : Sees w w.heap.size A (l.map bv)) (hb : Box w p t cs) (hne : ∀ (i : Nat) (b : UInt8), cs[i]? ≠ some (bv b)) (hg : w.grownBy w' (some p)) : Sees w' w'.heap.size A (l.map bv) := by
  rcases h with h0 | ⟨g, o, rfl, hlt, hc⟩
  · exact .inl h0
  · refine .inr ⟨g, o, rfl, Nat.lt_of_lt_of_le hlt hg.size, fun j u hu => ?_⟩
    have h1 := hc j u hu
    refine hg.cell h1 ?_
    intro e
    injection e with e
    rw [List.getElem?_map] at hu
    obtain ⟨b, _, rfl⟩ := Option.map_eq_some_iff.1 hu
    have h2 := hb.cell (o + j)
    rw [show g = p from e] at h1
    rw [h1] at h2
    exact hne (o + j) b h2.symm
set_option maxRecDepth 100000 in
theorem diskV_no (mb : Nat) (u : Int) (d : Bool) (a f k : Int) : ∀ (i : Nat) (b : UInt8), (diskV mb u d a f k)[i]? ≠ some (bv b) := by
  intro i b h
  rcases i with _ | _ | _ | _ | _ | _ | i <;> simp [bv] at h

attribute [local go_sem ↓] upDk_def
set_option maxRecDepth 100000 in
set_option maxHeartbeats 2000000 in
theorem dkinstall_bt (base p : Nat) (X : DX) (s l : List UInt8) (A : Option Addr) (c : Nat) (hs : s.length ≤ maxLen) (hll : l.length ≤ 70368744177664) (hf : X.Few) (w : World) (h : DkIs w base p X) (hS : Sees w w.heap.size A (l.map bv)) :
    Calls Tryd.prog 45 #[.pointer (some ⟨p, 0, none⟩), str s, .slice A l.length c] w fun e w' => e = .returned (.int .i64 (X.install s l).1) ∧ DkIs w' base p (X.install s l).2 ∧ Bt false base w w' := by
  obtain ⟨mb, ms, h⟩ := h
  obtain ⟨Z, hZ⟩ : ∃ Z, Z = X.install s l := ⟨_, rfl⟩
  rw [← hZ]
  have HZZ := Lib.hid hZ
  have hsz : sizeF X.fs s ≤ 4194304 := by
    unfold sizeF
    cases e : lookF X.fs s with
    | none => exact Nat.zero_le _
    | some f => exact Nat.le_trans (List.le_sum_of_mem' (List.mem_map.2 ⟨f, (lookF_some e).1, rfl⟩)) h.tot
  have HC0 := Lib.hid (dksize_any base p mb ms X s hs w h)
  have hput := totF_put (by rw [h.eq]; exact h.fs.names' : (X.fs.map FX.name).Nodup) s (fun _ => ⟨s, l, l.length⟩)
  obtain ⟨K, hK⟩ : ∃ K, K = sizeF X.fs s := ⟨_, rfl⟩
  obtain ⟨n, hn⟩ : ∃ n, n = l.length := ⟨_, rfl⟩
  by_cases ht : X.takes ((l.length : Int) - (sizeF X.fs s : Int)) = 0
  · have hz := takes_zero ht
    have HC1 := dktakes_any base p mb ms X ((l.length : Int) - (sizeF X.fs s : Int)) w h
    rw [ht, ← hK, ← hn] at HC1
    have HC1 := Lib.hid HC1
    have HC2 := dkburns_any base p mb ms X hf.acts w h
    have HW := Lib.hid h
    have HF := Lib.hid hf
    have HT := Lib.hid ht
    have HSS := Lib.hid hS
    have HNM := Lib.hid hs
    have HPT := Lib.hid hput
    have HNN := Lib.hid hn
    have HTO : Hid ((totF X.fs : Int) + ((n : Int) - K) = (totF (X.put s fun _ => ⟨s, l, l.length⟩).fs : Int) ∧ totF (X.put s fun _ => ⟨s, l, l.length⟩).fs ≤ 4194304) := Lib.hid (by
      have h1 := h.tot
      have h2 : totF (X.put s fun _ => ⟨s, l, l.length⟩).fs + sizeF X.fs s = totF X.fs + l.length := hput
      rw [hn, hK]
      omega)
    have HBW : Hid (∀ w', w.grownBy w' (some p) → Bt false base w w' ∧ w.heap.size ≤ w'.heap.size ∧ base ≤ w'.heap.size) := Lib.hid (fun w' hg => ⟨bt_box h.box (.inl rfl) hg h.low, hg.size, by have := h.box.lt; have := h.low; have := hg.size; omega⟩)
    have HSW : Hid (∀ w', w.grownBy w' (some p) → Sees w' w'.heap.size A (l.map bv)) := Lib.hid (fun w' hg => sees_box16 hS h.box (diskV_no _ _ _ _ _ _) hg)
    have hm1 : (-9223372036854775808 : Int) ≤ (n : Int) - K ∧ (n : Int) - K ≤ 9223372036854775807 := by omega
    rw [← hK] at HC0
    rw [← hn]
    have HLL := Lib.hid hll
    clear h hf ht hs hS hZ hz hput hsz hK hll hn
    cases hbn : X.burns with
    | true =>
      rw [hbn] at HC2
      have HC2 := Lib.hid HC2
      have hz2 : Z = (21, X.tick.off X.keep) := by
        rw [HZZ.out]
        unfold DX.install
        rw [if_neg (by rw [HT.out]; simp), if_pos hbn]
      rw [hz2]
      clear HZZ hz2 hbn
      go_enter Tryd.func45, Tryd.ntmps45
      go_upto_region 6 with (first
        | (go_at_call 59; (with_reducible refine (HC0.out).mono ?_); rintro e w ⟨rfl, rfl⟩)
        | (go_at_call 33; (with_reducible refine (HC1.out).mono ?_); rintro e w ⟨rfl, rfl⟩)
        | (go_at_call 35; (with_reducible refine (HC2.out).mono ?_); rintro e w1 ⟨rfl, hW1, hg1⟩; have HW1 := Lib.hid hW1; have HB1 := Lib.hid (HBW.out w1 hg1).1; clear hW1 hg1))
      have HC4 := Lib.hid (dkfails_bt base p X.tick HW.out.keep _ ⟨mb, _, HW1.out⟩)
      go_wp2_with (go_at_call 36; (with_reducible refine (HC4.out).mono ?_); rintro e w7 ⟨rfl, hd7, hb7⟩; have HD7 := Lib.hid hd7; have HB7 := Lib.hid hb7; clear hd7 hb7)
      go_ret
      exact ⟨rfl, HD7.out, HB1.out.trans HB7.out⟩
    | false =>
      rw [hbn] at HC2
      have HC2 := Lib.hid HC2
      have hz2 : Z = (0, X.tick.put s fun _ => ⟨s, l, l.length⟩) := by
        rw [HZZ.out]
        unfold DX.install
        rw [if_neg (by rw [HT.out]; simp), if_neg (by rw [hbn]; simp)]
      rw [hz2]
      clear HZZ hz2 hbn
      go_enter Tryd.func45, Tryd.ntmps45
      go_upto_region 7 with (first
        | (go_at_call 59; (with_reducible refine (HC0.out).mono ?_); rintro e w ⟨rfl, rfl⟩)
        | (go_at_call 33; (with_reducible refine (HC1.out).mono ?_); rintro e w ⟨rfl, rfl⟩)
        | (go_at_call 35; (with_reducible refine (HC2.out).mono ?_); rintro e w1 ⟨rfl, hW1, hg1⟩; have HW1 := Lib.hid hW1; have HB1 := Lib.hid (HBW.out w1 hg1); have HS1 := Lib.hid (HSW.out w1 hg1); clear hW1 hg1))
      have c0 : w1.cell? ⟨p, 0, none⟩ = some (.map (some mb)) := HW1.out.box.cell 0
      obtain ⟨wd, hwd⟩ : ∃ wd, wd = w1.drew := ⟨_, rfl⟩
      have hbd : Below w1.heap.size w1 wd := by rw [hwd]; exact (Below.refl _ _).drew
      have HCC : Hid (Calls Tryd.prog 47 #[.slice A n c] wd fun e w' => ∃ A' c', e = .returned (.slice A' n c') ∧ DB.Own w' w1.heap.size (.slice A' n c') l ∧ Below w1.heap.size w1 w') := Lib.hid (by
        rw [HNN.out]
        have hsz : wd.heap.size = w1.heap.size := by rw [hwd]; rfl
        refine (dk_clone l A c HLL.out wd (HS1.out.more (by omega) |>.keep (fun q _ => by rw [hwd]; rfl))).mono ?_
        rintro e w' ⟨A', c', he, ho, hb⟩
        rw [hsz] at ho hb
        exact ⟨A', c', he, ho, hbd.trans hb⟩)
      -- what is laid behind it
      have HPU : Hid (∀ A' c' w2, DB.Own w2 w1.heap.size (.slice A' n c') l → Below w1.heap.size w1 w2 → ∃ w4 ms4, (upDk (.map (some mb)) (str s) (.pointer (some ⟨w2.heap.size, 0, none⟩))).run Tryd.prog (w2.alloc (.cells #[.slice A' n c', .int .i64 (n : Int)] 73)) = .ok () w4 ∧ w2.cell? ⟨p, 0, none⟩ = some (.map (some mb)) ∧ (w2.alloc (.cells #[.slice A' n c', .int .i64 (n : Int)] 73)).cell? ⟨p, 0, none⟩ = some (.map (some mb)) ∧
          DkFs w4 base mb ms4 ∧ (X.tick.put s fun _ => ⟨s, l, l.length⟩).fs = ms4.map FM.x ∧ Box w4 p 68 (diskV mb (totF X.fs : Int) X.tick.down X.tick.acts X.tick.fuse X.tick.keep) ∧ Bt false base w1 w4) := Lib.hid (by
        intro A' c' w2 ho hb
        obtain ⟨w3, hw3⟩ : ∃ w3, w3 = w2.alloc (.cells #[.slice A' n c', .int .i64 (n : Int)] 73) := ⟨_, rfl⟩
        rw [← hw3]
        have hb3 : Below w2.heap.size w2 w3 := by rw [hw3]; exact (Below.refl _ _).alloc (Nat.le_refl _) _
        have hx3 : Box w3 w2.heap.size 73 #[.slice A' n c', .int .i64 (n : Int)] := by rw [hw3]; exact Box.made _ _ _
        have hW2 := HW1.out.call hb
        have hW3 := hW2.call hb3
        have hbase : base ≤ w1.heap.size := HB1.out.2.2
        have ho3 : DB.Own w3 w1.heap.size (.slice A' n c') l := EK.Own.keep ho hb3
        rw [HNN.out] at hx3 ho3
        have hfw : FileW w3 base ⟨⟨s, l, l.length⟩, w2.heap.size, A', c'⟩ := ⟨hx3, EK.Own.base ho3 hbase, Nat.le_refl _, by have := hb.size; show base ≤ w2.heap.size; omega, HNM.out⟩
        have hap : ∀ k ∈ ms, FM.Apart ⟨⟨s, l, l.length⟩, w2.heap.size, A', c'⟩ k := fun k hk => ⟨by
          have h1 := (HW1.out.fs.files k hk).box.lt
          have h2 := hb.size
          show w2.heap.size ≠ k.fb
          omega, fun g hg e => by
          obtain ⟨_, cs, hbx⟩ := (HW1.out.fs.files k hk).blk_lt g e
          have h1 := hbx.lt
          have h2 : w1.heap.size ≤ g := by
            cases A' with
            | none => cases hg
            | some ad =>
              have hg2 : ad.block = g := by injection hg
              rcases ho.2 with ⟨e2, _⟩ | ⟨g', cap, cur, e2, hb2, _⟩
              · cases e2
              · injection e2 with e2
                injection e2 with e2
                rw [← hg2, e2]
                exact hb2
          omega⟩
        have hlen : ms.length < 1000000 := by
          have h1 := HF.out.fs
          have h2 := congrArg List.length HW1.out.eq
          rw [List.length_map] at h2
          have h3 : X.tick.fs = X.fs := rfl
          rw [h3] at h2
          omega
        obtain ⟨w4, hr, hfs, hg⟩ := hW3.fs.put hfw hap hlen
        refine ⟨w4, putM ms ⟨⟨s, l, l.length⟩, w2.heap.size, A', c'⟩, hr, hW2.box.cell 0, hW3.box.cell 0, hfs, ?_, hW3.box.grown hg (fun e => hW3.fs.map.ne hW3.box (by injection e)), ?_⟩
        · rw [putM_x, ← HW1.out.eq]
          rfl
        · exact ((bt_call hb hbase).trans (bt_call hb3 (Nat.le_trans hbase hb.size))).trans (bt_mb hW3 hg))
      obtain ⟨U, hU⟩ : ∃ U : Int, U = (totF X.fs : Int) := ⟨_, rfl⟩
      rw [← hU] at HTO HPU
      clear hU
      have hmn := hm1
      have hUm : -4611686018427387904 ≤ U + ((n : Int) - K) ∧ U + ((n : Int) - K) ≤ 4611686018427387904 := by
        have := HTO.out
        omega
      have HUm := Lib.hid hUm
      refine wp_region_held_drew (S := fun w' => w'.cell? ⟨p, 0, none⟩ = some (.map (some mb))) (by kernel_rfl) (by exact c0) (fun hS => ?_)
      rw [← hwd] at hS ⊢
      clear hwd hbd c0
      (refine wpAnyH_take (i := 0) (v := .pointer (some ⟨p, 0, none⟩)) rfl (by kernel_rfl) (by kernel_rfl) (by kernel_rfl) (fun _ _ _ h => h) (Or.inl ⟨by kernel_rfl, fun w hSw => by go_simp⟩) hS ?_)
      (try simp only [Act.put])
      (refine wpAnyH_take (i := 1) (v := .pointer (some ⟨p, 0, none⟩)) rfl (by kernel_rfl) (by kernel_rfl) (by kernel_rfl) (fun _ _ _ h => h) (Or.inl ⟨by kernel_rfl, fun w hSw => by go_simp⟩) hS ?_)
      (try simp only [Act.put])
      (refine wpAnyH_take (i := 2) (v := .pointer (some ⟨p, 0, none⟩)) rfl (by kernel_rfl) (by kernel_rfl) (by kernel_rfl) (fun _ _ _ h => h) (Or.inl ⟨by kernel_rfl, fun w hSw => by go_simp⟩) hS ?_)
      (try simp only [Act.put])
      (refine wpAnyH_take (i := 3) (v := .map (some mb)) rfl (by kernel_rfl) (by kernel_rfl) (by kernel_rfl) (fun _ _ _ h => h) (Or.inl ⟨by kernel_rfl, fun w hSw => by have hc := hSw; go_simp⟩) hS ?_)
      (try simp only [Act.put])
      (refine wpAnyH_take (i := 4) (v := str s) rfl (by kernel_rfl) (by kernel_rfl) (by kernel_rfl) (fun _ _ _ h => h) (Or.inl ⟨by kernel_rfl, fun w hSw => by go_simp⟩) hS ?_)
      (try simp only [Act.put])
      (refine wpAnyH_take (i := 5) (v := .slice A n c) rfl (by kernel_rfl) (by kernel_rfl) (by kernel_rfl) (fun _ _ _ h => h) (Or.inl ⟨by kernel_rfl, fun w hSw => by go_simp⟩) hS ?_)
      (try simp only [Act.put])
      (refine wpAnyH_take (i := 7) (v := .slice A n c) rfl (by kernel_rfl) (by kernel_rfl) (by kernel_rfl) (fun _ _ _ h => h) (Or.inl ⟨by kernel_rfl, fun w hSw => by go_simp⟩) hS ?_)
      (try simp only [Act.put])
      (refine wpAnyH_take (i := 8) (v := .int .i64 (n : Int)) rfl (by kernel_rfl) (by kernel_rfl) (by kernel_rfl) (fun _ _ _ h => h) (Or.inl ⟨by kernel_rfl, fun w hSw => by go_simp⟩) hS ?_)
      (try simp only [Act.put])
      refine wpAnyH_ready (rs := [6]) (by decide +kernel) (by simp) (AllReadyH.cons rfl (fun K hK => ?_) AllReadyH.nil)
      go_simp
      (go_at_call 47; (with_reducible refine (HCC.out).mono ?_); rintro e w2 ⟨A2, c2, rfl, ho2, hb2⟩)
      obtain ⟨w4, ms4, hr4, c0', c0'', hfs4, hms4, hbx4, hbl4⟩ := HPU.out A2 c2 w2 ho2 hb2
      have HFS4 := Lib.hid hfs4
      have HMS4 := Lib.hid hms4
      have HBX4 := Lib.hid hbx4
      have HBL4 := Lib.hid hbl4
      have c4 : w4.cell? ⟨p, 0, none⟩ = some (.map (some mb)) := hbx4.cell 0
      clear ho2 hb2 hfs4 hms4 hbx4 hbl4
      refine hK.out _ _ (c0') (fun hS => ?_)
      clear hK K
      (try simp only [Act.put])
      (refine wpAnyH_take (i := 9) (v := .agg #[.slice A2 n c2, .int .i64 (n : Int)]) rfl (by kernel_rfl) (by kernel_rfl) (by kernel_rfl) (fun _ _ _ h => h) (Or.inl ⟨by kernel_rfl, fun w hSw => by go_simp⟩) hS ?_)
      (try simp only [Act.put])
      refine wpAnyH_ready (rs := [10]) (by decide +kernel) (by simp) (AllReadyH.cons rfl (fun K hK => ?_) AllReadyH.nil)
      go_simp
      refine hK.out _ _ (c0'') (fun hS => ?_)
      clear hK K
      (try simp only [Act.put])
      refine wpAnyH_ready (rs := [11]) (by decide +kernel) (by simp) (AllReadyH.cons rfl (fun K hK => ?_) AllReadyH.nil)
      go_simp
      refine hK.out _ _ (c4) (fun hS => ?_)
      clear hK K
      (try simp only [Act.put])
      refine wpAnyH_done (by kernel_rfl) ?_ _
      clear hS hr4 c0' c0''
      have d1 : w4.cell? ⟨p, 1, none⟩ = some (.int .i64 U) := HBX4.out.cell 1
      have e1 := HBX4.out.free 1
      obtain ⟨w5, hw5⟩ : ∃ w5, w5 = w4.setCell ⟨p, 1, none⟩ (.int .i64 (U + ((n : Int) - K))) := ⟨_, rfl⟩
      have hg5 : w4.grownBy w5 (some p) := by rw [hw5]; exact only_put (only_refl _ _) 1 _
      have HW5 : Hid (DkW w5 base p mb ms4 (X.tick.put s fun _ => ⟨s, l, l.length⟩)) := Lib.hid (by
        refine ⟨?_, HFS4.out.box HBX4.out (by decide) (by decide) hg5, HMS4.out, HTO.out.2, HW1.out.fuse, HW1.out.keep, HW1.out.low⟩
        have h1 := HBX4.out.put 1 (.int .i64 (U + ((n : Int) - K)))
        rw [← hw5, HTO.out.1] at h1
        exact h1)
      have HB5 : Hid (Bt false base w w5) := Lib.hid ((HB1.out.1.trans HBL4.out).trans (bt_box HBX4.out (.inl rfl) hg5 HW.out.low))
      clear hg5
      have hUm := HUm.out
      go_upto_region 9 with fail
      rw [← hw5]
      go_wp2
      go_ret
      exact ⟨rfl, ⟨mb, ms4, HW5.out⟩, HB5.out⟩
  · have hz2 : Z = (X.takes ((l.length : Int) - (sizeF X.fs s : Int)), X) := by
      rw [HZZ.out]
      unfold DX.install
      rw [if_pos ht]
    rw [hz2]
    have HC1 := dktakes_any base p mb ms X ((l.length : Int) - (sizeF X.fs s : Int)) w h
    have HW : Hid (DkIs w base p X) := Lib.hid ⟨mb, ms, h⟩
    have hnt : X.takes ((l.length : Int) - (sizeF X.fs s : Int)) ≠ 0 := ht
    have hm1 : (-9223372036854775808 : Int) ≤ (n : Int) - K ∧ (n : Int) - K ≤ 9223372036854775807 := by omega
    rw [← hK] at HC0
    generalize hTT : X.takes ((l.length : Int) - (sizeF X.fs s : Int)) = T at *
    rw [← hK, ← hn] at HC1
    have HC1 := Lib.hid HC1
    rw [← hn]
    clear h hs hf ht hZ HZZ hz2 hsz hput hK hn hTT hS hll
    go_enter Tryd.func45, Tryd.ntmps45
    go_wp2_with (first
      | (go_at_call 59; (with_reducible refine (HC0.out).mono ?_); rintro e w ⟨rfl, rfl⟩)
      | (go_at_call 33; (with_reducible refine (HC1.out).mono ?_); rintro e w1 ⟨rfl, rfl⟩))
    go_ret
    exact ⟨rfl, HW.out, Bt.refl _ _ _⟩
set_option maxRecDepth 100000 in
theorem dkinstall_any (base p : Nat) (X : DX) (s l : List UInt8) (A : Option Addr) (c : Nat) (hs : s.length ≤ maxLen) (hll : l.length ≤ 70368744177664) (hf : X.Few) (w : World) (h : DkIs w base p X) (hS : Sees w w.heap.size A (l.map bv)) :
    Calls Tryd.prog 45 #[.pointer (some ⟨p, 0, none⟩), str s, .slice A l.length c] w fun e w' => e = .returned (.int .i64 (X.install s l).1) ∧ DkIs w' base p (X.install s l).2 ∧ Below base w w' :=
  (dkinstall_bt base p X s l A c hs hll hf w h hS).mono fun _ _ ⟨h1, h2, h3⟩ => ⟨h1, h2, h3.lo⟩
end Go.Proofs.YtapdnoellleimaaDoor

namespace Go.Proofs.YtapdnoellleimaaDoor
open Go.RowKit Go.Maps

set_option maxRecDepth 100000 in
theorem dk_lit (w : World) (l : List UInt8) (fr : Nat × Nat) : Sees (w.alloc (.cells (l.map bv).toArray 5 fr)) (w.alloc (.cells (l.map bv).toArray 5 fr)).heap.size (some ⟨w.heap.size, 0, none⟩) (l.map bv) := by
  refine .inr ⟨w.heap.size, 0, rfl, by simp, fun j u hu => ?_⟩
  have h1 : (w.alloc (.cells (l.map bv).toArray 5 fr)).heap[w.heap.size]? = some (.cells (l.map bv).toArray 5 fr) := heap_alloc_new w _
  rw [cell_of_row _ _ _ _ _ _ h1, Nat.zero_add]
  simpa using hu
set_option maxRecDepth 100000 in
theorem own_sees16 {w : World} {base c : Nat} {A : Option Addr} {xs : List UInt8} (h : DB.Own w base (.slice A xs.length c) xs) : Sees w w.heap.size A (xs.map bv) := DB_sees h.see

def alX1 : DX := ⟨[⟨[97], [120, 121], 0⟩], false, 1, 0, 0⟩
def alX2 : DX := ⟨[⟨[97], [120, 121], 2⟩], false, 2, 0, 0⟩
def alX3 : DX := ⟨[⟨[97], [120, 121, 122], 2⟩], false, 3, 0, 0⟩
def alX4 : DX := ⟨[⟨[97], [120, 121], 2⟩], true, 3, 0, 0⟩
def alX5 : DX := ⟨[⟨[97], [120, 121], 2⟩], false, 3, 0, 0⟩
set_option maxRecDepth 100000 in
theorem al_1 : newX.append [97] [120, 121] = (0, alX1) := by rfl
set_option maxRecDepth 100000 in
theorem al_2 : alX1.sync [97] = (0, alX2) := by rfl
set_option maxRecDepth 100000 in
theorem al_3 : alX2.append [97] [122] = (0, alX3) := by rfl
set_option maxRecDepth 100000 in
theorem al_4 : alX3.off 0 = alX4 := by rfl
set_option maxRecDepth 100000 in
theorem al_5 : alX4.on = alX5 := by rfl
set_option maxRecDepth 100000 in
theorem al_6 : alX5.read [97] = ([120, 121], 0) := by rfl
set_option maxRecDepth 100000 in
theorem few_1 : newX.Few := ⟨by decide, by decide⟩
set_option maxRecDepth 100000 in
theorem few_2 : alX1.Few := ⟨by decide, by decide⟩
set_option maxRecDepth 100000 in
theorem few_3 : alX2.Few := ⟨by decide, by decide⟩
set_option maxRecDepth 100000 in
theorem nm_small {l : List UInt8} (h : l.length ≤ 10) : l.length ≤ maxLen := Nat.le_trans h (by decide)

/-- What a walk carries of a disk that was made in it. -/
structure DkC (w0 w : World) (base p : Nat) (X : DX) : Prop where
  is_ : DkIs w base p X
  below : Below base w0 w
  size : base ≤ w.heap.size
set_option maxRecDepth 100000 in
theorem DkC.call {w0 w w' : World} {base p : Nat} {X : DX} (h : DkC w0 w base p X) (hb : Below w.heap.size w w') : DkC w0 w' base p X := ⟨h.is_.call hb, h.below.trans (hb.mono h.size), Nat.le_trans h.size hb.size⟩
set_option maxRecDepth 100000 in
theorem DkC.next {w0 w w' : World} {base p : Nat} {X Y : DX} (h : DkC w0 w base p X) (hd : DkIs w' base p Y) (hb : Below base w w') : DkC w0 w' base p Y := ⟨hd, h.below.trans hb, Nat.le_trans h.size hb.size⟩
set_option maxRecDepth 100000 in
theorem dknew_c (w : World) (base : Nat) (hb : base = w.heap.size) : Calls Tryd.prog 10 #[] w fun e w' => ∃ p, e = .returned (.pointer (some ⟨p, 0, none⟩)) ∧ DkC w w' base p newX := by
  refine (dknew_any w).mono ?_
  rintro e w' ⟨p, he, hd, hbl⟩
  rw [← hb] at hd hbl
  exact ⟨p, he, hd, hbl, by rw [hb]; exact hbl.size⟩
set_option maxRecDepth 100000 in
/-- A slice literal of bytes, and what is appended then. -/
theorem dk_lit_append {w0 w : World} {base p : Nat} {X : DX} (h : DkC w0 w base p X) (s l : List UInt8) (n : Nat) (hn : n = l.length) (hs : s.length ≤ maxLen) (hf : X.Few) (fr : Nat × Nat) (cs : Array Value) (hcs : cs = (l.map bv).toArray) :
    DkC w0 (w.alloc (.cells cs 5 fr)) base p X ∧
    Calls Tryd.prog 11 #[.pointer (some ⟨p, 0, none⟩), str s, .slice (some ⟨w.heap.size, 0, none⟩) n n] (w.alloc (.cells cs 5 fr)) fun e w' => e = .returned (.int .i64 (X.append s l).1) ∧ DkC w0 w' base p (X.append s l).2 := by
  rw [hcs]
  have hb : Below w.heap.size w (w.alloc (.cells (l.map bv).toArray 5 fr)) := (Below.refl _ _).alloc (Nat.le_refl _) _
  have h2 := h.call hb
  refine ⟨h2, ?_⟩
  subst hn
  refine (dkappend_any base p X s l (some ⟨w.heap.size, 0, none⟩) l.length hs hf _ h2.is_ (dk_lit w l fr)).mono ?_
  rintro e w' ⟨he, hd, hbl⟩
  exact ⟨he, h2.next hd hbl⟩
set_option maxRecDepth 100000 in
theorem dkappend_c {w0 w : World} {base p : Nat} {X : DX} (h : DkC w0 w base p X) (s l : List UInt8) (A : Option Addr) (n c : Nat) (hn : n = l.length) (hs : s.length ≤ maxLen) (hf : X.Few) (hS : Sees w w.heap.size A (l.map bv)) :
    Calls Tryd.prog 11 #[.pointer (some ⟨p, 0, none⟩), str s, .slice A n c] w fun e w' => e = .returned (.int .i64 (X.append s l).1) ∧ DkC w0 w' base p (X.append s l).2 := by
  subst hn
  refine (dkappend_any base p X s l A c hs hf w h.is_ hS).mono ?_
  rintro e w' ⟨he, hd, hbl⟩
  exact ⟨he, h.next hd hbl⟩
set_option maxRecDepth 100000 in
theorem dkinstall_c {w0 w : World} {base p : Nat} {X : DX} (h : DkC w0 w base p X) (s l : List UInt8) (A : Option Addr) (n c : Nat) (hn : n = l.length) (hs : s.length ≤ maxLen) (hl : l.length ≤ 70368744177664) (hf : X.Few) (hS : Sees w w.heap.size A (l.map bv)) :
    Calls Tryd.prog 45 #[.pointer (some ⟨p, 0, none⟩), str s, .slice A n c] w fun e w' => e = .returned (.int .i64 (X.install s l).1) ∧ DkC w0 w' base p (X.install s l).2 := by
  subst hn
  refine (dkinstall_any base p X s l A c hs hl hf w h.is_ hS).mono ?_
  rintro e w' ⟨he, hd, hbl⟩
  exact ⟨he, h.next hd hbl⟩
set_option maxRecDepth 100000 in
theorem dksync_c {w0 w : World} {base p : Nat} {X : DX} (h : DkC w0 w base p X) (s : List UInt8) (hs : s.length ≤ maxLen) (hf : X.Few) :
    Calls Tryd.prog 44 #[.pointer (some ⟨p, 0, none⟩), str s] w fun e w' => e = .returned (.int .i64 (X.sync s).1) ∧ DkC w0 w' base p (X.sync s).2 := by
  refine (dksync_any base p X s hs hf w h.is_).mono ?_
  rintro e w' ⟨he, hd, hbl⟩
  exact ⟨he, h.next hd hbl⟩
set_option maxRecDepth 100000 in
theorem dkoff_c {w0 w : World} {base p : Nat} {X : DX} (h : DkC w0 w base p X) (k : Int) (hk : -9223372036854775808 ≤ k ∧ k < 9223372036854775808) :
    Calls Tryd.prog 23 #[.pointer (some ⟨p, 0, none⟩), .int .i64 k] w fun e w' => e = .returned (.tuple #[]) ∧ DkC w0 w' base p (X.off k) := by
  refine (dkoff_any base p X k hk w h.is_).mono ?_
  rintro e w' ⟨he, hd, hbl⟩
  exact ⟨he, h.next hd hbl⟩
set_option maxRecDepth 100000 in
theorem dkon_c {w0 w : World} {base p : Nat} {X : DX} (h : DkC w0 w base p X) :
    Calls Tryd.prog 25 #[.pointer (some ⟨p, 0, none⟩)] w fun e w' => e = .returned (.tuple #[]) ∧ DkC w0 w' base p X.on := by
  refine (dkon_any base p X w h.is_).mono ?_
  rintro e w' ⟨he, hd, hbl⟩
  exact ⟨he, h.next hd hbl⟩
set_option maxRecDepth 100000 in
theorem dkarm_c {w0 w : World} {base p : Nat} {X : DX} (h : DkC w0 w base p X) (n k : Int) (hn : -9223372036854775808 ≤ n ∧ n < 9223372036854775808) (hk : -9223372036854775808 ≤ k ∧ k < 9223372036854775808) :
    Calls Tryd.prog 26 #[.pointer (some ⟨p, 0, none⟩), .int .i64 n, .int .i64 k] w fun e w' => e = .returned (.tuple #[]) ∧ DkC w0 w' base p (X.arm n k) := by
  refine (dkarm_any base p X n k hn hk w h.is_).mono ?_
  rintro e w' ⟨he, hd, hbl⟩
  exact ⟨he, h.next hd hbl⟩
set_option maxRecDepth 100000 in
theorem dkread_c {w0 w : World} {base p : Nat} {X : DX} (h : DkC w0 w base p X) (s l : List UInt8) (n : Nat) (r : Int) (hn : n = l.length) (hr : X.read s = (l, r)) (hs : s.length ≤ maxLen) :
    Calls Tryd.prog 28 #[.pointer (some ⟨p, 0, none⟩), str s] w fun e w' => ∃ A c, e = .returned (.tuple #[.slice A n c, .int .i64 r]) ∧ DB.Own w' w.heap.size (.slice A n c) l ∧ Below w.heap.size w w' ∧ DkC w0 w' base p X := by
  subst hn
  refine (dkread_any base p X s hs w h.is_).mono ?_
  rintro e w' ⟨A, c, he, ho, hb⟩
  rw [hr] at he ho
  exact ⟨A, c, he, ho, hb, h.call hb⟩
set_option maxRecDepth 100000 in
theorem conv16 {w : World} {base n c : Nat} {A : Option Addr} {l : List UInt8} (h : DB.Own w base (.slice A n c) l) : (convert 22 9 (.slice A n c)).run Tryd.prog w = .ok (str l) w := by
  obtain ⟨rfl, _⟩ := h.bounds
  exact convert_sees (P := Tryd.prog) 22 5 9 Tryd.underlying22 Tryd.underlying5 Tryd.underlying9 (own_sees16 h) c

end Go.Proofs.YtapdnoellleimaaDoor

namespace Go.Proofs.YtapdnoellleimaaDoor
open Go.RowKit Go.Maps

/-- A text that is handed in: bytes that lie somewhere. -/
structure TX where
  A : Option Addr
  l : List UInt8
  c : Nat
noncomputable def TK : EK TX where
  e := 22
  sl := 36
  k := 1
  bys := 24
  z := .slice none 0 0
  enc := fun t => [.slice t.A t.l.length t.c]
  hk := by decide
  und := Tryd.underlying36
  els := by kernel_rfl
  info := by kernel_rfl
  hzs := rfl
  zone := by
    intro v hv
    simp only [Value.cells, List.mem_cons, List.not_mem_nil, or_false] at hv
    rcases hv with rfl
    rfl
  len := fun _ => rfl
  one := by
    intro x v hv
    simp only [List.mem_cons, List.not_mem_nil, or_false] at hv
    rcases hv with rfl
    rfl
  hby := by decide
noncomputable def BoK : EK Bool where
  e := 4
  sl := 58
  k := 1
  bys := 1
  z := .bool false
  enc := fun b => [.bool b]
  hk := by decide
  und := Tryd.underlying58
  els := by kernel_rfl
  info := by kernel_rfl
  hzs := rfl
  zone := by
    intro v hv
    simp only [Value.cells, List.mem_cons, List.not_mem_nil, or_false] at hv
    rcases hv with rfl
    rfl
  len := fun _ => rfl
  one := by
    intro x v hv
    simp only [List.mem_cons, List.not_mem_nil, or_false] at hv
    rcases hv with rfl
    rfl
  hby := by decide
set_option maxRecDepth 100000 in
theorem TK_at {w : World} {B : Nat} {A : Option Addr} {ts : List TX} (h : TK.See w B A ts) {i : Nat} (hi : i < ts.length) : ∃ g o, A = some ⟨g, o, none⟩ ∧ w.cell? ⟨g, o + i, none⟩ = some (.slice ts[i].A ts[i].l.length ts[i].c) := by
  obtain ⟨g, o, rfl, _, hc⟩ := EK.See.range (K := TK) h hi
  refine ⟨g, o, rfl, ?_⟩
  have := hc i hi 0 (.slice ts[i].A ts[i].l.length ts[i].c) rfl
  simpa [TK] using this
set_option maxRecDepth 100000 in
theorem BoK_at {w : World} {B : Nat} {A : Option Addr} {bs : List Bool} (h : BoK.See w B A bs) {i : Nat} (hi : i < bs.length) : ∃ g o, A = some ⟨g, o, none⟩ ∧ w.cell? ⟨g, o + i, none⟩ = some (.bool bs[i]) := by
  obtain ⟨g, o, rfl, _, hc⟩ := EK.See.range (K := BoK) h hi
  refine ⟨g, o, rfl, ?_⟩
  have := hc i hi 0 (.bool bs[i]) rfl
  simpa [BoK] using this

set_option maxRecDepth 100000 in
theorem BoK_cell {w : World} {B g o : Nat} {bs : List Bool} (h : BoK.See w B (some ⟨g, o, none⟩) bs) {i : Nat} (hi : i < bs.length) : w.cell? ⟨g, o + i, none⟩ = some (.bool bs[i]) := by
  obtain ⟨g', o', e, hc⟩ := BoK_at h hi
  injection e with e
  injection e with e1 e2
  subst e1
  subst e2
  exact hc

/-- The first texts, joined. -/
def catT (ts : List TX) (k : Nat) : List UInt8 := (ts.take k).flatMap TX.l
set_option maxRecDepth 100000 in
theorem catT_zero (ts : List TX) : catT ts 0 = [] := rfl
set_option maxRecDepth 100000 in
theorem catT_succ (ts : List TX) (k : Nat) (h : k < ts.length) : catT ts (k + 1) = catT ts k ++ ts[k].l := by
  unfold catT
  rw [List.take_succ_eq_append_getElem h, List.flatMap_append]
  simp
set_option maxRecDepth 100000 in
theorem catT_mono (ts : List TX) (k : Nat) (h : k < ts.length) : (catT ts k).length + ts[k].l.length = (catT ts (k + 1)).length := by
  rw [catT_succ ts k h, List.length_append]
set_option maxRecDepth 100000 in
theorem catT_le (ts : List TX) {j k : Nat} (h : j ≤ k) (hk : k ≤ ts.length) : (catT ts j).length ≤ (catT ts k).length := by
  induction k with
  | zero => rw [show j = 0 by omega]; exact Nat.le_refl _
  | succ k ih =>
    by_cases e : j = k + 1
    · rw [e]; exact Nat.le_refl _
    · have h1 := ih (by omega) (by omega)
      have h2 := catT_mono ts k (by omega)
      omega
set_option maxRecDepth 100000 in
theorem str_add16 (a b : List UInt8) (h : (a ++ b).length ≤ 4194304) (w : World) : (binOp .add 9 (str a) (str b)).run Tryd.prog w = .ok (str (a ++ b)) w := by
  have hs : (⟨a.toArray⟩ : ByteArray).size = a.length := by simp [ByteArray.size]
  have hs2 : (⟨b.toArray⟩ : ByteArray).size = b.length := by simp [ByteArray.size]
  rw [List.length_append] at h
  have hr : (binOp .add 9 (.string ⟨a.toArray⟩) (.string ⟨b.toArray⟩)).run Tryd.prog w = .ok (.string (⟨a.toArray⟩ ++ ⟨b.toArray⟩)) w := by
    simp [binOp, Op.stringOp, hs, hs2]
    omega
  rw [bytes_cat] at hr
  exact hr
set_option maxRecDepth 100000 in
theorem str_cut16 (a : List UInt8) (k : Nat) (h : k ≤ a.length) (w : World) : (Instr.slice 9 (str a) none (some (.int .i64 (k : Int))) none).run Tryd.prog w = .ok (str (a.take k)) w := by
  have hs : (⟨a.toArray⟩ : ByteArray).size = a.length := by simp [ByteArray.size]
  have hr := run_slice_string_h (P := Tryd.prog) w 9 ⟨a.toArray⟩ Tryd.underlying9 .i64 (k : Int) (by omega) (by rw [hs]; omega)
  rw [Int.toNat_natCast] at hr
  have he : (⟨a.toArray⟩ : ByteArray).extract 0 k = ⟨(a.take k).toArray⟩ := by
    apply ByteArray.ext
    simp [ByteArray.data_extract]
  rw [he] at hr
  exact hr
end Go.Proofs.YtapdnoellleimaaDoor
