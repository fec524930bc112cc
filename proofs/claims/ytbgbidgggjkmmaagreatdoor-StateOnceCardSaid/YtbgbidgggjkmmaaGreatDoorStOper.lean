/-
  state.operate.
-/
import Derived.Test.YtbgbidgggjkmmaaGreatDoorNC
import Derived.Deep.RegionHeld3
namespace Go.Proofs.YtbgbidgggjkmmaaGreatDoor
open Go.RowKit Go.Sort

attribute [local go_sem ↓] bsT_def apAll_def ldChg_def ldCf_def

section
variable {w : World} {g : Nat} {t : TypeId} {x : ReqX} (h : Box w g t (opL x).toArray)
include h
set_option maxRecDepth 100000 in
theorem Box.op0 : w.cell? ⟨g, 0, none⟩ = some (.int .i64 x.kind) := by rw [h.cell]; rfl
set_option maxRecDepth 100000 in
theorem Box.op1 : w.cell? ⟨g, 1, none⟩ = some (.string x.key) := by rw [h.cell]; rfl
set_option maxRecDepth 100000 in
theorem Box.op2 : w.cell? ⟨g, 2, none⟩ = some (.string x.val) := by rw [h.cell]; rfl
set_option maxRecDepth 100000 in
theorem Box.op3 : w.cell? ⟨g, 3, none⟩ = some (.string x.old) := by rw [h.cell]; rfl
set_option maxRecDepth 100000 in
theorem Box.op4 : (ldChg (.pointer (some ⟨g, 4, none⟩))).run Tryz.prog w = .ok (chgV x.ck x.cid x.cn x.root x.high) w := by
  have e : opL x = [Value.int .i64 x.kind, .string x.key, .string x.val, .string x.old] ++ (chgL x.ck x.cid x.cn x.root x.high ++ []) := by rw [List.append_nil]; rfl
  have h' := h
  rw [e] at h'
  exact run_loadAt_mid (P := Tryz.prog) w g 4 52 (chgL x.ck x.cid x.cn x.root x.high) _ (Box.range_mid h' rfl) Tryz.underlying52 rfl (chg_list x.len _ _ _ _)
end

/-- What operate answers, and leaves. -/
def OperPost (s : StM) (x : ReqX) (base b : Nat) (w : World) (e : Ending) (w' : World) : Prop :=
  ∃ (s' : StM) (c : Int) (vs : List ByteArray) (A : Option Addr) (z : Nat), e = .returned (.tuple #[.int .i64 c, .slice A vs.length z]) ∧ OpIs s.pl x s'.pl c vs ∧ (s'.rs = s.rs ∧ s'.rA = s.rA) ∧ OwnB s' w' base b ∧ SK.Own w' base (.slice A vs.length z) vs ∧ Below base w w' ∧ Twx w w' b s.pA
/-- What digits, change answer. -/
def DigPost (s : StM) (w : World) (e : Ending) (w' : World) : Prop :=
  ∃ (vs : List ByteArray) (A : Option Addr) (z : Nat), e = .returned (.slice A vs.length z) ∧ vs.length = s.ms.length + 1 ∧ SK.Own w' w.heap.size (.slice A vs.length z) vs ∧ Below w.heap.size w w'
def ChgPost (s : StM) (base b : Nat) (w : World) (e : Ending) (w' : World) : Prop :=
  ∃ (s' : StM) (c : Int), e = .returned (.int .i64 c) ∧ s'.ps = s.ps ∧ (s'.rs = s.rs ∧ s'.rA = s.rA) ∧ c ≠ 8 ∧ MsOk s.pl s'.pl ∧ OwnB s' w' base b ∧ Below base w w' ∧ Twx w w' b s.pA

set_option maxRecDepth 100000 in
theorem see_nil10 (w : World) (B : Nat) : SK.Own w B (.slice none ([] : List ByteArray).length 0) [] := EK.own_nil SK w B
section
variable {s : StM} {x : ReqX} {base b : Nat} {w w' : World}
set_option maxRecDepth 100000 in
theorem OperPost.same (h : OwnB s w' base b) (hf : Below base w w') (ht : Twx w w' b s.pA) {c : Int} {vs : List ByteArray} {A : Option Addr} {z : Nat} (hs : SK.Own w' base (.slice A vs.length z) vs) (h6 : x.kind ≠ 6) (h7 : x.kind ≠ 7) (ho : opF s.pl x = (s.pl, c, vs)) : OperPost s x base b w (.returned (.tuple #[.int .i64 c, .slice A vs.length z])) w' :=
  ⟨s, c, vs, A, z, rfl, by unfold OpIs; rw [if_neg h6, if_neg h7, ho]; exact ⟨rfl, rfl, rfl⟩, ⟨rfl, rfl⟩, h, hs, hf, ht⟩
end

set_option maxRecDepth 100000 in
set_option maxHeartbeats 4000000 in
theorem oper_put (s : StM) (base b : Nat) (hn : s.ps.length ≤ 1000000) (hps : PS s.ps) (x : ReqX) (hk : x.kind = 2) (w : World) (h : OwnB s w base b) :
    Calls Tryz.prog 38 #[.pointer (some ⟨b, 0, none⟩), .agg (opL x).toArray] w (OperPost s x base b w) := by
  obtain ⟨w1, hw1⟩ : ∃ w1, w1 = w.alloc (.cells (opL x).toArray 54) := ⟨_, rfl⟩
  have HX : Hid (Box w1 w.heap.size 54 (opL x).toArray) := by rw [hw1]; exact Box.made _ _ _
  have hal : Below w.heap.size w w1 := by rw [hw1]; exact (Below.refl _ _).alloc (Nat.le_refl _) _
  have H1 := Lib.hid (h.call hal)
  have HF := Lib.hid (hal.mono h.size)
  have HT : Hid (Twx w w1 b s.pA) := Lib.hid (Twx.of_below hal)
  have HN := Lib.hid hn
  have HS := Lib.hid hps
  have k0 := HX.out.op0
  have k1 := HX.out.op1
  have k2 := HX.out.op2
  have k3 := HX.out.op3
  rw [hk] at k0
  have HK := Lib.hid hk
  have HP := Lib.hid (stput_any s base b hn hps x.key x.val w1 H1.out)
  clear hal h hn hps hk k3
  go_enter Tryz.func38, Tryz.ntmps38
  go_upto_region 1 with fail
  change Code.wp _ _ _ _ (w.alloc (.cells (opL x).toArray 54))
  rw [← hw1]
  clear hw1
  go_wp2_with (go_at_call 44; (with_reducible refine (HP.out).mono ?_); rintro e w2 ⟨s', c, rfl, hp, hrs, ho2, hb2, ht2⟩; have HT2 := Lib.hid (HT.out.trans ht2); have HPI := Lib.hid hp; have HRS := Lib.hid hrs; have HO2 := Lib.hid ho2; have HB2 := Lib.hid hb2; clear hp hrs ho2 hb2)
  refine bodyPost_ret (v := .tuple #[.int .i64 c, .slice none 0 0]) (results_tmp2 (t := 4) (u := 5) rfl _ _ _) rfl ?_
  refine ⟨s', c, [], none, 0, rfl, ?_, HRS.out, HO2.out, see_nil10 _ _, HF.out.trans HB2.out, HT2.out⟩
  have hp := HPI.out
  unfold PutIs at hp
  unfold OpIs opF
  rw [if_neg (by rw [HK.out]; decide), if_neg (by rw [HK.out]; decide), if_pos HK.out]
  split at hp
  · rename_i hc
    rw [if_pos hc, hp.1, hp.2]
    exact ⟨rfl, rfl, rfl⟩
  · rename_i hc
    rw [if_neg hc, hp.1, hp.2]
    exact ⟨rfl, rfl, rfl⟩

set_option maxRecDepth 100000 in
set_option maxHeartbeats 4000000 in
theorem oper_config (s : StM) (base b : Nat) (hn : s.ps.length ≤ 1000000) (hps : PS s.ps) (x : ReqX) (hk : x.kind = 6) (w : World) (h : OwnB s w base b) (hd : ∀ w', Below w.heap.size w w' → Calls Tryz.prog 46 #[.agg (cfgV s.ep s.mA s.ms.length s.mc)] w' (DigPost s w')) :
    Calls Tryz.prog 38 #[.pointer (some ⟨b, 0, none⟩), .agg (opL x).toArray] w (OperPost s x base b w) := by
  obtain ⟨w1, hw1⟩ : ∃ w1, w1 = w.alloc (.cells (opL x).toArray 54) := ⟨_, rfl⟩
  have HX : Hid (Box w1 w.heap.size 54 (opL x).toArray) := by rw [hw1]; exact Box.made _ _ _
  have hal : Below w.heap.size w w1 := by rw [hw1]; exact (Below.refl _ _).alloc (Nat.le_refl _) _
  have H1 := Lib.hid (h.call hal)
  have HF := Lib.hid (hal.mono h.size)
  have HT : Hid (Twx w w1 b s.pA) := Lib.hid (Twx.of_below hal)
  have HN := Lib.hid hn
  have HS := Lib.hid hps
  have k0 := HX.out.op0
  have k1 := HX.out.op1
  have k2 := HX.out.op2
  have k3 := HX.out.op3
  rw [hk] at k0
  have HK := Lib.hid hk
  have HD := Lib.hid (hd w1 hal)
  have l2 := range_cf (w := w1) (g := b) (o := 2) (ep := s.ep) (A := s.mA) (n := s.ms.length) (c := s.mc) (Box.range_mid (pre := [.slice s.pA s.ps.length s.pc, .slice s.rA s.rs.length s.rc]) (mid := (cfgV s.ep s.mA s.ms.length s.mc).toList) (post := []) H1.out.box rfl)
  clear hal h hn hps hk k1 k2 k3 hd
  go_enter Tryz.func38, Tryz.ntmps38
  go_upto_region 1 with fail
  change Code.wp _ _ _ _ (w.alloc (.cells (opL x).toArray 54))
  rw [← hw1]
  clear hw1
  go_wp2_with (go_at_call 46; (with_reducible refine (HD.out).mono ?_); rintro e w2 ⟨vs, A2, z2, rfl, hl, hs, hb2⟩; have HL := Lib.hid hl; have HS2 := Lib.hid (EK.Own.base hs H1.out.size); have HB2 := Lib.hid hb2; clear hl hs hb2)
  refine bodyPost_ret (v := .tuple #[.int .i64 0, .slice A2 vs.length z2]) (results_tmp2 (t := 4) (u := 5) rfl _ _ _) rfl ?_
  refine ⟨s, 0, vs, A2, z2, rfl, ?_, ⟨rfl, rfl⟩, H1.out.call HB2.out, HS2.out, H1.out.far HF.out HB2.out, HT.out.trans (Twx.of_below HB2.out)⟩
  unfold OpIs
  rw [if_pos HK.out]
  exact ⟨rfl, rfl, HL.out⟩

set_option maxRecDepth 100000 in
set_option maxHeartbeats 4000000 in
theorem oper_change (s : StM) (base b : Nat) (hn : s.ps.length ≤ 1000000) (hps : PS s.ps) (x : ReqX) (hk : x.kind = 7) (w : World) (h : OwnB s w base b) (hd : ∀ w', OwnB s w' base b → Calls Tryz.prog 47 #[.pointer (some ⟨b, 0, none⟩), chgV x.ck x.cid x.cn x.root x.high] w' (ChgPost s base b w')) :
    Calls Tryz.prog 38 #[.pointer (some ⟨b, 0, none⟩), .agg (opL x).toArray] w (OperPost s x base b w) := by
  obtain ⟨w1, hw1⟩ : ∃ w1, w1 = w.alloc (.cells (opL x).toArray 54) := ⟨_, rfl⟩
  have HX : Hid (Box w1 w.heap.size 54 (opL x).toArray) := by rw [hw1]; exact Box.made _ _ _
  have hal : Below w.heap.size w w1 := by rw [hw1]; exact (Below.refl _ _).alloc (Nat.le_refl _) _
  have H1 := Lib.hid (h.call hal)
  have HF := Lib.hid (hal.mono h.size)
  have HT : Hid (Twx w w1 b s.pA) := Lib.hid (Twx.of_below hal)
  have HN := Lib.hid hn
  have HS := Lib.hid hps
  have k0 := HX.out.op0
  have k1 := HX.out.op1
  have k2 := HX.out.op2
  have k3 := HX.out.op3
  rw [hk] at k0
  have HK := Lib.hid hk
  have HD := Lib.hid (hd w1 H1.out)
  have l4 := HX.out.op4
  clear hal h hn hps hk k1 k2 k3 hd
  go_enter Tryz.func38, Tryz.ntmps38
  go_upto_region 1 with fail
  change Code.wp _ _ _ _ (w.alloc (.cells (opL x).toArray 54))
  rw [← hw1]
  clear hw1
  go_wp2_with (go_at_call 47; (with_reducible refine (HD.out).mono ?_); rintro e w2 ⟨s', c, rfl, h1, h2, h3, h4, ho2, hb2, ht2⟩; have HT2 := Lib.hid (HT.out.trans ht2); have HR := Lib.hid (And.intro h1 (And.intro h2 (And.intro h3 h4))); have HO2 := Lib.hid ho2; have HB2 := Lib.hid hb2; clear h1 h2 h3 h4 ho2 hb2)
  go_ret2
  obtain ⟨h1, h2, h3, h4⟩ := HR.out
  refine ⟨s', c, [], none, 0, rfl, ?_, h2, HO2.out, see_nil10 _ _, HF.out.trans HB2.out, HT2.out⟩
  unfold OpIs
  rw [if_neg (by rw [HK.out]; decide), if_pos HK.out]
  refine ⟨h1, ?_, rfl, h3, h4⟩
  show s'.rs.map _ = s.rs.map _
  rw [h2.1]

set_option maxRecDepth 100000 in
set_option maxHeartbeats 4000000 in
theorem oper_list (s : StM) (base b : Nat) (hn : s.ps.length ≤ 1000000) (hps : PS s.ps) (x : ReqX) (hk : x.kind = 5) (w : World) (h : OwnB s w base b) :
    Calls Tryz.prog 38 #[.pointer (some ⟨b, 0, none⟩), .agg (opL x).toArray] w (OperPost s x base b w) := by
  obtain ⟨w1, hw1⟩ : ∃ w1, w1 = w.alloc (.cells (opL x).toArray 54) := ⟨_, rfl⟩
  have HX : Hid (Box w1 w.heap.size 54 (opL x).toArray) := by rw [hw1]; exact Box.made _ _ _
  have hal : Below w.heap.size w w1 := by rw [hw1]; exact (Below.refl _ _).alloc (Nat.le_refl _) _
  have H1 := Lib.hid (h.call hal)
  have HF := Lib.hid (hal.mono h.size)
  have HT : Hid (Twx w w1 b s.pA) := Lib.hid (Twx.of_below hal)
  have HN := Lib.hid hn
  have HS := Lib.hid hps
  have k0 := HX.out.op0
  have k1 := HX.out.op1
  have k2 := HX.out.op2
  have k3 := HX.out.op3
  rw [hk] at k0
  have HK := Lib.hid hk
  have HBG : Hid (∀ w', Below w1.heap.size w1 w' → Calls Tryz.prog 45 #[.slice s.pA s.ps.length s.pc, .string x.key] w' fun e w'' => ∃ A' c', e = .returned (.slice A' (begunL x.key s.ps).length c') ∧ SK.Own w'' w'.heap.size (.slice A' (begunL x.key s.ps).length c') (begunL x.key s.ps) ∧ Below w'.heap.size w' w'') := Lib.hid (fun w' hb => begun_any s.ps s.pA s.pc hn x.key w' (H1.out.call hb).seeP)
  have HC : Hid (∀ w', Below w1.heap.size w1 w' → w'.cell? ⟨b, 0, none⟩ = some (.slice s.pA s.ps.length s.pc) ∧ w'.cell? ⟨w.heap.size, 1, none⟩ = some (.string x.key)) := Lib.hid (fun w' hb => ⟨(H1.out.call hb).cell0, (HX.out.below hb HX.out.lt).op1⟩)
  have HOF : Hid (opF s.pl x = (s.pl, 0, begunL x.key s.ps)) := Lib.hid (by unfold opF; rw [if_neg (by rw [hk]; decide), if_pos hk]; rfl)
  clear hal h hn hps hk k1 k2 k3
  generalize begunL x.key s.ps = vs at *
  go_enter Tryz.func38, Tryz.ntmps38
  go_upto_region 1 with fail
  change Code.wp _ _ _ _ (w.alloc (.cells (opL x).toArray 54))
  rw [← hw1]
  clear hw1
  go_upto_region 5 with fail
  have HD0 : Hid (Below w1.heap.size w1 w1.drew) := (Below.refl _ _).drew
  refine wp_region_held_drew (S := fun w' => Below w1.heap.size w1 w') (by kernel_rfl) HD0.out (fun hS => ?_)
  clear HD0
  generalize w1.drew = wd at *
  (refine wpAnyH_take (i := 0) (v := .pointer (some ⟨b, 0, none⟩)) rfl (by kernel_rfl) (by kernel_rfl) (by kernel_rfl) (fun _ _ _ h => h) (Or.inl ⟨by kernel_rfl, fun w hSw => by go_simp⟩) hS ?_)
  (try simp only [Act.put])
  (refine wpAnyH_take (i := 1) (v := .pointer (some ⟨b, 0, none⟩)) rfl (by kernel_rfl) (by kernel_rfl) (by kernel_rfl) (fun _ _ _ h => h) (Or.inl ⟨by kernel_rfl, fun w hSw => by go_simp⟩) hS ?_)
  (try simp only [Act.put])
  (refine wpAnyH_take (i := 2) (v := .pointer (some ⟨b, 0, none⟩)) rfl (by kernel_rfl) (by kernel_rfl) (by kernel_rfl) (fun _ _ _ h => h) (Or.inl ⟨by kernel_rfl, fun w hSw => by go_simp⟩) hS ?_)
  (try simp only [Act.put])
  (refine wpAnyH_take (i := 3) (v := .slice s.pA s.ps.length s.pc) rfl (by kernel_rfl) (by kernel_rfl) (by kernel_rfl) (fun _ _ _ h => h) (Or.inl ⟨by kernel_rfl, fun w hSw => by have hc := (HC.out w hSw).1; go_simp⟩) hS ?_)
  (try simp only [Act.put])
  (refine wpAnyH_take (i := 4) (v := .pointer (some ⟨w.heap.size, 1, none⟩)) rfl (by kernel_rfl) (by kernel_rfl) (by kernel_rfl) (fun _ _ _ h => h) (Or.inl ⟨by kernel_rfl, fun w hSw => by go_simp⟩) hS ?_)
  (try simp only [Act.put])
  (refine wpAnyH_take (i := 5) (v := .string x.key) rfl (by kernel_rfl) (by kernel_rfl) (by kernel_rfl) (fun _ _ _ h => h) (Or.inl ⟨by kernel_rfl, fun w hSw => by have hc := (HC.out w hSw).2; go_simp⟩) hS ?_)
  (try simp only [Act.put])
  refine wpAnyH_ready (rs := [6]) (by decide +kernel) (by simp) (AllReadyH.cons rfl (fun K hK => ?_) AllReadyH.nil)
  go_simp
  (go_at_call 45; (with_reducible refine (HBG.out _ hS).mono ?_); rintro e u6 ⟨A2, z2, rfl, ho, hb⟩)
  have HSZ := Lib.hid hS.size
  have HO2 := Lib.hid (EK.Own.base ho (Nat.le_trans H1.out.size HSZ.out))
  have HB2 := Lib.hid (hS.trans (hb.mono hS.size))
  clear ho
  refine hK.out _ _ (hS.trans (hb.mono hS.size)) (fun hS => ?_)
  clear hK K hb HSZ
  (try simp only [Act.put])
  (refine wpAnyH_take (i := 7) (v := .int .i64 0) rfl (by kernel_rfl) (by kernel_rfl) (by kernel_rfl) (fun _ _ _ h => h) (Or.inl ⟨by kernel_rfl, fun w hSw => by go_simp⟩) hS ?_)
  (try simp only [Act.put])
  (refine wpAnyH_take (i := 8) (v := .slice A2 vs.length z2) rfl (by kernel_rfl) (by kernel_rfl) (by kernel_rfl) (fun _ _ _ h => h) (Or.inl ⟨by kernel_rfl, fun w hSw => by go_simp⟩) hS ?_)
  (try simp only [Act.put])
  refine wpAnyH_done (by kernel_rfl) ?_ _
  go_simp
  go_wp2_with fail
  go_ret2
  exact OperPost.same (H1.out.call HB2.out) (H1.out.far HF.out HB2.out) (HT.out.trans (Twx.of_below HB2.out)) HO2.out (by rw [HK.out]; decide) (by rw [HK.out]; decide) HOF.out

set_option maxRecDepth 100000 in
set_option maxHeartbeats 4000000 in
theorem oper_get (s : StM) (base b : Nat) (hn : s.ps.length ≤ 1000000) (hps : PS s.ps) (x : ReqX) (hk : x.kind = 1) (w : World) (h : OwnB s w base b) :
    Calls Tryz.prog 38 #[.pointer (some ⟨b, 0, none⟩), .agg (opL x).toArray] w (OperPost s x base b w) := by
  obtain ⟨w1, hw1⟩ : ∃ w1, w1 = w.alloc (.cells (opL x).toArray 54) := ⟨_, rfl⟩
  have HX : Hid (Box w1 w.heap.size 54 (opL x).toArray) := by rw [hw1]; exact Box.made _ _ _
  have hal : Below w.heap.size w w1 := by rw [hw1]; exact (Below.refl _ _).alloc (Nat.le_refl _) _
  have H1 := Lib.hid (h.call hal)
  have HF := Lib.hid (hal.mono h.size)
  have HT : Hid (Twx w w1 b s.pA) := Lib.hid (Twx.of_below hal)
  have HN := Lib.hid hn
  have HS := Lib.hid hps
  have k0 := HX.out.op0
  have k1 := HX.out.op1
  have k2 := HX.out.op2
  have k3 := HX.out.op3
  rw [hk] at k0
  have HK := Lib.hid hk
  have HFN : Hid (Fnd sLt PairX.key s.ps x.key (pFindI s.ps x.key) (pFindB s.ps x.key)) := Lib.hid (find_fnd sLt PairX.key s.ps x.key)
  have HFC : Hid (∀ d os, Calls Tryz.prog 21 #[.slice s.pA s.ps.length s.pc, .string x.key] (grow (redrawn w1 d) os) fun e w'' => e = .returned (.tuple #[.int .i64 (pFindI s.ps x.key : Nat), .bool (pFindB s.ps x.key)]) ∧ ∃ p : Regrown, w'' = grow (redrawn w1 p.d) p.os) := Lib.hid (fun d os => Calls.regrown_of (pfind_any s.ps s.pA s.pc (by omega) x.key (grow (redrawn w1 d) os) (H1.out.call (below_regrown w1 d os)).seeP))
  generalize pFindI s.ps x.key = J at *
  obtain ⟨B, hB⟩ : ∃ B, pFindB s.ps x.key = B := ⟨_, rfl⟩
  rw [hB] at HFC HFN
  have c0 := H1.out.cell0
  have C0 := Lib.hid (fun d os => cell_regrown c0 d os)
  have K0 := Lib.hid (fun d os => cell_regrown k0 d os)
  have K1 := Lib.hid (fun d os => cell_regrown k1 d os)
  have K2 := Lib.hid (fun d os => cell_regrown k2 d os)
  have K3 := Lib.hid (fun d os => cell_regrown k3 d os)
  have HO6 : Hid (x.kind ≠ 6 ∧ x.kind ≠ 7) := Lib.hid (by rw [hk]; decide)
  clear hal h hn hps hk k1 k2 k3 hB c0
  go_enter Tryz.func38, Tryz.ntmps38
  go_upto_region 1 with fail
  change Code.wp _ _ _ _ (w.alloc (.cells (opL x).toArray 54))
  rw [← hw1]
  clear hw1
  go_upto_region 10 with fail
  clear k0
  have q0 := C0.out
  have q1 := K1.out
  refine wp_region_quiet_below (by kernel_rfl) (by kernel_rfl) ?_
  repeat (quiet_step ((go_at_call 21; with_reducible exact HFC.out _ _)))
  refine wpQuiet_nil ?_
  intro _ hw'
  obtain ⟨⟨dq, osq⟩, hw''⟩ := hw'
  subst hw''
  clear q0 q1 HFC
  have hbq := below_regrown w1 dq osq
  have H2 := Lib.hid (H1.out.call hbq)
  have HF2 := Lib.hid (H1.out.far HF.out hbq)
  have HT2 := Lib.hid (HT.out.trans (Twx.of_below hbq))
  have k0 := K0.out dq osq
  have k2 := K2.out dq osq
  have k3 := K3.out dq osq
  clear C0 K0 K1 K2 K3 H1 HF HX hbq
  generalize grow (redrawn w1 dq) osq = w2 at *
  cases B
  · have HLN : Hid (pLook x.key s.ps = none) := Lib.hid (HFN.out.look_no sLt3 HS.out)
    have HOF : Hid (opF s.pl x = (s.pl, 7, [])) := Lib.hid (by
      have e : pLook x.key s.pl.ps = none := HLN.out
      unfold opF
      rw [if_neg (by rw [HK.out]; decide), if_neg (by rw [HK.out]; decide), e])
    clear k0 k2 k3 HFN
    go_wp2
    go_ret2
    exact OperPost.same H2.out HF2.out HT2.out (see_nil10 _ _) HO6.out.1 HO6.out.2 HOF.out
  obtain ⟨hJ, hk⟩ := HFN.out.at_
  obtain ⟨_, hlk0⟩ := HFN.out.look_yes sLt3 HS.out
  have HLK : Hid (pLook x.key s.pl.ps = some (s.ps[J]'hJ)) := Lib.hid hlk0
  obtain ⟨g, hA, cv, fv, HU, HUF, HUT⟩ := H2.out.val hJ x.val
  have i1 : (J : Int) < (s.ps.length : Int) := by omega
  have i0 : (0 : Int) ≤ (J : Int) := by omega
  have c0 := H2.out.cell0
  rw [hA] at c0
  have HOF : Hid (opF s.pl x = (s.pl, 0, [(s.ps[J]'hJ).val])) := Lib.hid (by
    unfold opF
    rw [if_neg (by rw [HK.out]; decide), if_neg (by rw [HK.out]; decide), HLK.out]
    simp only []
    rw [if_pos HK.out])
  clear hlk0 HU HUF HUT fv k2 k3 hk
  generalize (s.ps[J]'hJ).val = vv at *
  have hbs : (bsT 34 1 #[(0, .string vv)]).run Tryz.prog w2 = .ok (.slice (some ⟨w2.heap.size, 0, none⟩) 1 1) (w2.alloc (.cells #[.string vv] 9)) := SK.build1 vv (.string vv) rfl (by decide) w2
  have hal : Below w2.heap.size w2 (w2.alloc (.cells #[.string vv] 9)) := (Below.refl _ _).alloc (Nat.le_refl _) _
  have HE := Lib.hid (OperPost.same (z := 1) (H2.out.call hal) (H2.out.far HF2.out hal) (HT2.out.trans (Twx.of_below hal)) (SK.own_lit w2 H2.out.size [vv] (by simp [maxLen])) HO6.out.1 HO6.out.2 HOF.out)
  clear hal
  go_wp2
  go_ret2
  exact HE.out

set_option maxRecDepth 100000 in
set_option maxHeartbeats 4000000 in
theorem oper_delete (s : StM) (base b : Nat) (hn : s.ps.length ≤ 1000000) (hps : PS s.ps) (x : ReqX) (hk : x.kind = 3) (w : World) (h : OwnB s w base b) :
    Calls Tryz.prog 38 #[.pointer (some ⟨b, 0, none⟩), .agg (opL x).toArray] w (OperPost s x base b w) := by
  obtain ⟨w1, hw1⟩ : ∃ w1, w1 = w.alloc (.cells (opL x).toArray 54) := ⟨_, rfl⟩
  have HX : Hid (Box w1 w.heap.size 54 (opL x).toArray) := by rw [hw1]; exact Box.made _ _ _
  have hal : Below w.heap.size w w1 := by rw [hw1]; exact (Below.refl _ _).alloc (Nat.le_refl _) _
  have H1 := Lib.hid (h.call hal)
  have HF := Lib.hid (hal.mono h.size)
  have HT : Hid (Twx w w1 b s.pA) := Lib.hid (Twx.of_below hal)
  have HN := Lib.hid hn
  have HS := Lib.hid hps
  have k0 := HX.out.op0
  have k1 := HX.out.op1
  have k2 := HX.out.op2
  have k3 := HX.out.op3
  rw [hk] at k0
  have HK := Lib.hid hk
  have HFN : Hid (Fnd sLt PairX.key s.ps x.key (pFindI s.ps x.key) (pFindB s.ps x.key)) := Lib.hid (find_fnd sLt PairX.key s.ps x.key)
  have HFC : Hid (∀ d os, Calls Tryz.prog 21 #[.slice s.pA s.ps.length s.pc, .string x.key] (grow (redrawn w1 d) os) fun e w'' => e = .returned (.tuple #[.int .i64 (pFindI s.ps x.key : Nat), .bool (pFindB s.ps x.key)]) ∧ ∃ p : Regrown, w'' = grow (redrawn w1 p.d) p.os) := Lib.hid (fun d os => Calls.regrown_of (pfind_any s.ps s.pA s.pc (by omega) x.key (grow (redrawn w1 d) os) (H1.out.call (below_regrown w1 d os)).seeP))
  generalize pFindI s.ps x.key = J at *
  obtain ⟨B, hB⟩ : ∃ B, pFindB s.ps x.key = B := ⟨_, rfl⟩
  rw [hB] at HFC HFN
  have c0 := H1.out.cell0
  have C0 := Lib.hid (fun d os => cell_regrown c0 d os)
  have K0 := Lib.hid (fun d os => cell_regrown k0 d os)
  have K1 := Lib.hid (fun d os => cell_regrown k1 d os)
  have K2 := Lib.hid (fun d os => cell_regrown k2 d os)
  have K3 := Lib.hid (fun d os => cell_regrown k3 d os)
  have HO6 : Hid (x.kind ≠ 6 ∧ x.kind ≠ 7) := Lib.hid (by rw [hk]; decide)
  clear hal h hn hps hk k1 k2 k3 hB c0
  go_enter Tryz.func38, Tryz.ntmps38
  go_upto_region 1 with fail
  change Code.wp _ _ _ _ (w.alloc (.cells (opL x).toArray 54))
  rw [← hw1]
  clear hw1
  go_upto_region 10 with fail
  clear k0
  have q0 := C0.out
  have q1 := K1.out
  refine wp_region_quiet_below (by kernel_rfl) (by kernel_rfl) ?_
  repeat (quiet_step ((go_at_call 21; with_reducible exact HFC.out _ _)))
  refine wpQuiet_nil ?_
  intro _ hw'
  obtain ⟨⟨dq, osq⟩, hw''⟩ := hw'
  subst hw''
  clear q0 q1 HFC
  have hbq := below_regrown w1 dq osq
  have H2 := Lib.hid (H1.out.call hbq)
  have HF2 := Lib.hid (H1.out.far HF.out hbq)
  have HT2 := Lib.hid (HT.out.trans (Twx.of_below hbq))
  have k0 := K0.out dq osq
  have k2 := K2.out dq osq
  have k3 := K3.out dq osq
  clear C0 K0 K1 K2 K3 H1 HF HX hbq
  generalize grow (redrawn w1 dq) osq = w2 at *
  cases B
  · have HLN : Hid (pLook x.key s.ps = none) := Lib.hid (HFN.out.look_no sLt3 HS.out)
    have HOF : Hid (opF s.pl x = (s.pl, 7, [])) := Lib.hid (by
      have e : pLook x.key s.pl.ps = none := HLN.out
      unfold opF
      rw [if_neg (by rw [HK.out]; decide), if_neg (by rw [HK.out]; decide), e])
    clear k0 k2 k3 HFN
    go_wp2
    go_ret2
    exact OperPost.same H2.out HF2.out HT2.out (see_nil10 _ _) HO6.out.1 HO6.out.2 HOF.out
  obtain ⟨hJ, hk⟩ := HFN.out.at_
  obtain ⟨_, hlk0⟩ := HFN.out.look_yes sLt3 HS.out
  have HLK : Hid (pLook x.key s.pl.ps = some (s.ps[J]'hJ)) := Lib.hid hlk0
  obtain ⟨g, hA, cv, fv, HU, HUF, HUT⟩ := H2.out.val hJ x.val
  have i1 : (J : Int) < (s.ps.length : Int) := by omega
  have i0 : (0 : Int) ≤ (J : Int) := by omega
  have c0 := H2.out.cell0
  rw [hA] at c0
  have HDL := Lib.hid (delete_p s.ps s.pA s.pc J hJ HN.out base w2 H2.out.own.ps H2.out.size)
  have HDE : Hid (s.ps.take J ++ s.ps.drop (J + 1) = pDel x.key s.ps) := Lib.hid (HFN.out.del_yes sLt3 HS.out)
  have HDN : Hid ((s.ps.take J ++ s.ps.drop (J + 1)).length = s.ps.length - 1) := Lib.hid (del_len1 s.ps J hJ)
  have wk : IntKind.i64.wrap ((J : Int) + 1) = (J : Int) + 1 := by
    rw [IntKind.wrap_i64]
    have := HN.out
    omega
  rw [hA] at HDL
  clear hlk0 HU HUF HUT fv k2 k3 hk
  go_upto_region 23 with (go_at_call 48; (with_reducible refine (HDL.out).mono ?_); rintro e w4 ⟨A4, c4, rfl, ho4, hg4⟩; rw [← HDN.out] at ho4; have hpr := H2.out.pairs ho4 (by rw [hA]; exact hg4); rw [HDN.out] at hpr; have HBX4 := Lib.hid hpr.1; have HR4 := Lib.hid hpr.2.1; have HF4 := Lib.hid (HF2.out.trans hpr.2.2.1); have HT4 := Lib.hid (HT2.out.trans hpr.2.2.2); clear ho4 hg4 hpr; have f4 := HBX4.out.free 0; have c4' := HBX4.out.cell 0)
  go_wp2
  go_ret2
  refine ⟨_, 0, [], none, 0, rfl, ?_, ?_, HR4.out, see_nil10 _ _, HF4.out, HT4.out⟩
  · unfold OpIs opF
    rw [if_neg HO6.out.1, if_neg HO6.out.2, if_neg (by rw [HK.out]; decide), if_neg (by rw [HK.out]; decide), HLK.out]
    simp only []
    rw [if_neg (by rw [HK.out]; decide), if_pos HK.out]
    refine ⟨?_, rfl, rfl⟩
    show StX.mk _ _ _ _ = StX.mk _ _ _ _
    rw [HDE.out]
    rfl
  · exact ⟨rfl, rfl⟩

set_option maxRecDepth 100000 in
set_option maxHeartbeats 4000000 in
theorem oper_swap (s : StM) (base b : Nat) (hn : s.ps.length ≤ 1000000) (hps : PS s.ps) (x : ReqX) (hk : x.kind = 4) (w : World) (h : OwnB s w base b) :
    Calls Tryz.prog 38 #[.pointer (some ⟨b, 0, none⟩), .agg (opL x).toArray] w (OperPost s x base b w) := by
  obtain ⟨w1, hw1⟩ : ∃ w1, w1 = w.alloc (.cells (opL x).toArray 54) := ⟨_, rfl⟩
  have HX : Hid (Box w1 w.heap.size 54 (opL x).toArray) := by rw [hw1]; exact Box.made _ _ _
  have hal : Below w.heap.size w w1 := by rw [hw1]; exact (Below.refl _ _).alloc (Nat.le_refl _) _
  have H1 := Lib.hid (h.call hal)
  have HF := Lib.hid (hal.mono h.size)
  have HT : Hid (Twx w w1 b s.pA) := Lib.hid (Twx.of_below hal)
  have HN := Lib.hid hn
  have HS := Lib.hid hps
  have k0 := HX.out.op0
  have k1 := HX.out.op1
  have k2 := HX.out.op2
  have k3 := HX.out.op3
  rw [hk] at k0
  have HK := Lib.hid hk
  have HFN : Hid (Fnd sLt PairX.key s.ps x.key (pFindI s.ps x.key) (pFindB s.ps x.key)) := Lib.hid (find_fnd sLt PairX.key s.ps x.key)
  have HFC : Hid (∀ d os, Calls Tryz.prog 21 #[.slice s.pA s.ps.length s.pc, .string x.key] (grow (redrawn w1 d) os) fun e w'' => e = .returned (.tuple #[.int .i64 (pFindI s.ps x.key : Nat), .bool (pFindB s.ps x.key)]) ∧ ∃ p : Regrown, w'' = grow (redrawn w1 p.d) p.os) := Lib.hid (fun d os => Calls.regrown_of (pfind_any s.ps s.pA s.pc (by omega) x.key (grow (redrawn w1 d) os) (H1.out.call (below_regrown w1 d os)).seeP))
  generalize pFindI s.ps x.key = J at *
  obtain ⟨B, hB⟩ : ∃ B, pFindB s.ps x.key = B := ⟨_, rfl⟩
  rw [hB] at HFC HFN
  have c0 := H1.out.cell0
  have C0 := Lib.hid (fun d os => cell_regrown c0 d os)
  have K0 := Lib.hid (fun d os => cell_regrown k0 d os)
  have K1 := Lib.hid (fun d os => cell_regrown k1 d os)
  have K2 := Lib.hid (fun d os => cell_regrown k2 d os)
  have K3 := Lib.hid (fun d os => cell_regrown k3 d os)
  have HO6 : Hid (x.kind ≠ 6 ∧ x.kind ≠ 7) := Lib.hid (by rw [hk]; decide)
  clear hal h hn hps hk k1 k2 k3 hB c0
  go_enter Tryz.func38, Tryz.ntmps38
  go_upto_region 1 with fail
  change Code.wp _ _ _ _ (w.alloc (.cells (opL x).toArray 54))
  rw [← hw1]
  clear hw1
  go_upto_region 10 with fail
  clear k0
  have q0 := C0.out
  have q1 := K1.out
  refine wp_region_quiet_below (by kernel_rfl) (by kernel_rfl) ?_
  repeat (quiet_step ((go_at_call 21; with_reducible exact HFC.out _ _)))
  refine wpQuiet_nil ?_
  intro _ hw'
  obtain ⟨⟨dq, osq⟩, hw''⟩ := hw'
  subst hw''
  clear q0 q1 HFC
  have hbq := below_regrown w1 dq osq
  have H2 := Lib.hid (H1.out.call hbq)
  have HF2 := Lib.hid (H1.out.far HF.out hbq)
  have HT2 := Lib.hid (HT.out.trans (Twx.of_below hbq))
  have k0 := K0.out dq osq
  have k2 := K2.out dq osq
  have k3 := K3.out dq osq
  clear C0 K0 K1 K2 K3 H1 HF HX hbq
  generalize grow (redrawn w1 dq) osq = w2 at *
  cases B
  · have HLN : Hid (pLook x.key s.ps = none) := Lib.hid (HFN.out.look_no sLt3 HS.out)
    have HOF : Hid (opF s.pl x = (s.pl, 7, [])) := Lib.hid (by
      have e : pLook x.key s.pl.ps = none := HLN.out
      unfold opF
      rw [if_neg (by rw [HK.out]; decide), if_neg (by rw [HK.out]; decide), e])
    clear k0 k2 k3 HFN
    go_wp2
    go_ret2
    exact OperPost.same H2.out HF2.out HT2.out (see_nil10 _ _) HO6.out.1 HO6.out.2 HOF.out
  obtain ⟨hJ, hk⟩ := HFN.out.at_
  obtain ⟨_, hlk0⟩ := HFN.out.look_yes sLt3 HS.out
  have HLK : Hid (pLook x.key s.pl.ps = some (s.ps[J]'hJ)) := Lib.hid hlk0
  obtain ⟨g, hA, cv, fv, HU, HUF, HUT⟩ := H2.out.val hJ x.val
  have i1 : (J : Int) < (s.ps.length : Int) := by omega
  have i0 : (0 : Int) ≤ (J : Int) := by omega
  have c0 := H2.out.cell0
  rw [hA] at c0
  have HOF : Hid (opF s.pl x = if (s.ps[J]'hJ).val = x.old then ({ s.pl with ps := pPut ⟨x.key, x.val⟩ s.pl.ps }, 0, []) else (s.pl, 9, [(s.ps[J]'hJ).val])) := Lib.hid (by
    unfold opF
    rw [if_neg (by rw [HK.out]; decide), if_neg (by rw [HK.out]; decide), HLK.out]
    simp only []
    rw [if_neg (by rw [HK.out]; decide), if_neg (by rw [HK.out]; decide)])
  have HPY : Hid (s.ps.set J ⟨(s.ps[J]'hJ).key, x.val⟩ = pPut ⟨x.key, x.val⟩ s.ps) := Lib.hid (by rw [hk]; exact HFN.out.put_yes sLt3 HS.out rfl)
  have HU2 := Lib.hid HU
  have HUF2 := Lib.hid (HF2.out.trans HUF)
  have HUT2 := Lib.hid (HT2.out.trans HUT)
  clear hlk0 hk HLK HU HUF HUT
  by_cases he : (s.ps[J]'hJ).val = x.old
  · rw [if_pos he] at HOF
    have e1 : ((s.ps[J]'hJ).val.toList == x.old.toList) = true := by rw [he]; simp
    have HFIN : Hid (OperPost s x base b w (.returned (.tuple #[.int .i64 0, .slice none 0 0])) (w2.setCell ⟨g, J * 2 + 1, none⟩ (.string x.val)).drew) := Lib.hid ⟨{ s with ps := s.ps.set J ⟨(s.ps[J]'hJ).key, x.val⟩ }, 0, [], none, 0, rfl, by
      unfold OpIs
      rw [if_neg HO6.out.1, if_neg HO6.out.2, HOF.out]
      refine ⟨?_, rfl, rfl⟩
      show StX.mk _ _ _ _ = StX.mk _ _ _ _
      rw [HPY.out]
      rfl, ⟨rfl, rfl⟩, HU2.out.call ((Below.refl _ _).drew), see_nil10 _ _, HUF2.out.drew, HUT2.out.trans (Twx.of_below ((Below.refl _ _).drew))⟩
    have HC : Hid (∀ w' : World, (∀ p, w'.cell? p = w2.cell? p) → w'.cell? ⟨b, 0, none⟩ = some (.slice (some ⟨g, 0, none⟩) s.ps.length s.pc) ∧ w'.cell? ⟨w.heap.size, 2, none⟩ = some (.string x.val)) := Lib.hid (fun w' h => ⟨(h _).trans c0, (h _).trans k2⟩)
    clear he HU2 HUF2 HPY HOF
    generalize (s.ps[J]'hJ).val = vv at *
    clear HC
    go_upto_region 22 with fail
    go_region
    go_wp2
    go_ret2
    exact HFIN.out
  · rw [if_neg he] at HOF
    have e1 : ((s.ps[J]'hJ).val.toList == x.old.toList) = false := by
      rw [beq_eq_false_iff_ne]
      exact fun e => he (str_eq e)
    clear he HU2 HUF2 HPY fv
    generalize (s.ps[J]'hJ).val = vv at *
    have hbs : (bsT 34 1 #[(0, .string vv)]).run Tryz.prog w2 = .ok (.slice (some ⟨w2.heap.size, 0, none⟩) 1 1) (w2.alloc (.cells #[.string vv] 9)) := SK.build1 vv (.string vv) rfl (by decide) w2
    have hal : Below w2.heap.size w2 (w2.alloc (.cells #[.string vv] 9)) := (Below.refl _ _).alloc (Nat.le_refl _) _
    have HE := Lib.hid (OperPost.same (z := 1) (H2.out.call hal) (H2.out.far HF2.out hal) (HT2.out.trans (Twx.of_below hal)) (SK.own_lit w2 H2.out.size [vv] (by simp [maxLen])) HO6.out.1 HO6.out.2 HOF.out)
    clear hal
    go_wp2
    go_ret2
    exact HE.out

end Go.Proofs.YtbgbidgggjkmmaaGreatDoor
