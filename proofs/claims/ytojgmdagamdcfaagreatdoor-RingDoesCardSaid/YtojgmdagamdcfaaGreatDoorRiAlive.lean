/-
  What the laws of layer 6 ask first: that a tree comes in, a number is taken, and signs once (wapentakelaw06.alive).
-/
import Derived.Test.YtojgmdagamdcfaaGreatDoorRiTake
import Derived.Test.YtojgmdagamdcfaaGreatDoorRiSign
import Derived.Test.YtojgmdagamdcfaaGreatDoorRiAdd
namespace Go.Proofs.YtojgmdagamdcfaaGreatDoor
open Go.RowKit Go.Maps

set_option maxRecDepth 100000 in
theorem SigW.facts {w : World} {cs : Array Value} {seed d : List UInt8} {h n : Nat} (s : SigW w cs seed h n d) : cs.size = zsig.size ∧ (Tryz.prog.info? 48).map (·.size) = some cs.size ∧ (∀ v ∈ cs.toList, v.oneCell' = true) ∧ (Tryz.prog.info? 48).map (·.size) = some cs.toList.length := by
  obtain ⟨A, a, B, b, C, z, c, rfl⟩ := s.form
  exact ⟨rfl, sig_size _ _ _ _ _ _ _ _ _ _, sig_one _ _ _ _ _ _ _ _ _ _, sig_list _ _ _ _ _ _ _ _ _ _⟩
noncomputable def ldSig (v : Value) : Sem Value := Instr.loadAt 48 v
set_option maxRecDepth 100000 in
theorem ldSig_def (v : Value) : Instr.loadAt 48 v = ldSig v := rfl
set_option maxRecDepth 100000 in
theorem Box.load_sig {w : World} {g : Nat} {t : TypeId} {cs : Array Value} (h : Box w g t cs) (hs : (Tryz.prog.info? 48).map (·.size) = some cs.toList.length) : (ldSig (.pointer (some ⟨g, 0, none⟩))).run Tryz.prog w = .ok (.agg cs) w := by
  have hl := run_loadAt_mid (P := Tryz.prog) w g 0 48 cs.toList _ h.range Tryz.underlying48 rfl hs
  rw [Array.toArray_toList] at hl
  exact hl
set_option maxRecDepth 100000 in
theorem fresh_is (seed : List UInt8) (h sb ob tb gb : Nat) : (Ent.fresh seed h sb ob tb gb).is (keyT seed h) (h : Int) = true := Ent.is_iff.2 ⟨rfl, rfl⟩
def riOne : List UInt8 := 1 :: List.replicate 31 0
def riTwo : List UInt8 := 2 :: List.replicate 31 0
set_option maxRecDepth 100000 in
theorem riOne_cells : (riOne.map bv).toArray = #[.int .u8 1, .int .u8 0, .int .u8 0, .int .u8 0, .int .u8 0, .int .u8 0, .int .u8 0, .int .u8 0, .int .u8 0, .int .u8 0, .int .u8 0, .int .u8 0, .int .u8 0, .int .u8 0, .int .u8 0, .int .u8 0, .int .u8 0, .int .u8 0, .int .u8 0, .int .u8 0, .int .u8 0, .int .u8 0, .int .u8 0, .int .u8 0, .int .u8 0, .int .u8 0, .int .u8 0, .int .u8 0, .int .u8 0, .int .u8 0, .int .u8 0, .int .u8 0] := rfl
set_option maxRecDepth 100000 in
theorem riTwo_cells : (riTwo.map bv).toArray = #[.int .u8 2, .int .u8 0, .int .u8 0, .int .u8 0, .int .u8 0, .int .u8 0, .int .u8 0, .int .u8 0, .int .u8 0, .int .u8 0, .int .u8 0, .int .u8 0, .int .u8 0, .int .u8 0, .int .u8 0, .int .u8 0, .int .u8 0, .int .u8 0, .int .u8 0, .int .u8 0, .int .u8 0, .int .u8 0, .int .u8 0, .int .u8 0, .int .u8 0, .int .u8 0, .int .u8 0, .int .u8 0, .int .u8 0, .int .u8 0, .int .u8 0, .int .u8 0] := rfl

attribute [local go_sem ↓] ldKey_def ldSig_def

set_option maxRecDepth 100000 in
set_option maxHeartbeats 2000000 in
theorem rialive_any (w : World) (hR : Roots w) : Calls Tryz.prog 4 #[] w fun e w' => e = .returned (.bool true) ∧ Below w.heap.size w w' := by
  have HR := Lib.hid hR
  have HBL : Hid (1 < w.heap.size) := Lib.hid hR.1
  have HNW := Lib.hid (ring_new w)
  have HADD : Hid (∀ w' rb mb, RingW w' w.heap.size rb mb 0 [] → Below w.heap.size w w' → Calls Tryz.prog 8 #[.pointer (some ⟨rb, 0, none⟩), .agg #[.int .u8 1, .int .u8 0, .int .u8 0, .int .u8 0, .int .u8 0, .int .u8 0, .int .u8 0, .int .u8 0, .int .u8 0, .int .u8 0, .int .u8 0, .int .u8 0, .int .u8 0, .int .u8 0, .int .u8 0, .int .u8 0, .int .u8 0, .int .u8 0, .int .u8 0, .int .u8 0, .int .u8 0, .int .u8 0, .int .u8 0, .int .u8 0, .int .u8 0, .int .u8 0, .int .u8 0, .int .u8 0, .int .u8 0, .int .u8 0, .int .u8 0, .int .u8 0], .int .i64 0] w' fun e w'' => e = .returned (.tuple #[.agg (keyV (keyT riOne 0) 0), .int .i64 0]) ∧ (∃ sb ob tb gb, RingW w'' w.heap.size rb mb 1 ([] ++ [Ent.fresh riOne 0 sb ob tb gb])) ∧ RFrame w.heap.size w' w'') := fun w' rb mb h hb =>
    radd_any h riOne rfl 0 (by decide) (HR.out.of_below hb) (fun x hx => by cases hx) (by decide) hb.size
  have HTK : Hid (∀ w' rb mb es e, RingW w' w.heap.size rb mb 1 es → e ∈ es → e.is (keyT riOne 0) 0 = true → e.next = 0 → e.h = 0 → Calls Tryz.prog 10 #[.pointer (some ⟨rb, 0, none⟩), .agg (keyV (keyT riOne 0) 0)] w' fun e1 w'' => e1 = .returned (.tuple #[.int .i64 0, .int .i64 0]) ∧ RingW w'' w.heap.size rb mb 1 (upd es e.taken) ∧ RFrame w.heap.size w' w'') := fun w' rb mb es e h he hk hn hh => by
    have ht := take_any h he hk (by rw [hn, hh]; decide)
    rw [hn] at ht
    exact ht
  have HTS : Hid (∀ w' rb mb es e, RingW w' w.heap.size rb mb 1 es → e ∈ es → e.is (keyT riOne 0) 0 = true → e.next = 1 → e.h = 0 → Calls Tryz.prog 10 #[.pointer (some ⟨rb, 0, none⟩), .agg (keyV (keyT riOne 0) 0)] w' fun e1 w'' => e1 = .returned (.tuple #[.int .i64 0, .int .i64 6]) ∧ Below w'.heap.size w' w'') := fun w' rb mb es e h he hk hn hh => take_spent h he hk (by rw [hn, hh])
  have HSG : Hid (∀ w' rb mb es e, RingW w' w.heap.size rb mb 1 es → Below w.heap.size w w' → e ∈ es → e.is (keyT riOne 0) 0 = true → e.next = 1 → e.opens = [true] → e.h = 0 → e.seed = riOne → Calls Tryz.prog 12 #[.pointer (some ⟨rb, 0, none⟩), .agg (keyV (keyT riOne 0) 0), .int .i64 0, .agg #[.int .u8 2, .int .u8 0, .int .u8 0, .int .u8 0, .int .u8 0, .int .u8 0, .int .u8 0, .int .u8 0, .int .u8 0, .int .u8 0, .int .u8 0, .int .u8 0, .int .u8 0, .int .u8 0, .int .u8 0, .int .u8 0, .int .u8 0, .int .u8 0, .int .u8 0, .int .u8 0, .int .u8 0, .int .u8 0, .int .u8 0, .int .u8 0, .int .u8 0, .int .u8 0, .int .u8 0, .int .u8 0, .int .u8 0, .int .u8 0, .int .u8 0, .int .u8 0]] w' (RingSignIs w' w.heap.size rb mb 1 (upd es (e.opened 0 false)) riOne 0 0 riTwo)) := fun w' rb mb es e h hb he hk hn ho hh hs => by
    have hg := rsign_ok h he hk 0 (by rw [hn]; decide) (by rw [ho]; rfl) riTwo rfl (HR.out.of_below hb) hb.size HBL.out
    rw [hh, hs] at hg
    exact hg
  have HSU : Hid (∀ w' rb mb es e, RingW w' w.heap.size rb mb 1 es → e ∈ es → e.is (keyT riOne 0) 0 = true → e.next = 1 → e.opens = [false] → Calls Tryz.prog 12 #[.pointer (some ⟨rb, 0, none⟩), .agg (keyV (keyT riOne 0) 0), .int .i64 0, .agg #[.int .u8 2, .int .u8 0, .int .u8 0, .int .u8 0, .int .u8 0, .int .u8 0, .int .u8 0, .int .u8 0, .int .u8 0, .int .u8 0, .int .u8 0, .int .u8 0, .int .u8 0, .int .u8 0, .int .u8 0, .int .u8 0, .int .u8 0, .int .u8 0, .int .u8 0, .int .u8 0, .int .u8 0, .int .u8 0, .int .u8 0, .int .u8 0, .int .u8 0, .int .u8 0, .int .u8 0, .int .u8 0, .int .u8 0, .int .u8 0, .int .u8 0, .int .u8 0]] w' fun e1 w'' => e1 = .returned (.tuple #[.agg zsig, .int .i64 9]) ∧ Below w'.heap.size w' w'') := fun w' rb mb es e h he hk hn ho =>
    sign_used h he hk 0 (by decide) (by rw [hn]; decide) (by rw [ho]; rfl) riTwo
  have HIS : Hid (∀ sb ob tb gb, (Ent.fresh riOne 0 sb ob tb gb).is (keyT riOne 0) 0 = true) := fun sb ob tb gb => fresh_is riOne 0 sb ob tb gb
  have HCK : Hid (∀ w' cs, SigW w' cs riOne 0 0 riTwo → Below w.heap.size w w' → Calls Tryz.prog 23 #[.agg (keyV (keyT riOne 0) 0), .agg #[.int .u8 2, .int .u8 0, .int .u8 0, .int .u8 0, .int .u8 0, .int .u8 0, .int .u8 0, .int .u8 0, .int .u8 0, .int .u8 0, .int .u8 0, .int .u8 0, .int .u8 0, .int .u8 0, .int .u8 0, .int .u8 0, .int .u8 0, .int .u8 0, .int .u8 0, .int .u8 0, .int .u8 0, .int .u8 0, .int .u8 0, .int .u8 0, .int .u8 0, .int .u8 0, .int .u8 0, .int .u8 0, .int .u8 0, .int .u8 0, .int .u8 0, .int .u8 0], .agg cs] w' fun e w'' => e = .returned (.bool true) ∧ Below w'.heap.size w' w'') := fun w' cs s hb => SigW.right (seed := riOne) (d := riTwo) (h := 0) (n := 0) rfl (by decide) (by decide) s (HR.out.of_below hb)
  have HRL := Lib.hid (keyT_len riOne 0)
  clear HR hR HBL
  generalize keyT riOne 0 = r at *
  have HKZ := Lib.hid (key_same HRL.out (s := noneD) rfl 0 0)
  have HKS := Lib.hid (key_size HRL.out 0)
  have HKO := Lib.hid (keyL_one r 0)
  go_enter Tryz.func4, Tryz.ntmps4
  go_upto_region 2 with (go_at_call 6; (with_reducible refine (HNW.out).mono ?_); rintro e w1 ⟨rb, mb, rfl, h1, hb⟩; have H1 := Lib.hid h1; have B1 := Lib.hid hb; clear h1 hb)
  go_upto_region 3 with (first
    | (go_at_call 8; (with_reducible refine (HADD.out _ _ _ H1.out B1.out).mono ?_); rintro e w2 ⟨rfl, ⟨sb, ob, tb, gb, h2⟩, hf⟩; have H2 := Lib.hid h2; have B2 := Lib.hid (B1.out.trans (hf.below B1.out.size)); clear h2 hf)
    | (((with_reducible show wpList _ _ _ ((⟨none, Op.store _ (.tmp 2) (.tmp 17), _, _, _, _⟩ : Oper) :: _) _ _)); refine wpList_store_box rfl 37 (.tmp 2) (.tmp 17) rfl w2.heap.size (keyV r 0) rfl rfl 37 zkey (Box.made w2 _ _) HKZ.out HKS.out HKO.out ?_; intro w3 hb3 hg3; have HK3 := Lib.hid hb3; have G3 : Hid (Below w2.heap.size w2 w3) := Lib.hid (((Below.refl w2.heap.size w2).alloc (Nat.le_refl _) (.cells zkey 37)).trans (below_only hg3 (Nat.le_refl _) (by simp))); clear hb3 hg3))
  obtain ⟨e0, he0⟩ : ∃ e0, e0 = Ent.fresh riOne 0 sb ob tb gb := ⟨_, rfl⟩
  have E0 : Hid (e0.is r 0 = true ∧ e0.next = 0 ∧ e0.h = 0 ∧ e0.seed = riOne ∧ e0.opens = [false]) := by
    rw [he0]
    exact ⟨HIS.out _ _ _ _, rfl, rfl, rfl, rfl⟩
  rw [← he0] at H2
  clear he0
  have HM0 : Hid (e0 ∈ [] ++ [e0]) := Lib.hid (by simp)
  have H3 := Lib.hid (H2.out.call G3.out)
  have B3 := Lib.hid (B2.out.trans (G3.out.mono B2.out.size))
  have E1 : Hid (e0.taken.is r 0 = true ∧ e0.taken.next = 1 ∧ e0.taken.h = 0 ∧ e0.taken.seed = riOne ∧ e0.taken.opens = [true]) := by
    obtain ⟨h1, h2, h3, h4, h5⟩ := E0.out
    refine ⟨h1, ?_, h3, h4, ?_⟩
    · show e0.next + 1 = 1
      rw [h2]
    · show e0.opens.set e0.next true = [true]
      rw [h2, h5]
      rfl
  have E2 : Hid ((e0.taken.opened 0 false).is r 0 = true ∧ (e0.taken.opened 0 false).next = 1 ∧ (e0.taken.opened 0 false).opens = [false]) := by
    obtain ⟨h1, h2, h3, h4, h5⟩ := E1.out
    refine ⟨h1, h2, ?_⟩
    show e0.taken.opens.set 0 false = [false]
    rw [h5]
    rfl
  have HM1 : Hid (e0.taken ∈ upd ([] ++ [e0]) e0.taken) := Lib.hid (upd_mem HM0.out rfl)
  have HM2 : Hid (e0.taken.opened 0 false ∈ upd (upd ([] ++ [e0]) e0.taken) (e0.taken.opened 0 false)) := Lib.hid (upd_mem HM1.out rfl)
  have l3 := Box.load_key HK3.out HRL.out
  go_upto_region 6 with (go_at_call 10; (with_reducible refine (HTK.out _ _ _ _ _ H3.out HM0.out E0.out.1 E0.out.2.1 E0.out.2.2.1).mono ?_); rintro e w4 ⟨rfl, h4, hf⟩; have H4 := Lib.hid h4; have B4 := Lib.hid (B3.out.trans (hf.below B3.out.size)); have HK4 := Lib.hid (hf.box HK3.out (by decide) (by decide)); clear h4 hf)
  clear l3
  have l4 := Box.load_key HK4.out HRL.out
  go_upto_region 7 with (go_at_call 10; (with_reducible refine (HTS.out _ _ _ _ _ H4.out HM1.out E1.out.1 E1.out.2.1 E1.out.2.2.1).mono ?_); rintro e w5 ⟨rfl, hb⟩; have H5 := Lib.hid (H4.out.call hb); have B5 := Lib.hid (B4.out.trans (hb.mono B4.out.size)); have HK5 := Lib.hid (HK4.out.below hb HK4.out.lt); clear hb)
  clear l4
  have l5 := Box.load_key HK5.out HRL.out
  have HSG5 := Lib.hid (HSG.out _ _ _ _ _ H5.out B5.out HM1.out E1.out.1 E1.out.2.1 E1.out.2.2.2.2 E1.out.2.2.1 E1.out.2.2.2.1)
  go_upto_region 8 with (first
    | (go_at_call 12; (with_reducible refine (HSG5.out).mono ?_); rintro e w6 ⟨cs, rfl, hs, h6, hf⟩; have H6 := Lib.hid h6; have S6 := Lib.hid hs; have B6 := Lib.hid (B5.out.trans (hf.below B5.out.size)); have HK6 := Lib.hid (hf.box HK5.out (by decide) (by decide)); have SF := Lib.hid hs.facts; clear h6 hf hs)
    | (((with_reducible show wpList _ _ _ ((⟨none, Op.store _ (.tmp 8) (.tmp 38), _, _, _, _⟩ : Oper) :: _) _ _)); refine wpList_store_box rfl 48 (.tmp 8) (.tmp 38) rfl w6.heap.size cs rfl rfl 48 zsig (Box.made w6 _ _) SF.out.1 SF.out.2.1 SF.out.2.2.1 ?_; intro w7 hb7 hg7; have HS7 := Lib.hid hb7; have G7 : Hid (Below w6.heap.size w6 w7) := Lib.hid (((Below.refl w6.heap.size w6).alloc (Nat.le_refl _) (.cells zsig 48)).trans (below_only hg7 (Nat.le_refl _) (by simp))); clear hb7 hg7))
  clear l5 HSG5
  have H7 := Lib.hid (H6.out.call G7.out)
  have S7 := Lib.hid (S6.out.call G7.out)
  have B7 := Lib.hid (B6.out.trans (G7.out.mono B6.out.size))
  have HK7 := Lib.hid (HK6.out.below G7.out HK6.out.lt)
  have l7 := Box.load_key HK7.out HRL.out
  go_upto_region 9 with (first
    | (go_at_call 12; (with_reducible refine (HSU.out _ _ _ _ _ H7.out HM2.out E2.out.1 E2.out.2.1 E2.out.2.2).mono ?_); rintro e w8 ⟨rfl, hb⟩; have G8 := Lib.hid hb; clear hb)
    | (((with_reducible show wpList _ _ _ ((⟨none, Op.store _ (.tmp 10) (.tmp 45), _, _, _, _⟩ : Oper) :: _) _ _)); refine wpList_store_box rfl 48 (.tmp 10) (.tmp 45) rfl w8.heap.size zsig rfl rfl 48 zsig (Box.made w8 _ _) rfl (sig_size 0 none 0 0 none 0 0 none 0 0) (sig_one 0 none 0 0 none 0 0 none 0 0) ?_; intro w9 hb9 hg9; have G9 : Hid (Below w8.heap.size w8 w9) := Lib.hid (((Below.refl w8.heap.size w8).alloc (Nat.le_refl _) (.cells zsig 48)).trans (below_only hg9 (Nat.le_refl _) (by simp))); clear hb9 hg9))
  clear l7
  have G79 : Hid (Below w7.heap.size w7 w9) := Lib.hid (G8.out.trans (G9.out.mono G8.out.size))
  have B9 := Lib.hid (B7.out.trans (G79.out.mono B7.out.size))
  have HK9 := Lib.hid (HK7.out.below G79.out HK7.out.lt)
  have HS9 := Lib.hid (HS7.out.below G79.out HS7.out.lt)
  have HCK9 := Lib.hid (HCK.out _ _ (S7.out.call G79.out) B9.out)
  have l9 := Box.load_key HK9.out HRL.out
  have lsg := HS9.out.load_sig SF.out.2.2.2
  go_wp2_with (go_at_call 23; (with_reducible refine (HCK9.out).mono ?_); rintro e w10 ⟨rfl, hb⟩; have G10 := Lib.hid hb; clear hb)
  go_ret
  exact ⟨rfl, B9.out.trans (G10.out.mono B9.out.size)⟩
end Go.Proofs.YtojgmdagamdcfaaGreatDoor
