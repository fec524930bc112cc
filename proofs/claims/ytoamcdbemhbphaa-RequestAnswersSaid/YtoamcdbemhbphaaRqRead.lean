/-
  Requests read: request.readWhose, request.readChange, request.Read.
-/
import Derived.Test.YtoamcdbemhbphaaRqWrite
import Derived.Test.YtoamcdbemhbphaaRd
namespace Go.Proofs.Ytoamcdbemhbphaa
open Go.RowKit

/-! ### A block that is filled while a reader is turned -/
structure QW (R : World → Nat → List UInt8 → Bool → Prop) (T : TypeId) (Z : Array Value) (w0 : World) (a r b : Nat) (cs : Array Value) (s : List UInt8 × Bool) (w : World) : Prop where
  out : Box w r T Z
  box : Box w b T cs
  rd : R w a s.1 s.2
  far : w0.grownBy w (some a)
  ha : a < w0.heap.size
  hr : w0.heap.size ≤ r
  hb : w0.heap.size ≤ b
  ne : r ≠ b
set_option maxRecDepth 100000 in
theorem QW.turn {R : World → Nat → List UInt8 → Bool → Prop} {T : TypeId} {Z : Array Value} {w0 w w' : World} {a r b : Nat} {cs : Array Value} {s s' : List UInt8 × Bool} (h : QW R T Z w0 a r b cs s w) (hg : w.grownBy w' (some a)) (hr : R w' a s'.1 s'.2) : QW R T Z w0 a r b cs s' w' :=
  ⟨h.out.grown hg (by have := h.ha; have := h.hr; intro e; cases e; omega), h.box.grown hg (by have := h.ha; have := h.hb; intro e; cases e; omega), hr, only_trans h.far hg, h.ha, h.hr, h.hb, h.ne⟩
set_option maxRecDepth 100000 in
theorem QW.put {R : World → Nat → List UInt8 → Bool → Prop} {T : TypeId} {Z : Array Value} {w0 w w' : World} {a r b : Nat} {cs cs' : Array Value} {s : List UInt8 × Bool} (h : QW R T Z w0 a r b cs s w)
    (hR : ∀ {w w' : World} {a g : Nat} {l : List UInt8} {b : Bool}, R w a l b → w.grownBy w' (some g) → a < g → R w' a l b) (hb : Box w' b T cs') (hg : w.grownBy w' (some b)) : QW R T Z w0 a r b cs' s w' :=
  ⟨h.out.grown hg (by intro e; cases e; exact h.ne rfl), hb, hR h.rd hg (by have := h.ha; have := h.hb; omega), only_new h.far hg h.hb, h.ha, h.hr, h.hb, h.ne⟩
set_option maxRecDepth 100000 in
theorem rd_put {w w' : World} {a g : Nat} {l : List UInt8} {b : Bool} (h : Rd w a l b) (hg : w.grownBy w' (some g)) (hl : a < g) : Rd w' a l b := h.only hg hl

set_option maxRecDepth 100000 in
theorem rc1_eq (l : List UInt8) (b : Bool) : nuV (rc0 l b).2.1 (rc0 l b).2.2 = rc1 l b := rfl
set_option maxRecDepth 100000 in
theorem rc2_eq (l : List UInt8) (b : Bool) : nuV (rc1 l b).2.1 (rc1 l b).2.2 = rc2 l b := rfl
set_option maxRecDepth 100000 in
theorem rc3_eq (l : List UInt8) (b : Bool) : nuV (rc2 l b).2.1 (rc2 l b).2.2 = rc3 l b := rfl
set_option maxRecDepth 100000 in
theorem rc4_eq (l : List UInt8) (b : Bool) : dgV (rc3 l b).2.1 (rc3 l b).2.2 = rc4 l b := rfl
set_option maxRecDepth 100000 in
theorem pair_eta {α β : Type} (p : α × β) : (p.1, p.2) = p := by cases p; rfl
set_option maxRecDepth 100000 in
theorem rqF_eq (l : List UInt8) (b : Bool) : rqF l b = (rc4 (rq5 l b).2.1 (rq5 l b).2.2).2 := pair_eta _
set_option maxRecDepth 100000 in
theorem rq0_eq (l : List UInt8) (b : Bool) : inV 1 64 l b = rq0 l b := rfl
set_option maxRecDepth 100000 in
theorem rc0_eq (l : List UInt8) (b : Bool) : nuV l b = rc0 l b := rfl
set_option maxRecDepth 100000 in
theorem rq1_eq (l : List UInt8) (b : Bool) : inV 1 1099511627776 (rq0 l b).2.1 (rq0 l b).2.2 = rq1 l b := rfl
set_option maxRecDepth 100000 in
theorem rq2_eq (l : List UInt8) (b : Bool) : inV 1 7 (rq1 l b).2.1 (rq1 l b).2.2 = rq2 l b := rfl
set_option maxRecDepth 100000 in
theorem rq3_eq (l : List UInt8) (b : Bool) : txtV 1024 (rq2 l b).2.1 (rq2 l b).2.2 = rq3 l b := rfl
set_option maxRecDepth 100000 in
theorem rq4_eq (l : List UInt8) (b : Bool) : txtV 1024 (rq3 l b).2.1 (rq3 l b).2.2 = rq4 l b := rfl
set_option maxRecDepth 100000 in
theorem rq5_eq (l : List UInt8) (b : Bool) : txtV 1024 (rq4 l b).2.1 (rq4 l b).2.2 = rq5 l b := rfl
set_option maxRecDepth 100000 in
theorem rqX_good {l : List UInt8} {b : Bool} (h : (rqF l b).2 = false) (hl : (rc4 (rq5 l b).2.1 (rq5 l b).2.2).1.length = 32) : rqX l b = ⟨(rq0 l b).1, (rq1 l b).1, (rq2 l b).1, ⟨(rq3 l b).1.toArray⟩, ⟨(rq4 l b).1.toArray⟩, ⟨(rq5 l b).1.toArray⟩,
    (rc0 (rq5 l b).2.1 (rq5 l b).2.2).1, (rc1 (rq5 l b).2.1 (rq5 l b).2.2).1, (rc2 (rq5 l b).2.1 (rq5 l b).2.2).1, (rc4 (rq5 l b).2.1 (rq5 l b).2.2).1, (rc3 (rq5 l b).2.1 (rq5 l b).2.2).1, hl⟩ := by
  unfold rqX
  rw [if_neg (by rw [h]; simp)]
set_option maxRecDepth 100000 in
theorem rqX_bad {l : List UInt8} {b : Bool} (h : (rqF l b).2 = true) : rqX l b = zreq := by
  unfold rqX
  rw [if_pos h]

/-! ### readWhose -/
set_option maxRecDepth 100000 in
set_option maxHeartbeats 1000000 in
theorem whose_any (a : Nat) (l : List UInt8) (b : Bool) (w : World) (h : Rd w a l b) :
    Calls Try.prog 27 #[.pointer (some ⟨a, 0, none⟩)] w fun e w' => e = .returned (.tuple #[.int .i64 (rq0 l b).1, .int .i64 (rq1 l b).1]) ∧ Rd w' a (rq1 l b).2.1 (rq1 l b).2.2 ∧ w.grownBy w' (some a) := by
  have HC : Hid (Calls Try.prog 28 #[.pointer (some ⟨a, 0, none⟩), .int .i64 1, .int .i64 64] w fun e w' => e = .returned (.int .i64 (rq0 l b).1) ∧ Rd w' a (rq0 l b).2.1 (rq0 l b).2.2 ∧ w.grownBy w' (some a)) := in_any a 1 64 l b w h
  have e1 := rq1_eq l b
  generalize rq0 l b = r0 at *
  generalize rq1 l b = r1 at *
  have E1 := Lib.hid e1
  clear e1 h
  go_enter Try.func27, Try.ntmps27
  go_upto_region 2 with (go_at_call 28; (with_reducible refine (HC.out).mono ?_); rintro e w1 ⟨rfl, hr, hg⟩; have HR1 := Lib.hid hr; have HG1 := Lib.hid hg; clear hr hg)
  have hc := in_any a 1 1099511627776 r0.2.1 r0.2.2 w1 HR1.out
  rw [E1.out] at hc
  have HC2 := Lib.hid hc
  clear hc HC
  go_wp2_with (go_at_call 28; (with_reducible refine (HC2.out).mono ?_); rintro e w2 ⟨rfl, hr, hg⟩; have HR2 := Lib.hid hr; have HG2 := Lib.hid (only_trans HG1.out hg); clear hr hg)
  go_ret2
  exact ⟨rfl, HR2.out, HG2.out⟩

/-! ### readChange -/
attribute [local go_sem ↓] ldDigest_def stDigest_def ldChg_def stChg_def ldReq_def stReq_def bdReq_def
set_option maxRecDepth 100000 in
set_option maxHeartbeats 2000000 in
theorem rchg_any (a : Nat) (l : List UInt8) (b : Bool) (w : World) (h : Rd w a l b) :
    Calls Try.prog 30 #[.pointer (some ⟨a, 0, none⟩)] w fun e w' => e = .returned (.agg (chgL (rc0 l b).1 (rc1 l b).1 (rc2 l b).1 (rc4 l b).1 (rc3 l b).1).toArray) ∧ Rd w' a (rc4 l b).2.1 (rc4 l b).2.2 ∧ w.grownBy w' (some a) := by
  have HW1 : Hid (QW Rd 27 zchgV w a w.heap.size (w.heap.size + 1) (chgL 0 0 0 zeros 0).toArray (l, b) ((w.alloc (.cells zchgV 27)).alloc (.cells zchgV 27))) :=
    ⟨(Box.made _ _ _).alloc _, Box.made_at (by simp) _ _, (h.alloc _).alloc _, only_trans (World.grownBy_alloc w _ _) (World.grownBy_alloc _ _ _), h.lt, Nat.le_refl _, by omega, by omega⟩
  have HNM : Hid (∀ w' cs (s : List UInt8 × Bool) (r : Int × List UInt8 × Bool), nuV s.1 s.2 = r → QW Rd 27 zchgV w a w.heap.size (w.heap.size + 1) cs s w' → Calls Try.prog 44 #[.pointer (some ⟨a, 0, none⟩)] w' fun e w'' => e = .returned (.int .i64 r.1) ∧ QW Rd 27 zchgV w a w.heap.size (w.heap.size + 1) cs r.2 w'') :=
    Lib.hid (fun w' cs s r hr hw => by subst hr; exact (num_any a s.1 s.2 w' hw.rd).mono fun e w'' ⟨he, hr, hg⟩ => ⟨he, hw.turn hg hr⟩)
  have HDG : Hid (∀ w' cs (s : List UInt8 × Bool) (r : List UInt8 × List UInt8 × Bool), dgV s.1 s.2 = r → QW Rd 27 zchgV w a w.heap.size (w.heap.size + 1) cs s w' → Calls Try.prog 48 #[.pointer (some ⟨a, 0, none⟩)] w' fun e w'' => e = .returned (.agg (r.1.map bv).toArray) ∧ QW Rd 27 zchgV w a w.heap.size (w.heap.size + 1) cs r.2 w'') :=
    Lib.hid (fun w' cs s r hr hw => by subst hr; exact (digest_any a s.1 s.2 w' hw.rd).mono fun e w'' ⟨he, hr, hg⟩ => ⟨he, hw.turn hg hr⟩)
  have e1 := rc1_eq l b
  have e2 := rc2_eq l b
  have e3 := rc3_eq l b
  have e4 := rc4_eq l b
  have e0 := rc0_eq l b
  have h4 := rc4_len l b
  generalize rc0 l b = r0 at *
  generalize rc1 l b = r1 at *
  generalize rc2 l b = r2 at *
  generalize rc3 l b = r3 at *
  generalize rc4 l b = r4 at *
  have E0 := Lib.hid e0
  have E1 := Lib.hid e1
  have E2 := Lib.hid e2
  have E3 := Lib.hid e3
  have E4 := Lib.hid e4
  have H4 := Lib.hid h4
  clear e0 e1 e2 e3 e4 h4 h
  go_enter Try.func30, Try.ntmps30
  go_upto_region 2 with fail
  change Code.wp _ _ _ _ ((w.alloc (.cells zchgV 27)).alloc (.cells zchgV 27))
  generalize (w.alloc (.cells zchgV 27)).alloc (.cells zchgV 27) = w1 at *
  have HB : Hid (w.heap.size + 1 = w.heap.size + 1) := Lib.hid rfl
  clear HB
  have HC := Lib.hid (HNM.out w1 _ _ r0 E0.out HW1.out)
  go_upto_region 3 with (go_at_call 44; (with_reducible refine (HC.out).mono ?_); rintro e w2 ⟨rfl, hw⟩; have m0 : w2.cell? ⟨w.heap.size + 1, 0, none⟩ = some (.int .i64 0) := (hw.box.cell 0).trans rfl; have f0 := hw.box.free 0; have HW2 := Lib.hid hw; clear hw)
  have HW3 : Hid (QW Rd 27 zchgV w a w.heap.size (w.heap.size + 1) (chgL r0.1 0 0 zeros 0).toArray r0.2 (w2.setCell ⟨w.heap.size + 1, 0, none⟩ (.int .i64 r0.1))) := Lib.hid (HW2.out.put rd_put (Box.chg_ck HW2.out.box  _) (only_put (only_refl _ _) _ _))
  clear m0 f0 HC HW1 HW2
  generalize w2.setCell ⟨w.heap.size + 1, 0, none⟩ (.int .i64 r0.1) = w3 at *
  have HC := Lib.hid (HNM.out w3 _ _ r1 E1.out HW3.out)
  go_upto_region 4 with (go_at_call 44; (with_reducible refine (HC.out).mono ?_); rintro e w4 ⟨rfl, hw⟩; have m0 : w4.cell? ⟨w.heap.size + 1, 1, none⟩ = some (.int .i64 0) := (hw.box.cell 1).trans rfl; have f0 := hw.box.free 1; have HW4 := Lib.hid hw; clear hw)
  have HW5 : Hid (QW Rd 27 zchgV w a w.heap.size (w.heap.size + 1) (chgL r0.1 r1.1 0 zeros 0).toArray r1.2 (w4.setCell ⟨w.heap.size + 1, 1, none⟩ (.int .i64 r1.1))) := Lib.hid (HW4.out.put rd_put (Box.chg_cid HW4.out.box  _) (only_put (only_refl _ _) _ _))
  clear m0 f0 HC HW3 HW4
  generalize w4.setCell ⟨w.heap.size + 1, 1, none⟩ (.int .i64 r1.1) = w5 at *
  have HC := Lib.hid (HNM.out w5 _ _ r2 E2.out HW5.out)
  go_upto_region 5 with (go_at_call 44; (with_reducible refine (HC.out).mono ?_); rintro e w6 ⟨rfl, hw⟩; have m0 : w6.cell? ⟨w.heap.size + 1, 2, none⟩ = some (.int .i64 0) := (hw.box.cell 2).trans rfl; have f0 := hw.box.free 2; have HW6 := Lib.hid hw; clear hw)
  have HW7 : Hid (QW Rd 27 zchgV w a w.heap.size (w.heap.size + 1) (chgL r0.1 r1.1 r2.1 zeros 0).toArray r2.2 (w6.setCell ⟨w.heap.size + 1, 2, none⟩ (.int .i64 r2.1))) := Lib.hid (HW6.out.put rd_put (Box.chg_cn HW6.out.box  _) (only_put (only_refl _ _) _ _))
  clear m0 f0 HC HW5 HW6
  generalize w6.setCell ⟨w.heap.size + 1, 2, none⟩ (.int .i64 r2.1) = w7 at *
  have HC := Lib.hid (HNM.out w7 _ _ r3 E3.out HW7.out)
  go_upto_region 6 with (go_at_call 44; (with_reducible refine (HC.out).mono ?_); rintro e w8 ⟨rfl, hw⟩; have m0 : w8.cell? ⟨w.heap.size + 1, 35, none⟩ = some (.int .i64 0) := hw.box.chg_35 zeros_len; have f0 := hw.box.free 35; have HW8 := Lib.hid hw; clear hw)
  have HW9 : Hid (QW Rd 27 zchgV w a w.heap.size (w.heap.size + 1) (chgL r0.1 r1.1 r2.1 zeros r3.1).toArray r3.2 (w8.setCell ⟨w.heap.size + 1, 35, none⟩ (.int .i64 r3.1))) := Lib.hid (HW8.out.put rd_put (Box.chg_high HW8.out.box zeros_len _) (only_put (only_refl _ _) _ _))
  clear m0 f0 HC HW7 HW8
  generalize w8.setCell ⟨w.heap.size + 1, 35, none⟩ (.int .i64 r3.1) = w9 at *
  have HC := Lib.hid (HDG.out w9 _ _ r4 E4.out HW9.out)
  go_upto_region 7 with (go_at_call 48; (with_reducible refine (HC.out).mono ?_); rintro e w10 ⟨rfl, hw⟩; obtain ⟨hst, hb, hg⟩ := hw.box.chg_root zeros_len r4.1 H4.out; have HW11 := Lib.hid (hw.put rd_put hb hg); clear hw hb hg)
  clear HC HW9 hst
  generalize w10.setCells (w.heap.size + 1) 3 (r4.1.map bv) = w11 at *
  have lc := ld_chg H4.out HW11.out.box
  obtain ⟨w12, hst, hb, hg⟩ := HW11.out.out.st_chg rfl r0.1 r1.1 r2.1 H4.out r3.1
  have HB12 := Lib.hid hb
  have HR12 := Lib.hid (rd_put HW11.out.rd hg (Nat.lt_of_lt_of_le HW11.out.ha (Nat.le_refl _)))
  have HG12 := Lib.hid (only_new HW11.out.far hg (Nat.le_refl _))
  clear hb hg HW11
  go_wp2
  exact ret_chg rfl rfl rfl H4.out HB12.out ⟨rfl, HR12.out, HG12.out⟩

set_option maxRecDepth 100000 in
set_option maxHeartbeats 4000000 in
theorem read_any9 (a : Nat) (l : List UInt8) (b : Bool) (w : World) (h : Rd w a l b) :
    Calls Try.prog 9 #[.pointer (some ⟨a, 0, none⟩)] w fun e w' => e = .returned (.agg (rqX l b).cells.toArray) ∧ Rd w' a (rqF l b).1 (rqF l b).2 ∧ w.grownBy w' (some a) := by
  have HW1 : Hid (QW Rd 31 zreqV w a w.heap.size (w.heap.size + 1) (ReqX.mk 0 0 0 ⟨#[]⟩ ⟨#[]⟩ ⟨#[]⟩ 0 0 0 zeros 0 zeros_len).cells.toArray (l, b) ((w.alloc (.cells zreqV 31)).alloc (.cells zreqV 31))) :=
    ⟨(Box.made _ _ _).alloc _, Box.made_at (by simp) _ _, (h.alloc _).alloc _, only_trans (World.grownBy_alloc w _ _) (World.grownBy_alloc _ _ _), h.lt, Nat.le_refl _, by omega, by omega⟩
  have HIN : Hid (∀ w' cs (lo hi : Int) (s : List UInt8 × Bool) (r : Int × List UInt8 × Bool), inV lo hi s.1 s.2 = r → QW Rd 31 zreqV w a w.heap.size (w.heap.size + 1) cs s w' → Calls Try.prog 28 #[.pointer (some ⟨a, 0, none⟩), .int .i64 lo, .int .i64 hi] w' fun e w'' => e = .returned (.int .i64 r.1) ∧ QW Rd 31 zreqV w a w.heap.size (w.heap.size + 1) cs r.2 w'') :=
    Lib.hid (fun w' cs lo hi s r hr hw => by subst hr; exact (in_any a lo hi s.1 s.2 w' hw.rd).mono fun e w'' ⟨he, hr, hg⟩ => ⟨he, hw.turn hg hr⟩)
  have HTX : Hid (∀ w' cs (s : List UInt8 × Bool) (r : List UInt8 × List UInt8 × Bool), txtV 1024 s.1 s.2 = r → QW Rd 31 zreqV w a w.heap.size (w.heap.size + 1) cs s w' → Calls Try.prog 29 #[.pointer (some ⟨a, 0, none⟩), .int .i64 1024] w' fun e w'' => e = .returned (.string ⟨r.1.toArray⟩) ∧ QW Rd 31 zreqV w a w.heap.size (w.heap.size + 1) cs r.2 w'') :=
    Lib.hid (fun w' cs s r hr hw => by subst hr; exact (rdtext_any a 1024 s.1 s.2 w' hw.rd).mono fun e w'' ⟨he, hr, hg⟩ => ⟨he, hw.turn hg hr⟩)
  have HGD : Hid (∀ w' cs (s : List UInt8 × Bool), QW Rd 31 zreqV w a w.heap.size (w.heap.size + 1) cs s w' → Calls Try.prog 11 #[.pointer (some ⟨a, 0, none⟩)] w' fun e w'' => e = .returned (.bool !s.2) ∧ w' = w'') := Lib.hid (fun w' cs s hw => good_any a s.1 s.2 w' hw.rd)
  have HWH : Hid (∀ w' cs, QW Rd 31 zreqV w a w.heap.size (w.heap.size + 1) cs (l, b) w' → Calls Try.prog 27 #[.pointer (some ⟨a, 0, none⟩)] w' fun e w'' => e = .returned (.tuple #[.int .i64 (rq0 l b).1, .int .i64 (rq1 l b).1]) ∧ QW Rd 31 zreqV w a w.heap.size (w.heap.size + 1) cs (rq1 l b).2 w'') := Lib.hid (fun w' cs hw => (whose_any a l b w' hw.rd).mono fun e w'' ⟨he, hr, hg⟩ => ⟨he, hw.turn hg hr⟩)
  have HCH : Hid (∀ w' cs (s : List UInt8 × Bool), QW Rd 31 zreqV w a w.heap.size (w.heap.size + 1) cs s w' → Calls Try.prog 30 #[.pointer (some ⟨a, 0, none⟩)] w' fun e w'' => e = .returned (.agg (chgL (rc0 s.1 s.2).1 (rc1 s.1 s.2).1 (rc2 s.1 s.2).1 (rc4 s.1 s.2).1 (rc3 s.1 s.2).1).toArray) ∧ QW Rd 31 zreqV w a w.heap.size (w.heap.size + 1) cs (rc4 s.1 s.2).2 w'') := Lib.hid (fun w' cs s hw => (rchg_any a s.1 s.2 w' hw.rd).mono fun e w'' ⟨he, hr, hg⟩ => ⟨he, hw.turn hg hr⟩)
  have HCH5 := fun w' cs => HCH.out w' cs (rq5 l b).2
  have hxg := rqX_good (l := l) (b := b)
  have hxb := rqX_bad (l := l) (b := b)
  have hF := rqF_eq l b
  have h4 := rc4_len (rq5 l b).2.1 (rq5 l b).2.2
  have e0 := rq0_eq l b
  have e1 := rq1_eq l b
  have e2 := rq2_eq l b
  have e3 := rq3_eq l b
  have e4 := rq4_eq l b
  have e5 := rq5_eq l b
  have d0 := rc0_eq (rq5 l b).2.1 (rq5 l b).2.2
  have d1 := rc1_eq (rq5 l b).2.1 (rq5 l b).2.2
  have d2 := rc2_eq (rq5 l b).2.1 (rq5 l b).2.2
  have d3 := rc3_eq (rq5 l b).2.1 (rq5 l b).2.2
  have d4 := rc4_eq (rq5 l b).2.1 (rq5 l b).2.2
  generalize hr0 : rq0 l b = r0 at *
  generalize hr1 : rq1 l b = r1 at *
  generalize hr2 : rq2 l b = r2 at *
  generalize hr3 : rq3 l b = r3 at *
  generalize hr4 : rq4 l b = r4 at *
  generalize hr5 : rq5 l b = r5 at *
  generalize rc0 r5.2.1 r5.2.2 = s0 at *
  generalize rc1 r5.2.1 r5.2.2 = s1 at *
  generalize rc2 r5.2.1 r5.2.2 = s2 at *
  generalize rc3 r5.2.1 r5.2.2 = s3 at *
  generalize rc4 r5.2.1 r5.2.2 = s4 at *
  have HCC : Hid (∀ w' cs, QW Rd 31 zreqV w a w.heap.size (w.heap.size + 1) cs r5.2 w' → Calls Try.prog 30 #[.pointer (some ⟨a, 0, none⟩)] w' fun e w'' => e = .returned (.agg (chgL s0.1 s1.1 s2.1 s4.1 s3.1).toArray) ∧ QW Rd 31 zreqV w a w.heap.size (w.heap.size + 1) cs s4.2 w'') := Lib.hid HCH5
  clear HCH5 HCH
  generalize rqX l b = X at *
  generalize rqF l b = F at *
  have HXG := Lib.hid hxg
  have HXB := Lib.hid hxb
  have HF := Lib.hid hF
  have H4 := Lib.hid h4
  have E0 := Lib.hid e0
  have E1 := Lib.hid e1
  have E2 := Lib.hid e2
  have E3 := Lib.hid e3
  have E4 := Lib.hid e4
  have E5 := Lib.hid e5
  have D0 := Lib.hid d0
  have D1 := Lib.hid d1
  have D2 := Lib.hid d2
  have D3 := Lib.hid d3
  have D4 := Lib.hid d4
  clear hxg hxb hF h4 h e0 hr0 e1 hr1 e2 hr2 e3 hr3 e4 hr4 e5 hr5 d0 d1 d2 d3 d4
  go_enter Try.func9, Try.ntmps9
  go_upto_region 2 with fail
  change Code.wp _ _ _ _ ((w.alloc (.cells zreqV 31)).alloc (.cells zreqV 31))
  generalize (w.alloc (.cells zreqV 31)).alloc (.cells zreqV 31) = w1 at *
  have HC := Lib.hid (HWH.out w1 _ HW1.out)
  go_upto_region 3 with (go_at_call 27; (with_reducible refine (HC.out).mono ?_); rintro e w2 ⟨rfl, hw⟩; have m0 : w2.cell? ⟨w.heap.size + 1, 0, none⟩ = some (.int .i64 0) := hw.box.rq_cell rfl; have f0 := hw.box.free 0; have m1 : w2.cell? ⟨w.heap.size + 1, 1, none⟩ = some (.int .i64 0) := hw.box.rq_cell rfl; have f1 := hw.box.free 1; have HW2 := Lib.hid hw; clear hw)
  have HW3 : Hid (QW Rd 31 zreqV w a w.heap.size (w.heap.size + 1) (ReqX.mk r0.1 r1.1 0 ⟨#[]⟩ ⟨#[]⟩ ⟨#[]⟩ 0 0 0 zeros 0 zeros_len).cells.toArray r1.2 ((w2.setCell ⟨w.heap.size + 1, 0, none⟩ (.int .i64 r0.1)).setCell ⟨w.heap.size + 1, 1, none⟩ (.int .i64 r1.1))) := Lib.hid (HW2.out.put rd_put (Box.rk_num (Box.rk_client HW2.out.box r0.1) r1.1) (only_put (only_put (only_refl _ _) _ _) _ _))
  clear m0 f0 m1 f1 HC HW1 HW2
  generalize (w2.setCell ⟨w.heap.size + 1, 0, none⟩ (.int .i64 r0.1)).setCell ⟨w.heap.size + 1, 1, none⟩ (.int .i64 r1.1) = w3 at *
  have HC := Lib.hid (HIN.out w3 _ 1 7 _ r2 E2.out HW3.out)
  go_upto_region 4 with (go_at_call 28; (with_reducible refine (HC.out).mono ?_); rintro e w4 ⟨rfl, hw⟩; have m0 : w4.cell? ⟨w.heap.size + 1, 2, none⟩ = some (.int .i64 0) := hw.box.rq_cell rfl; have f0 := hw.box.free 2; have HW4 := Lib.hid hw; clear hw)
  have HW5 : Hid (QW Rd 31 zreqV w a w.heap.size (w.heap.size + 1) (ReqX.mk r0.1 r1.1 r2.1 ⟨#[]⟩ ⟨#[]⟩ ⟨#[]⟩ 0 0 0 zeros 0 zeros_len).cells.toArray r2.2 (w4.setCell ⟨w.heap.size + 1, 2, none⟩ (.int .i64 r2.1))) := Lib.hid (HW4.out.put rd_put (Box.rk_kind HW4.out.box _) (only_put (only_refl _ _) _ _))
  clear m0 f0 HC HW3 HW4
  generalize w4.setCell ⟨w.heap.size + 1, 2, none⟩ (.int .i64 r2.1) = w5 at *
  have HC := Lib.hid (HTX.out w5 _ _ r3 E3.out HW5.out)
  go_upto_region 5 with (go_at_call 29; (with_reducible refine (HC.out).mono ?_); rintro e w6 ⟨rfl, hw⟩; have m0 : w6.cell? ⟨w.heap.size + 1, 3, none⟩ = some (.string ⟨#[]⟩) := hw.box.rq_cell rfl; have f0 := hw.box.free 3; have HW6 := Lib.hid hw; clear hw)
  have HW7 : Hid (QW Rd 31 zreqV w a w.heap.size (w.heap.size + 1) (ReqX.mk r0.1 r1.1 r2.1 ⟨r3.1.toArray⟩ ⟨#[]⟩ ⟨#[]⟩ 0 0 0 zeros 0 zeros_len).cells.toArray r3.2 (w6.setCell ⟨w.heap.size + 1, 3, none⟩ (.string ⟨r3.1.toArray⟩))) := Lib.hid (HW6.out.put rd_put (Box.rk_key HW6.out.box _) (only_put (only_refl _ _) _ _))
  clear m0 f0 HC HW5 HW6
  generalize w6.setCell ⟨w.heap.size + 1, 3, none⟩ (.string ⟨r3.1.toArray⟩) = w7 at *
  have HC := Lib.hid (HTX.out w7 _ _ r4 E4.out HW7.out)
  go_upto_region 6 with (go_at_call 29; (with_reducible refine (HC.out).mono ?_); rintro e w8 ⟨rfl, hw⟩; have m0 : w8.cell? ⟨w.heap.size + 1, 4, none⟩ = some (.string ⟨#[]⟩) := hw.box.rq_cell rfl; have f0 := hw.box.free 4; have HW8 := Lib.hid hw; clear hw)
  have HW9 : Hid (QW Rd 31 zreqV w a w.heap.size (w.heap.size + 1) (ReqX.mk r0.1 r1.1 r2.1 ⟨r3.1.toArray⟩ ⟨r4.1.toArray⟩ ⟨#[]⟩ 0 0 0 zeros 0 zeros_len).cells.toArray r4.2 (w8.setCell ⟨w.heap.size + 1, 4, none⟩ (.string ⟨r4.1.toArray⟩))) := Lib.hid (HW8.out.put rd_put (Box.rk_val HW8.out.box _) (only_put (only_refl _ _) _ _))
  clear m0 f0 HC HW7 HW8
  generalize w8.setCell ⟨w.heap.size + 1, 4, none⟩ (.string ⟨r4.1.toArray⟩) = w9 at *
  have HC := Lib.hid (HTX.out w9 _ _ r5 E5.out HW9.out)
  go_upto_region 7 with (go_at_call 29; (with_reducible refine (HC.out).mono ?_); rintro e w10 ⟨rfl, hw⟩; have m0 : w10.cell? ⟨w.heap.size + 1, 5, none⟩ = some (.string ⟨#[]⟩) := hw.box.rq_cell rfl; have f0 := hw.box.free 5; have HW10 := Lib.hid hw; clear hw)
  have HW11 : Hid (QW Rd 31 zreqV w a w.heap.size (w.heap.size + 1) (ReqX.mk r0.1 r1.1 r2.1 ⟨r3.1.toArray⟩ ⟨r4.1.toArray⟩ ⟨r5.1.toArray⟩ 0 0 0 zeros 0 zeros_len).cells.toArray r5.2 (w10.setCell ⟨w.heap.size + 1, 5, none⟩ (.string ⟨r5.1.toArray⟩))) := Lib.hid (HW10.out.put rd_put (Box.rk_old HW10.out.box _) (only_put (only_refl _ _) _ _))
  clear m0 f0 HC HW9 HW10
  generalize w10.setCell ⟨w.heap.size + 1, 5, none⟩ (.string ⟨r5.1.toArray⟩) = w11 at *
  have HC := Lib.hid (HCC.out w11 _ HW11.out)
  go_upto_region 8 with (go_at_call 30; (with_reducible refine (HC.out).mono ?_); rintro e w12 ⟨rfl, hw⟩; obtain ⟨hst, hb, hg⟩ := hw.box.rk_chg s0.1 s1.1 s2.1 H4.out s3.1; have HW13 := Lib.hid (hw.put rd_put hb hg); clear hw hb hg)
  clear HC HW11 hst
  generalize w12.setCells (w.heap.size + 1) 6 (chgL s0.1 s1.1 s2.1 s4.1 s3.1) = w13 at *
  have HC := Lib.hid (HGD.out w13 _ _ HW13.out)
  obtain ⟨gd, hgd⟩ : ∃ gd, s4.2.2 = gd := ⟨_, rfl⟩
  rw [hgd] at HC
  rcases gd with _ | _
  · have HX : Hid (X = (ReqX.mk r0.1 r1.1 r2.1 ⟨r3.1.toArray⟩ ⟨r4.1.toArray⟩ ⟨r5.1.toArray⟩ s0.1 s1.1 s2.1 s4.1 s3.1 H4.out)) := Lib.hid (HXG.out (by rw [HF.out]; exact hgd) H4.out)
    rw [← HX.out] at HW13
    have lc := HW13.out.box.ld_req
    obtain ⟨wz, hst, hb, hg⟩ := HW13.out.out.st_req rfl X
    have HBZ := Lib.hid hb
    have HRZ := Lib.hid (rd_put HW13.out.rd hg (Nat.lt_of_lt_of_le HW13.out.ha (Nat.le_refl _)))
    have HGZ := Lib.hid (only_new HW13.out.far hg (Nat.le_refl _))
    clear hb hg HW13 HX HXG HXB hgd
    go_wp2_with (go_at_call 11; (with_reducible refine (HC.out).mono ?_); rintro e wg ⟨rfl, rfl⟩)
    exact ret_req rfl rfl rfl HBZ.out ⟨rfl, by rw [HF.out]; exact HRZ.out, HGZ.out⟩
  · have HX : Hid (X = zreq) := Lib.hid (HXB.out (by rw [HF.out]; exact hgd))
    have hbd := bd_req0 w13
    obtain ⟨wz, hst, hb, hg⟩ := HW13.out.out.st_req rfl zreq
    rw [zreq_cells] at hst
    have HBZ := Lib.hid hb
    have HRZ := Lib.hid (rd_put HW13.out.rd hg (Nat.lt_of_lt_of_le HW13.out.ha (Nat.le_refl _)))
    have HGZ := Lib.hid (only_new HW13.out.far hg (Nat.le_refl _))
    clear hb hg HW13 HXG HXB hgd
    go_wp2_with (go_at_call 11; (with_reducible refine (HC.out).mono ?_); rintro e wg ⟨rfl, rfl⟩)
    exact ret_req rfl rfl rfl HBZ.out ⟨by rw [HX.out], by rw [HF.out]; exact HRZ.out, HGZ.out⟩

end Go.Proofs.Ytoamcdbemhbphaa
