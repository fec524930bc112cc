/-
  Links read: what is read, on plain lists; a link's parts stored into its box; what a reader answers.
  A link read: chain.Read. Written by gen_lkread.py.
  A link read, by the document: wapentakeref15.Read. Written by gen_lkread.py.
  Links compared by the document; two readers over the same bytes read a link, the program's and the document's.
-/
import Derived.Test.YtbclepdcngaonaaGreatDoorMA
import Derived.Test.YtbclepdcngaonaaGreatDoorED
import Derived.Test.YtbclepdcngaonaaGreatDoorBC
import Derived.Test.YtbclepdcngaonaaGreatDoorHB
import Derived.Test.YtbclepdcngaonaaGreatDoorBB
import Derived.Test.YtbclepdcngaonaaGreatDoorEI
import Derived.Test.YtbclepdcngaonaaGreatDoorCA
import Derived.Test.YtbclepdcngaonaaGreatDoorRD
namespace Go.Proofs.YtbclepdcngaonaaGreatDoor
open Go.RowKit Go.Maps Go.Sort

/-! ### What is read -/
def lk1 (l : List UInt8) (b : Bool) : List UInt8 × Bool := ctF (bkF l b).1 (bkF l b).2
def lkF (l : List UInt8) (b : Bool) : List UInt8 × Bool := crF (lk1 l b).1 (lk1 l b).2
def lkX (l : List UInt8) (b : Bool) : LkX := if (lkF l b).2 = true then zlk.x else ⟨bkX l b, ctR (bkF l b).1 (bkF l b).2, ctX (bkF l b).1 (bkF l b).2, crE (lk1 l b).1 (lk1 l b).2, crMs (lk1 l b).1 (lk1 l b).2⟩

/-! ### Stores into a link -/
section
variable {w : World} {g : Nat} {t : TypeId} {r ep : Int} {u v : Value}
set_option maxRecDepth 100000 in
theorem Box.lk_putb {b : BlkM} {bs : List Value} (hbs : bs.length = 99) (hb : Box w g t (lkL bs r u ep v).toArray) :
    ∃ w', (stBlk (.pointer (some ⟨g, 0, none⟩)) (.agg b.cells.toArray)).run Tryz.prog w = .ok () w' ∧ Box w' g t (lkL b.cells r u ep v).toArray ∧ w.grownBy w' (some g) := by
  refine ⟨w.setCells g 0 b.cells, ?_, Box.put_mid (pre := []) (post := [.int .i64 r, u, .int .i64 ep, v]) hb rfl (by rw [b.cells_len, hbs]), only_cells (g := g) _ 0 _⟩
  exact run_storeAt_mid (P := Tryz.prog) _ g 0 32 b.cells.toArray (fun j hj => by
    rw [List.size_toArray, b.cells_len] at hj
    rw [hb.cell, hb.free, Array.getElem?_eq_getElem (by rw [List.size_toArray, lkL_len hbs]; omega)]
    exact ⟨rfl, rfl⟩) (by rw [List.size_toArray]; exact b.size) (by have := all_oneCell_toArray b.cells_one; simpa using this)
set_option maxRecDepth 100000 in
theorem Box.lk_putc {bs : List Value} (hbs : bs.length = 99) (hb : Box w g t (lkL bs r u ep v).toArray) (r' : Int) (A : Option Addr) (n c : Nat) :
    ∃ w', (stCt (.pointer (some ⟨g, 99, none⟩)) (.agg (crtV r' A n c))).run Tryz.prog w = .ok () w' ∧ Box w' g t (lkL bs r' (.slice A n c) ep v).toArray ∧ w.grownBy w' (some g) := by
  refine ⟨w.setCells g 99 (crtV r' A n c : Array Value).toList, ?_, ?_, only_cells (g := g) _ 99 _⟩
  · exact run_storeAt_mid (P := Tryz.prog) _ g 99 35 (crtV r' A n c : Array Value) (fun j hj => by
      have hj4 : j < 2 := hj
      rw [hb.cell, hb.free, Array.getElem?_eq_getElem (by rw [List.size_toArray, lkL_len hbs]; omega)]
      exact ⟨rfl, rfl⟩) (ct_size r' A n c) (by have := all_oneCell_toArray (ct_one r' A n c); simpa using this)
  · exact Box.put_mid (pre := bs) (post := [.int .i64 ep, v]) (mid := [.int .i64 r, u]) hb hbs rfl
set_option maxRecDepth 100000 in
theorem Box.lk_putf {bs : List Value} (hbs : bs.length = 99) (hb : Box w g t (lkL bs r u ep v).toArray) (ep' : Int) (A : Option Addr) (n c : Nat) :
    ∃ w', (stCf (.pointer (some ⟨g, 101, none⟩)) (.agg (cfgV ep' A n c))).run Tryz.prog w = .ok () w' ∧ Box w' g t (lkL bs r u ep' (.slice A n c)).toArray ∧ w.grownBy w' (some g) := by
  refine ⟨w.setCells g 101 (cfgV ep' A n c : Array Value).toList, ?_, ?_, only_cells (g := g) _ 101 _⟩
  · exact run_storeAt_mid (P := Tryz.prog) _ g 101 24 (cfgV ep' A n c : Array Value) (fun j hj => by
      have hj4 : j < 2 := hj
      rw [hb.cell, hb.free, Array.getElem?_eq_getElem (by rw [List.size_toArray, lkL_len hbs]; omega)]
      exact ⟨rfl, rfl⟩) (cf_size ep' A n c) (by have := all_oneCell_toArray (cf_one ep' A n c); simpa using this)
  · have e : ∀ (x : Int) (y : Value), lkL bs r u x y = (bs ++ [.int .i64 r, u]) ++ ([.int .i64 x, y] ++ []) := fun x y => by
      unfold lkL
      simp
    rw [e] at hb ⊢
    exact Box.put_mid hb (by simp [hbs]) rfl
end
set_option maxRecDepth 100000 in
theorem ret_lk {fn : Func} {q : Tmp} (hf : fn.results = #[.cell q 37]) {a : Act} {w : World} {g : Nat} (hq : a.tmps.getD q undef = .pointer (some ⟨g, 0, none⟩)) (hdf : a.defers = []) {t : TypeId} {l : LkM} (hb : Box w g t l.cells.toArray)
    {R : Ending → World → Prop} (hR : R (.returned (.agg l.cells.toArray)) w) : bodyPost Tryz.prog fn R .ret a w :=
  bodyPost_ret (results_cell_row hf _ w g t _ (0, 0) _ hq hb Tryz.underlying37 rfl (by rw [List.size_toArray]; exact l.size)) hdf hR

/-! ### A link whose lists are its own -/
set_option maxRecDepth 100000 in
theorem own_aside15 {w w' : World} {B s n r : Nat} {e : TypeId} {v : Value} {xs : List Value} (ho : w.ownsRow B e s v n xs) (hg : w.grownBy w' (some r)) (hr : r < B) : w'.ownsRow B e s v n xs :=
  World.ownsRow.kept ho hg (.inr (fun e => by have := (ho.lt r e).1; omega))
set_option maxRecDepth 100000 in
theorem grown_trans15 {a b c : World} {row : Option Nat} (h : a.grownBy b row) (k : b.grownBy c row) : a.grownBy c row :=
  ⟨k.os.trans h.os, k.tape.trans h.tape, k.output.trans h.output, Nat.le_trans h.size k.size, fun i hi hr => (k.block i (Nat.lt_of_lt_of_le hi h.size) hr).trans (h.block i hi hr)⟩
structure LkOwn (w : World) (B : Nat) (l : LkM) : Prop where
  blk : QK.Own w B (.slice l.b.A l.b.x.reqs.length l.b.z) l.b.x.reqs
  vts : VtK.Own w B (.slice l.A l.vs.length l.c) l.vs
  bse : BSee w l.vs
  fre : ∀ m ∈ l.vs, FreshM B m
  mem : MK.Own w B (.slice l.M l.ms.length l.m) l.ms
set_option maxRecDepth 100000 in
theorem LkOwn.aside {w w' : World} {B r : Nat} {l : LkM} (h : LkOwn w B l) (hg : w.grownBy w' (some r)) (hr : r < B) : LkOwn w' B l :=
  ⟨own_aside15 h.blk hg hr, own_aside15 h.vts hg hr, fun m hm => (h.bse m hm).fresh14 (h.fre m hm) hg hr, h.fre, own_aside15 h.mem hg hr⟩
set_option maxRecDepth 100000 in
theorem LkOwn.low {w : World} {B B' : Nat} {l : LkM} (h : LkOwn w B l) (hb : B' ≤ B) : LkOwn w B' l := ⟨EK.Own.base h.blk hb, EK.Own.base h.vts hb, h.bse, fun m hm => (h.fre m hm).low14 hb, EK.Own.base h.mem hb⟩
set_option maxRecDepth 100000 in
theorem LkOwn.zero (w : World) (B : Nat) : LkOwn w B zlk := ⟨EK.own_nil _ _ _, EK.own_nil _ _ _, fun m hm => (by cases hm), fun m hm => (by cases hm), EK.own_nil _ _ _⟩
/-- What is seen of a link that was read. -/
structure LkLook (w : World) (l : LkM) : Prop where
  blk : QSee w w.heap.size l.b.A l.b.x.reqs
  vts : VtK.See w w.heap.size l.A l.vs
  bse : BSee w l.vs
  mem : Mems w w.heap.size l.M l.ms
set_option maxRecDepth 100000 in
theorem LkLook.call {w w' : World} {l : LkM} (h : LkLook w l) (hb : Below w.heap.size w w') : LkLook w' l := ⟨h.blk.far hb, EK.See.far h.vts hb, BSee.call h.bse hb, h.mem.far hb⟩
set_option maxRecDepth 100000 in
theorem LkOwn.look {w : World} {B : Nat} {l : LkM} (h : LkOwn w B l) : LkLook w l := ⟨EK.Own.see h.blk, EK.Own.see h.vts, h.bse, EK.Own.see h.mem⟩
set_option maxRecDepth 100000 in
theorem LkSee.look {w : World} {l : LkM} (h : LkSee w l) : LkLook w l := ⟨h.blk, h.vts, fun m hm => ⟨(h.sgs m hm).A, (h.sgs m hm).B, (h.sgs m hm).C⟩, h.mem⟩
/-- What a reader answers and leaves. -/
def LkIs (R : World → Nat → List UInt8 → Bool → Prop) (a : Nat) (X : LkX) (F : List UInt8 × Bool) (w : World) (e : Ending) (w' : World) : Prop :=
  ∃ l : LkM, l.x = X ∧ e = .returned (.agg l.cells.toArray) ∧ LkOwn w' w.heap.size l ∧ R w' a F.1 F.2 ∧ w.grownBy w' (some a)
end Go.Proofs.YtbclepdcngaonaaGreatDoor

namespace Go.Proofs.YtbclepdcngaonaaGreatDoor
open Go.RowKit Go.Maps Go.Sort

attribute [local go_sem ↓] stBlk_def stCt_def stCf_def ldLk_def stLk_def alLk_def bdLk_def
set_option maxRecDepth 100000 in
set_option maxHeartbeats 8000000 in
theorem lread_any15 (a : Nat) (l : List UInt8) (b : Bool) (w : World) (h : Rd w a l b) : Calls Tryz.prog 17 #[.pointer (some ⟨a, 0, none⟩)] w (LkIs Rd a (lkX l b) (lkF l b) w) := by
  have hok := rd_ok14
  obtain ⟨X0, hX0⟩ : ∃ X, bkX l b = X := ⟨_, rfl⟩
  obtain ⟨⟨l0, b0⟩, hF0⟩ : ∃ F, bkF l b = F := ⟨_, rfl⟩
  obtain ⟨r1, hr1⟩ : ∃ r, ctR l0 b0 = r := ⟨_, rfl⟩
  obtain ⟨X1, hX1⟩ : ∃ X, ctX l0 b0 = X := ⟨_, rfl⟩
  obtain ⟨⟨l1, b1⟩, hF1⟩ : ∃ F, ctF l0 b0 = F := ⟨_, rfl⟩
  obtain ⟨E2, hE2⟩ : ∃ r, crE l1 b1 = r := ⟨_, rfl⟩
  obtain ⟨M2, hM2⟩ : ∃ X, crMs l1 b1 = X := ⟨_, rfl⟩
  obtain ⟨⟨l2, b2⟩, hF2⟩ : ∃ F, crF l1 b1 = F := ⟨_, rfl⟩
  have hL1 : lk1 l b = (l1, b1) := by unfold lk1; rw [hF0]; exact hF1
  have HLF : Hid (lkF l b = (l2, b2)) := Lib.hid (by unfold lkF; rw [hL1]; exact hF2)
  have HLX : Hid (lkX l b = if b2 = true then zlk.x else ⟨X0, r1, X1, E2, M2⟩) := Lib.hid (by
    unfold lkX
    rw [HLF.out, hL1, hF0]
    show (if b2 = true then _ else LkX.mk (bkX l b) (ctR l0 b0) (ctX l0 b0) (crE l1 b1) (crMs l1 b1)) = _
    rw [hX0, hr1, hX1, hE2, hM2])
  have HA : Hid (a < w.heap.size) := Lib.hid (hok.lt h)
  obtain ⟨w1, hw1⟩ : ∃ w1, w1 = (w.alloc (.cells zlkV 37)).alloc (.cells zlkV 37) := ⟨_, rfl⟩
  have HO : Hid (Box w1 w.heap.size 37 zlkV) := by rw [hw1]; exact (Box.made w _ _).alloc _
  have HL : Hid (Box w1 (w.heap.size + 1) 37 (lkL zblkM.cells 0 (.slice none 0 0) 0 (.slice none 0 0)).toArray) := by rw [hw1]; exact Box.made_at (by simp) _ _
  have HF : Hid (Below w.heap.size w w1) := by rw [hw1]; exact ((Below.refl _ _).alloc (Nat.le_refl _) _).alloc (by simp) _
  have HSZ : Hid (w1.heap.size = w.heap.size + 2) := Lib.hid (by rw [hw1]; simp)
  have hr := hok.below h HF.out
  have hbk := blkread_any a l b w1 hr
  rw [hX0, hF0] at hbk
  have HBK := Lib.hid hbk
  have HCT : Hid (∀ w', Rd w' a l0 b0 → Calls Tryz.prog 40 #[.pointer (some ⟨a, 0, none⟩)] w' (CrtIs Rd a r1 X1 (l1, b1) w')) := Lib.hid (fun w' h => by
    have h2 := cread_any14 a l0 b0 w' h
    rw [hr1, hX1, hF1] at h2
    exact h2)
  have HCF : Hid (∀ w', Rd w' a l1 b1 → Calls Tryz.prog 41 #[.pointer (some ⟨a, 0, none⟩)] w' fun e w'' => ∃ A z, e = .returned (.agg (cfgV E2 A M2.length z)) ∧ MK.Own w'' w'.heap.size (.slice A M2.length z) M2 ∧ Rd w'' a l2 b2 ∧ w'.grownBy w'' (some a)) := Lib.hid (fun w' h => by
    have h2 := cfgread_any a l1 b1 w' h
    unfold CfgIs at h2
    rw [hE2, hM2, hF2] at h2
    exact h2)
  have HRX := Lib.hid (⟨HLX.out, HLF.out⟩ : _ ∧ _)
  have hal := al_lk
  have hbz := bd_lk0
  clear hok h hbk hX0 hF0 hr1 hX1 hF1 hE2 hM2 hF2 hL1 HLX HLF
  generalize lkX l b = XX at *
  generalize lkF l b = FF at *
  generalize hzz : zlkV = ZV at *
  have HZZ := Lib.hid hzz
  clear hzz
  go_enter Tryz.func17, Tryz.ntmps17
  go_upto_region 2 with fail
  change Code.wp _ _ _ _ ((w.alloc (.cells ZV 37)).alloc (.cells ZV 37))
  rw [← hw1]
  clear hw1 hr
  have HG1 : Hid (w.grownBy w1 (some a)) := Lib.hid (only_below HF.out (some a))
  have HK := Lib.hid rd_ok14
  go_upto_region 3 with (go_at_call 39; (with_reducible refine (HBK.out).mono ?_); rintro e w2 ⟨A2, z2, rfl, ho, hr, hg⟩; obtain ⟨w3, hst, hb3, hg3⟩ := Box.lk_putb (b := BlkM.mk X0 A2 z2) zblkM.cells_len (HL.out.grown hg (by intro e; injection e with e; have := HA.out; omega)); have HL3 := Lib.hid hb3; have HR3 := Lib.hid (HK.out.put hr hg3 (by have := HA.out; omega)); have HO3 := Lib.hid ((HO.out.grown hg (by intro e; injection e with e; have := HA.out; omega)).grown hg3 (by intro e; injection e with e; omega)); have HW3 : Hid (QK.Own w3 (w.heap.size + 2) (.slice A2 X0.reqs.length z2) X0.reqs) := Lib.hid (own_aside15 (EK.Own.base ho (by have := HSZ.out; omega)) hg3 (by omega)); have HG2 := Lib.hid (grown_trans15 HG1.out hg); have HG3 := Lib.hid (only_low14 HG2.out (below_only hg3 (by omega) HG2.out.size)); clear ho hr hg hb3 hg3)
  clear hst HBK HL HO HG1 HF HG2
  go_upto_region 4 with (go_at_call 40; (with_reducible refine (HCT.out w3 HR3.out).mono ?_); rintro e w4 ⟨A4, n4, c4, us, hus, rfl, ho, hse, hfr, hr, hg⟩; obtain rfl : n4 = us.length := (EK.Own.bounds ho).1; obtain ⟨w5, hst, hb5, hg5⟩ := Box.lk_putc (BlkM.mk X0 A2 z2).cells_len (HL3.out.grown hg (by intro e; injection e with e; have := HA.out; omega)) r1 A4 us.length c4; have HL5 := Lib.hid hb5; have HR5 := Lib.hid (HK.out.put hr hg5 (by have := HA.out; omega)); have HO5 := Lib.hid ((HO3.out.grown hg (by intro e; injection e with e; have := HA.out; omega)).grown hg5 (by intro e; injection e with e; omega)); have HW5 := Lib.hid (own_aside15 (own_aside15 HW3.out hg (by have := HA.out; omega)) hg5 (by omega)); have HG4 := Lib.hid (grown_trans15 HG3.out hg); have HSW : Hid (w.heap.size + 2 ≤ w3.heap.size) := Lib.hid (by have := HL3.out.lt; omega); have HV5 : Hid (VtK.Own w5 (w.heap.size + 2) (.slice A4 us.length c4) us) := Lib.hid (own_aside15 (EK.Own.base ho HSW.out) hg5 (by omega)); have HFR : Hid (∀ m ∈ us, FreshM (w.heap.size + 2) m) := Lib.hid (fun m hm => (hfr m hm).low14 HSW.out); have HSE : Hid (BSee w5 us) := Lib.hid (fun m hm => (hse m hm).fresh14 (HFR.out m hm) hg5 (by omega)); have HUS := Lib.hid hus; have HG5 := Lib.hid (only_low14 HG4.out (below_only hg5 (by omega) HG4.out.size)); clear ho hr hg hb5 hg5 hse hfr hus)
  clear hst HCT HL3 HO3 HW3 HG3 HG4 HR3
  go_upto_region 5 with (go_at_call 41; (with_reducible refine (HCF.out w5 HR5.out).mono ?_); rintro e w6 ⟨A6, z6, rfl, ho, hr, hg⟩; obtain ⟨w7, hst, hb7, hg7⟩ := Box.lk_putf (BlkM.mk X0 A2 z2).cells_len (HL5.out.grown hg (by intro e; injection e with e; have := HA.out; omega)) E2 A6 M2.length z6; have HL7 : Hid (Box w7 (w.heap.size + 1) 37 (LkM.mk (BlkM.mk X0 A2 z2) r1 us A4 c4 E2 M2 A6 z6).cells.toArray) := Lib.hid hb7; have HR7 := Lib.hid (HK.out.put hr hg7 (by have := HA.out; omega)); have HO7 := Lib.hid ((HO5.out.grown hg (by intro e; injection e with e; have := HA.out; omega)).grown hg7 (by intro e; injection e with e; omega)); have HG6 := Lib.hid (grown_trans15 HG5.out hg); have HSX : Hid (w.heap.size + 2 ≤ w5.heap.size) := Lib.hid (by have := HL5.out.lt; have := HSW.out; have := HG5.out.size; omega); have HOW : Hid (LkOwn w7 (w.heap.size + 2) (LkM.mk (BlkM.mk X0 A2 z2) r1 us A4 c4 E2 M2 A6 z6)) := Lib.hid ⟨own_aside15 (own_aside15 HW5.out hg (by have := HA.out; omega)) hg7 (by omega), own_aside15 (own_aside15 HV5.out hg (by have := HA.out; omega)) hg7 (by omega), fun m hm => (((HSE.out m hm).fresh14 (HFR.out m hm) hg (by have := HA.out; omega)).fresh14 (HFR.out m hm) hg7 (by omega)), HFR.out, own_aside15 (EK.Own.base ho HSX.out) hg7 (by omega)⟩; have HG7 := Lib.hid (only_low14 HG6.out (below_only hg7 (by omega) HG6.out.size)); clear ho hr hg hb7 hg7)
  clear hst HCF HL5 HO5 HW5 HG5 HG6 HR5 HV5 HSE
  have HGD := Lib.hid (good_any a l2 b2 w7 HR7.out)
  have HLE : Hid ((LkM.mk (BlkM.mk X0 A2 z2) r1 us A4 c4 E2 M2 A6 z6).x = ⟨X0, r1, X1, E2, M2⟩) := Lib.hid (by unfold LkM.x; rw [← HUS.out])
  obtain ⟨hx, hf⟩ := HRX.out
  subst hf
  cases b2 with
  | true =>
    have HXX : Hid (zlk.x = XX) := Lib.hid (by rw [hx]; rfl)
    obtain ⟨w9, hst, hb9, hg9⟩ := HO7.out.st_lk (by rw [← HZZ.out]; rfl) zlk
    rw [zlk_cells, HZZ.out] at hst
    have HB9 := Lib.hid hb9
    have HG9 := Lib.hid (only_low14 HG7.out (below_only hg9 (Nat.le_refl _) HG7.out.size))
    have HR9 := Lib.hid (HK.out.put HR7.out hg9 HA.out)
    clear hx HRX hb9 hg9
    go_wp2_with (go_at_call 19; (with_reducible refine (HGD.out).mono ?_); rintro e w8 ⟨rfl, rfl⟩)
    exact ret_lk rfl rfl rfl HB9.out ⟨zlk, HXX.out, rfl, LkOwn.zero _ _, HR9.out, HG9.out⟩
  | false =>
    have HXX := Lib.hid (HLE.out.trans hx.symm)
    clear hx HRX HLE HUS
    generalize LkM.mk (BlkM.mk X0 A2 z2) r1 us A4 c4 E2 M2 A6 z6 = L at *
    have ll := HL7.out.ld_lk
    obtain ⟨w9, hst, hb9, hg9⟩ := HO7.out.st_lk (by rw [← HZZ.out]; rfl) L
    have HB9 := Lib.hid hb9
    have HG9 := Lib.hid (only_low14 HG7.out (below_only hg9 (Nat.le_refl _) HG7.out.size))
    have HR9 := Lib.hid (HK.out.put HR7.out hg9 HA.out)
    have HO9 := Lib.hid ((HOW.out.aside hg9 (by omega)).low (show w.heap.size ≤ w.heap.size + 2 by omega))
    clear hb9 hg9
    go_wp2_with (go_at_call 19; (with_reducible refine (HGD.out).mono ?_); rintro e w8 ⟨rfl, rfl⟩)
    exact ret_lk rfl rfl rfl HB9.out ⟨L, HXX.out, rfl, HO9.out, HR9.out, HG9.out⟩
end Go.Proofs.YtbclepdcngaonaaGreatDoor

namespace Go.Proofs.YtbclepdcngaonaaGreatDoor
open Go.RowKit Go.Maps Go.Sort

attribute [local go_sem ↓] stBlk_def stCt_def stCf_def ldLk_def stLk_def alLk_def bdLk_def
set_option maxRecDepth 100000 in
set_option maxHeartbeats 8000000 in
theorem rlread_any15 (a : Nat) (l : List UInt8) (b : Bool) (w : World) (h : RRd w a l b) : Calls Tryz.prog 18 #[.pointer (some ⟨a, 0, none⟩)] w (LkIs RRd a (lkX l b) (lkF l b) w) := by
  have hok := rrd_ok14
  obtain ⟨X0, hX0⟩ : ∃ X, bkX l b = X := ⟨_, rfl⟩
  obtain ⟨⟨l0, b0⟩, hF0⟩ : ∃ F, bkF l b = F := ⟨_, rfl⟩
  obtain ⟨r1, hr1⟩ : ∃ r, ctR l0 b0 = r := ⟨_, rfl⟩
  obtain ⟨X1, hX1⟩ : ∃ X, ctX l0 b0 = X := ⟨_, rfl⟩
  obtain ⟨⟨l1, b1⟩, hF1⟩ : ∃ F, ctF l0 b0 = F := ⟨_, rfl⟩
  obtain ⟨E2, hE2⟩ : ∃ r, crE l1 b1 = r := ⟨_, rfl⟩
  obtain ⟨M2, hM2⟩ : ∃ X, crMs l1 b1 = X := ⟨_, rfl⟩
  obtain ⟨⟨l2, b2⟩, hF2⟩ : ∃ F, crF l1 b1 = F := ⟨_, rfl⟩
  have hL1 : lk1 l b = (l1, b1) := by unfold lk1; rw [hF0]; exact hF1
  have HLF : Hid (lkF l b = (l2, b2)) := Lib.hid (by unfold lkF; rw [hL1]; exact hF2)
  have HLX : Hid (lkX l b = if b2 = true then zlk.x else ⟨X0, r1, X1, E2, M2⟩) := Lib.hid (by
    unfold lkX
    rw [HLF.out, hL1, hF0]
    show (if b2 = true then _ else LkX.mk (bkX l b) (ctR l0 b0) (ctX l0 b0) (crE l1 b1) (crMs l1 b1)) = _
    rw [hX0, hr1, hX1, hE2, hM2])
  have HA : Hid (a < w.heap.size) := Lib.hid (hok.lt h)
  obtain ⟨w1, hw1⟩ : ∃ w1, w1 = (w.alloc (.cells zlkV 37)).alloc (.cells zlkV 37) := ⟨_, rfl⟩
  have HO : Hid (Box w1 w.heap.size 37 zlkV) := by rw [hw1]; exact (Box.made w _ _).alloc _
  have HL : Hid (Box w1 (w.heap.size + 1) 37 (lkL zblkM.cells 0 (.slice none 0 0) 0 (.slice none 0 0)).toArray) := by rw [hw1]; exact Box.made_at (by simp) _ _
  have HF : Hid (Below w.heap.size w w1) := by rw [hw1]; exact ((Below.refl _ _).alloc (Nat.le_refl _) _).alloc (by simp) _
  have HSZ : Hid (w1.heap.size = w.heap.size + 2) := Lib.hid (by rw [hw1]; simp)
  have hr := hok.below h HF.out
  have hbk := rblkread_any a l b w1 hr
  rw [hX0, hF0] at hbk
  have HBK := Lib.hid hbk
  have HCT : Hid (∀ w', RRd w' a l0 b0 → Calls Tryz.prog 43 #[.pointer (some ⟨a, 0, none⟩)] w' (CrtIs RRd a r1 X1 (l1, b1) w')) := Lib.hid (fun w' h => by
    have h2 := rcread_any14 a l0 b0 w' h
    rw [hr1, hX1, hF1] at h2
    exact h2)
  have HCF : Hid (∀ w', RRd w' a l1 b1 → Calls Tryz.prog 44 #[.pointer (some ⟨a, 0, none⟩)] w' fun e w'' => ∃ A z, e = .returned (.agg (cfgV E2 A M2.length z)) ∧ MK.Own w'' w'.heap.size (.slice A M2.length z) M2 ∧ RRd w'' a l2 b2 ∧ w'.grownBy w'' (some a)) := Lib.hid (fun w' h => by
    have h2 := rcfgread_any a l1 b1 w' h
    unfold CfgIs at h2
    rw [hE2, hM2, hF2] at h2
    exact h2)
  have HRX := Lib.hid (⟨HLX.out, HLF.out⟩ : _ ∧ _)
  have hal := al_lk
  have hbz := bd_lk0
  clear hok h hbk hX0 hF0 hr1 hX1 hF1 hE2 hM2 hF2 hL1 HLX HLF
  generalize lkX l b = XX at *
  generalize lkF l b = FF at *
  generalize hzz : zlkV = ZV at *
  have HZZ := Lib.hid hzz
  clear hzz
  go_enter Tryz.func18, Tryz.ntmps18
  go_upto_region 2 with fail
  change Code.wp _ _ _ _ ((w.alloc (.cells ZV 37)).alloc (.cells ZV 37))
  rw [← hw1]
  clear hw1 hr
  have HG1 : Hid (w.grownBy w1 (some a)) := Lib.hid (only_below HF.out (some a))
  have HK := Lib.hid rrd_ok14
  go_upto_region 3 with (go_at_call 42; (with_reducible refine (HBK.out).mono ?_); rintro e w2 ⟨A2, z2, rfl, ho, hr, hg⟩; obtain ⟨w3, hst, hb3, hg3⟩ := Box.lk_putb (b := BlkM.mk X0 A2 z2) zblkM.cells_len (HL.out.grown hg (by intro e; injection e with e; have := HA.out; omega)); have HL3 := Lib.hid hb3; have HR3 := Lib.hid (HK.out.put hr hg3 (by have := HA.out; omega)); have HO3 := Lib.hid ((HO.out.grown hg (by intro e; injection e with e; have := HA.out; omega)).grown hg3 (by intro e; injection e with e; omega)); have HW3 : Hid (QK.Own w3 (w.heap.size + 2) (.slice A2 X0.reqs.length z2) X0.reqs) := Lib.hid (own_aside15 (EK.Own.base ho (by have := HSZ.out; omega)) hg3 (by omega)); have HG2 := Lib.hid (grown_trans15 HG1.out hg); have HG3 := Lib.hid (only_low14 HG2.out (below_only hg3 (by omega) HG2.out.size)); clear ho hr hg hb3 hg3)
  clear hst HBK HL HO HG1 HF HG2
  go_upto_region 4 with (go_at_call 43; (with_reducible refine (HCT.out w3 HR3.out).mono ?_); rintro e w4 ⟨A4, n4, c4, us, hus, rfl, ho, hse, hfr, hr, hg⟩; obtain rfl : n4 = us.length := (EK.Own.bounds ho).1; obtain ⟨w5, hst, hb5, hg5⟩ := Box.lk_putc (BlkM.mk X0 A2 z2).cells_len (HL3.out.grown hg (by intro e; injection e with e; have := HA.out; omega)) r1 A4 us.length c4; have HL5 := Lib.hid hb5; have HR5 := Lib.hid (HK.out.put hr hg5 (by have := HA.out; omega)); have HO5 := Lib.hid ((HO3.out.grown hg (by intro e; injection e with e; have := HA.out; omega)).grown hg5 (by intro e; injection e with e; omega)); have HW5 := Lib.hid (own_aside15 (own_aside15 HW3.out hg (by have := HA.out; omega)) hg5 (by omega)); have HG4 := Lib.hid (grown_trans15 HG3.out hg); have HSW : Hid (w.heap.size + 2 ≤ w3.heap.size) := Lib.hid (by have := HL3.out.lt; omega); have HV5 : Hid (VtK.Own w5 (w.heap.size + 2) (.slice A4 us.length c4) us) := Lib.hid (own_aside15 (EK.Own.base ho HSW.out) hg5 (by omega)); have HFR : Hid (∀ m ∈ us, FreshM (w.heap.size + 2) m) := Lib.hid (fun m hm => (hfr m hm).low14 HSW.out); have HSE : Hid (BSee w5 us) := Lib.hid (fun m hm => (hse m hm).fresh14 (HFR.out m hm) hg5 (by omega)); have HUS := Lib.hid hus; have HG5 := Lib.hid (only_low14 HG4.out (below_only hg5 (by omega) HG4.out.size)); clear ho hr hg hb5 hg5 hse hfr hus)
  clear hst HCT HL3 HO3 HW3 HG3 HG4 HR3
  go_upto_region 5 with (go_at_call 44; (with_reducible refine (HCF.out w5 HR5.out).mono ?_); rintro e w6 ⟨A6, z6, rfl, ho, hr, hg⟩; obtain ⟨w7, hst, hb7, hg7⟩ := Box.lk_putf (BlkM.mk X0 A2 z2).cells_len (HL5.out.grown hg (by intro e; injection e with e; have := HA.out; omega)) E2 A6 M2.length z6; have HL7 : Hid (Box w7 (w.heap.size + 1) 37 (LkM.mk (BlkM.mk X0 A2 z2) r1 us A4 c4 E2 M2 A6 z6).cells.toArray) := Lib.hid hb7; have HR7 := Lib.hid (HK.out.put hr hg7 (by have := HA.out; omega)); have HO7 := Lib.hid ((HO5.out.grown hg (by intro e; injection e with e; have := HA.out; omega)).grown hg7 (by intro e; injection e with e; omega)); have HG6 := Lib.hid (grown_trans15 HG5.out hg); have HSX : Hid (w.heap.size + 2 ≤ w5.heap.size) := Lib.hid (by have := HL5.out.lt; have := HSW.out; have := HG5.out.size; omega); have HOW : Hid (LkOwn w7 (w.heap.size + 2) (LkM.mk (BlkM.mk X0 A2 z2) r1 us A4 c4 E2 M2 A6 z6)) := Lib.hid ⟨own_aside15 (own_aside15 HW5.out hg (by have := HA.out; omega)) hg7 (by omega), own_aside15 (own_aside15 HV5.out hg (by have := HA.out; omega)) hg7 (by omega), fun m hm => (((HSE.out m hm).fresh14 (HFR.out m hm) hg (by have := HA.out; omega)).fresh14 (HFR.out m hm) hg7 (by omega)), HFR.out, own_aside15 (EK.Own.base ho HSX.out) hg7 (by omega)⟩; have HG7 := Lib.hid (only_low14 HG6.out (below_only hg7 (by omega) HG6.out.size)); clear ho hr hg hb7 hg7)
  clear hst HCF HL5 HO5 HW5 HG5 HG6 HR5 HV5 HSE
  have HGD := Lib.hid (rgood_any a l2 b2 w7 HR7.out)
  have HLE : Hid ((LkM.mk (BlkM.mk X0 A2 z2) r1 us A4 c4 E2 M2 A6 z6).x = ⟨X0, r1, X1, E2, M2⟩) := Lib.hid (by unfold LkM.x; rw [← HUS.out])
  obtain ⟨hx, hf⟩ := HRX.out
  subst hf
  cases b2 with
  | true =>
    have HXX : Hid (zlk.x = XX) := Lib.hid (by rw [hx]; rfl)
    obtain ⟨w9, hst, hb9, hg9⟩ := HO7.out.st_lk (by rw [← HZZ.out]; rfl) zlk
    rw [zlk_cells, HZZ.out] at hst
    have HB9 := Lib.hid hb9
    have HG9 := Lib.hid (only_low14 HG7.out (below_only hg9 (Nat.le_refl _) HG7.out.size))
    have HR9 := Lib.hid (HK.out.put HR7.out hg9 HA.out)
    clear hx HRX hb9 hg9
    go_wp2_with (go_at_call 20; (with_reducible refine (HGD.out).mono ?_); rintro e w8 ⟨rfl, rfl⟩)
    exact ret_lk rfl rfl rfl HB9.out ⟨zlk, HXX.out, rfl, LkOwn.zero _ _, HR9.out, HG9.out⟩
  | false =>
    have HXX := Lib.hid (HLE.out.trans hx.symm)
    clear hx HRX HLE HUS
    generalize LkM.mk (BlkM.mk X0 A2 z2) r1 us A4 c4 E2 M2 A6 z6 = L at *
    have ll := HL7.out.ld_lk
    obtain ⟨w9, hst, hb9, hg9⟩ := HO7.out.st_lk (by rw [← HZZ.out]; rfl) L
    have HB9 := Lib.hid hb9
    have HG9 := Lib.hid (only_low14 HG7.out (below_only hg9 (Nat.le_refl _) HG7.out.size))
    have HR9 := Lib.hid (HK.out.put HR7.out hg9 HA.out)
    have HO9 := Lib.hid ((HOW.out.aside hg9 (by omega)).low (show w.heap.size ≤ w.heap.size + 2 by omega))
    clear hb9 hg9
    go_wp2_with (go_at_call 20; (with_reducible refine (HGD.out).mono ?_); rintro e w8 ⟨rfl, rfl⟩)
    exact ret_lk rfl rfl rfl HB9.out ⟨L, HXX.out, rfl, HO9.out, HR9.out, HG9.out⟩
end Go.Proofs.YtbclepdcngaonaaGreatDoor

namespace Go.Proofs.YtbclepdcngaonaaGreatDoor
open Go.RowKit Go.Maps Go.Sort

attribute [local go_sem ↓] ldBlk_def ldCt_def ldCf_def
set_option maxRecDepth 100000 in
set_option maxHeartbeats 4000000 in
theorem lsame_true15 (p q : LkM) (hx : q.x = p.x) (hb : p.b.x.reqs.length ≤ 1000000) (hf : ∀ m ∈ p.vs, VFew m.x) (hl : p.vs.length ≤ 1000000) (hm : p.ms.length ≤ maxLen) (w : World) (hp : LkLook w p) (hq : LkLook w q) :
    Calls Tryz.prog 16 #[.agg p.cells.toArray, .agg q.cells.toArray] w fun e w' => e = .returned (.bool true) ∧ Below w.heap.size w w' := by
  obtain ⟨w1, hw1⟩ : ∃ w1, w1 = (w.alloc (.cells p.cells.toArray 37)).alloc (.cells q.cells.toArray 37) := ⟨_, rfl⟩
  have hX : Box w1 w.heap.size 37 (lkL p.b.cells p.r (.slice p.A p.vs.length p.c) p.ep (.slice p.M p.ms.length p.m)).toArray := by rw [hw1]; exact (Box.made w _ _).alloc _
  have hY : Box w1 (w.heap.size + 1) 37 (lkL q.b.cells q.r (.slice q.A q.vs.length q.c) q.ep (.slice q.M q.ms.length q.m)).toArray := by rw [hw1]; exact Box.made_at (by simp) _ _
  have HF : Hid (Below w.heap.size w w1) := by rw [hw1]; exact ((Below.refl _ _).alloc (Nat.le_refl _) _).alloc (by simp) _
  have HC : Hid (∀ w', Below w1.heap.size w1 w' → ((ldBlk (.pointer (some ⟨w.heap.size, 0, none⟩))).run Tryz.prog w' = .ok (.agg p.b.cells.toArray) w' ∧ (ldCt (.pointer (some ⟨w.heap.size, 99, none⟩))).run Tryz.prog w' = .ok (.agg (crtV p.r p.A p.vs.length p.c)) w' ∧ (ldCf (.pointer (some ⟨w.heap.size, 101, none⟩))).run Tryz.prog w' = .ok (.agg (cfgV p.ep p.M p.ms.length p.m)) w') ∧
      (ldBlk (.pointer (some ⟨w.heap.size + 1, 0, none⟩))).run Tryz.prog w' = .ok (.agg q.b.cells.toArray) w' ∧ (ldCt (.pointer (some ⟨w.heap.size + 1, 99, none⟩))).run Tryz.prog w' = .ok (.agg (crtV q.r q.A q.vs.length q.c)) w' ∧ (ldCf (.pointer (some ⟨w.heap.size + 1, 101, none⟩))).run Tryz.prog w' = .ok (.agg (cfgV q.ep q.M q.ms.length q.m)) w') := Lib.hid (fun w' hb => by
    have hx := hX.below hb hX.lt
    have hy := hY.below hb hY.lt
    exact ⟨⟨hx.lk_blk, hx.lk_ct p.b.cells_len, hx.lk_cf p.b.cells_len⟩, hy.lk_blk, hy.lk_ct q.b.cells_len, hy.lk_cf q.b.cells_len⟩)
  have HP := Lib.hid (hp.call HF.out)
  have HQ := Lib.hid (hq.call HF.out)
  have x0 : q.b.x = p.b.x := congrArg LkX.b hx
  have x1 : q.r = p.r := congrArg LkX.r hx
  have x2 : q.vs.map VtM.x = p.vs.map VtM.x := congrArg LkX.vs hx
  have x3 : q.ep = p.ep := congrArg LkX.ep hx
  have x4 : q.ms = p.ms := congrArg LkX.ms hx
  have HS0 : Hid (∀ w', Below w1.heap.size w1 w' → Calls Tryz.prog 37 #[.agg p.b.cells.toArray, .agg q.b.cells.toArray] w' fun e w'' => e = .returned (.bool true) ∧ Below w'.heap.size w' w'') := Lib.hid (fun w' h => by
    have h1 := same_any12 p.b q.b hb w' (HP.out.call h).blk (HQ.out.call h).blk
    rw [decide_eq_true x0.symm] at h1
    exact h1)
  have HS1 : Hid (∀ w', Below w1.heap.size w1 w' → Calls Tryz.prog 38 #[.agg (crtV p.r p.A p.vs.length p.c), .agg (crtV q.r q.A q.vs.length q.c)] w' fun e w'' => e = .returned (.bool true) ∧ Below w'.heap.size w' w'') := Lib.hid (fun w' h => by
    rw [x1]
    exact csame_true14 p.r p.vs q.vs p.A q.A p.c q.c x2 hf hl w' (HP.out.call h).vts (HQ.out.call h).vts (HP.out.call h).bse (HQ.out.call h).bse)
  have HS2 : Hid (∀ w', Below w1.heap.size w1 w' → Calls Tryz.prog 11 #[.agg (cfgV p.ep p.M p.ms.length p.m), .agg (cfgV q.ep q.M q.ms.length q.m)] w' fun e w'' => e = .returned (.bool true) ∧ Below w'.heap.size w' w'') := Lib.hid (fun w' h => by
    have h1 := same_any8 p.ep p.ms p.M p.m q.ep q.ms q.M q.m hm (by rw [x4]; exact hm) w' (HP.out.call h).mem (HQ.out.call h).mem
    have e : sameB p.ep p.ms q.ep q.ms = true := by unfold sameB; rw [x3, x4]; simp
    rw [e] at h1
    exact h1)
  clear hX hY hx hb hf hl hm hp hq HP HQ x0 x1 x2 x3 x4
  generalize p.cells.toArray = PC at *
  generalize q.cells.toArray = QC at *
  generalize p.b.cells.toArray = B0 at *
  generalize q.b.cells.toArray = B1 at *
  generalize crtV p.r p.A p.vs.length p.c = C0 at *
  generalize crtV q.r q.A q.vs.length q.c = C1 at *
  generalize cfgV p.ep p.M p.ms.length p.m = D0 at *
  generalize cfgV q.ep q.M q.ms.length q.m = D1 at *
  go_enter Tryz.func16, Tryz.ntmps16
  go_upto_region 1 with fail
  change Code.wp _ _ _ _ ((w.alloc (.cells PC 37)).alloc (.cells QC 37))
  rw [← hw1]
  clear hw1
  obtain ⟨⟨k0, _, _⟩, k3, _, _⟩ := HC.out w1 (Below.refl _ _)
  have HT0 := Lib.hid (HS0.out w1 (Below.refl _ _))
  go_wp2_with (first
    | (go_at_call 37; (with_reducible refine (HT0.out).mono ?_); rintro e w2 ⟨rfl, hb⟩; have HB2 := Lib.hid hb; obtain ⟨⟨_, j1, _⟩, _, j4, _⟩ := HC.out w2 hb; have HT1 := Lib.hid (HS1.out w2 hb); clear hb)
    | (go_at_call 38; (with_reducible refine (HT1.out).mono ?_); rintro e w3 ⟨rfl, hb⟩; have HB3 := Lib.hid (HB2.out.trans (hb.mono HB2.out.size)); obtain ⟨⟨_, _, i2⟩, _, _, i5⟩ := HC.out w3 HB3.out; have HT2 := Lib.hid (HS2.out w3 HB3.out); clear hb)
    | (go_at_call 11; (with_reducible refine (HT2.out).mono ?_); rintro e w4 ⟨rfl, hb⟩; have HB4 := Lib.hid (HB3.out.trans (hb.mono HB3.out.size)); clear hb))
  go_ret
  exact ⟨rfl, HF.out.trans (HB4.out.mono HF.out.size)⟩

set_option maxRecDepth 100000 in
/-- What the program's Read leaves and answers, and then the document's. -/
theorem two_lk15 (w7 : World) (a m : Nat) (l : List UInt8) (w : World) (h : TwX w7 a m l w) (X : LkX) (F : List UInt8 × Bool) (hX : lkX l false = X) (hF : lkF l false = F) :
    Calls Tryz.prog 17 #[.pointer (some ⟨a, 0, none⟩)] w fun e w' => ∃ p : LkM, p.x = X ∧ e = .returned (.agg p.cells.toArray) ∧
      Calls Tryz.prog 18 #[.pointer (some ⟨m, 0, none⟩)] w' fun e w'' => ∃ q : LkM, q.x = X ∧ e = .returned (.agg q.cells.toArray) ∧ Rd w'' a F.1 F.2 ∧ RRd w'' m F.1 F.2 ∧ LkLook w'' p ∧ LkLook w'' q ∧ Below w7.heap.size w7 w'' := by
  have h1 := lread_any15 a l false w h.rd
  rw [hX, hF] at h1
  refine h1.mono fun e w' ⟨p, hp, he, ho, hr, hg⟩ => ⟨p, hp, he, ?_⟩
  have h2 : RRd w' m l false := h.rr.other hg (fun e => h.ne e.symm)
  have h3 := rlread_any15 m l false w' h2
  rw [hX, hF] at h3
  refine h3.mono fun e w'' ⟨q, hq, he', ho', hr2, hg2⟩ => ?_
  have hm := Box.lt h.rr
  have hb1 := h.far.trans (below_only hg h.ha h.far.size)
  exact ⟨q, hq, he', hr.past9 h2 h.ne hg2, hr2, (ho.aside hg2 hm).look, ho'.look, hb1.trans (below_only hg2 h.hm hb1.size)⟩
end Go.Proofs.YtbclepdcngaonaaGreatDoor
