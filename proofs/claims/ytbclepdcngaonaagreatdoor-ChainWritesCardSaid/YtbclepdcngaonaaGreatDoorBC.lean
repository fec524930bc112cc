/-
  What the walks over a reading of blocks carry: facts on names; a block that is filled while a reader is turned.
  A block is read: block.Read. Written by gen_blread.py.
  A block is read, by the document: wapentakeref12.Read. Written by gen_blread.py.
  Two readers over the same bytes read a block, the program's and the document's; what few bytes give.
-/
import Derived.Test.YtbclepdcngaonaaGreatDoorBA
import Derived.Test.YtbclepdcngaonaaGreatDoorNB
import Derived.Test.YtbclepdcngaonaaGreatDoorRB
import Derived.Test.YtbclepdcngaonaaGreatDoorRD
import Derived.Test.YtbclepdcngaonaaGreatDoorBB
namespace Go.Proofs.YtbclepdcngaonaaGreatDoor
open Go.RowKit

/-! ### What is read, as facts on names -/
structure BkFacts (l : List UInt8) (b : Bool) (X : BlkX) (r0 r1 : Int × List UInt8 × Bool) (r2 r3 r4 : List UInt8 × List UInt8 × Bool) (r5 : Int × List UInt8 × Bool) (N : Nat) (F : List UInt8 × Bool) (S : Nat → List UInt8 × Bool) (T : Nat → List ReqX) : Prop where
  good : F.2 = false → X.epoch = r0.1 ∧ X.height = r1.1 ∧ X.prev = r2.1 ∧ X.state = r3.1 ∧ X.next = r4.1 ∧ X.reqs = T N
  bad : F.2 = true → X = zblk
  fin : F = S N
  n1 : r5.1 = (N : Int)
  n2 : N ≤ 8
  e0 : inV 0 1073741824 l b = r0
  e1 : inV 1 1024 r0.2.1 r0.2.2 = r1
  e2 : dgV r1.2.1 r1.2.2 = r2
  e3 : dgV r2.2.1 r2.2.2 = r3
  e4 : dgV r3.2.1 r3.2.2 = r4
  e5 : inV 0 8 r4.2.1 r4.2.2 = r5
  l2 : r2.1.length = 32
  l3 : r3.1.length = 32
  l4 : r4.1.length = 32
  s0 : S 0 = r5.2
  t0 : T 0 = []
  len : ∀ k, (T k).length = k
  step : ∀ k, ∃ (q : ReqX) (s : List UInt8 × Bool), rqX (S k).1 (S k).2 = q ∧ rqF (S k).1 (S k).2 = s ∧ T (k + 1) = T k ++ [q] ∧ S (k + 1) = s
  stop : ∀ k, k ≤ N → (S k).2 = true → S k = F

set_option maxRecDepth 100000 in
theorem tk_left12 {n : Nat} {l : List UInt8} {b : Bool} (h : (tk n l b).2.2 = true) : (tk n l b).2.1 = [] := by
  unfold tk at h ⊢
  by_cases hc : b = false ∧ n ≤ l.length
  · rw [if_pos hc] at h
    cases h
  · rw [if_neg hc]
set_option maxRecDepth 100000 in
theorem dgV_left {l : List UInt8} {b : Bool} (h : (dgV l b).2.2 = true) : (dgV l b).2.1 = [] := tk_left12 h
set_option maxRecDepth 100000 in
theorem rc4_left {l : List UInt8} {b : Bool} (h : (rc4 l b).2.2 = true) : (rc4 l b).2.1 = [] := by
  rw [← rc4_eq] at h ⊢
  exact dgV_left h
set_option maxRecDepth 100000 in
theorem rqF_left {l : List UInt8} {b : Bool} (h : (rqF l b).2 = true) : rqF l b = ([], true) := by
  rw [rqF_of] at h ⊢
  exact Prod.ext (rc4_left h) h
set_option maxRecDepth 100000 in
theorem qsS_left {l : List UInt8} {b : Bool} (hl : b = true → l = []) : ∀ k, (qsS k l b).2 = true → qsS k l b = ([], true)
  | 0, h => by
    rw [qsS_nil] at h ⊢
    have hb : b = true := h
    rw [hl hb, hb]
  | k + 1, h => by
    rw [qsS_succ] at h ⊢
    exact rqF_left h
set_option maxRecDepth 100000 in
theorem qsS_past {k m : Nat} (hkm : k ≤ m) {l : List UInt8} {b : Bool} (h : qsS k l b = ([], true)) : qsS m l b = ([], true) := by
  obtain ⟨j, rfl⟩ : ∃ j, m = k + j := ⟨m - k, by omega⟩
  rw [qsS_add, h]
  exact qsS_bad j
set_option maxRecDepth 100000 in
theorem blk_parts {X : BlkX} {e h : Int} {p s n : List UInt8} {q : List ReqX} {lp : p.length = 32} {ls : s.length = 32} {ln : n.length = 32} (hx : X = ⟨e, h, p, s, n, q, lp, ls, ln⟩) : X.epoch = e ∧ X.height = h ∧ X.prev = p ∧ X.state = s ∧ X.next = n ∧ X.reqs = q := by
  subst hx
  exact ⟨rfl, rfl, rfl, rfl, rfl, rfl⟩
set_option maxRecDepth 100000 in
theorem bk_facts' {l : List UInt8} {b : Bool} {X : BlkX} {r0 r1 : Int × List UInt8 × Bool} {r2 r3 r4 : List UInt8 × List UInt8 × Bool} {r5 : Int × List UInt8 × Bool} {N : Nat} {F : List UInt8 × Bool} {t : List UInt8} {c : Bool} (ht : t = r5.2.1) (hc : c = r5.2.2)
    (hg : F.2 = false → X.epoch = r0.1 ∧ X.height = r1.1 ∧ X.prev = r2.1 ∧ X.state = r3.1 ∧ X.next = r4.1 ∧ X.reqs = qsT N t c) (hx : F.2 = true → X = zblk) (hf : F = qsS N t c) (hN : r5.1 = (N : Int) ∧ N ≤ 8) (hl : r5.2.2 = true → r5.2.1 = [])
    (e0 : inV 0 1073741824 l b = r0) (e1 : inV 1 1024 r0.2.1 r0.2.2 = r1) (e2 : dgV r1.2.1 r1.2.2 = r2) (e3 : dgV r2.2.1 r2.2.2 = r3) (e4 : dgV r3.2.1 r3.2.2 = r4) (e5 : inV 0 8 r4.2.1 r4.2.2 = r5) (l2 : r2.1.length = 32) (l3 : r3.1.length = 32) (l4 : r4.1.length = 32) :
    BkFacts l b X r0 r1 r2 r3 r4 r5 N F (fun k => qsS k t c) (fun k => qsT k t c) := by
  subst ht hc
  have hs : qsS 0 r5.2.1 r5.2.2 = r5.2 := qsS_zero _
  refine ⟨hg, hx, hf, hN.1, hN.2, e0, e1, e2, e3, e4, e5, l2, l3, l4, hs, qsT_zero _ _, fun k => qsT_len k _ _, fun k => ⟨_, _, rfl, rfl, qsT_succ k _ _, qsS_succ k _ _⟩, fun k hk h => ?_⟩
  have h1 := qsS_left hl k h
  have h2 := qsS_past hk h1
  show qsS k r5.2.1 r5.2.2 = F
  rw [h1, hf, h2]
set_option maxRecDepth 100000 in
theorem bk_facts (l : List UInt8) (b : Bool) : ∃ (r0 r1 : Int × List UInt8 × Bool) (r2 r3 r4 : List UInt8 × List UInt8 × Bool) (r5 : Int × List UInt8 × Bool) (N : Nat) (S : Nat → List UInt8 × Bool) (T : Nat → List ReqX), BkFacts l b (bkX l b) r0 r1 r2 r3 r4 r5 N (bkF l b) S T :=
  ⟨bk0 l b, bk1 l b, bk2 l b, bk3 l b, bk4 l b, bk5 l b, bkN l b, _, _, bk_facts' (t := (bk5 l b).2.1) (c := (bk5 l b).2.2) rfl rfl
    (fun h => blk_parts (bkX_good h (bk2_len _ _) (bk3_len _ _) (bk4_len _ _))) bkX_bad (bkF_eq l b) (bk5_in l b) (fun h => by rw [← bk5_eq] at h ⊢; exact inV_left _ _ _ _ h)
    (bk0_eq l b) (bk1_eq l b) (bk2_eq l b) (bk3_eq l b) (bk4_eq l b) (bk5_eq l b) (bk2_len l b) (bk3_len l b) (bk4_len l b)⟩

/-! ### Readers of both kinds -/
structure RdOk12 (R : World → Nat → List UInt8 → Bool → Prop) : Prop where
  below : ∀ {w w' : World} {a : Nat} {l : List UInt8} {b : Bool}, R w a l b → Below w.heap.size w w' → R w' a l b
  put : ∀ {w w' : World} {a g : Nat} {l : List UInt8} {b : Bool}, R w a l b → w.grownBy w' (some g) → a < g → R w' a l b
  lt : ∀ {w : World} {a : Nat} {l : List UInt8} {b : Bool}, R w a l b → a < w.heap.size
set_option maxRecDepth 100000 in
theorem RdOk12.own {R : World → Nat → List UInt8 → Bool → Prop} (hR : RdOk12 R) {w w' : World} {a B s n : Nat} {e : TypeId} {v : Value} {xs : List Value} {l : List UInt8} {b : Bool} (h : R w a l b) (ho : w.ownsRow B e s v n xs) (hg : w.grownBy w' v.ownBlock) (ha : a < B) : R w' a l b := by
  cases e : v.ownBlock with
  | none =>
    rw [e] at hg
    exact hR.below h ⟨hg.os, hg.tape, hg.output, hg.size, fun i hi => hg.block i hi (by simp)⟩
  | some q =>
    have h1 := (ho.lt q e).1
    rw [e] at hg
    exact hR.put h hg (by omega)
set_option maxRecDepth 100000 in
theorem rd_ok12 : RdOk12 Rd := ⟨fun h hb => h.below hb h.lt, fun h hg hl => h.only hg hl, fun h => h.lt⟩
set_option maxRecDepth 100000 in
theorem rrd_ok12 : RdOk12 RRd := ⟨fun h hb => Box.below h hb (Box.lt h), fun h hg hl => Box.grown h hg (fun e => by injection e with e; omega), fun h => Box.lt h⟩

/-- What is carried of memory: the result's block, the one that is filled, the reader, the row. -/
structure BW (R : World → Nat → List UInt8 → Bool → Prop) (w0 : World) (a r b : Nat) (e h : Int) (p s n : List UInt8) (v : Value) (L : List ReqX) (t : List UInt8 × Bool) (w : World) : Prop where
  out : Box w r 32 zblkV
  box : Box w b 32 (bkL e h p s n v).toArray
  rd : R w a t.1 t.2
  own : QK.Own w w0.heap.size v L
  far : w0.grownBy w (some a)
  ha : a < w0.heap.size
  hr : w0.heap.size ≤ r
  hb : w0.heap.size ≤ b
  ne : r ≠ b
  lp : p.length = 32
  ls : s.length = 32
  ln : n.length = 32
section
variable {R : World → Nat → List UInt8 → Bool → Prop} {w0 w w' : World} {a r b : Nat} {e h : Int} {p s n : List UInt8} {v : Value} {L : List ReqX} {t t' : List UInt8 × Bool}
set_option maxRecDepth 100000 in
theorem BW.start (hR : RdOk12 R) (l : List UInt8) (c : Bool) (hr : R w a l c) :
    BW R w a w.heap.size (w.heap.size + 1) 0 0 zeros zeros zeros (.slice none 0 0) [] (l, c) ((w.alloc (.cells zblkV 32)).alloc (.cells zblkV 32)) :=
  have hb : Below w.heap.size w ((w.alloc (.cells zblkV 32)).alloc (.cells zblkV 32)) := ((Below.refl _ _).alloc (Nat.le_refl _) _).alloc (by simp) _
  ⟨(Box.made _ _ _).alloc _, Box.made_at (by simp) _ _, hR.below hr hb, QK.own_nil _ _, only_below hb _, hR.lt hr, Nat.le_refl _, by omega, by omega, zeros_len12, zeros_len12, zeros_len12⟩
set_option maxRecDepth 100000 in
theorem BW.turn (hw : BW R w0 a r b e h p s n v L t w) (hg : w.grownBy w' (some a)) (hr : R w' a t'.1 t'.2) : BW R w0 a r b e h p s n v L t' w' :=
  ⟨hw.out.grown hg (by have := hw.ha; have := hw.hr; intro e; cases e; omega), hw.box.grown hg (by have := hw.ha; have := hw.hb; intro e; cases e; omega), hr,
    World.ownsRow.kept hw.own hg (.inr (fun e => by have := (hw.own.lt a e).1; have := hw.ha; omega)), only_trans hw.far hg, hw.ha, hw.hr, hw.hb, hw.ne, hw.lp, hw.ls, hw.ln⟩
set_option maxRecDepth 100000 in
theorem BW.call (hw : BW R w0 a r b e h p s n v L t w) (hR : RdOk12 R) (hb : Below w.heap.size w w') : BW R w0 a r b e h p s n v L t w' :=
  ⟨hw.out.below hb hw.out.lt, hw.box.below hb hw.box.lt, hR.below hw.rd hb, World.ownsRow.kept hw.own (only_below hb none) (by cases v.ownBlock <;> simp), only_trans hw.far (only_below hb (some a)), hw.ha, hw.hr, hw.hb, hw.ne, hw.lp, hw.ls, hw.ln⟩
set_option maxRecDepth 100000 in
theorem BW.put {e' h' : Int} {p' s' n' : List UInt8} (hw : BW R w0 a r b e h p s n v L t w) (hR : RdOk12 R) (hb : Box w' b 32 (bkL e' h' p' s' n' v).toArray) (hg : w.grownBy w' (some b)) (lp : p'.length = 32) (ls : s'.length = 32) (ln : n'.length = 32) : BW R w0 a r b e' h' p' s' n' v L t w' :=
  ⟨hw.out.grown hg (by intro e; cases e; exact hw.ne rfl), hb, hR.put hw.rd hg (by have := hw.ha; have := hw.hb; omega), World.ownsRow.kept hw.own hg (.inr (Box.own_ne hw.box hw.own (by decide))), only_new hw.far hg hw.hb, hw.ha, hw.hr, hw.hb, hw.ne, lp, ls, ln⟩
set_option maxRecDepth 100000 in
theorem BW.push {q : Nat} {x : ReqX} (hw : BW R w0 a r b e h p s n v L t w) (hR : RdOk12 R) (hq : QK.See w w.heap.size (some ⟨q, 0, none⟩) [x]) (hl : L.length ≤ 1000) :
    ∃ A m c w', (apAll #[30, 30] 30 #[v, .slice (some ⟨q, 0, none⟩) 1 1]).run Tryz.prog w = .ok (.slice A m c) w' ∧ w'.cell? ⟨b, 98, none⟩ = some v ∧ w'.frozen? ⟨b, 98, none⟩ = false ∧
      BW R w0 a r b e h p s n (.slice A m c) (L ++ [x]) t (w'.setCell ⟨b, 98, none⟩ (.slice A m c)) := by
  obtain ⟨v', w', hr, ho, hg⟩ := QK.append (m := 1) (c := 1) hw.own rfl hq (by omega) (by show (L.length + 1) * 136 ≤ _; omega) hw.far.size
  obtain ⟨A, c, rfl⟩ := ho.slice
  have hout : Box w' r 32 zblkV := box_own hw.out hw.own (by decide) hg
  have hbx : Box w' b 32 (bkL e h p s n v).toArray := box_own hw.box hw.own (by decide) hg
  have hrd : R w' a t.1 t.2 := hR.own hw.rd hw.own hg hw.ha
  have hfar : w0.grownBy w' (some a) := by
    have hbel := below_own hw.own hg hw.far.size
    exact ⟨hbel.os.trans hw.far.os, hbel.tape.trans hw.far.tape, hbel.output.trans hw.far.output, Nat.le_trans hw.far.size hbel.size, fun i hi hn => (hbel.block i hi).trans (hw.far.block i hi hn)⟩
  have hp : w'.grownBy (w'.setCell ⟨b, 98, none⟩ (.slice A (L ++ [x]).length c)) (some b) := only_put (only_refl _ _) 98 _
  have hb := hw.hb
  have ha := hw.ha
  exact ⟨A, _, c, w', hr, hbx.bk_98 hw.lp hw.ls hw.ln, hbx.free 98, hout.grown hp (fun e => by injection e with e; exact hw.ne e), hbx.bk_putv hw.lp hw.ls hw.ln _, hR.put hrd hp (by omega),
    World.ownsRow.kept ho hp (.inr (Box.own_ne hbx ho (by decide))), only_new hfar hp hb, ha, hw.hr, hb, hw.ne, hw.lp, hw.ls, hw.ln⟩
end

/-- What a reading of a block answers, and leaves. -/
def BlkIs (R : World → Nat → List UInt8 → Bool → Prop) (a : Nat) (X : BlkX) (F : List UInt8 × Bool) (w : World) (e : Ending) (w' : World) : Prop :=
  ∃ A z, e = .returned (.agg (BlkM.mk X A z).cells.toArray) ∧ QK.Own w' w.heap.size (.slice A X.reqs.length z) X.reqs ∧ R w' a F.1 F.2 ∧ w.grownBy w' (some a)
end Go.Proofs.YtbclepdcngaonaaGreatDoor

namespace Go.Proofs.YtbclepdcngaonaaGreatDoor
open Go.RowKit

attribute [local go_sem ↓] ldReq_def stReq_def ldBlk_def stBlk_def bdBlk_def ldDigest_def stDigest_def bsT_def apAll_def
set_option maxRecDepth 100000 in
set_option maxHeartbeats 4000000 in
theorem blkread_gen (a : Nat) (l : List UInt8) (b : Bool) (w : World) (h : Rd w a l b) {X : BlkX} {r0 r1 : Int × List UInt8 × Bool} {r2 r3 r4 : List UInt8 × List UInt8 × Bool} {r5 : Int × List UInt8 × Bool} {N : Nat} {F : List UInt8 × Bool} {S : Nat → List UInt8 × Bool} {T : Nat → List ReqX} (hf : BkFacts l b X r0 r1 r2 r3 r4 r5 N F S T) :
    Calls Tryz.prog 39 #[.pointer (some ⟨a, 0, none⟩)] w (BlkIs Rd a X F w) := by
  have HG := Lib.hid hf.good
  have HX := Lib.hid hf.bad
  have HF := Lib.hid hf.fin
  have HN2 := Lib.hid hf.n2
  have HN1 := Lib.hid hf.n1
  have L2 := Lib.hid hf.l2
  have L3 := Lib.hid hf.l3
  have L4 := Lib.hid hf.l4
  have HFC := Lib.hid hf
  have HW1 := Lib.hid (BW.start rd_ok12 l b h)
  have HIN : Hid (∀ w' (lo hi : Int) e h p s n v L (t : List UInt8 × Bool) (r : Int × List UInt8 × Bool), inV lo hi t.1 t.2 = r → BW Rd w a w.heap.size (w.heap.size + 1) e h p s n v L t w' → Calls Tryz.prog 71 #[.pointer (some ⟨a, 0, none⟩), .int .i64 lo, .int .i64 hi] w' fun e' w'' => e' = .returned (.int .i64 r.1) ∧ BW Rd w a w.heap.size (w.heap.size + 1) e h p s n v L r.2 w'') :=
    Lib.hid (fun w' lo hi e h p s n v L t r hr hw => by subst hr; exact (in_any a lo hi t.1 t.2 w' hw.rd).mono fun e' w'' ⟨he, hr, hg⟩ => ⟨he, hw.turn hg hr⟩)
  have HDG : Hid (∀ w' e h p s n v L (t : List UInt8 × Bool) (r : List UInt8 × List UInt8 × Bool), dgV t.1 t.2 = r → BW Rd w a w.heap.size (w.heap.size + 1) e h p s n v L t w' → Calls Tryz.prog 72 #[.pointer (some ⟨a, 0, none⟩)] w' fun e' w'' => e' = .returned (.agg (r.1.map bv).toArray) ∧ BW Rd w a w.heap.size (w.heap.size + 1) e h p s n v L r.2 w'') :=
    Lib.hid (fun w' e h p s n v L t r hr hw => by subst hr; exact (digest_any a t.1 t.2 w' hw.rd).mono fun e' w'' ⟨he, hr, hg⟩ => ⟨he, hw.turn hg hr⟩)
  have HGD : Hid (∀ w' e h p s n v L (t : List UInt8 × Bool), BW Rd w a w.heap.size (w.heap.size + 1) e h p s n v L t w' → Calls Tryz.prog 19 #[.pointer (some ⟨a, 0, none⟩)] w' fun e' w'' => e' = .returned (.bool !t.2) ∧ w' = w'') := Lib.hid (fun w' e h p s n v L t hw => good_any a t.1 t.2 w' hw.rd)
  have HRQ : Hid (∀ w' e h p s n v L (t : List UInt8 × Bool) (q : ReqX) (t' : List UInt8 × Bool), rqX t.1 t.2 = q → rqF t.1 t.2 = t' → BW Rd w a w.heap.size (w.heap.size + 1) e h p s n v L t w' → Calls Tryz.prog 73 #[.pointer (some ⟨a, 0, none⟩)] w' fun e' w'' => e' = .returned (.agg q.cells.toArray) ∧ BW Rd w a w.heap.size (w.heap.size + 1) e h p s n v L t' w'') :=
    Lib.hid (fun w' e h p s n v L t q t' hq ht hw => by subst hq ht; exact (read_any9 a t.1 t.2 w' hw.rd).mono fun e' w'' ⟨he, hr, hg⟩ => ⟨he, hw.turn hg hr⟩)
  have E0 := Lib.hid hf.e0
  have E1 := Lib.hid hf.e1
  have E2 := Lib.hid hf.e2
  have E3 := Lib.hid hf.e3
  have E4 := Lib.hid hf.e4
  have E5 := Lib.hid hf.e5
  have hzv := zero_blk
  clear h hf
  go_enter Tryz.func39, Tryz.ntmps39
  go_upto_region 2 with fail
  change Code.wp _ _ _ _ ((w.alloc (.cells zblkV 32)).alloc (.cells zblkV 32))
  generalize (w.alloc (.cells zblkV 32)).alloc (.cells zblkV 32) = w1 at *
  clear hzv
  have HC := Lib.hid (HIN.out w1 0 1073741824 _ _ _ _ _ _ _ _ r0 E0.out HW1.out)
  go_upto_region 3 with (go_at_call 71; (with_reducible refine (HC.out).mono ?_); rintro e w2 ⟨rfl, hw⟩; have m0 : w2.cell? ⟨w.heap.size + 1, 0, none⟩ = some (.int .i64 0) := hw.box.bk_0; have f0 := hw.box.free 0; have HW2 := Lib.hid hw; clear hw)
  have HW3 : Hid (BW Rd w a w.heap.size (w.heap.size + 1) r0.1 0 zeros zeros zeros (.slice none 0 0) [] r0.2 (w2.setCell ⟨w.heap.size + 1, 0, none⟩ (.int .i64 r0.1))) := Lib.hid (HW2.out.put rd_ok12 (HW2.out.box.bk_pute _) (only_put (only_refl _ _) _ _) HW2.out.lp HW2.out.ls HW2.out.ln)
  clear m0 f0 HC HW1 HW2
  generalize w2.setCell ⟨w.heap.size + 1, 0, none⟩ (.int .i64 r0.1) = w3 at *
  have HC := Lib.hid (HIN.out w3 1 1024 _ _ _ _ _ _ _ _ r1 E1.out HW3.out)
  go_upto_region 4 with (go_at_call 71; (with_reducible refine (HC.out).mono ?_); rintro e w4 ⟨rfl, hw⟩; have m0 : w4.cell? ⟨w.heap.size + 1, 1, none⟩ = some (.int .i64 0) := hw.box.bk_1; have f0 := hw.box.free 1; have HW4 := Lib.hid hw; clear hw)
  have HW5 : Hid (BW Rd w a w.heap.size (w.heap.size + 1) r0.1 r1.1 zeros zeros zeros (.slice none 0 0) [] r1.2 (w4.setCell ⟨w.heap.size + 1, 1, none⟩ (.int .i64 r1.1))) := Lib.hid (HW4.out.put rd_ok12 (HW4.out.box.bk_puth _) (only_put (only_refl _ _) _ _) HW4.out.lp HW4.out.ls HW4.out.ln)
  clear m0 f0 HC HW3 HW4
  generalize w4.setCell ⟨w.heap.size + 1, 1, none⟩ (.int .i64 r1.1) = w5 at *
  have HC := Lib.hid (HDG.out w5 _ _ _ _ _ _ _ _ r2 E2.out HW5.out)
  go_upto_region 5 with (go_at_call 72; (with_reducible refine (HC.out).mono ?_); rintro e w6 ⟨rfl, hw⟩; obtain ⟨hst, hb, hg⟩ := hw.box.bk_putp hw.lp hw.ls hw.ln r2.1 L2.out; have HW7 := Lib.hid (hw.put rd_ok12 hb hg L2.out hw.ls hw.ln); clear hw hb hg)
  clear HC HW5 hst
  generalize w6.setCells (w.heap.size + 1) 2 (r2.1.map bv) = w7 at *
  have HC := Lib.hid (HDG.out w7 _ _ _ _ _ _ _ _ r3 E3.out HW7.out)
  go_upto_region 6 with (go_at_call 72; (with_reducible refine (HC.out).mono ?_); rintro e w8 ⟨rfl, hw⟩; obtain ⟨hst, hb, hg⟩ := hw.box.bk_puts hw.lp hw.ls hw.ln r3.1 L3.out; have HW9 := Lib.hid (hw.put rd_ok12 hb hg hw.lp L3.out hw.ln); clear hw hb hg)
  clear HC HW7 hst
  generalize w8.setCells (w.heap.size + 1) 34 (r3.1.map bv) = w9 at *
  have HC := Lib.hid (HDG.out w9 _ _ _ _ _ _ _ _ r4 E4.out HW9.out)
  go_upto_region 7 with (go_at_call 72; (with_reducible refine (HC.out).mono ?_); rintro e w10 ⟨rfl, hw⟩; obtain ⟨hst, hb, hg⟩ := hw.box.bk_putn hw.lp hw.ls hw.ln r4.1 L4.out; have HW11 := Lib.hid (hw.put rd_ok12 hb hg hw.lp hw.ls L4.out); clear hw hb hg)
  clear HC HW9 hst
  generalize w10.setCells (w.heap.size + 1) 66 (r4.1.map bv) = w11 at *
  have HC := Lib.hid (HIN.out w11 0 8 _ _ _ _ _ _ _ _ r5 E5.out HW11.out)
  go_upto_region 8 with (go_at_call 71; (with_reducible refine (HC.out).mono ?_); rintro e w12 ⟨rfl, hw⟩; have HW12 := Lib.hid hw; clear hw)
  rw [HN1.out]
  clear HC HW11 HIN HDG E0 E1 E2 E3 E4 E5 HN1 L2 L3 L4
  rw [← HFC.out.s0] at HW12
  generalize r0.1 = x0 at *
  generalize r1.1 = x1 at *
  generalize r2.1 = x2 at *
  generalize r3.1 = x3 at *
  generalize r4.1 = x4 at *
  go_loopw [21] (fun i wr => ∃ (j : Nat) (v : Value), j ≤ N ∧ i = .int .i64 (j : Int) ∧ Hid (BW Rd w a w.heap.size (w.heap.size + 1) x0 x1 x2 x3 x4 v (T j) (S j) wr)) (fun i _ => N - (intOf i).toNat)
  case atStart => exact ⟨0, _, Nat.zero_le _, rfl, Lib.hid (by rw [HFC.out.t0]; exact HW12.out)⟩
  case round =>
    clear HW12
    obtain ⟨j, v, hj, rfl, HW⟩ := hrel
    have HGK := Lib.hid (HGD.out _ _ _ _ _ _ _ _ _ HW.out)
    by_cases hlt : j < N
    · have i1 : (j : Int) < (N : Int) := by omega
      have i2 : decide ((j : Int) < (N : Int)) = true := decide_eq_true (by omega)
      have wk : IntKind.i64.wrap ((j : Int) + 1) = ((j + 1 : Nat) : Int) := by
        rw [IntKind.wrap_i64]
        have := HN2.out
        omega
      have HLT := Lib.hid hlt
      obtain ⟨q, t', hq, ht, hsu, hss⟩ := HFC.out.step j
      have HSU := Lib.hid hsu
      have HSS := Lib.hid hss
      have HLL := Lib.hid (HFC.out.len j)
      have HWd := Lib.hid (HW.out.call rd_ok12 ((Below.refl wr.heap.size wr).drew))
      have HTC := Lib.hid (HRQ.out wr.drew _ _ _ _ _ _ _ _ q t' hq ht HWd.out)
      have c3 := HWd.out.box.bk_98 HWd.out.lp HWd.out.ls HWd.out.ln
      clear hlt hj HX HG HF HFC hq ht hsu hss
      generalize T j = L at *
      generalize S j = sj at *
      go_upto_region 9 with fail
      refine wp_region_held_drew (S := fun _ => True) (by kernel_rfl) trivial (fun hS => ?_)
      (refine wpAnyH_take (i := 0) (v := .pointer (some ⟨w.heap.size + 1, 98, none⟩)) rfl (by kernel_rfl) (by kernel_rfl) (by kernel_rfl) (fun _ _ _ h => h) (Or.inl ⟨by kernel_rfl, fun w hSw => by go_simp⟩) hS ?_)
      (try simp only [Act.put])
      (refine wpAnyH_take (i := 2) (v := .pointer (some ⟨a, 0, none⟩)) rfl (by kernel_rfl) (by kernel_rfl) (by kernel_rfl) (fun _ _ _ h => h) (Or.inl ⟨by kernel_rfl, fun w hSw => by go_simp⟩) hS ?_)
      (try simp only [Act.put])
      refine wpAnyH_ready (rs := [1, 3]) (by decide +kernel) (by simp) (AllReadyH.cons rfl (fun K hK => ?_) (AllReadyH.cons rfl (fun K hK => ?_) AllReadyH.nil))
      · go_simp
        refine hK.out _ _ trivial (fun hS => ?_)
        clear hK K
        (try simp only [Act.put])
        refine wpAnyH_ready (rs := [3]) (by decide +kernel) (by simp) (AllReadyH.cons rfl (fun K hK => ?_) AllReadyH.nil)
        go_simp
        (go_at_call 73; (with_reducible refine (HTC.out).mono ?_); rintro e w5 ⟨rfl, hw⟩)
        refine hK.out _ _ trivial (fun hS => ?_)
        clear hK K
        (try simp only [Act.put])
        have HW5 := Lib.hid hw
        have c3b := hw.box.bk_98 hw.lp hw.ls hw.ln
        have hbs : (bsT 30 1 #[(0, .agg q.cells.toArray)]).run Tryz.prog w5 = .ok (.slice (some ⟨w5.heap.size, 0, none⟩) 1 1) (w5.alloc (.cells q.cells.toArray 100)) := QK.build1 q (.agg q.cells.toArray) rfl (by decide) w5
        clear hw
        refine wpAnyH_ready (rs := [4]) (by decide +kernel) (by simp) (AllReadyH.cons rfl (fun K hK => ?_) AllReadyH.nil)
        go_simp
        refine hK.out _ _ trivial (fun hS => ?_)
        clear hK K
        (try simp only [Act.put])
        have HW6 := Lib.hid (HW5.out.call rd_ok12 ((Below.refl w5.heap.size w5).alloc (Nat.le_refl _) (.cells q.cells.toArray 100)))
        have c3c := HW6.out.box.bk_98 HW6.out.lp HW6.out.ls HW6.out.ln
        obtain ⟨A7, m7, cc7, w7, hap, hc7, hf7, hw7⟩ := HW6.out.push rd_ok12 (QK.see_one w5 q) (by rw [HLL.out]; have := HN2.out; have := HLT.out; omega)
        have HW7 := Lib.hid hw7
        clear hw7
        refine wpAnyH_ready (rs := [5]) (by decide +kernel) (by simp) (AllReadyH.cons rfl (fun K hK => ?_) AllReadyH.nil)
        go_simp
        refine hK.out _ _ trivial (fun hS => ?_)
        clear hK K
        (try simp only [Act.put])
        (refine wpAnyH_take (i := 6) (v := .pointer (some ⟨w.heap.size + 1, 98, none⟩)) rfl (by kernel_rfl) (by kernel_rfl) (by kernel_rfl) (fun _ _ _ h => h) (Or.inl ⟨by kernel_rfl, fun w hSw => by go_simp⟩) hS ?_)
        (try simp only [Act.put])
        refine wpAnyH_ready (rs := [7]) (by decide +kernel) (by simp) (AllReadyH.cons rfl (fun K hK => ?_) AllReadyH.nil)
        go_simp
        refine hK.out _ _ trivial (fun hS => ?_)
        clear hK K
        (try simp only [Act.put])
        refine wpAnyH_done (by kernel_rfl) ?_ _
        clear hap hc7 hf7 c3 c3b c3c hbs HW5 HW6 HTC HWd HW HGK HLL
        generalize w7.setCell ⟨w.heap.size + 1, 98, none⟩ (.slice A7 m7 cc7) = w8 at *
        rw [← HSU.out, ← HSS.out] at HW7
        go_wp2
        go_roundw
        case rel => exact ⟨j + 1, _, HLT.out, by go_num, HW7⟩
        case measure => have := HLT.out; simp [intOf]; omega
      · go_simp
        (go_at_call 73; (with_reducible refine (HTC.out).mono ?_); rintro e w5 ⟨rfl, hw⟩)
        refine hK.out _ _ trivial (fun hS => ?_)
        clear hK K
        (try simp only [Act.put])
        have HW5 := Lib.hid hw
        have c3b := hw.box.bk_98 hw.lp hw.ls hw.ln
        have hbs : (bsT 30 1 #[(0, .agg q.cells.toArray)]).run Tryz.prog w5 = .ok (.slice (some ⟨w5.heap.size, 0, none⟩) 1 1) (w5.alloc (.cells q.cells.toArray 100)) := QK.build1 q (.agg q.cells.toArray) rfl (by decide) w5
        clear hw
        refine wpAnyH_ready (rs := [1, 4]) (by decide +kernel) (by simp) (AllReadyH.cons rfl (fun K hK => ?_) (AllReadyH.cons rfl (fun K hK => ?_) AllReadyH.nil))
        · go_simp
          refine hK.out _ _ trivial (fun hS => ?_)
          clear hK K
          (try simp only [Act.put])
          refine wpAnyH_ready (rs := [4]) (by decide +kernel) (by simp) (AllReadyH.cons rfl (fun K hK => ?_) AllReadyH.nil)
          go_simp
          refine hK.out _ _ trivial (fun hS => ?_)
          clear hK K
          (try simp only [Act.put])
          have HW6 := Lib.hid (HW5.out.call rd_ok12 ((Below.refl w5.heap.size w5).alloc (Nat.le_refl _) (.cells q.cells.toArray 100)))
          have c3c := HW6.out.box.bk_98 HW6.out.lp HW6.out.ls HW6.out.ln
          obtain ⟨A7, m7, cc7, w7, hap, hc7, hf7, hw7⟩ := HW6.out.push rd_ok12 (QK.see_one w5 q) (by rw [HLL.out]; have := HN2.out; have := HLT.out; omega)
          have HW7 := Lib.hid hw7
          clear hw7
          refine wpAnyH_ready (rs := [5]) (by decide +kernel) (by simp) (AllReadyH.cons rfl (fun K hK => ?_) AllReadyH.nil)
          go_simp
          refine hK.out _ _ trivial (fun hS => ?_)
          clear hK K
          (try simp only [Act.put])
          (refine wpAnyH_take (i := 6) (v := .pointer (some ⟨w.heap.size + 1, 98, none⟩)) rfl (by kernel_rfl) (by kernel_rfl) (by kernel_rfl) (fun _ _ _ h => h) (Or.inl ⟨by kernel_rfl, fun w hSw => by go_simp⟩) hS ?_)
          (try simp only [Act.put])
          refine wpAnyH_ready (rs := [7]) (by decide +kernel) (by simp) (AllReadyH.cons rfl (fun K hK => ?_) AllReadyH.nil)
          go_simp
          refine hK.out _ _ trivial (fun hS => ?_)
          clear hK K
          (try simp only [Act.put])
          refine wpAnyH_done (by kernel_rfl) ?_ _
          clear hap hc7 hf7 c3 c3b c3c hbs HW5 HW6 HTC HWd HW HGK HLL
          generalize w7.setCell ⟨w.heap.size + 1, 98, none⟩ (.slice A7 m7 cc7) = w8 at *
          rw [← HSU.out, ← HSS.out] at HW7
          go_wp2
          go_roundw
          case rel => exact ⟨j + 1, _, HLT.out, by go_num, HW7⟩
          case measure => have := HLT.out; simp [intOf]; omega
        · go_simp
          refine hK.out _ _ trivial (fun hS => ?_)
          clear hK K
          (try simp only [Act.put])
          have HW6 := Lib.hid (HW5.out.call rd_ok12 ((Below.refl w5.heap.size w5).alloc (Nat.le_refl _) (.cells q.cells.toArray 100)))
          have c3c := HW6.out.box.bk_98 HW6.out.lp HW6.out.ls HW6.out.ln
          obtain ⟨A7, m7, cc7, w7, hap, hc7, hf7, hw7⟩ := HW6.out.push rd_ok12 (QK.see_one w5 q) (by rw [HLL.out]; have := HN2.out; have := HLT.out; omega)
          have HW7 := Lib.hid hw7
          clear hw7
          refine wpAnyH_ready (rs := [1]) (by decide +kernel) (by simp) (AllReadyH.cons rfl (fun K hK => ?_) AllReadyH.nil)
          go_simp
          refine hK.out _ _ trivial (fun hS => ?_)
          clear hK K
          (try simp only [Act.put])
          refine wpAnyH_ready (rs := [5]) (by decide +kernel) (by simp) (AllReadyH.cons rfl (fun K hK => ?_) AllReadyH.nil)
          go_simp
          refine hK.out _ _ trivial (fun hS => ?_)
          clear hK K
          (try simp only [Act.put])
          (refine wpAnyH_take (i := 6) (v := .pointer (some ⟨w.heap.size + 1, 98, none⟩)) rfl (by kernel_rfl) (by kernel_rfl) (by kernel_rfl) (fun _ _ _ h => h) (Or.inl ⟨by kernel_rfl, fun w hSw => by go_simp⟩) hS ?_)
          (try simp only [Act.put])
          refine wpAnyH_ready (rs := [7]) (by decide +kernel) (by simp) (AllReadyH.cons rfl (fun K hK => ?_) AllReadyH.nil)
          go_simp
          refine hK.out _ _ trivial (fun hS => ?_)
          clear hK K
          (try simp only [Act.put])
          refine wpAnyH_done (by kernel_rfl) ?_ _
          clear hap hc7 hf7 c3 c3b c3c hbs HW5 HW6 HTC HWd HW HGK HLL
          generalize w7.setCell ⟨w.heap.size + 1, 98, none⟩ (.slice A7 m7 cc7) = w8 at *
          rw [← HSU.out, ← HSS.out] at HW7
          go_wp2
          go_roundw
          case rel => exact ⟨j + 1, _, HLT.out, by go_num, HW7⟩
          case measure => have := HLT.out; simp [intOf]; omega
    · have i1 : ¬ (j : Int) < (N : Int) := by omega
      have hke : j = N := by omega
      subst hke
      have HFE : Hid (F = S j) := HF
      rw [← HFE.out] at HW HGK
      clear hlt hj HF HFE HRQ i1
      obtain ⟨gd, hgd⟩ : ∃ gd, F.2 = gd := ⟨_, rfl⟩
      rw [hgd] at HGK
      have i1 : ¬ (j : Int) < (j : Int) := by omega
      have i2 : decide ((j : Int) < (j : Int)) = false := decide_eq_false (by omega)
      rcases gd with _ | _
      · obtain ⟨z0, z1, z2, z3, z4, z5⟩ := HG.out hgd
        subst z0 z1 z2 z3 z4
        rw [← z5] at HW
        clear HG HX hgd z5 HFC
        obtain ⟨A, c, rfl⟩ := HW.out.own.slice
        have lc := HW.out.box.ld_bk HW.out.lp HW.out.ls HW.out.ln
        obtain ⟨wz, hst, hb, hg⟩ := HW.out.out.st_bk (e := X.epoch) (h := X.height) (p := X.prev) (s := X.state) (n := X.next) (v := .slice A X.reqs.length c) zblkV_size HW.out.lp HW.out.ls HW.out.ln rfl
        have HBZ := Lib.hid hb
        have HRZ := Lib.hid (rd_ok12.put HW.out.rd hg (Nat.lt_of_lt_of_le HW.out.ha HW.out.hr))
        have HGZ := Lib.hid (only_new HW.out.far hg HW.out.hr)
        have HOZ : Hid (QK.Own wz w.heap.size (.slice A X.reqs.length c) X.reqs) := Lib.hid (own_box HW.out.own HW.out.out (by decide) hg)
        clear hb hg HW
        go_wp2_with (go_at_call 19; (with_reducible refine (HGK.out).mono ?_); rintro e wg ⟨rfl, rfl⟩)
        exact ret_blk rfl rfl rfl X.lp X.ls X.ln HBZ.out ⟨A, c, rfl, HOZ.out, HRZ.out, HGZ.out⟩
      · have HXZ := Lib.hid (HX.out hgd)
        clear HG HX hgd HFC
        have hbd0 := bd_blk0 wr
        obtain ⟨wz, hst, hb, hg⟩ := HW.out.out.st_blk zblkV_size zblkM
        rw [zblkM_cells] at hst hb
        have HBZ := Lib.hid hb
        have HRZ := Lib.hid (rd_ok12.put HW.out.rd hg (Nat.lt_of_lt_of_le HW.out.ha HW.out.hr))
        have HGZ := Lib.hid (only_new HW.out.far hg HW.out.hr)
        clear hb hg HW
        go_wp2_with (go_at_call 19; (with_reducible refine (HGK.out).mono ?_); rintro e wg ⟨rfl, rfl⟩)
        refine ret_blk (e := 0) (h := 0) (p := zeros) (s := zeros) (n := zeros) (v := .slice none 0 0) rfl rfl rfl zeros_len12 zeros_len12 zeros_len12 HBZ.out ?_
        rw [HXZ.out]
        exact ⟨none, 0, rfl, QK.own_nil _ _, HRZ.out, HGZ.out⟩
set_option maxRecDepth 100000 in
theorem blkread_any (a : Nat) (l : List UInt8) (b : Bool) (w : World) (h : Rd w a l b) : Calls Tryz.prog 39 #[.pointer (some ⟨a, 0, none⟩)] w (BlkIs Rd a (bkX l b) (bkF l b) w) := by
  obtain ⟨r0, r1, r2, r3, r4, r5, N, S, T, hf⟩ := bk_facts l b
  exact blkread_gen a l b w h hf
end Go.Proofs.YtbclepdcngaonaaGreatDoor

namespace Go.Proofs.YtbclepdcngaonaaGreatDoor
open Go.RowKit

attribute [local go_sem ↓] ldReq_def stReq_def ldBlk_def stBlk_def bdBlk_def ldDigest_def stDigest_def bsT_def apAll_def
set_option maxRecDepth 100000 in
set_option maxHeartbeats 4000000 in
theorem rblkread_gen (a : Nat) (l : List UInt8) (b : Bool) (w : World) (h : RRd w a l b) {X : BlkX} {r0 r1 : Int × List UInt8 × Bool} {r2 r3 r4 : List UInt8 × List UInt8 × Bool} {r5 : Int × List UInt8 × Bool} {N : Nat} {F : List UInt8 × Bool} {S : Nat → List UInt8 × Bool} {T : Nat → List ReqX} (hf : BkFacts l b X r0 r1 r2 r3 r4 r5 N F S T) :
    Calls Tryz.prog 42 #[.pointer (some ⟨a, 0, none⟩)] w (BlkIs RRd a X F w) := by
  have HG := Lib.hid hf.good
  have HX := Lib.hid hf.bad
  have HF := Lib.hid hf.fin
  have HN2 := Lib.hid hf.n2
  have HN1 := Lib.hid hf.n1
  have L2 := Lib.hid hf.l2
  have L3 := Lib.hid hf.l3
  have L4 := Lib.hid hf.l4
  have HFC := Lib.hid hf
  have HW1 := Lib.hid (BW.start rrd_ok12 l b h)
  have HIN : Hid (∀ w' (lo hi : Int) e h p s n v L (t : List UInt8 × Bool) (r : Int × List UInt8 × Bool), inV lo hi t.1 t.2 = r → BW RRd w a w.heap.size (w.heap.size + 1) e h p s n v L t w' → Calls Tryz.prog 75 #[.pointer (some ⟨a, 0, none⟩), .int .i64 lo, .int .i64 hi] w' fun e' w'' => e' = .returned (.int .i64 r.1) ∧ BW RRd w a w.heap.size (w.heap.size + 1) e h p s n v L r.2 w'') :=
    Lib.hid (fun w' lo hi e h p s n v L t r hr hw => by subst hr; exact (rin_any a lo hi t.1 t.2 w' hw.rd).mono fun e' w'' ⟨he, hr, hg⟩ => ⟨he, hw.turn hg hr⟩)
  have HDG : Hid (∀ w' e h p s n v L (t : List UInt8 × Bool) (r : List UInt8 × List UInt8 × Bool), dgV t.1 t.2 = r → BW RRd w a w.heap.size (w.heap.size + 1) e h p s n v L t w' → Calls Tryz.prog 76 #[.pointer (some ⟨a, 0, none⟩)] w' fun e' w'' => e' = .returned (.agg (r.1.map bv).toArray) ∧ BW RRd w a w.heap.size (w.heap.size + 1) e h p s n v L r.2 w'') :=
    Lib.hid (fun w' e h p s n v L t r hr hw => by subst hr; exact (rdigest_any a t.1 t.2 w' hw.rd).mono fun e' w'' ⟨he, hr, hg⟩ => ⟨he, hw.turn hg hr⟩)
  have HGD : Hid (∀ w' e h p s n v L (t : List UInt8 × Bool), BW RRd w a w.heap.size (w.heap.size + 1) e h p s n v L t w' → Calls Tryz.prog 20 #[.pointer (some ⟨a, 0, none⟩)] w' fun e' w'' => e' = .returned (.bool !t.2) ∧ w' = w'') := Lib.hid (fun w' e h p s n v L t hw => rgood_any a t.1 t.2 w' hw.rd)
  have HRQ : Hid (∀ w' e h p s n v L (t : List UInt8 × Bool) (q : ReqX) (t' : List UInt8 × Bool), rqX t.1 t.2 = q → rqF t.1 t.2 = t' → BW RRd w a w.heap.size (w.heap.size + 1) e h p s n v L t w' → Calls Tryz.prog 77 #[.pointer (some ⟨a, 0, none⟩)] w' fun e' w'' => e' = .returned (.agg q.cells.toArray) ∧ BW RRd w a w.heap.size (w.heap.size + 1) e h p s n v L t' w'') :=
    Lib.hid (fun w' e h p s n v L t q t' hq ht hw => by subst hq ht; exact (rread_any9 a t.1 t.2 w' hw.rd).mono fun e' w'' ⟨he, hr, hg⟩ => ⟨he, hw.turn hg hr⟩)
  have E0 := Lib.hid hf.e0
  have E1 := Lib.hid hf.e1
  have E2 := Lib.hid hf.e2
  have E3 := Lib.hid hf.e3
  have E4 := Lib.hid hf.e4
  have E5 := Lib.hid hf.e5
  have hzv := zero_blk
  clear h hf
  go_enter Tryz.func42, Tryz.ntmps42
  go_upto_region 2 with fail
  change Code.wp _ _ _ _ ((w.alloc (.cells zblkV 32)).alloc (.cells zblkV 32))
  generalize (w.alloc (.cells zblkV 32)).alloc (.cells zblkV 32) = w1 at *
  clear hzv
  have HC := Lib.hid (HIN.out w1 0 1073741824 _ _ _ _ _ _ _ _ r0 E0.out HW1.out)
  go_upto_region 3 with (go_at_call 75; (with_reducible refine (HC.out).mono ?_); rintro e w2 ⟨rfl, hw⟩; have m0 : w2.cell? ⟨w.heap.size + 1, 0, none⟩ = some (.int .i64 0) := hw.box.bk_0; have f0 := hw.box.free 0; have HW2 := Lib.hid hw; clear hw)
  have HW3 : Hid (BW RRd w a w.heap.size (w.heap.size + 1) r0.1 0 zeros zeros zeros (.slice none 0 0) [] r0.2 (w2.setCell ⟨w.heap.size + 1, 0, none⟩ (.int .i64 r0.1))) := Lib.hid (HW2.out.put rrd_ok12 (HW2.out.box.bk_pute _) (only_put (only_refl _ _) _ _) HW2.out.lp HW2.out.ls HW2.out.ln)
  clear m0 f0 HC HW1 HW2
  generalize w2.setCell ⟨w.heap.size + 1, 0, none⟩ (.int .i64 r0.1) = w3 at *
  have HC := Lib.hid (HIN.out w3 1 1024 _ _ _ _ _ _ _ _ r1 E1.out HW3.out)
  go_upto_region 4 with (go_at_call 75; (with_reducible refine (HC.out).mono ?_); rintro e w4 ⟨rfl, hw⟩; have m0 : w4.cell? ⟨w.heap.size + 1, 1, none⟩ = some (.int .i64 0) := hw.box.bk_1; have f0 := hw.box.free 1; have HW4 := Lib.hid hw; clear hw)
  have HW5 : Hid (BW RRd w a w.heap.size (w.heap.size + 1) r0.1 r1.1 zeros zeros zeros (.slice none 0 0) [] r1.2 (w4.setCell ⟨w.heap.size + 1, 1, none⟩ (.int .i64 r1.1))) := Lib.hid (HW4.out.put rrd_ok12 (HW4.out.box.bk_puth _) (only_put (only_refl _ _) _ _) HW4.out.lp HW4.out.ls HW4.out.ln)
  clear m0 f0 HC HW3 HW4
  generalize w4.setCell ⟨w.heap.size + 1, 1, none⟩ (.int .i64 r1.1) = w5 at *
  have HC := Lib.hid (HDG.out w5 _ _ _ _ _ _ _ _ r2 E2.out HW5.out)
  go_upto_region 5 with (go_at_call 76; (with_reducible refine (HC.out).mono ?_); rintro e w6 ⟨rfl, hw⟩; obtain ⟨hst, hb, hg⟩ := hw.box.bk_putp hw.lp hw.ls hw.ln r2.1 L2.out; have HW7 := Lib.hid (hw.put rrd_ok12 hb hg L2.out hw.ls hw.ln); clear hw hb hg)
  clear HC HW5 hst
  generalize w6.setCells (w.heap.size + 1) 2 (r2.1.map bv) = w7 at *
  have HC := Lib.hid (HDG.out w7 _ _ _ _ _ _ _ _ r3 E3.out HW7.out)
  go_upto_region 6 with (go_at_call 76; (with_reducible refine (HC.out).mono ?_); rintro e w8 ⟨rfl, hw⟩; obtain ⟨hst, hb, hg⟩ := hw.box.bk_puts hw.lp hw.ls hw.ln r3.1 L3.out; have HW9 := Lib.hid (hw.put rrd_ok12 hb hg hw.lp L3.out hw.ln); clear hw hb hg)
  clear HC HW7 hst
  generalize w8.setCells (w.heap.size + 1) 34 (r3.1.map bv) = w9 at *
  have HC := Lib.hid (HDG.out w9 _ _ _ _ _ _ _ _ r4 E4.out HW9.out)
  go_upto_region 7 with (go_at_call 76; (with_reducible refine (HC.out).mono ?_); rintro e w10 ⟨rfl, hw⟩; obtain ⟨hst, hb, hg⟩ := hw.box.bk_putn hw.lp hw.ls hw.ln r4.1 L4.out; have HW11 := Lib.hid (hw.put rrd_ok12 hb hg hw.lp hw.ls L4.out); clear hw hb hg)
  clear HC HW9 hst
  generalize w10.setCells (w.heap.size + 1) 66 (r4.1.map bv) = w11 at *
  have HC := Lib.hid (HIN.out w11 0 8 _ _ _ _ _ _ _ _ r5 E5.out HW11.out)
  go_upto_region 9 with (go_at_call 75; (with_reducible refine (HC.out).mono ?_); rintro e w12 ⟨rfl, hw⟩; have HW12 := Lib.hid hw; clear hw)
  rw [HN1.out]
  clear HC HW11 HIN HDG E0 E1 E2 E3 E4 E5 HN1 L2 L3 L4
  rw [← HFC.out.s0] at HW12
  generalize r0.1 = x0 at *
  generalize r1.1 = x1 at *
  generalize r2.1 = x2 at *
  generalize r3.1 = x3 at *
  generalize r4.1 = x4 at *
  go_loopw [5] (fun i wr => ∃ (j : Nat) (v : Value), j ≤ N ∧ i = .int .i64 (j : Int) ∧ Hid (BW RRd w a w.heap.size (w.heap.size + 1) x0 x1 x2 x3 x4 v (T j) (S j) wr)) (fun i _ => N - (intOf i).toNat)
  case atStart => exact ⟨0, _, Nat.zero_le _, rfl, Lib.hid (by rw [HFC.out.t0]; exact HW12.out)⟩
  case round =>
    clear HW12
    obtain ⟨j, v, hj, rfl, HW⟩ := hrel
    have HGK := Lib.hid (HGD.out _ _ _ _ _ _ _ _ _ HW.out)
    by_cases hlt : j < N
    · have i1 : (j : Int) < (N : Int) := by omega
      have i2 : decide ((j : Int) < (N : Int)) = true := decide_eq_true (by omega)
      have wk : IntKind.i64.wrap ((j : Int) + 1) = ((j + 1 : Nat) : Int) := by
        rw [IntKind.wrap_i64]
        have := HN2.out
        omega
      have HLT := Lib.hid hlt
      obtain ⟨bd, hbd⟩ : ∃ bd, (S j).2 = bd := ⟨_, rfl⟩
      rw [hbd] at HGK
      rcases bd with _ | _
      rotate_left
      · have HFE : Hid (S j = F) := Lib.hid (HFC.out.stop j hj hbd)
        have HXZ : Hid (X = zblk) := Lib.hid (HX.out (by rw [← HFE.out]; exact hbd))
        rw [HFE.out] at HW
        have hbd0 := bd_blk0 wr
        obtain ⟨wz, hst, hb, hg⟩ := HW.out.out.st_blk zblkV_size zblkM
        rw [zblkM_cells] at hst hb
        have HBZ := Lib.hid hb
        have HRZ := Lib.hid (rrd_ok12.put HW.out.rd hg (Nat.lt_of_lt_of_le HW.out.ha HW.out.hr))
        have HGZ := Lib.hid (only_new HW.out.far hg HW.out.hr)
        clear hb hg HW HX HG HF HFC hbd HFE HRQ hj
        go_wp2_with (go_at_call 20; (with_reducible refine (HGK.out).mono ?_); rintro e wg ⟨rfl, rfl⟩)
        refine ret_blk (e := 0) (h := 0) (p := zeros) (s := zeros) (n := zeros) (v := .slice none 0 0) rfl rfl rfl zeros_len12 zeros_len12 zeros_len12 HBZ.out ?_
        rw [HXZ.out]
        exact ⟨none, 0, rfl, QK.own_nil _ _, HRZ.out, HGZ.out⟩
      clear hbd
      obtain ⟨q, t', hq, ht, hsu, hss⟩ := HFC.out.step j
      have HSU := Lib.hid hsu
      have HSS := Lib.hid hss
      have HLL := Lib.hid (HFC.out.len j)
      have HWd := Lib.hid (HW.out.call rrd_ok12 ((Below.refl wr.heap.size wr).drew))
      have HTC := Lib.hid (HRQ.out wr.drew _ _ _ _ _ _ _ _ q t' hq ht HWd.out)
      have c3 := HWd.out.box.bk_98 HWd.out.lp HWd.out.ls HWd.out.ln
      clear hlt hj HX HG HF HFC hq ht hsu hss
      generalize T j = L at *
      generalize S j = sj at *
      go_wp2_with (go_at_call 20; (with_reducible refine (HGK.out).mono ?_); rintro e wg ⟨rfl, rfl⟩)
      refine wp_region_held_drew (S := fun _ => True) (by kernel_rfl) trivial (fun hS => ?_)
      (refine wpAnyH_take (i := 0) (v := .pointer (some ⟨w.heap.size + 1, 98, none⟩)) rfl (by kernel_rfl) (by kernel_rfl) (by kernel_rfl) (fun _ _ _ h => h) (Or.inl ⟨by kernel_rfl, fun w hSw => by go_simp⟩) hS ?_)
      (try simp only [Act.put])
      (refine wpAnyH_take (i := 2) (v := .pointer (some ⟨a, 0, none⟩)) rfl (by kernel_rfl) (by kernel_rfl) (by kernel_rfl) (fun _ _ _ h => h) (Or.inl ⟨by kernel_rfl, fun w hSw => by go_simp⟩) hS ?_)
      (try simp only [Act.put])
      refine wpAnyH_ready (rs := [1, 3]) (by decide +kernel) (by simp) (AllReadyH.cons rfl (fun K hK => ?_) (AllReadyH.cons rfl (fun K hK => ?_) AllReadyH.nil))
      · go_simp
        refine hK.out _ _ trivial (fun hS => ?_)
        clear hK K
        (try simp only [Act.put])
        refine wpAnyH_ready (rs := [3]) (by decide +kernel) (by simp) (AllReadyH.cons rfl (fun K hK => ?_) AllReadyH.nil)
        go_simp
        (go_at_call 77; (with_reducible refine (HTC.out).mono ?_); rintro e w5 ⟨rfl, hw⟩)
        refine hK.out _ _ trivial (fun hS => ?_)
        clear hK K
        (try simp only [Act.put])
        have HW5 := Lib.hid hw
        have c3b := hw.box.bk_98 hw.lp hw.ls hw.ln
        have hbs : (bsT 30 1 #[(0, .agg q.cells.toArray)]).run Tryz.prog w5 = .ok (.slice (some ⟨w5.heap.size, 0, none⟩) 1 1) (w5.alloc (.cells q.cells.toArray 100)) := QK.build1 q (.agg q.cells.toArray) rfl (by decide) w5
        clear hw
        refine wpAnyH_ready (rs := [4]) (by decide +kernel) (by simp) (AllReadyH.cons rfl (fun K hK => ?_) AllReadyH.nil)
        go_simp
        refine hK.out _ _ trivial (fun hS => ?_)
        clear hK K
        (try simp only [Act.put])
        have HW6 := Lib.hid (HW5.out.call rrd_ok12 ((Below.refl w5.heap.size w5).alloc (Nat.le_refl _) (.cells q.cells.toArray 100)))
        have c3c := HW6.out.box.bk_98 HW6.out.lp HW6.out.ls HW6.out.ln
        obtain ⟨A7, m7, cc7, w7, hap, hc7, hf7, hw7⟩ := HW6.out.push rrd_ok12 (QK.see_one w5 q) (by rw [HLL.out]; have := HN2.out; have := HLT.out; omega)
        have HW7 := Lib.hid hw7
        clear hw7
        refine wpAnyH_ready (rs := [5]) (by decide +kernel) (by simp) (AllReadyH.cons rfl (fun K hK => ?_) AllReadyH.nil)
        go_simp
        refine hK.out _ _ trivial (fun hS => ?_)
        clear hK K
        (try simp only [Act.put])
        (refine wpAnyH_take (i := 6) (v := .pointer (some ⟨w.heap.size + 1, 98, none⟩)) rfl (by kernel_rfl) (by kernel_rfl) (by kernel_rfl) (fun _ _ _ h => h) (Or.inl ⟨by kernel_rfl, fun w hSw => by go_simp⟩) hS ?_)
        (try simp only [Act.put])
        refine wpAnyH_ready (rs := [7]) (by decide +kernel) (by simp) (AllReadyH.cons rfl (fun K hK => ?_) AllReadyH.nil)
        go_simp
        refine hK.out _ _ trivial (fun hS => ?_)
        clear hK K
        (try simp only [Act.put])
        refine wpAnyH_done (by kernel_rfl) ?_ _
        clear hap hc7 hf7 c3 c3b c3c hbs HW5 HW6 HTC HWd HW HGK HLL
        generalize w7.setCell ⟨w.heap.size + 1, 98, none⟩ (.slice A7 m7 cc7) = w8 at *
        rw [← HSU.out, ← HSS.out] at HW7
        go_wp2
        go_roundw
        case rel => exact ⟨j + 1, _, HLT.out, by go_num, HW7⟩
        case measure => have := HLT.out; simp [intOf]; omega
      · go_simp
        (go_at_call 77; (with_reducible refine (HTC.out).mono ?_); rintro e w5 ⟨rfl, hw⟩)
        refine hK.out _ _ trivial (fun hS => ?_)
        clear hK K
        (try simp only [Act.put])
        have HW5 := Lib.hid hw
        have c3b := hw.box.bk_98 hw.lp hw.ls hw.ln
        have hbs : (bsT 30 1 #[(0, .agg q.cells.toArray)]).run Tryz.prog w5 = .ok (.slice (some ⟨w5.heap.size, 0, none⟩) 1 1) (w5.alloc (.cells q.cells.toArray 100)) := QK.build1 q (.agg q.cells.toArray) rfl (by decide) w5
        clear hw
        refine wpAnyH_ready (rs := [1, 4]) (by decide +kernel) (by simp) (AllReadyH.cons rfl (fun K hK => ?_) (AllReadyH.cons rfl (fun K hK => ?_) AllReadyH.nil))
        · go_simp
          refine hK.out _ _ trivial (fun hS => ?_)
          clear hK K
          (try simp only [Act.put])
          refine wpAnyH_ready (rs := [4]) (by decide +kernel) (by simp) (AllReadyH.cons rfl (fun K hK => ?_) AllReadyH.nil)
          go_simp
          refine hK.out _ _ trivial (fun hS => ?_)
          clear hK K
          (try simp only [Act.put])
          have HW6 := Lib.hid (HW5.out.call rrd_ok12 ((Below.refl w5.heap.size w5).alloc (Nat.le_refl _) (.cells q.cells.toArray 100)))
          have c3c := HW6.out.box.bk_98 HW6.out.lp HW6.out.ls HW6.out.ln
          obtain ⟨A7, m7, cc7, w7, hap, hc7, hf7, hw7⟩ := HW6.out.push rrd_ok12 (QK.see_one w5 q) (by rw [HLL.out]; have := HN2.out; have := HLT.out; omega)
          have HW7 := Lib.hid hw7
          clear hw7
          refine wpAnyH_ready (rs := [5]) (by decide +kernel) (by simp) (AllReadyH.cons rfl (fun K hK => ?_) AllReadyH.nil)
          go_simp
          refine hK.out _ _ trivial (fun hS => ?_)
          clear hK K
          (try simp only [Act.put])
          (refine wpAnyH_take (i := 6) (v := .pointer (some ⟨w.heap.size + 1, 98, none⟩)) rfl (by kernel_rfl) (by kernel_rfl) (by kernel_rfl) (fun _ _ _ h => h) (Or.inl ⟨by kernel_rfl, fun w hSw => by go_simp⟩) hS ?_)
          (try simp only [Act.put])
          refine wpAnyH_ready (rs := [7]) (by decide +kernel) (by simp) (AllReadyH.cons rfl (fun K hK => ?_) AllReadyH.nil)
          go_simp
          refine hK.out _ _ trivial (fun hS => ?_)
          clear hK K
          (try simp only [Act.put])
          refine wpAnyH_done (by kernel_rfl) ?_ _
          clear hap hc7 hf7 c3 c3b c3c hbs HW5 HW6 HTC HWd HW HGK HLL
          generalize w7.setCell ⟨w.heap.size + 1, 98, none⟩ (.slice A7 m7 cc7) = w8 at *
          rw [← HSU.out, ← HSS.out] at HW7
          go_wp2
          go_roundw
          case rel => exact ⟨j + 1, _, HLT.out, by go_num, HW7⟩
          case measure => have := HLT.out; simp [intOf]; omega
        · go_simp
          refine hK.out _ _ trivial (fun hS => ?_)
          clear hK K
          (try simp only [Act.put])
          have HW6 := Lib.hid (HW5.out.call rrd_ok12 ((Below.refl w5.heap.size w5).alloc (Nat.le_refl _) (.cells q.cells.toArray 100)))
          have c3c := HW6.out.box.bk_98 HW6.out.lp HW6.out.ls HW6.out.ln
          obtain ⟨A7, m7, cc7, w7, hap, hc7, hf7, hw7⟩ := HW6.out.push rrd_ok12 (QK.see_one w5 q) (by rw [HLL.out]; have := HN2.out; have := HLT.out; omega)
          have HW7 := Lib.hid hw7
          clear hw7
          refine wpAnyH_ready (rs := [1]) (by decide +kernel) (by simp) (AllReadyH.cons rfl (fun K hK => ?_) AllReadyH.nil)
          go_simp
          refine hK.out _ _ trivial (fun hS => ?_)
          clear hK K
          (try simp only [Act.put])
          refine wpAnyH_ready (rs := [5]) (by decide +kernel) (by simp) (AllReadyH.cons rfl (fun K hK => ?_) AllReadyH.nil)
          go_simp
          refine hK.out _ _ trivial (fun hS => ?_)
          clear hK K
          (try simp only [Act.put])
          (refine wpAnyH_take (i := 6) (v := .pointer (some ⟨w.heap.size + 1, 98, none⟩)) rfl (by kernel_rfl) (by kernel_rfl) (by kernel_rfl) (fun _ _ _ h => h) (Or.inl ⟨by kernel_rfl, fun w hSw => by go_simp⟩) hS ?_)
          (try simp only [Act.put])
          refine wpAnyH_ready (rs := [7]) (by decide +kernel) (by simp) (AllReadyH.cons rfl (fun K hK => ?_) AllReadyH.nil)
          go_simp
          refine hK.out _ _ trivial (fun hS => ?_)
          clear hK K
          (try simp only [Act.put])
          refine wpAnyH_done (by kernel_rfl) ?_ _
          clear hap hc7 hf7 c3 c3b c3c hbs HW5 HW6 HTC HWd HW HGK HLL
          generalize w7.setCell ⟨w.heap.size + 1, 98, none⟩ (.slice A7 m7 cc7) = w8 at *
          rw [← HSU.out, ← HSS.out] at HW7
          go_wp2
          go_roundw
          case rel => exact ⟨j + 1, _, HLT.out, by go_num, HW7⟩
          case measure => have := HLT.out; simp [intOf]; omega
    · have i1 : ¬ (j : Int) < (N : Int) := by omega
      have hke : j = N := by omega
      subst hke
      have HFE : Hid (F = S j) := HF
      rw [← HFE.out] at HW HGK
      clear hlt hj HF HFE HRQ i1
      obtain ⟨gd, hgd⟩ : ∃ gd, F.2 = gd := ⟨_, rfl⟩
      rw [hgd] at HGK
      have i1 : ¬ (j : Int) < (j : Int) := by omega
      have i2 : decide ((j : Int) < (j : Int)) = false := decide_eq_false (by omega)
      rcases gd with _ | _
      · obtain ⟨z0, z1, z2, z3, z4, z5⟩ := HG.out hgd
        subst z0 z1 z2 z3 z4
        rw [← z5] at HW
        clear HG HX hgd z5 HFC
        obtain ⟨A, c, rfl⟩ := HW.out.own.slice
        have lc := HW.out.box.ld_bk HW.out.lp HW.out.ls HW.out.ln
        obtain ⟨wz, hst, hb, hg⟩ := HW.out.out.st_bk (e := X.epoch) (h := X.height) (p := X.prev) (s := X.state) (n := X.next) (v := .slice A X.reqs.length c) zblkV_size HW.out.lp HW.out.ls HW.out.ln rfl
        have HBZ := Lib.hid hb
        have HRZ := Lib.hid (rrd_ok12.put HW.out.rd hg (Nat.lt_of_lt_of_le HW.out.ha HW.out.hr))
        have HGZ := Lib.hid (only_new HW.out.far hg HW.out.hr)
        have HOZ : Hid (QK.Own wz w.heap.size (.slice A X.reqs.length c) X.reqs) := Lib.hid (own_box HW.out.own HW.out.out (by decide) hg)
        clear hb hg HW
        go_wp2_with (go_at_call 20; (with_reducible refine (HGK.out).mono ?_); rintro e wg ⟨rfl, rfl⟩)
        exact ret_blk rfl rfl rfl X.lp X.ls X.ln HBZ.out ⟨A, c, rfl, HOZ.out, HRZ.out, HGZ.out⟩
      · have HXZ := Lib.hid (HX.out hgd)
        clear HG HX hgd HFC
        have hbd0 := bd_blk0 wr
        obtain ⟨wz, hst, hb, hg⟩ := HW.out.out.st_blk zblkV_size zblkM
        rw [zblkM_cells] at hst hb
        have HBZ := Lib.hid hb
        have HRZ := Lib.hid (rrd_ok12.put HW.out.rd hg (Nat.lt_of_lt_of_le HW.out.ha HW.out.hr))
        have HGZ := Lib.hid (only_new HW.out.far hg HW.out.hr)
        clear hb hg HW
        go_wp2_with (go_at_call 20; (with_reducible refine (HGK.out).mono ?_); rintro e wg ⟨rfl, rfl⟩)
        refine ret_blk (e := 0) (h := 0) (p := zeros) (s := zeros) (n := zeros) (v := .slice none 0 0) rfl rfl rfl zeros_len12 zeros_len12 zeros_len12 HBZ.out ?_
        rw [HXZ.out]
        exact ⟨none, 0, rfl, QK.own_nil _ _, HRZ.out, HGZ.out⟩
set_option maxRecDepth 100000 in
theorem rblkread_any (a : Nat) (l : List UInt8) (b : Bool) (w : World) (h : RRd w a l b) : Calls Tryz.prog 42 #[.pointer (some ⟨a, 0, none⟩)] w (BlkIs RRd a (bkX l b) (bkF l b) w) := by
  obtain ⟨r0, r1, r2, r3, r4, r5, N, S, T, hf⟩ := bk_facts l b
  exact rblkread_gen a l b w h hf
end Go.Proofs.YtbclepdcngaonaaGreatDoor

namespace Go.Proofs.YtbclepdcngaonaaGreatDoor
open Go.RowKit

set_option maxRecDepth 100000 in
theorem bkX_len (l : List UInt8) (b : Bool) : (bkX l b).reqs.length ≤ 8 := by
  cases h : (bkF l b).2 with
  | true =>
    rw [bkX_bad h]
    exact Nat.zero_le _
  | false =>
    have h2 := (blk_parts (bkX_good h (bk2_len _ _) (bk3_len _ _) (bk4_len _ _))).2.2.2.2.2
    rw [h2, qsT_len]
    exact (bk5_in l b).2
set_option maxRecDepth 100000 in
theorem few_wf {x : BlkX} (hE : R64 x.epoch) (hH : R64 x.height) (hn : ∀ q ∈ x.reqs, R64 q.client ∧ R64 q.num ∧ R64 q.kind ∧ R64 q.ck ∧ R64 q.cid ∧ R64 q.cn ∧ R64 q.high) (h : Few x) : x.Wf :=
  ⟨hE, hH, by have := h.len; omega, fun q hq => by
    obtain ⟨i1, i2, i3, i4, i5, i6, i7⟩ := hn q hq
    have := h.txt q hq
    exact ⟨i1, i2, i3, i4, i5, i6, i7, by omega, by omega, by omega⟩⟩

end Go.Proofs.YtbclepdcngaonaaGreatDoor
