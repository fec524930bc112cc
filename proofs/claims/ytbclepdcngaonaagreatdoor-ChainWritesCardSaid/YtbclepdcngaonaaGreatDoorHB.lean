/-
  Configurations read: on plain lists, and what the walks carry of memory.
  A configuration read: config.Read.
  A configuration read, by the document: wapentakeref08.Read.
-/
import Derived.Test.YtbclepdcngaonaaGreatDoorNB
import Derived.Test.YtbclepdcngaonaaGreatDoorRD
import Derived.Test.YtbclepdcngaonaaGreatDoorHA
namespace Go.Proofs.YtbclepdcngaonaaGreatDoor
open Go.RowKit

/-! ### On plain lists -/
def crA (last : Int) (s : List UInt8 × Bool) := inV (last + 1) 63 s.1 s.2
def crB (last : Int) (s : List UInt8 × Bool) := inV 0 6 (crA last s).2.1 (crA last s).2.2
def crC (last : Int) (s : List UInt8 × Bool) := dgV (crB last s).2.1 (crB last s).2.2
set_option maxRecDepth 100000 in
theorem crC_len (last : Int) (s : List UInt8 × Bool) : (crC last s).1.length = 32 := digV_len _ _
/-- A member read behind another one's number; and what is carried on. -/
def crM (t : Int × List UInt8 × Bool) : MemX := ⟨(crA t.1 t.2).1, (crC t.1 t.2).1, (crB t.1 t.2).1, crC_len _ _⟩
def crN (t : Int × List UInt8 × Bool) : Int × List UInt8 × Bool := ((crA t.1 t.2).1, (crC t.1 t.2).2)
def crS : Nat → Int × List UInt8 × Bool → Int × List UInt8 × Bool
  | 0, t => t
  | k + 1, t => crN (crS k t)
def crT : Nat → Int × List UInt8 × Bool → List MemX
  | 0, _ => []
  | k + 1, t => crT k t ++ [crM (crS k t)]
set_option maxRecDepth 100000 in
theorem crT_len (k : Nat) (t : Int × List UInt8 × Bool) : (crT k t).length = k := by
  induction k with
  | zero => rw [crT]; rfl
  | succ k ih => rw [crT, List.length_append, ih, List.length_singleton]
def cr0 (l : List UInt8) (b : Bool) := inV 0 1073741824 l b
def cr1 (l : List UInt8) (b : Bool) := inV 1 10 (cr0 l b).2.1 (cr0 l b).2.2
def crK (l : List UInt8) (b : Bool) : Nat := (cr1 l b).1.toNat
def crFof (n : Nat) (t : Int × List UInt8 × Bool) : List UInt8 × Bool := (crS n t).2
def crF (l : List UInt8) (b : Bool) : List UInt8 × Bool := crFof (crK l b) (0, (cr1 l b).2)
def crE (l : List UInt8) (b : Bool) : Int := if (crF l b).2 = true then 0 else (cr0 l b).1
def crMs (l : List UInt8) (b : Bool) : List MemX := if (crF l b).2 = true then [] else crT (crK l b) (0, (cr1 l b).2)
set_option maxRecDepth 100000 in
theorem inV_any (lo hi : Int) (l : List UInt8) (b : Bool) : (inV lo hi l b).1 = 0 ∨ (lo ≤ (inV lo hi l b).1 ∧ (inV lo hi l b).1 ≤ hi) := by
  unfold inV
  by_cases h : numV l b < lo ∨ hi < numV l b
  · rw [if_pos h]
    exact .inl rfl
  · rw [if_neg h]
    generalize numV l b = n at *
    refine .inr ⟨?_, ?_⟩ <;> (show _ ≤ _) <;> omega
set_option maxRecDepth 100000 in
theorem inV_ten (l : List UInt8) (b : Bool) : (inV 1 10 l b).1 = (((inV 1 10 l b).1.toNat : Nat) : Int) ∧ (inV 1 10 l b).1.toNat ≤ 10 := by
  have h := inV_any 1 10 l b
  generalize inV 1 10 l b = x at *
  omega
set_option maxRecDepth 100000 in
theorem crK_in (l : List UInt8) (b : Bool) : (cr1 l b).1 = (crK l b : Int) ∧ crK l b ≤ 10 := inV_ten _ _
set_option maxRecDepth 100000 in
theorem crA_in {last : Int} (h : 0 ≤ last ∧ last ≤ 63) (s : List UInt8 × Bool) : 0 ≤ (crA last s).1 ∧ (crA last s).1 ≤ 63 := by
  have := inV_any (last + 1) 63 s.1 s.2
  unfold crA
  generalize inV (last + 1) 63 s.1 s.2 = x at *
  omega
set_option maxRecDepth 100000 in
theorem crS_zero (t : Int × List UInt8 × Bool) : crS 0 t = t := by rw [crS]
set_option maxRecDepth 100000 in
theorem crS_succ (k : Nat) (t : Int × List UInt8 × Bool) : crS (k + 1) t = crN (crS k t) := by rw [crS]
set_option maxRecDepth 100000 in
theorem crT_succ (k : Nat) (t : Int × List UInt8 × Bool) : crT (k + 1) t = crT k t ++ [crM (crS k t)] := by rw [crT]
set_option maxRecDepth 100000 in
theorem crN_fst (t : Int × List UInt8 × Bool) : (crN t).1 = (crA t.1 t.2).1 := by rw [crN]
set_option maxRecDepth 100000 in
theorem crM_id (t : Int × List UInt8 × Bool) : (crM t).id = (crA t.1 t.2).1 := by rw [crM]
set_option maxRecDepth 100000 in
theorem crN_in {t : Int × List UInt8 × Bool} (h : 0 ≤ t.1 ∧ t.1 ≤ 63) : 0 ≤ (crN t).1 ∧ (crN t).1 ≤ 63 := by
  rw [crN_fst]
  exact crA_in h t.2
set_option maxRecDepth 100000 in
theorem crM_in {t : Int × List UInt8 × Bool} (h : 0 ≤ t.1 ∧ t.1 ≤ 63) : 0 ≤ (crM t).id ∧ (crM t).id ≤ 63 := by
  rw [crM_id]
  exact crA_in h t.2
set_option maxRecDepth 100000 in
theorem crS_in {t : Int × List UInt8 × Bool} (h : 0 ≤ t.1 ∧ t.1 ≤ 63) (k : Nat) : 0 ≤ (crS k t).1 ∧ (crS k t).1 ≤ 63 := by
  induction k with
  | zero => rw [crS_zero]; exact h
  | succ k ih => rw [crS_succ]; exact crN_in ih
set_option maxRecDepth 100000 in
theorem crT_in {t : Int × List UInt8 × Bool} (h : 0 ≤ t.1 ∧ t.1 ≤ 63) (k : Nat) : ∀ m ∈ crT k t, 0 ≤ m.id ∧ m.id ≤ 63 := by
  induction k with
  | zero => intro m hm; rw [crT] at hm; cases hm
  | succ k ih =>
    intro m hm
    rw [crT_succ] at hm
    rcases List.mem_append.1 hm with hm | hm
    · exact ih m hm
    · rw [List.mem_singleton.1 hm]
      exact crM_in (crS_in h k)
set_option maxRecDepth 100000 in
theorem crMs_ok (l : List UInt8) (b : Bool) : (crMs l b).length ≤ 10 ∧ (∀ m ∈ crMs l b, R64 m.id) ∧ R64 (crE l b) := by
  refine ⟨?_, ?_, ?_⟩
  · unfold crMs
    split
    · simp
    · rw [crT_len]; exact (crK_in l b).2
  · intro m hm
    unfold crMs at hm
    split at hm
    · cases hm
    · have := crT_in (t := (0, (cr1 l b).2)) ⟨Int.le_refl 0, (show (0 : Int) ≤ 63 by decide)⟩ _ m hm
      unfold R64
      omega
  · unfold crE R64
    split
    · omega
    · have := inV_any 0 1073741824 l b
      unfold cr0
      generalize inV 0 1073741824 l b = x at *
      omega
set_option maxRecDepth 100000 in
theorem cr_good {l : List UInt8} {b : Bool} (h : (crF l b).2 = false) : crE l b = (cr0 l b).1 ∧ crMs l b = crT (crK l b) (0, (cr1 l b).2) := by
  have hn : ¬ ((crF l b).2 = true) := by rw [h]; simp
  unfold crE crMs
  rw [if_neg hn, if_neg hn]
  exact ⟨rfl, rfl⟩
set_option maxRecDepth 100000 in
theorem cr_bad {l : List UInt8} {b : Bool} (h : (crF l b).2 = true) : crE l b = 0 ∧ crMs l b = [] := by
  unfold crE crMs
  rw [if_pos h, if_pos h]
  exact ⟨rfl, rfl⟩

/-! ### In memory -/
/-- A reader's word that stands while blocks other than its own are turned. -/
structure RdOk (R : World → Nat → List UInt8 → Bool → Prop) : Prop where
  below : ∀ {w w' : World} {a : Nat} {l : List UInt8} {b : Bool}, R w a l b → Below w.heap.size w w' → R w' a l b
  put : ∀ {w w' : World} {a g : Nat} {l : List UInt8} {b : Bool}, R w a l b → w.grownBy w' (some g) → a < g → R w' a l b
set_option maxRecDepth 100000 in
theorem RdOk.own {R : World → Nat → List UInt8 → Bool → Prop} (hR : RdOk R) {w w' : World} {a B s n : Nat} {e : TypeId} {v : Value} {xs : List Value} {l : List UInt8} {b : Bool} (h : R w a l b) (ho : w.ownsRow B e s v n xs) (hg : w.grownBy w' v.ownBlock) (ha : a < B) : R w' a l b := by
  cases e : v.ownBlock with
  | none =>
    rw [e] at hg
    exact hR.below h ⟨hg.os, hg.tape, hg.output, hg.size, fun i hi => hg.block i hi (by simp)⟩
  | some q =>
    have h1 := (ho.lt q e).1
    rw [e] at hg
    exact hR.put h hg (by omega)
set_option maxRecDepth 100000 in
theorem rd_ok : RdOk Rd := ⟨rd_below, rd_put⟩

set_option maxRecDepth 100000 in
theorem Box.m_id {w : World} {g : Nat} {t : TypeId} {i : Int} {r : List UInt8} {h : Int} (hb : Box w g t (memL i r h).toArray) (u : Int) : Box (w.setCell ⟨g, 0, none⟩ (.int .i64 u)) g t (memL u r h).toArray := Box.put_in (pre := []) hb rfl _
set_option maxRecDepth 100000 in
theorem Box.m_high {w : World} {g : Nat} {t : TypeId} {i : Int} {r : List UInt8} {h : Int} (hb : Box w g t (memL i r h).toArray) (hr : r.length = 32) (u : Int) : Box (w.setCell ⟨g, 33, none⟩ (.int .i64 u)) g t (memL i r u).toArray :=
  Box.put_in (pre := .int .i64 i :: r.map bv) (v := .int .i64 h) (post := []) hb (by simp [hr]) _
set_option maxRecDepth 100000 in
theorem Box.m_root {w : World} {g : Nat} {t : TypeId} {i : Int} {r : List UInt8} {h : Int} (hb : Box w g t (memL i r h).toArray) (hr : r.length = 32) (d : List UInt8) (hd : d.length = 32) :
    (stDigest (.pointer (some ⟨g, 1, none⟩)) (.agg (d.map bv).toArray)).run Tryz.prog w = .ok () (w.setCells g 1 (d.map bv)) ∧ Box (w.setCells g 1 (d.map bv)) g t (memL i d h).toArray ∧ w.grownBy (w.setCells g 1 (d.map bv)) (some g) :=
  ⟨hb.store_mid (o := 1) (by rw [List.size_toArray]; unfold memL; rw [List.length_cons, keyL_len hr]; decide) d hd, Box.put_mid (pre := [.int .i64 i]) (mid := r.map bv) (post := [.int .i64 h]) hb rfl (by simp [hr, hd]), only_cells (g := g) _ 1 w⟩
set_option maxRecDepth 100000 in
theorem Box.m_0 {w : World} {g : Nat} {t : TypeId} {i : Int} {r : List UInt8} {h : Int} (hb : Box w g t (memL i r h).toArray) : w.cell? ⟨g, 0, none⟩ = some (.int .i64 i) := by rw [hb.cell, List.getElem?_toArray]; rfl
set_option maxRecDepth 100000 in
theorem Box.m_33 {w : World} {g : Nat} {t : TypeId} {i : Int} {r : List UInt8} {h : Int} (hb : Box w g t (memL i r h).toArray) (hr : r.length = 32) : w.cell? ⟨g, 33, none⟩ = some (.int .i64 h) := by
  rw [hb.cell, List.getElem?_toArray]
  exact MemX.cell33 ⟨i, r, h, hr⟩
set_option maxRecDepth 100000 in
theorem Box.m_ld {w : World} {g : Nat} {t : TypeId} {i : Int} {r : List UInt8} {h : Int} (hb : Box w g t (memL i r h).toArray) (hr : r.length = 32) : (ldMem (.pointer (some ⟨g, 0, none⟩))).run Tryz.prog w = .ok (.agg (memL i r h).toArray) w :=
  Box.ldm (x := ⟨i, r, h, hr⟩) hb

structure CW (R : World → Nat → List UInt8 → Bool → Prop) (w0 : World) (a r b : Nat) (ep : Int) (v : Value) (L : List MemX) (s : List UInt8 × Bool) (w : World) : Prop where
  out : Box w r 24 #[.int .i64 0, .slice none 0 0]
  box : Box w b 24 #[.int .i64 ep, v]
  rd : R w a s.1 s.2
  own : MK.Own w w0.heap.size v L
  far : w0.grownBy w (some a)
  ha : a < w0.heap.size
  hr : w0.heap.size ≤ r
  hb : w0.heap.size ≤ b
  ne : r ≠ b
/-- .. and a member that is being read. -/
structure MW (R : World → Nat → List UInt8 → Bool → Prop) (w0 : World) (a r b q : Nat) (ep : Int) (v : Value) (L : List MemX) (s : List UInt8 × Bool) (i : Int) (d : List UInt8) (h : Int) (w : World) : Prop where
  cw : CW R w0 a r b ep v L s w
  mem : Box w q 66 (memL i d h).toArray
  hq : w0.heap.size ≤ q
  nv : v.ownBlock ≠ some q
section
variable {R : World → Nat → List UInt8 → Bool → Prop} {w0 w w' : World} {a r b q : Nat} {ep : Int} {v : Value} {L : List MemX} {s s' : List UInt8 × Bool} {i h : Int} {d : List UInt8}
set_option maxRecDepth 100000 in
theorem CW.of (h : QW R 24 #[.int .i64 0, .slice none 0 0] w0 a r b #[.int .i64 ep, .slice none 0 0] s w) : CW R w0 a r b ep (.slice none 0 0) [] s w :=
  ⟨h.out, h.box, h.rd, MK.own_nil _ _, h.far, h.ha, h.hr, h.hb, h.ne⟩
set_option maxRecDepth 100000 in
theorem CW.turn (h : CW R w0 a r b ep v L s w) (hg : w.grownBy w' (some a)) (hr : R w' a s'.1 s'.2) : CW R w0 a r b ep v L s' w' :=
  ⟨h.out.grown hg (by have := h.ha; have := h.hr; intro e; cases e; omega), h.box.grown hg (by have := h.ha; have := h.hb; intro e; cases e; omega), hr,
    World.ownsRow.kept h.own hg (.inr (fun e => by have := (h.own.lt a e).1; have := h.ha; omega)), only_trans h.far hg, h.ha, h.hr, h.hb, h.ne⟩
set_option maxRecDepth 100000 in
theorem CW.call (h : CW R w0 a r b ep v L s w) (hR : RdOk R) (hb : Below w.heap.size w w') : CW R w0 a r b ep v L s w' :=
  ⟨h.out.below hb h.out.lt, h.box.below hb h.box.lt, hR.below h.rd hb, EK.Own.keep h.own hb, only_trans h.far (only_below hb (some a)), h.ha, h.hr, h.hb, h.ne⟩
set_option maxRecDepth 100000 in
theorem CW.start {w1 w2 w3 : World} {o : Obj} (hR : RdOk R) (h1 : Box w1 w0.heap.size 24 #[.int .i64 0, .slice none 0 0]) (hg1 : w0.grownBy w1 (some a)) (hg2 : w1.grownBy w2 (some a)) (hr : R w2 a s.1 s.2) (hb3 : Box w3 w2.heap.size 24 #[.int .i64 ep, .slice none 0 0]) (hg3 : (w2.alloc o).grownBy w3 (some w2.heap.size)) (ha : a < w0.heap.size) :
    CW R w0 a w0.heap.size w2.heap.size ep (.slice none 0 0) [] s w3 := by
  have hs1 := hg1.size
  have hs2 := hg2.size
  have hl := h1.lt
  have hF : Below w2.heap.size w2 (w2.alloc o) := (Below.refl _ _).alloc (Nat.le_refl _) _
  have h2 := h1.grown hg2 (by intro e; injection e with e; omega)
  exact ⟨(h2.below hF h2.lt).grown hg3 (by intro e; injection e with e; have := h2.lt; omega), hb3, hR.put (hR.below hr hF) hg3 (by omega), MK.own_nil _ _, only_new (only_trans (only_trans hg1 hg2) (only_below hF (some a))) hg3 (by omega), ha, Nat.le_refl _, by omega, by omega⟩
set_option maxRecDepth 100000 in
/-- A block is laid for a member. -/
theorem CW.new (hw : CW R w0 a r b ep v L s w) (hR : RdOk R) (hb : Below w.heap.size w w') (hm : Box w' w.heap.size 66 (memL i d h).toArray) : MW R w0 a r b w.heap.size ep v L s i d h w' :=
  ⟨hw.call hR hb, hm, hw.far.size, fun e => by have := (hw.own.lt _ e).2; omega⟩
set_option maxRecDepth 100000 in
theorem MW.turn (hw : MW R w0 a r b q ep v L s i d h w) (hg : w.grownBy w' (some a)) (hr : R w' a s'.1 s'.2) : MW R w0 a r b q ep v L s' i d h w' :=
  ⟨hw.cw.turn hg hr, hw.mem.grown hg (by have := hw.cw.ha; have := hw.hq; intro e; cases e; omega), hw.hq, hw.nv⟩
set_option maxRecDepth 100000 in
theorem MW.put {i' h' : Int} {d' : List UInt8} (hw : MW R w0 a r b q ep v L s i d h w) (hR : RdOk R) (hm : Box w' q 66 (memL i' d' h').toArray) (hg : w.grownBy w' (some q)) : MW R w0 a r b q ep v L s i' d' h' w' := by
  have h1 := hw.cw
  refine ⟨⟨h1.out.grown hg (by intro e; injection e with e; exact Box.apart h1.out hw.mem (by decide) e), h1.box.grown hg (by intro e; injection e with e; exact Box.apart h1.box hw.mem (by decide) e), hR.put h1.rd hg (by have := h1.ha; have := hw.hq; omega),
    World.ownsRow.kept h1.own hg (.inr hw.nv), only_new h1.far hg hw.hq, h1.ha, h1.hr, h1.hb, h1.ne⟩, hm, hw.hq, hw.nv⟩
set_option maxRecDepth 100000 in
/-- It is appended. -/
theorem MW.push (hd : d.length = 32) (hw : MW R w0 a r b q ep v L s i d h w) (hR : RdOk R) (hl : L.length ≤ 1000) :
    (bsT 22 1 #[(0, .agg (memL i d h).toArray)]).run Tryz.prog w = .ok (.slice (some ⟨w.heap.size, 0, none⟩) 1 1) (w.alloc (.cells (memL i d h).toArray 66)) ∧
    ∃ A n c w', (apAll #[22, 22] 22 #[v, .slice (some ⟨w.heap.size, 0, none⟩) 1 1]).run Tryz.prog (w.alloc (.cells (memL i d h).toArray 66)) = .ok (.slice A n c) w' ∧ w'.cell? ⟨b, 1, none⟩ = some v ∧ w'.frozen? ⟨b, 1, none⟩ = false ∧
      CW R w0 a r b ep (.slice A n c) (L ++ [⟨i, d, h, hd⟩]) s (w'.setCell ⟨b, 1, none⟩ (.slice A n c)) ∧ Box (w'.setCell ⟨b, 1, none⟩ (.slice A n c)) q 66 (memL i d h).toArray := by
  have h1 := hw.cw
  have hF : Below w.heap.size w (w.alloc (.cells (memL i d h).toArray 66)) := (Below.refl _ _).alloc (Nat.le_refl _) _
  refine ⟨MK.build1 ⟨i, d, h, hd⟩ (.agg (memL i d h).toArray) rfl (by decide) w, ?_⟩
  have h2 := h1.call hR hF
  have hm2 : Box (w.alloc (.cells (memL i d h).toArray 66)) q 66 (memL i d h).toArray := hw.mem.alloc _
  obtain ⟨v', w', hr, ho, hg⟩ := MK.append h2.own (A := some ⟨w.heap.size, 0, none⟩) (m := 1) (c := 1) (es := [⟨i, d, h, hd⟩]) rfl (MK.see_one w ⟨i, d, h, hd⟩) (by omega) (by show (_ + 1) * 48 ≤ _; omega) h2.far.size
  obtain ⟨A, c, rfl⟩ := ho.slice
  have hbl : Below w0.heap.size (w.alloc (.cells (memL i d h).toArray 66)) w' := below_own h2.own hg h2.far.size
  have hout := box_own h2.out h2.own (by decide) hg
  have hbx := box_own h2.box h2.own (by decide) hg
  have hmm : Box w' q 66 (memL i d h).toArray := hm2.grown hg (fun e => hw.nv e.symm)
  have hfar : w0.grownBy w' (some a) := ⟨hbl.os.trans h2.far.os, hbl.tape.trans h2.far.tape, hbl.output.trans h2.far.output, Nat.le_trans h2.far.size hbl.size, fun i hi hn => (hbl.block i hi).trans (h2.far.block i hi hn)⟩
  have hp : w'.grownBy (w'.setCell ⟨b, 1, none⟩ (.slice A (L ++ [(⟨i, d, h, hd⟩ : MemX)]).length c)) (some b) := only_put (only_refl _ _) 1 _
  have hqs : q < w.heap.size := hw.mem.lt
  refine ⟨A, _, c, w', hr, hbx.cell 1, hbx.free 1, ⟨hout.grown hp (fun e => by injection e with e; exact h1.ne e), hbx.put 1 _, hR.put (hR.own h2.rd h2.own hg h2.ha) hp (by have := h1.ha; have := h1.hb; omega),
    World.ownsRow.kept ho hp (.inr (Box.own_ne hbx ho (by decide))), only_new hfar hp h1.hb, h1.ha, h1.hr, h1.hb, h1.ne⟩, hmm.grown hp (fun e => by injection e with e; exact Box.apart hbx hmm (by decide) e.symm)⟩
end
end Go.Proofs.YtbclepdcngaonaaGreatDoor

namespace Go.Proofs.YtbclepdcngaonaaGreatDoor
open Go.RowKit

/-- What Read answers, and leaves. -/
def CfgIs (R : World → Nat → List UInt8 → Bool → Prop) (a : Nat) (l : List UInt8) (b : Bool) (w : World) (e : Ending) (w' : World) : Prop :=
  ∃ A z, e = .returned (.agg (cfgV (crE l b) A (crMs l b).length z)) ∧ MK.Own w' w.heap.size (.slice A (crMs l b).length z) (crMs l b) ∧ R w' a (crF l b).1 (crF l b).2 ∧ w.grownBy w' (some a)
set_option maxRecDepth 100000 in
theorem crA_eq (t : Int × List UInt8 × Bool) : inV (t.1 + 1) 63 t.2.1 t.2.2 = crA t.1 t.2 := rfl
set_option maxRecDepth 100000 in
theorem crB_eq (t : Int × List UInt8 × Bool) : inV 0 6 (crA t.1 t.2).2.1 (crA t.1 t.2).2.2 = crB t.1 t.2 := rfl
set_option maxRecDepth 100000 in
theorem crC_eq (t : Int × List UInt8 × Bool) : dgV (crB t.1 t.2).2.1 (crB t.1 t.2).2.2 = crC t.1 t.2 := rfl
set_option maxRecDepth 100000 in
theorem crN_eq (t : Int × List UInt8 × Bool) : crN t = ((crA t.1 t.2).1, (crC t.1 t.2).2) := by rw [crN]
set_option maxRecDepth 100000 in
theorem crM_eq (t : Int × List UInt8 × Bool) (h : (crC t.1 t.2).1.length = 32) : crM t = ⟨(crA t.1 t.2).1, (crC t.1 t.2).1, (crB t.1 t.2).1, h⟩ := by rw [crM]
set_option maxRecDepth 100000 in
theorem cr0_eq (l : List UInt8) (b : Bool) : inV 0 1073741824 l b = cr0 l b := rfl
set_option maxRecDepth 100000 in
theorem cr1_eq (l : List UInt8) (b : Bool) : inV 1 10 (cr0 l b).2.1 (cr0 l b).2.2 = cr1 l b := rfl
set_option maxRecDepth 100000 in
theorem crF_eq (l : List UInt8) (b : Bool) : crF l b = crFof (crK l b) (0, (cr1 l b).2) := by rw [crF]
set_option maxRecDepth 100000 in
theorem crFof_eq (n : Nat) (t : Int × List UInt8 × Bool) : crFof n t = (crS n t).2 := by rw [crFof]
set_option maxRecDepth 100000 in
theorem bd_cfg1 (ep : Int) (w : World) : (Instr.build 24 #[(0, .int .i64 ep)]).run Tryz.prog w = .ok (.agg #[.int .i64 ep, .slice none 0 0]) w := run_build w _ _ _ (by kernel_rfl)
set_option maxRecDepth 100000 in
theorem bd_cfg0 (w : World) : (Instr.build 24 #[]).run Tryz.prog w = .ok (.agg #[.int .i64 0, .slice none 0 0]) w := run_build w _ _ _ (by kernel_rfl)
set_option maxRecDepth 100000 in
theorem crT_zero (t : Int × List UInt8 × Bool) : crT 0 t = [] := by rw [crT]
set_option maxRecDepth 100000 in
theorem one_wrap {x : Int} (h : 0 ≤ x ∧ x ≤ 63) : IntKind.i64.wrap (x + 1) = x + 1 := by rw [IntKind.wrap_i64]; omega

/-- What is read, as facts on names. -/
structure CrFacts (l : List UInt8) (b : Bool) (E : Int) (V : List MemX) (r0 r1 : Int × List UInt8 × Bool) (N : Nat) (F : List UInt8 × Bool) (S : Nat → Int × List UInt8 × Bool) (T : Nat → List MemX) : Prop where
  good : F.2 = false → E = r0.1 ∧ V = T N
  bad : F.2 = true → E = 0 ∧ V = []
  fin : F = (S N).2
  n1 : r1.1 = (N : Int)
  n2 : N ≤ 10
  e0 : inV 0 1073741824 l b = r0
  e1 : inV 1 10 r0.2.1 r0.2.2 = r1
  s0 : (S 0).1 = 0
  s1 : (S 0).2 = r1.2
  t0 : T 0 = []
  inn : ∀ k, 0 ≤ (S k).1 ∧ (S k).1 ≤ 63
  len : ∀ k, (T k).length = k
  step : ∀ k, ∃ (ra rb : Int × List UInt8 × Bool) (rc : List UInt8 × List UInt8 × Bool) (h : rc.1.length = 32), inV ((S k).1 + 1) 63 (S k).2.1 (S k).2.2 = ra ∧ inV 0 6 ra.2.1 ra.2.2 = rb ∧ dgV rb.2.1 rb.2.2 = rc ∧ T (k + 1) = T k ++ [⟨ra.1, rc.1, rb.1, h⟩] ∧ (S (k + 1)).1 = ra.1 ∧ (S (k + 1)).2 = rc.2
set_option maxRecDepth 100000 in
theorem pair_fst {α β : Type} {x : α × β} {a : α} {b : β} (h : x = (a, b)) : x.1 = a := by rw [h]
set_option maxRecDepth 100000 in
theorem pair_snd {α β : Type} {x : α × β} {a : α} {b : β} (h : x = (a, b)) : x.2 = b := by rw [h]
set_option maxRecDepth 100000 in
theorem crS_step (k : Nat) (t : Int × List UInt8 × Bool) : ∃ (ra rb : Int × List UInt8 × Bool) (rc : List UInt8 × List UInt8 × Bool) (h : rc.1.length = 32), inV ((crS k t).1 + 1) 63 (crS k t).2.1 (crS k t).2.2 = ra ∧ inV 0 6 ra.2.1 ra.2.2 = rb ∧ dgV rb.2.1 rb.2.2 = rc ∧ crT (k + 1) t = crT k t ++ [⟨ra.1, rc.1, rb.1, h⟩] ∧ (crS (k + 1) t).1 = ra.1 ∧ (crS (k + 1) t).2 = rc.2 := by
  have hsu := crT_succ k t
  have hss := crS_succ k t
  generalize crT k t = L at *
  generalize crT (k + 1) t = L2 at *
  generalize crS (k + 1) t = u at *
  generalize crS k t = t at *
  have h32 := crC_len t.1 t.2
  have ea := crA_eq t
  have eb := crB_eq t
  have ec := crC_eq t
  have hM := crM_eq t h32
  have hNx := crN_eq t
  generalize crA t.1 t.2 = ra at *
  generalize crB t.1 t.2 = rb at *
  generalize crC t.1 t.2 = rc at *
  refine ⟨ra, rb, rc, h32, ea, eb, ec, by rw [hsu, hM], ?_, ?_⟩
  · exact pair_fst (hss.trans hNx)
  · exact pair_snd (hss.trans hNx)
set_option maxRecDepth 100000 in
theorem cr_facts' {l : List UInt8} {b : Bool} {E : Int} {V : List MemX} {r0 r1 : Int × List UInt8 × Bool} {N : Nat} {F : List UInt8 × Bool} {t : Int × List UInt8 × Bool} {s : List UInt8 × Bool} (ht0 : t = (0, s)) (hs : s = r1.2) (hg : F.2 = false → E = r0.1 ∧ V = crT N t) (hx : F.2 = true → E = 0 ∧ V = []) (hf : F = crFof N t)
    (hN : r1.1 = (N : Int) ∧ N ≤ 10) (e0 : inV 0 1073741824 l b = r0) (e1 : inV 1 10 r0.2.1 r0.2.2 = r1) : CrFacts l b E V r0 r1 N F (fun k => crS k t) (fun k => crT k t) := by
  have ht1 : t.1 = 0 := pair_fst ht0
  have ht2 : t.2 = s := pair_snd ht0
  rw [crFof_eq] at hf
  exact ⟨hg, hx, hf, hN.1, hN.2, e0, e1, by rw [crS_zero]; exact ht1, by rw [crS_zero]; exact ht2.trans hs, crT_zero t, fun k => crS_in (by rw [ht1]; omega) k, fun k => crT_len k t, fun k => crS_step k t⟩
set_option maxRecDepth 100000 in
theorem cr_facts (l : List UInt8) (b : Bool) : ∃ (S : Nat → Int × List UInt8 × Bool) (T : Nat → List MemX), CrFacts l b (crE l b) (crMs l b) (cr0 l b) (cr1 l b) (crK l b) (crF l b) S T :=
  ⟨_, _, cr_facts' (t := (0, (cr1 l b).2)) (s := (cr1 l b).2) rfl rfl cr_good cr_bad (crF_eq l b) (crK_in l b) (cr0_eq l b) (cr1_eq l b)⟩

attribute [local go_sem ↓] ldDigest_def stDigest_def ldMem_def stMem_def bdMem_def bsT_def apAll_def ldCf_def stCf_def
set_option maxRecDepth 100000 in
set_option maxHeartbeats 4000000 in
theorem cfgread_gen (a : Nat) (l : List UInt8) (b : Bool) (w : World) (h : Rd w a l b) {E : Int} {V : List MemX} {r0 r1 : Int × List UInt8 × Bool} {N : Nat} {F : List UInt8 × Bool} {S : Nat → Int × List UInt8 × Bool} {T : Nat → List MemX} (hf : CrFacts l b E V r0 r1 N F S T) :
    Calls Tryz.prog 41 #[.pointer (some ⟨a, 0, none⟩)] w fun e w' => ∃ A z, e = .returned (.agg (cfgV E A V.length z)) ∧ MK.Own w' w.heap.size (.slice A V.length z) V ∧ Rd w' a F.1 F.2 ∧ w.grownBy w' (some a) := by
  have HG := Lib.hid hf.good
  have HX := Lib.hid hf.bad
  have HF := Lib.hid hf.fin
  have HN2 := Lib.hid hf.n2
  have HN1 := Lib.hid hf.n1
  have E0 := Lib.hid hf.e0
  have E1 := Lib.hid hf.e1
  have HFC := Lib.hid hf
  clear hf
  obtain ⟨w1, hw1⟩ : ∃ w1, w1 = w.alloc (.cells #[.int .i64 0, .slice none 0 0] 24) := ⟨_, rfl⟩
  have HO1 : Hid (Box w1 w.heap.size 24 #[.int .i64 0, .slice none 0 0]) := by rw [hw1]; exact Box.made _ _ _
  have HR1 : Hid (Rd w1 a l b) := by rw [hw1]; exact h.alloc _
  have HG1 : Hid (w.grownBy w1 (some a)) := by rw [hw1]; exact World.grownBy_alloc w _ _
  have HA := Lib.hid h.lt
  have HC : Hid (Calls Tryz.prog 71 #[.pointer (some ⟨a, 0, none⟩), .int .i64 0, .int .i64 1073741824] w1 fun e w' => e = .returned (.int .i64 r0.1) ∧ Rd w' a r0.2.1 r0.2.2 ∧ w1.grownBy w' (some a)) := Lib.hid (by
    have := in_any a 0 1073741824 l b w1 HR1.out
    rw [E0.out] at this
    exact this)
  clear h
  go_enter Tryz.func41, Tryz.ntmps41
  go_upto_region 1 with fail
  change Code.wp _ _ _ _ (w.alloc (.cells #[.int .i64 0, .slice none 0 0] 24))
  rw [← hw1]
  clear hw1
  have hbd := bd_cfg1 r0.1
  go_upto_region 2 with (go_at_call 71; (with_reducible refine (HC.out).mono ?_); rintro e w2 ⟨rfl, hr, hg⟩; obtain ⟨w3, hst, hb3, hg3⟩ := (Box.made w2 24 #[.int .i64 0, .slice none 0 0]).s_cf rfl r0.1 none 0 0; have HR2 := Lib.hid hr; have HG2 := Lib.hid hg; have HB3 := Lib.hid hb3; have HG3 := Lib.hid hg3; clear hr hg hb3 hg3)
  have HW3 : Hid (CW Rd w a w.heap.size w2.heap.size r0.1 (.slice none 0 0) [] r0.2 w3) := Lib.hid (CW.start rd_ok HO1.out HG1.out HG2.out HR2.out HB3.out HG3.out HA.out)
  clear HB3 HG3 HR2 HG2 HC HO1 HR1 HG1 HA hbd hst
  generalize w2.heap.size = bb at *
  generalize w.heap.size = rr at *
  have HC : Hid (Calls Tryz.prog 71 #[.pointer (some ⟨a, 0, none⟩), .int .i64 1, .int .i64 10] w3 fun e w' => e = .returned (.int .i64 r1.1) ∧ CW Rd w a rr bb r0.1 (.slice none 0 0) [] r1.2 w') := Lib.hid (by
    have := in_any a 1 10 r0.2.1 r0.2.2 w3 HW3.out.rd
    rw [E1.out] at this
    exact this.mono fun e w'' ⟨he, hr, hg⟩ => ⟨he, HW3.out.turn hg hr⟩)
  go_upto_region 4 with (go_at_call 71; (with_reducible refine (HC.out).mono ?_); rintro e w4 ⟨rfl, hw⟩; have HW4 := Lib.hid hw; clear hw)
  rw [HN1.out]
  clear HC HW3 E0 E1 HN1
  generalize r0.1 = ep at *
  rw [← HFC.out.s1] at HW4
  go_loopw [4, 11] (fun ah i wr => ∃ (k : Nat) (v : Value) (z : Int), k ≤ N ∧ ah = .int .i64 z ∧ i = .int .i64 (k : Int) ∧ Hid (z = (S k).1) ∧ Hid (CW Rd w a rr bb ep v (T k) (S k).2 wr)) (fun _ i _ => N - (intOf i).toNat)
  case atStart => exact ⟨0, _, 0, Nat.zero_le _, rfl, rfl, Lib.hid HFC.out.s0.symm, Lib.hid (by rw [HFC.out.t0]; exact HW4.out)⟩
  case round =>
    clear HW4
    obtain ⟨k, v, z, hk, rfl, rfl, HZ, HW⟩ := hrel
    by_cases hlt : k < N
    · have i1 : (k : Int) < (N : Int) := by omega
      have wk : IntKind.i64.wrap ((k : Int) + 1) = ((k + 1 : Nat) : Int) := by
        rw [IntKind.wrap_i64]
        have := HN2.out
        omega
      have HLT := Lib.hid hlt
      obtain ⟨ra, rb, rc, h32, ea, eb, ec, hsu, hs1, hs2⟩ := HFC.out.step k
      have hin := HFC.out.inn k
      have HLL := Lib.hid (HFC.out.len k)
      have wz := one_wrap hin
      rw [← HZ.out] at ea wz
      have HS1 := Lib.hid hs1
      have HS2 := Lib.hid hs2
      have EA := Lib.hid ea
      have EB := Lib.hid eb
      have EC := Lib.hid ec
      have H32 := Lib.hid h32
      have HSU : Hid (T (k + 1) = T k ++ [⟨ra.1, rc.1, rb.1, H32.out⟩]) := Lib.hid hsu
      generalize T k = L at *
      generalize (S k).2 = t at *
      clear hsu hs1 hs2 ea eb ec h32 hin HZ hlt hk HX HG HF HFC
      have HC : Hid (Calls Tryz.prog 71 #[.pointer (some ⟨a, 0, none⟩), .int .i64 (z + 1), .int .i64 63] wr fun e w' => e = .returned (.int .i64 ra.1) ∧ CW Rd w a rr bb ep v L ra.2 w') := Lib.hid (by
        have := in_any a (z + 1) 63 t.1 t.2 wr HW.out.rd
        rw [EA.out] at this
        exact this.mono fun e w'' ⟨he, hr, hg⟩ => ⟨he, HW.out.turn hg hr⟩)
      have hbd := bd_id ra.1
      go_upto_region 6 with (go_at_call 71; (with_reducible refine (HC.out).mono ?_); rintro e w5 ⟨rfl, hw⟩; obtain ⟨w6, hst, hb6, hl6⟩ := laid_mem w5 ⟨ra.1, z32, 0, z32_len⟩; unfold MemX.enc MemX.cells zmemV at hst; have HW6 := Lib.hid (hw.new rd_ok hl6 hb6); clear hw hb6 hl6)
      clear HC HW hbd hst wz
      have HC : Hid (∀ w', MW Rd w a rr bb w5.heap.size ep v L ra.2 ra.1 z32 0 w' → Calls Tryz.prog 71 #[.pointer (some ⟨a, 0, none⟩), .int .i64 0, .int .i64 6] w' fun e w'' => e = .returned (.int .i64 rb.1) ∧ MW Rd w a rr bb w5.heap.size ep v L rb.2 ra.1 z32 0 w'') := Lib.hid (fun w' hw => by
        have := in_any a 0 6 ra.2.1 ra.2.2 w' hw.cw.rd
        rw [EB.out] at this
        exact this.mono fun e w'' ⟨he, hr, hg⟩ => ⟨he, hw.turn hg hr⟩)
      have HC6 := Lib.hid (HC.out w6 HW6.out)
      clear HC
      generalize w5.heap.size = q at *
      go_upto_region 7 with (go_at_call 71; (with_reducible refine (HC6.out).mono ?_); rintro e w7 ⟨rfl, hw⟩; have m33 := hw.mem.m_33 z32_len; have f33 := hw.mem.free 33; have HW7 := Lib.hid hw; clear hw)
      have HW8 : Hid (MW Rd w a rr bb q ep v L rb.2 ra.1 z32 rb.1 (w7.setCell ⟨q, 33, none⟩ (.int .i64 rb.1))) := Lib.hid (HW7.out.put rd_ok (HW7.out.mem.m_high z32_len rb.1) (only_put (only_refl _ _) _ _))
      clear HC6 HW6 HW7 m33 f33
      generalize w7.setCell ⟨q, 33, none⟩ (.int .i64 rb.1) = w8 at *
      have HC : Hid (Calls Tryz.prog 72 #[.pointer (some ⟨a, 0, none⟩)] w8 fun e w' => e = .returned (.agg (rc.1.map bv).toArray) ∧ MW Rd w a rr bb q ep v L rc.2 ra.1 z32 rb.1 w') := Lib.hid (by
        have h1 := digest_any a rb.2.1 rb.2.2 w8 HW8.out.cw.rd
        have h2 := EC.out
        subst h2
        exact h1.mono fun e w'' ⟨he, hr, hg⟩ => ⟨he, HW8.out.turn hg hr⟩)
      go_upto_region 8 with (go_at_call 72; (with_reducible refine (HC.out).mono ?_); rintro e w9 ⟨rfl, hw⟩; obtain ⟨hst, hbm, hgm⟩ := hw.mem.m_root z32_len rc.1 H32.out; have HW9 := Lib.hid (hw.put rd_ok hbm hgm); clear hw hbm hgm)
      clear HC HW8 hst
      generalize w9.setCells q 1 (rc.1.map bv) = w10 at *
      have c1 : w10.cell? ⟨bb, 1, none⟩ = some v := HW9.out.cw.box.cell 1
      have lm := HW9.out.mem.m_ld H32.out
      obtain ⟨hbs, A, n, c, w11, hap, hc, hf, hcw, hmm⟩ := HW9.out.push H32.out rd_ok (by have := HLL.out; have := HN2.out; have := HLT.out; omega)
      have HW11 := Lib.hid hcw
      have HM11 := Lib.hid hmm
      clear hcw hmm
      go_upto_region 9 with fail
      clear c1 lm hbs hap hc hf HW9
      generalize w11.setCell ⟨bb, 1, none⟩ (.slice A n c) = w12 at *
      have d0 := HM11.out.m_0
      rw [← HSU.out] at HW11
      have HZ2 := Lib.hid HS1.out.symm
      rw [← HS2.out] at HW11
      go_wp2
      go_roundw
      case rel => exact ⟨k + 1, _, _, HLT.out, rfl, by go_num, HZ2, HW11⟩
      case measure => have := HLT.out; simp [intOf]; omega
    · have i1 : ¬ (k : Int) < (N : Int) := by omega
      have hke : k = N := by omega
      subst hke
      have HFE : Hid (F = (S k).2) := HF
      rw [← HFE.out] at HW
      have HGK := Lib.hid (good_any a F.1 F.2 wr HW.out.rd)
      clear HZ hlt hk HF HFE HFC i1
      obtain ⟨gd, hgd⟩ : ∃ gd, F.2 = gd := ⟨_, rfl⟩
      rw [hgd] at HGK
      have i1 : ¬ (k : Int) < (k : Int) := by omega
      rcases gd with _ | _
      · obtain ⟨x1, x2⟩ := HG.out hgd
        subst x1
        rw [← x2] at HW
        clear HG HX hgd x2
        obtain ⟨A, c, rfl⟩ := EK.Own.slice HW.out.own
        have lc := HW.out.box.l_cf
        obtain ⟨wz, hst, hb, hg⟩ := HW.out.out.s_cf rfl E A V.length c
        have HBZ := Lib.hid hb
        have HRZ := Lib.hid (rd_put HW.out.rd hg (Nat.lt_of_lt_of_le HW.out.ha HW.out.hr))
        have HGZ := Lib.hid (only_new HW.out.far hg HW.out.hr)
        have HOZ : Hid (MK.Own wz w.heap.size (.slice A V.length c) V) := Lib.hid (own_box HW.out.own HW.out.out (by decide) hg)
        clear hb hg HW
        go_wp2_with (go_at_call 19; (with_reducible refine (HGK.out).mono ?_); rintro e wg ⟨rfl, rfl⟩)
        exact ret_cfg rfl rfl rfl HBZ.out ⟨A, c, rfl, HOZ.out, HRZ.out, HGZ.out⟩
      · obtain ⟨x1, x2⟩ := HX.out hgd
        subst x1
        subst x2
        clear HG HX hgd
        have hbd0 := bd_cfg0 wr
        obtain ⟨wz, hst, hb, hg⟩ := HW.out.out.s_cf rfl 0 none 0 0
        have HBZ := Lib.hid hb
        have HRZ := Lib.hid (rd_put HW.out.rd hg (Nat.lt_of_lt_of_le HW.out.ha HW.out.hr))
        have HGZ := Lib.hid (only_new HW.out.far hg HW.out.hr)
        clear hb hg HW
        go_wp2_with (go_at_call 19; (with_reducible refine (HGK.out).mono ?_); rintro e wg ⟨rfl, rfl⟩)
        exact ret_cfg rfl rfl rfl HBZ.out ⟨none, 0, rfl, MK.own_nil _ _, HRZ.out, HGZ.out⟩
set_option maxRecDepth 100000 in
theorem cfgread_any (a : Nat) (l : List UInt8) (b : Bool) (w : World) (h : Rd w a l b) : Calls Tryz.prog 41 #[.pointer (some ⟨a, 0, none⟩)] w (CfgIs Rd a l b w) := by
  obtain ⟨S, T, hf⟩ := cr_facts l b
  exact cfgread_gen a l b w h hf
end Go.Proofs.YtbclepdcngaonaaGreatDoor

namespace Go.Proofs.YtbclepdcngaonaaGreatDoor
open Go.RowKit

set_option maxRecDepth 100000 in
theorem rrd_ok : RdOk RRd := ⟨rrd_below, rrd_put⟩
attribute [local go_sem ↓] ldDigest_def stDigest_def ldMem_def stMem_def bdMem_def bsT_def apAll_def ldCf_def stCf_def
set_option maxRecDepth 100000 in
set_option maxHeartbeats 4000000 in
theorem rcfgread_gen (a : Nat) (l : List UInt8) (b : Bool) (w : World) (h : RRd w a l b) {E : Int} {V : List MemX} {r0 r1 : Int × List UInt8 × Bool} {N : Nat} {F : List UInt8 × Bool} {S : Nat → Int × List UInt8 × Bool} {T : Nat → List MemX} (hf : CrFacts l b E V r0 r1 N F S T) :
    Calls Tryz.prog 44 #[.pointer (some ⟨a, 0, none⟩)] w fun e w' => ∃ A z, e = .returned (.agg (cfgV E A V.length z)) ∧ MK.Own w' w.heap.size (.slice A V.length z) V ∧ RRd w' a F.1 F.2 ∧ w.grownBy w' (some a) := by
  have HG := Lib.hid hf.good
  have HX := Lib.hid hf.bad
  have HF := Lib.hid hf.fin
  have HN2 := Lib.hid hf.n2
  have HN1 := Lib.hid hf.n1
  have E0 := Lib.hid hf.e0
  have E1 := Lib.hid hf.e1
  have HFC := Lib.hid hf
  clear hf
  obtain ⟨w1, hw1⟩ : ∃ w1, w1 = w.alloc (.cells #[.int .i64 0, .slice none 0 0] 24) := ⟨_, rfl⟩
  have HO1 : Hid (Box w1 w.heap.size 24 #[.int .i64 0, .slice none 0 0]) := by rw [hw1]; exact Box.made _ _ _
  have HR1 : Hid (RRd w1 a l b) := by rw [hw1]; exact Box.alloc h _
  have HG1 : Hid (w.grownBy w1 (some a)) := by rw [hw1]; exact World.grownBy_alloc w _ _
  have HA := Lib.hid h.lt
  have HC : Hid (Calls Tryz.prog 75 #[.pointer (some ⟨a, 0, none⟩), .int .i64 0, .int .i64 1073741824] w1 fun e w' => e = .returned (.int .i64 r0.1) ∧ RRd w' a r0.2.1 r0.2.2 ∧ w1.grownBy w' (some a)) := Lib.hid (by
    have := rin_any a 0 1073741824 l b w1 HR1.out
    rw [E0.out] at this
    exact this)
  clear h
  go_enter Tryz.func44, Tryz.ntmps44
  go_upto_region 1 with fail
  change Code.wp _ _ _ _ (w.alloc (.cells #[.int .i64 0, .slice none 0 0] 24))
  rw [← hw1]
  clear hw1
  have hbd := bd_cfg1 r0.1
  go_upto_region 2 with (go_at_call 75; (with_reducible refine (HC.out).mono ?_); rintro e w2 ⟨rfl, hr, hg⟩; obtain ⟨w3, hst, hb3, hg3⟩ := (Box.made w2 24 #[.int .i64 0, .slice none 0 0]).s_cf rfl r0.1 none 0 0; have HR2 := Lib.hid hr; have HG2 := Lib.hid hg; have HB3 := Lib.hid hb3; have HG3 := Lib.hid hg3; clear hr hg hb3 hg3)
  have HW3 : Hid (CW RRd w a w.heap.size w2.heap.size r0.1 (.slice none 0 0) [] r0.2 w3) := Lib.hid (CW.start rrd_ok HO1.out HG1.out HG2.out HR2.out HB3.out HG3.out HA.out)
  clear HB3 HG3 HR2 HG2 HC HO1 HR1 HG1 HA hbd hst
  generalize w2.heap.size = bb at *
  generalize w.heap.size = rr at *
  have HC : Hid (Calls Tryz.prog 75 #[.pointer (some ⟨a, 0, none⟩), .int .i64 1, .int .i64 10] w3 fun e w' => e = .returned (.int .i64 r1.1) ∧ CW RRd w a rr bb r0.1 (.slice none 0 0) [] r1.2 w') := Lib.hid (by
    have := rin_any a 1 10 r0.2.1 r0.2.2 w3 HW3.out.rd
    rw [E1.out] at this
    exact this.mono fun e w'' ⟨he, hr, hg⟩ => ⟨he, HW3.out.turn hg hr⟩)
  go_upto_region 5 with (go_at_call 75; (with_reducible refine (HC.out).mono ?_); rintro e w4 ⟨rfl, hw⟩; have HW4 := Lib.hid hw; clear hw)
  rw [HN1.out]
  clear HC HW3 E0 E1 HN1
  generalize r0.1 = ep at *
  rw [← HFC.out.s1] at HW4
  go_loopw [5, 6] (fun ah i wr => ∃ (k : Nat) (v : Value) (z : Int), k ≤ N ∧ ah = .int .i64 z ∧ i = .int .i64 (k : Int) ∧ Hid (z = (S k).1) ∧ Hid (CW RRd w a rr bb ep v (T k) (S k).2 wr)) (fun _ i _ => N - (intOf i).toNat)
  case atStart => exact ⟨0, _, 0, Nat.zero_le _, rfl, rfl, Lib.hid HFC.out.s0.symm, Lib.hid (by rw [HFC.out.t0]; exact HW4.out)⟩
  case round =>
    clear HW4
    obtain ⟨k, v, z, hk, rfl, rfl, HZ, HW⟩ := hrel
    by_cases hlt : k < N
    · have i1 : (k : Int) < (N : Int) := by omega
      have wk : IntKind.i64.wrap ((k : Int) + 1) = ((k + 1 : Nat) : Int) := by
        rw [IntKind.wrap_i64]
        have := HN2.out
        omega
      have HLT := Lib.hid hlt
      obtain ⟨ra, rb, rc, h32, ea, eb, ec, hsu, hs1, hs2⟩ := HFC.out.step k
      have hin := HFC.out.inn k
      have HLL := Lib.hid (HFC.out.len k)
      have wz := one_wrap hin
      rw [← HZ.out] at ea wz
      have HS1 := Lib.hid hs1
      have HS2 := Lib.hid hs2
      have EA := Lib.hid ea
      have EB := Lib.hid eb
      have EC := Lib.hid ec
      have H32 := Lib.hid h32
      have HSU : Hid (T (k + 1) = T k ++ [⟨ra.1, rc.1, rb.1, H32.out⟩]) := Lib.hid hsu
      generalize T k = L at *
      generalize (S k).2 = t at *
      clear hsu hs1 hs2 ea eb ec h32 hin HZ hlt hk HX HG HF HFC
      have HB0 : Hid (Below wr.heap.size wr (wr.alloc (.cells #[.int .i64 0, .int .u8 0, .int .u8 0, .int .u8 0, .int .u8 0, .int .u8 0, .int .u8 0, .int .u8 0, .int .u8 0, .int .u8 0, .int .u8 0, .int .u8 0, .int .u8 0, .int .u8 0, .int .u8 0, .int .u8 0, .int .u8 0, .int .u8 0, .int .u8 0, .int .u8 0, .int .u8 0, .int .u8 0, .int .u8 0, .int .u8 0, .int .u8 0, .int .u8 0, .int .u8 0, .int .u8 0, .int .u8 0, .int .u8 0, .int .u8 0, .int .u8 0, .int .u8 0, .int .i64 0] 66))) := (Below.refl _ _).alloc (Nat.le_refl _) _
      have HW5 : Hid (MW RRd w a rr bb wr.heap.size ep v L t 0 z32 0 (wr.alloc (.cells #[.int .i64 0, .int .u8 0, .int .u8 0, .int .u8 0, .int .u8 0, .int .u8 0, .int .u8 0, .int .u8 0, .int .u8 0, .int .u8 0, .int .u8 0, .int .u8 0, .int .u8 0, .int .u8 0, .int .u8 0, .int .u8 0, .int .u8 0, .int .u8 0, .int .u8 0, .int .u8 0, .int .u8 0, .int .u8 0, .int .u8 0, .int .u8 0, .int .u8 0, .int .u8 0, .int .u8 0, .int .u8 0, .int .u8 0, .int .u8 0, .int .u8 0, .int .u8 0, .int .u8 0, .int .i64 0] 66))) := Lib.hid (HW.out.new rrd_ok HB0.out (Box.made _ _ _))
      clear HB0
      go_upto_region 8 with fail
      generalize wr.alloc (.cells #[.int .i64 0, .int .u8 0, .int .u8 0, .int .u8 0, .int .u8 0, .int .u8 0, .int .u8 0, .int .u8 0, .int .u8 0, .int .u8 0, .int .u8 0, .int .u8 0, .int .u8 0, .int .u8 0, .int .u8 0, .int .u8 0, .int .u8 0, .int .u8 0, .int .u8 0, .int .u8 0, .int .u8 0, .int .u8 0, .int .u8 0, .int .u8 0, .int .u8 0, .int .u8 0, .int .u8 0, .int .u8 0, .int .u8 0, .int .u8 0, .int .u8 0, .int .u8 0, .int .u8 0, .int .i64 0] 66) = w5 at *
      generalize wr.heap.size = q at *
      have HC : Hid (Calls Tryz.prog 75 #[.pointer (some ⟨a, 0, none⟩), .int .i64 (z + 1), .int .i64 63] w5 fun e w' => e = .returned (.int .i64 ra.1) ∧ MW RRd w a rr bb q ep v L ra.2 0 z32 0 w') := Lib.hid (by
        have := rin_any a (z + 1) 63 t.1 t.2 w5 HW5.out.cw.rd
        rw [EA.out] at this
        exact this.mono fun e w'' ⟨he, hr, hg⟩ => ⟨he, HW5.out.turn hg hr⟩)
      go_upto_region 9 with (go_at_call 75; (with_reducible refine (HC.out).mono ?_); rintro e w55 ⟨rfl, hw⟩; have m0 := hw.mem.m_0; have f0 := hw.mem.free 0; have HW55 := Lib.hid hw; clear hw)
      have HW6 : Hid (MW RRd w a rr bb q ep v L ra.2 ra.1 z32 0 (w55.setCell ⟨q, 0, none⟩ (.int .i64 ra.1))) := Lib.hid (HW55.out.put rrd_ok (HW55.out.mem.m_id ra.1) (only_put (only_refl _ _) _ _))
      clear HC HW5 HW55 m0 f0 HW wz
      generalize w55.setCell ⟨q, 0, none⟩ (.int .i64 ra.1) = w6 at *
      have d0 := HW6.out.mem.m_0
      go_upto_region 10 with fail
      clear d0
      have HC6 : Hid (Calls Tryz.prog 75 #[.pointer (some ⟨a, 0, none⟩), .int .i64 0, .int .i64 6] w6 fun e w'' => e = .returned (.int .i64 rb.1) ∧ MW RRd w a rr bb q ep v L rb.2 ra.1 z32 0 w'') := Lib.hid (by
        have := rin_any a 0 6 ra.2.1 ra.2.2 w6 HW6.out.cw.rd
        rw [EB.out] at this
        exact this.mono fun e w'' ⟨he, hr, hg⟩ => ⟨he, HW6.out.turn hg hr⟩)
      go_upto_region 11 with (go_at_call 75; (with_reducible refine (HC6.out).mono ?_); rintro e w7 ⟨rfl, hw⟩; have m33 := hw.mem.m_33 z32_len; have f33 := hw.mem.free 33; have HW7 := Lib.hid hw; clear hw)
      have HW8 : Hid (MW RRd w a rr bb q ep v L rb.2 ra.1 z32 rb.1 (w7.setCell ⟨q, 33, none⟩ (.int .i64 rb.1))) := Lib.hid (HW7.out.put rrd_ok (HW7.out.mem.m_high z32_len rb.1) (only_put (only_refl _ _) _ _))
      clear HC6 HW6 HW7 m33 f33
      generalize w7.setCell ⟨q, 33, none⟩ (.int .i64 rb.1) = w8 at *
      have HC : Hid (Calls Tryz.prog 76 #[.pointer (some ⟨a, 0, none⟩)] w8 fun e w' => e = .returned (.agg (rc.1.map bv).toArray) ∧ MW RRd w a rr bb q ep v L rc.2 ra.1 z32 rb.1 w') := Lib.hid (by
        have h1 := rdigest_any a rb.2.1 rb.2.2 w8 HW8.out.cw.rd
        have h2 := EC.out
        subst h2
        exact h1.mono fun e w'' ⟨he, hr, hg⟩ => ⟨he, HW8.out.turn hg hr⟩)
      go_upto_region 12 with (go_at_call 76; (with_reducible refine (HC.out).mono ?_); rintro e w9 ⟨rfl, hw⟩; obtain ⟨hst, hbm, hgm⟩ := hw.mem.m_root z32_len rc.1 H32.out; have HW9 := Lib.hid (hw.put rrd_ok hbm hgm); clear hw hbm hgm)
      clear HC HW8 hst
      generalize w9.setCells q 1 (rc.1.map bv) = w10 at *
      have c1 : w10.cell? ⟨bb, 1, none⟩ = some v := HW9.out.cw.box.cell 1
      have lm := HW9.out.mem.m_ld H32.out
      obtain ⟨hbs, A, n, c, w11, hap, hc, hf, hcw, hmm⟩ := HW9.out.push H32.out rrd_ok (by have := HLL.out; have := HN2.out; have := HLT.out; omega)
      have HW11 := Lib.hid hcw
      have HM11 := Lib.hid hmm
      clear hcw hmm
      go_upto_region 6 with fail
      clear c1 lm hbs hap hc hf HW9
      generalize w11.setCell ⟨bb, 1, none⟩ (.slice A n c) = w12 at *
      rw [← HSU.out] at HW11
      have HZ2 := Lib.hid HS1.out.symm
      rw [← HS2.out] at HW11
      go_wp2
      go_roundw
      case rel => exact ⟨k + 1, _, _, HLT.out, rfl, by go_num, HZ2, HW11⟩
      case measure => have := HLT.out; simp [intOf]; omega
    · have i1 : ¬ (k : Int) < (N : Int) := by omega
      have hke : k = N := by omega
      subst hke
      have HFE : Hid (F = (S k).2) := HF
      rw [← HFE.out] at HW
      have HGK := Lib.hid (rgood_any a F.1 F.2 wr HW.out.rd)
      clear HZ hlt hk HF HFE HFC i1
      obtain ⟨gd, hgd⟩ : ∃ gd, F.2 = gd := ⟨_, rfl⟩
      rw [hgd] at HGK
      have i1 : ¬ (k : Int) < (k : Int) := by omega
      rcases gd with _ | _
      · obtain ⟨x1, x2⟩ := HG.out hgd
        subst x1
        rw [← x2] at HW
        clear HG HX hgd x2
        obtain ⟨A, c, rfl⟩ := EK.Own.slice HW.out.own
        have lc := HW.out.box.l_cf
        obtain ⟨wz, hst, hb, hg⟩ := HW.out.out.s_cf rfl E A V.length c
        have HBZ := Lib.hid hb
        have HRZ := Lib.hid (rrd_put HW.out.rd hg (Nat.lt_of_lt_of_le HW.out.ha HW.out.hr))
        have HGZ := Lib.hid (only_new HW.out.far hg HW.out.hr)
        have HOZ : Hid (MK.Own wz w.heap.size (.slice A V.length c) V) := Lib.hid (own_box HW.out.own HW.out.out (by decide) hg)
        clear hb hg HW
        go_wp2_with (go_at_call 20; (with_reducible refine (HGK.out).mono ?_); rintro e wg ⟨rfl, rfl⟩)
        exact ret_cfg rfl rfl rfl HBZ.out ⟨A, c, rfl, HOZ.out, HRZ.out, HGZ.out⟩
      · obtain ⟨x1, x2⟩ := HX.out hgd
        subst x1
        subst x2
        clear HG HX hgd
        have hbd0 := bd_cfg0 wr
        obtain ⟨wz, hst, hb, hg⟩ := HW.out.out.s_cf rfl 0 none 0 0
        have HBZ := Lib.hid hb
        have HRZ := Lib.hid (rrd_put HW.out.rd hg (Nat.lt_of_lt_of_le HW.out.ha HW.out.hr))
        have HGZ := Lib.hid (only_new HW.out.far hg HW.out.hr)
        clear hb hg HW
        go_wp2_with (go_at_call 20; (with_reducible refine (HGK.out).mono ?_); rintro e wg ⟨rfl, rfl⟩)
        exact ret_cfg rfl rfl rfl HBZ.out ⟨none, 0, rfl, MK.own_nil _ _, HRZ.out, HGZ.out⟩
set_option maxRecDepth 100000 in
theorem rcfgread_any (a : Nat) (l : List UInt8) (b : Bool) (w : World) (h : RRd w a l b) : Calls Tryz.prog 44 #[.pointer (some ⟨a, 0, none⟩)] w (CfgIs RRd a l b w) := by
  obtain ⟨S, T, hf⟩ := cr_facts l b
  exact rcfgread_gen a l b w h hf
end Go.Proofs.YtbclepdcngaonaaGreatDoor
