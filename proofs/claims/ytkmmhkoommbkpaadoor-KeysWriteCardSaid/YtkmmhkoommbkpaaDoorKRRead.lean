/-
  Signatures read, by the document: wapentakeref05.Read.
-/
import Derived.Test.YtkmmhkoommbkpaaDoorKRead
import Derived.Test.YtkmmhkoommbkpaaDoorRref
import Derived.Test.YtkmmhkoommbkpaaDoorORSign
namespace Go.Proofs.YtkmmhkoommbkpaaDoor
open Go.RowKit

theorem only_low {w0 w w' : World} {row : Option Nat} (h : w0.grownBy w row) (hb : Below w0.heap.size w w') : w0.grownBy w' row :=
  ⟨hb.os.trans h.os, hb.tape.trans h.tape, hb.output.trans h.output, Nat.le_trans h.size hb.size, fun i hi hn => (hb.block i hi).trans (h.block i hi hn)⟩
theorem own_at {w w' : World} {base a n : Nat} {v : Value} {xs : List Value} (h : w.ownsRow base 23 32 v n xs) (ha : a < base) (hg : w.grownBy w' (some a)) : w'.ownsRow base 23 32 v n xs :=
  World.ownsRow.kept h hg (.inr (fun e => by have := (h.lt a e).1; omega))

/-- What the walk of the document's Read carries of memory. -/
structure RrW (w0 : World) (a b : Nat) (n : Int) (v1 v2 v3 : Value) (L1 L2 L3 : List (List UInt8)) (s : List UInt8 × Bool) (w : World) : Prop where
  out : Box w w0.heap.size 30 zsig
  box : Box w b 30 #[.int .i64 n, v1, v2, v3]
  rd : RRd w a s.1 s.2
  o1 : w.ownsRow w0.heap.size 23 32 v1 L1.length (L1.flatten.map bv)
  o2 : w.ownsRow w0.heap.size 23 32 v2 L2.length (L2.flatten.map bv)
  o3 : w.ownsRow w0.heap.size 23 32 v3 L3.length (L3.flatten.map bv)
  n12 : ∀ g, v1.ownBlock = some g → v2.ownBlock ≠ some g
  n13 : ∀ g, v1.ownBlock = some g → v3.ownBlock ≠ some g
  n23 : ∀ g, v2.ownBlock = some g → v3.ownBlock ≠ some g
  far : w0.grownBy w (some a)
  ha : a < w0.heap.size
  hb : w0.heap.size < b
theorem RrW.turn {w0 w w' : World} {a b : Nat} {n : Int} {v1 v2 v3 : Value} {L1 L2 L3 : List (List UInt8)} {s s' : List UInt8 × Bool} (h : RrW w0 a b n v1 v2 v3 L1 L2 L3 s w) (hg : w.grownBy w' (some a)) (hr : RRd w' a s'.1 s'.2) : RrW w0 a b n v1 v2 v3 L1 L2 L3 s' w' := by
  have h1 := h.ha
  have h2 := h.hb
  exact ⟨h.out.grown hg (fun e => by injection e with e; omega), h.box.grown hg (fun e => by injection e with e; omega), hr, own_at h.o1 h1 hg, own_at h.o2 h1 hg, own_at h.o3 h1 hg, h.n12, h.n13, h.n23, only_trans h.far hg, h1, h2⟩
theorem RrW.call {w0 w w' : World} {a b : Nat} {n : Int} {v1 v2 v3 : Value} {L1 L2 L3 : List (List UInt8)} {s : List UInt8 × Bool} (h : RrW w0 a b n v1 v2 v3 L1 L2 L3 s w) (hb : Below w.heap.size w w') : RrW w0 a b n v1 v2 v3 L1 L2 L3 s w' :=
  ⟨h.out.below hb h.out.lt, h.box.below hb h.box.lt, h.rd.below hb h.rd.lt, World.ownsRow.kept h.o1 (only_below hb none) (by cases v1.ownBlock <;> simp), World.ownsRow.kept h.o2 (only_below hb none) (by cases v2.ownBlock <;> simp), World.ownsRow.kept h.o3 (only_below hb none) (by cases v3.ownBlock <;> simp), h.n12, h.n13, h.n23, only_trans h.far (only_below hb (some a)), h.ha, h.hb⟩
theorem RrW.push1 {w0 w : World} {a b q : Nat} {t : TypeId} {n : Int} {v1 v2 v3 : Value} {L1 L2 L3 : List (List UInt8)} {s : List UInt8 × Bool} {x : List UInt8} (h : RrW w0 a b n v1 v2 v3 L1 L2 L3 s w) (hx : x.length = 32) (hq : Box w q t (x.map bv).toArray) (hl : L1.length ≤ 64) :
    ∃ g cap w', (apAll #[26, 26] 26 #[v1, .slice (some ⟨q, 0, none⟩) 1 1]).run Tryd.prog w = .ok (.slice (some ⟨g, 0, none⟩) (L1.length + 1) cap) w' ∧ w'.cell? ⟨b, 1, none⟩ = some v1 ∧ w'.frozen? ⟨b, 1, none⟩ = false ∧
      RrW w0 a b n (.slice (some ⟨g, 0, none⟩) (L1.length + 1) cap) v2 v3 (L1 ++ [x]) L2 L3 s (w'.setCell ⟨b, 1, none⟩ (.slice (some ⟨g, 0, none⟩) (L1.length + 1) cap)) := by
  obtain ⟨g, cap, w', hr, ho, hg, hat⟩ := push_lies rfl h.o1 hx hq (by omega) h.far.size
  have hbel := below_own h.o1 hg h.far.size
  have hout : Box w' w0.heap.size 30 zsig := h.out.grown hg (fun e => (Box.own_ne h.out h.o1 (by decide)) e.symm)
  have hbx : Box w' b 30 #[.int .i64 n, v1, v2, v3] := h.box.grown hg (fun e => (Box.own_ne h.box h.o1 (by decide)) e.symm)
  have hrd : RRd w' a s.1 s.2 := h.rd.below hbel h.ha
  have hfar := only_low h.far hbel
  have k2 : w'.ownsRow w0.heap.size 23 32 v2 L2.length (L2.flatten.map bv) := World.ownsRow.kept h.o2 hg (by
    cases e : v2.ownBlock with
    | none => exact .inl rfl
    | some q => exact .inr (fun e2 => h.n12 q e2.symm e))
  have m2 : v2.ownBlock ≠ some g := fun e => by
    rcases hat with e2 | e2
    · exact h.n12 g e2 e
    · have := (h.o2.lt g e).2
      omega
  have k3 : w'.ownsRow w0.heap.size 23 32 v3 L3.length (L3.flatten.map bv) := World.ownsRow.kept h.o3 hg (by
    cases e : v3.ownBlock with
    | none => exact .inl rfl
    | some q => exact .inr (fun e2 => h.n13 q e2.symm e))
  have m3 : v3.ownBlock ≠ some g := fun e => by
    rcases hat with e2 | e2
    · exact h.n13 g e2 e
    · have := (h.o3.lt g e).2
      omega
  have hp : w'.grownBy (w'.setCell ⟨b, 1, none⟩ (.slice (some ⟨g, 0, none⟩) (L1.length + 1) cap)) (some b) := only_put (only_refl _ _) 1 _
  have hb := h.hb
  have ha := h.ha
  have ho' : w'.ownsRow w0.heap.size 23 32 (.slice (some ⟨g, 0, none⟩) (L1.length + 1) cap) (L1 ++ [x]).length ((L1 ++ [x]).flatten.map bv) := by
    rw [List.length_append]
    exact ho
  refine ⟨g, cap, w', hr, hbx.cell 1, hbx.free 1, hout.grown hp (fun e => by injection e with e; omega), hbx.put 1 _, hrd.other hp (by omega), World.ownsRow.kept ho' hp (.inr (Box.own_ne hbx ho' (by decide))), World.ownsRow.kept k2 hp (.inr (Box.own_ne hbx k2 (by decide))), World.ownsRow.kept k3 hp (.inr (Box.own_ne hbx k3 (by decide))), (fun g' e => by injection e with e; subst e; exact m2), (fun g' e => by injection e with e; subst e; exact m3), h.n23, only_new hfar hp (by omega), ha, hb⟩
theorem RrW.push2 {w0 w : World} {a b q : Nat} {t : TypeId} {n : Int} {v1 v2 v3 : Value} {L1 L2 L3 : List (List UInt8)} {s : List UInt8 × Bool} {x : List UInt8} (h : RrW w0 a b n v1 v2 v3 L1 L2 L3 s w) (hx : x.length = 32) (hq : Box w q t (x.map bv).toArray) (hl : L2.length ≤ 64) :
    ∃ g cap w', (apAll #[26, 26] 26 #[v2, .slice (some ⟨q, 0, none⟩) 1 1]).run Tryd.prog w = .ok (.slice (some ⟨g, 0, none⟩) (L2.length + 1) cap) w' ∧ w'.cell? ⟨b, 2, none⟩ = some v2 ∧ w'.frozen? ⟨b, 2, none⟩ = false ∧
      RrW w0 a b n v1 (.slice (some ⟨g, 0, none⟩) (L2.length + 1) cap) v3 L1 (L2 ++ [x]) L3 s (w'.setCell ⟨b, 2, none⟩ (.slice (some ⟨g, 0, none⟩) (L2.length + 1) cap)) := by
  obtain ⟨g, cap, w', hr, ho, hg, hat⟩ := push_lies rfl h.o2 hx hq (by omega) h.far.size
  have hbel := below_own h.o2 hg h.far.size
  have hout : Box w' w0.heap.size 30 zsig := h.out.grown hg (fun e => (Box.own_ne h.out h.o2 (by decide)) e.symm)
  have hbx : Box w' b 30 #[.int .i64 n, v1, v2, v3] := h.box.grown hg (fun e => (Box.own_ne h.box h.o2 (by decide)) e.symm)
  have hrd : RRd w' a s.1 s.2 := h.rd.below hbel h.ha
  have hfar := only_low h.far hbel
  have k1 : w'.ownsRow w0.heap.size 23 32 v1 L1.length (L1.flatten.map bv) := World.ownsRow.kept h.o1 hg (by
    cases e : v1.ownBlock with
    | none => exact .inl rfl
    | some q => exact .inr (fun e2 => (fun g e e2 => h.n12 g e2 e) q e2.symm e))
  have m1 : v1.ownBlock ≠ some g := fun e => by
    rcases hat with e2 | e2
    · exact (fun g e e2 => h.n12 g e2 e) g e2 e
    · have := (h.o1.lt g e).2
      omega
  have k3 : w'.ownsRow w0.heap.size 23 32 v3 L3.length (L3.flatten.map bv) := World.ownsRow.kept h.o3 hg (by
    cases e : v3.ownBlock with
    | none => exact .inl rfl
    | some q => exact .inr (fun e2 => h.n23 q e2.symm e))
  have m3 : v3.ownBlock ≠ some g := fun e => by
    rcases hat with e2 | e2
    · exact h.n23 g e2 e
    · have := (h.o3.lt g e).2
      omega
  have hp : w'.grownBy (w'.setCell ⟨b, 2, none⟩ (.slice (some ⟨g, 0, none⟩) (L2.length + 1) cap)) (some b) := only_put (only_refl _ _) 2 _
  have hb := h.hb
  have ha := h.ha
  have ho' : w'.ownsRow w0.heap.size 23 32 (.slice (some ⟨g, 0, none⟩) (L2.length + 1) cap) (L2 ++ [x]).length ((L2 ++ [x]).flatten.map bv) := by
    rw [List.length_append]
    exact ho
  refine ⟨g, cap, w', hr, hbx.cell 2, hbx.free 2, hout.grown hp (fun e => by injection e with e; omega), hbx.put 2 _, hrd.other hp (by omega), World.ownsRow.kept k1 hp (.inr (Box.own_ne hbx k1 (by decide))), World.ownsRow.kept ho' hp (.inr (Box.own_ne hbx ho' (by decide))), World.ownsRow.kept k3 hp (.inr (Box.own_ne hbx k3 (by decide))), (fun g' e e2 => by injection e2 with e2; subst e2; exact m1 e), h.n13, (fun g' e => by injection e with e; subst e; exact m3), only_new hfar hp (by omega), ha, hb⟩
theorem RrW.push3 {w0 w : World} {a b q : Nat} {t : TypeId} {n : Int} {v1 v2 v3 : Value} {L1 L2 L3 : List (List UInt8)} {s : List UInt8 × Bool} {x : List UInt8} (h : RrW w0 a b n v1 v2 v3 L1 L2 L3 s w) (hx : x.length = 32) (hq : Box w q t (x.map bv).toArray) (hl : L3.length ≤ 64) :
    ∃ g cap w', (apAll #[26, 26] 26 #[v3, .slice (some ⟨q, 0, none⟩) 1 1]).run Tryd.prog w = .ok (.slice (some ⟨g, 0, none⟩) (L3.length + 1) cap) w' ∧ w'.cell? ⟨b, 3, none⟩ = some v3 ∧ w'.frozen? ⟨b, 3, none⟩ = false ∧
      RrW w0 a b n v1 v2 (.slice (some ⟨g, 0, none⟩) (L3.length + 1) cap) L1 L2 (L3 ++ [x]) s (w'.setCell ⟨b, 3, none⟩ (.slice (some ⟨g, 0, none⟩) (L3.length + 1) cap)) := by
  obtain ⟨g, cap, w', hr, ho, hg, hat⟩ := push_lies rfl h.o3 hx hq (by omega) h.far.size
  have hbel := below_own h.o3 hg h.far.size
  have hout : Box w' w0.heap.size 30 zsig := h.out.grown hg (fun e => (Box.own_ne h.out h.o3 (by decide)) e.symm)
  have hbx : Box w' b 30 #[.int .i64 n, v1, v2, v3] := h.box.grown hg (fun e => (Box.own_ne h.box h.o3 (by decide)) e.symm)
  have hrd : RRd w' a s.1 s.2 := h.rd.below hbel h.ha
  have hfar := only_low h.far hbel
  have k1 : w'.ownsRow w0.heap.size 23 32 v1 L1.length (L1.flatten.map bv) := World.ownsRow.kept h.o1 hg (by
    cases e : v1.ownBlock with
    | none => exact .inl rfl
    | some q => exact .inr (fun e2 => (fun g e e2 => h.n13 g e2 e) q e2.symm e))
  have m1 : v1.ownBlock ≠ some g := fun e => by
    rcases hat with e2 | e2
    · exact (fun g e e2 => h.n13 g e2 e) g e2 e
    · have := (h.o1.lt g e).2
      omega
  have k2 : w'.ownsRow w0.heap.size 23 32 v2 L2.length (L2.flatten.map bv) := World.ownsRow.kept h.o2 hg (by
    cases e : v2.ownBlock with
    | none => exact .inl rfl
    | some q => exact .inr (fun e2 => (fun g e e2 => h.n23 g e2 e) q e2.symm e))
  have m2 : v2.ownBlock ≠ some g := fun e => by
    rcases hat with e2 | e2
    · exact (fun g e e2 => h.n23 g e2 e) g e2 e
    · have := (h.o2.lt g e).2
      omega
  have hp : w'.grownBy (w'.setCell ⟨b, 3, none⟩ (.slice (some ⟨g, 0, none⟩) (L3.length + 1) cap)) (some b) := only_put (only_refl _ _) 3 _
  have hb := h.hb
  have ha := h.ha
  have ho' : w'.ownsRow w0.heap.size 23 32 (.slice (some ⟨g, 0, none⟩) (L3.length + 1) cap) (L3 ++ [x]).length ((L3 ++ [x]).flatten.map bv) := by
    rw [List.length_append]
    exact ho
  refine ⟨g, cap, w', hr, hbx.cell 3, hbx.free 3, hout.grown hp (fun e => by injection e with e; omega), hbx.put 3 _, hrd.other hp (by omega), World.ownsRow.kept k1 hp (.inr (Box.own_ne hbx k1 (by decide))), World.ownsRow.kept k2 hp (.inr (Box.own_ne hbx k2 (by decide))), World.ownsRow.kept ho' hp (.inr (Box.own_ne hbx ho' (by decide))), h.n12, (fun g' e e2 => by injection e2 with e2; subst e2; exact m1 e), (fun g' e e2 => by injection e2 with e2; subst e2; exact m2 e), only_new hfar hp (by omega), ha, hb⟩

theorem tk_nil {n : Nat} {l : List UInt8} {b : Bool} (h : (tk n l b).2.2 = true) : (tk n l b).2.1 = [] := by
  unfold tk at h ⊢
  by_cases hc : b = false ∧ n ≤ l.length
  · rw [if_pos hc] at h
    cases h
  · rw [if_neg hc]
theorem rdL_nil {l : List UInt8} {b : Bool} (h : (rdL l b).2.2 = true) : (rdL l b).2.1 = [] := by
  unfold rdL inV at h ⊢
  split at h
  · rename_i hc
    rw [if_pos hc]
  · rename_i hc
    rw [if_neg hc]
    exact tk_nil h
theorem stT_nil {k : Nat} {l : List UInt8} {b : Bool} (hl : b = true → l = []) (h : (stT k l b).2 = true) : stT k l b = ([], true) := by
  cases k with
  | zero =>
    have hb : b = true := h
    subst hb
    rw [hl rfl]
    rfl
  | succ k =>
    have h2 : (tk 32 (stT k l b).1 (stT k l b).2).2.1 = [] := tk_nil h
    exact Prod.ext h2 h
/-- Behind a fault at k all is a fault. -/
theorem stT_past {k m : Nat} (hkm : k ≤ m) {l : List UInt8} {b : Bool} (h : stT k l b = ([], true)) : stT m l b = ([], true) := by
  obtain ⟨j, rfl⟩ : ∃ j, m = k + j := ⟨m - k, by omega⟩
  rw [stT_add, h]
  exact stT_bad' j
theorem dgs_succ (n : Nat) (l : List UInt8) (b : Bool) : dgsT (n + 1) l b = dgsT n l b ++ [dgT l b n] := by
  unfold dgsT
  rw [List.range_succ, List.map_append]
  rfl

/-- What the document's Read answers. -/
def RKReadIs (w : World) (a : Nat) (l : List UInt8) (b : Bool) (e : Ending) (w' : World) : Prop :=
  ∃ A B C x y z, e = .returned (.agg (sigV (rdN l b) A (rdX l b).length x B (rdY l b).length y C (rdP l b).length z)) ∧ Digs w' w'.heap.size A (rdX l b) ∧ Digs w' w'.heap.size B (rdY l b) ∧ Digs w' w'.heap.size C (rdP l b) ∧ RRd w' a (rdF l b).1 (rdF l b).2 ∧ w.grownBy w' (some a)

section
attribute [local go_sem ↓] ldDigest_def stDigest_def apAll_def bsAll_def
set_option maxRecDepth 100000 in
set_option maxHeartbeats 4000000 in
theorem rkread_any (a : Nat) (l : List UInt8) (b : Bool) (w : World) (h : RRd w a l b) :
    Calls Tryd.prog 23 #[.pointer (some ⟨a, 0, none⟩)] w (RKReadIs w a l b) := by
  have HA : Hid (a < w.heap.size) := h.lt
  have HO0 : Hid (Box (w.alloc (.cells zsig 30)) w.heap.size 30 zsig) := Box.made _ _ _
  have HR0 : Hid (RRd (w.alloc (.cells zsig 30)) a l b) := Box.alloc h _
  have HG0 : Hid (w.grownBy (w.alloc (.cells zsig 30)) (some a)) := World.grownBy_alloc w _ _
  have HZ0 : Hid ((w.alloc (.cells zsig 30)).heap.size = w.heap.size + 1) := Lib.hid (by simp)
  have HNM := Lib.hid (rnum_any a l b _ HR0.out)
  have HRN : Hid ((rdL l b).2.2 = true → (rdL l b).2.1 = []) := Lib.hid (fun e => rdL_nil e)
  have HC6 := Lib.hid (rdC_le l b)
  have HRF : Hid (rdF l b = stT (64 + rdC l b) (rdL l b).2.1 (rdL l b).2.2) := Lib.hid rfl
  have HXX : Hid ((rdF l b).2 = false → rdN l b = numV l b ∧ rdX l b = dgsT 32 (rdL l b).2.1 (rdL l b).2.2 ∧ rdY l b = dgsT 32 (stT 32 (rdL l b).2.1 (rdL l b).2.2).1 (stT 32 (rdL l b).2.1 (rdL l b).2.2).2 ∧ rdP l b = dgsT (rdC l b) (stT 64 (rdL l b).2.1 (rdL l b).2.2).1 (stT 64 (rdL l b).2.1 (rdL l b).2.2).2) := Lib.hid (fun hf => by
    unfold rdN rdX rdY rdP
    rw [hf, if_neg (by simp), if_neg (by simp), if_neg (by simp), if_neg (by simp)]
    exact ⟨rfl, rfl, rfl, rfl⟩)
  have HIN : Hid (∀ w' b' n v1 v2 v3 L1 L2 L3, RrW w a b' n v1 v2 v3 L1 L2 L3 (tk 8 l b).2 w' → Calls Tryd.prog 55 #[.pointer (some ⟨a, 0, none⟩), .int .i64 0, .int .i64 6] w' fun e w'' => e = .returned (.int .i64 (rdC l b : Int)) ∧ RrW w a b' n v1 v2 v3 L1 L2 L3 (rdL l b).2 w'') := fun w' b' n v1 v2 v3 L1 L2 L3 hw => (rin_any a 0 6 _ _ w' hw.rd).mono fun e w'' ⟨he, hr, hg⟩ => ⟨by rw [he]; exact congrArg (fun n => Ending.returned (.int .i64 n)) (rdC_int l b), hw.turn hg hr⟩
  have HGD : Hid (∀ w' (s : List UInt8 × Bool), RRd w' a s.1 s.2 → Calls Tryd.prog 25 #[.pointer (some ⟨a, 0, none⟩)] w' fun e w'' => e = .returned (.bool !s.2) ∧ w' = w'') := fun w' s hw => rgood_any a s.1 s.2 w' hw
  obtain ⟨s2, hs2⟩ : ∃ s2, (rdL l b).2 = s2 := ⟨_, rfl⟩
  rw [hs2] at HIN HRF HXX HRN
  obtain ⟨N, hN⟩ : ∃ N, numV l b = N := ⟨_, rfl⟩
  obtain ⟨M, hM⟩ : ∃ M, rdC l b = M := ⟨_, rfl⟩
  rw [hN] at HNM HXX
  rw [hM] at HIN HRF HXX HC6
  clear hs2 hN hM h
  have HZS := Lib.hid (sig_size N none 0 0 none 0 0 none 0 0)
  have HOS := Lib.hid (sig_one N none 0 0 none 0 0 none 0 0)
  go_enter Tryd.func23, Tryd.ntmps23
  go_upto_region 1 with fail
  change Code.wp _ _ _ _ (w.alloc (.cells zsig 30))
  generalize w.alloc (.cells zsig 30) = w1 at *
  go_upto_region 2 with (first
    | (go_at_call 54; (with_reducible refine (HNM.out).mono ?_); rintro e w2 ⟨rfl, hr, hg⟩; have HR2 := Lib.hid hr; have HG2 := Lib.hid hg; clear hr hg)
    | (((with_reducible show wpList _ _ _ ((⟨none, Op.store _ (.tmp 3) (.tmp 9), _, _, _, _⟩ : Oper) :: _) _ _)); refine wpList_store_box rfl 30 (.tmp 3) (.tmp 9) rfl w2.heap.size (sigV N none 0 0 none 0 0 none 0 0) rfl rfl 30 zsig (Box.made w2 _ _) rfl HZS.out HOS.out ?_; intro w3 hb3 hg3; have HX3 := Lib.hid hb3; have HB3 := Lib.hid (((Below.refl w2.heap.size w2).alloc (Nat.le_refl _) (.cells zsig 30)).trans (below_only hg3 (Nat.le_refl _) (by simp))); clear hb3 hg3))
  obtain ⟨t3, ht3⟩ : ∃ t3, w2.heap.size = t3 := ⟨_, rfl⟩
  have HW3 : Hid (RrW w a t3 N (.slice none 0 0) (.slice none 0 0) (.slice none 0 0) [] [] [] (tk 8 l b).2 w3) := by
    have hz := HZ0.out
    have ha := HA.out
    have h2 := HG2.out.size
    have hO2 := HO0.out.grown HG2.out (fun e => by injection e with e; omega)
    rw [← ht3]
    exact ⟨hO2.below HB3.out hO2.lt, HX3.out, HR2.out.below HB3.out HR2.out.lt, World.ownsRow_nil _ _ _ _, World.ownsRow_nil _ _ _ _, World.ownsRow_nil _ _ _ _, (fun g e => by cases e), (fun g e => by cases e), (fun g e => by cases e), only_trans (only_trans HG0.out HG2.out) (only_below HB3.out (some a)), ha, by omega⟩
  rw [ht3]
  clear ht3 HNM HO0 HR0 HG0 HZ0 HR2 HG2 HX3 HB3 HZS HOS
  go_upto_region 4 with (go_at_call 55; (with_reducible refine (HIN.out _ _ _ _ _ _ _ _ _ HW3.out).mono ?_); rintro e w4 ⟨rfl, hw⟩; have HW4 := Lib.hid hw; clear hw)
  clear HW3 HIN
  have hM6 : M ≤ 6 := HC6.out
  have HXE : Hid (∀ k, dgsT (min (k + 1) 32) s2.1 s2.2 = (if k < 32 then dgsT (min k 32) s2.1 s2.2 ++ [dgT s2.1 s2.2 k] else dgsT (min k 32) s2.1 s2.2)) := Lib.hid (fun k => by
    split
    · rw [Nat.min_eq_left (by omega), Nat.min_eq_left (by omega), dgs_succ]
    · rw [Nat.min_eq_right (by omega), Nat.min_eq_right (by omega)])
  have HYE : Hid (∀ k, dgsT (min (k + 1 - 32) 32) (stT 32 s2.1 s2.2).1 (stT 32 s2.1 s2.2).2 = (if 32 ≤ k ∧ k < 64 then dgsT (min (k - 32) 32) (stT 32 s2.1 s2.2).1 (stT 32 s2.1 s2.2).2 ++ [dgT s2.1 s2.2 k] else dgsT (min (k - 32) 32) (stT 32 s2.1 s2.2).1 (stT 32 s2.1 s2.2).2)) := Lib.hid (fun k => by
    split
    · rename_i hk
      rw [Nat.min_eq_left (by omega), Nat.min_eq_left (by omega), show k + 1 - 32 = k - 32 + 1 by omega, dgs_succ, ← dgT_add, show 32 + (k - 32) = k by omega]
    · rename_i hk
      congr 1
      omega)
  have HPE : Hid (∀ k, dgsT (k + 1 - 64) (stT 64 s2.1 s2.2).1 (stT 64 s2.1 s2.2).2 = (if 64 ≤ k then dgsT (k - 64) (stT 64 s2.1 s2.2).1 (stT 64 s2.1 s2.2).2 ++ [dgT s2.1 s2.2 k] else dgsT (k - 64) (stT 64 s2.1 s2.2).1 (stT 64 s2.1 s2.2).2)) := Lib.hid (fun k => by
    split
    · rw [show k + 1 - 64 = k - 64 + 1 by omega, dgs_succ, ← dgT_add, show 64 + (k - 64) = k by omega]
    · congr 1
      omega)
  have HW0 : Hid (RrW w a t3 N (.slice none 0 0) (.slice none 0 0) (.slice none 0 0) (dgsT (min 0 32) s2.1 s2.2) (dgsT (min (0 - 32) 32) (stT 32 s2.1 s2.2).1 (stT 32 s2.1 s2.2).2) (dgsT (0 - 64) (stT 64 s2.1 s2.2).1 (stT 64 s2.1 s2.2).2) (stT 0 s2.1 s2.2) w4) := HW4.out
  clear HW4
  go_loopw [5, 6] (fun i _ wr => ∃ (k : Nat) (v1 v2 v3 : Value), k ≤ 64 + M ∧ i = .int .i64 (k : Int) ∧ Hid (RrW w a t3 N v1 v2 v3 (dgsT (min k 32) s2.1 s2.2) (dgsT (min (k - 32) 32) (stT 32 s2.1 s2.2).1 (stT 32 s2.1 s2.2).2) (dgsT (k - 64) (stT 64 s2.1 s2.2).1 (stT 64 s2.1 s2.2).2) (stT k s2.1 s2.2) wr)) (fun i _ _ => 64 + M - (intOf i).toNat)
  case atStart => exact ⟨0, _, _, _, Nat.zero_le _, rfl, HW0⟩
  case round =>
    clear HW0
    obtain ⟨k, v1, v2, v3, hk, rfl, HW⟩ := hrel
    have HGK := Lib.hid (HGD.out _ (stT k s2.1 s2.2) HW.out.rd)
    by_cases hlt : k < 64 + M
    · have e15 : decide ((k : Int) < 64 + (M : Int)) = true := decide_eq_true (by omega)
      obtain ⟨bd, hbd⟩ : ∃ bd, (stT k s2.1 s2.2).2 = bd := ⟨_, rfl⟩
      rw [hbd] at HGK
      rcases bd with _ | _
      · clear hbd
        have HDG : Hid (Calls Tryd.prog 56 #[.pointer (some ⟨a, 0, none⟩)] wr fun e w' => e = .returned (.agg ((dgT s2.1 s2.2 k).map bv).toArray) ∧ RrW w a t3 N v1 v2 v3 (dgsT (min k 32) s2.1 s2.2) (dgsT (min (k - 32) 32) (stT 32 s2.1 s2.2).1 (stT 32 s2.1 s2.2).2) (dgsT (k - 64) (stT 64 s2.1 s2.2).1 (stT 64 s2.1 s2.2).2) (stT (k + 1) s2.1 s2.2) w') := (rdigest_any a _ _ wr HW.out.rd).mono fun e w' ⟨he, hr, hg⟩ => ⟨he, HW.out.turn hg hr⟩
        have HDL : Hid ((dgT s2.1 s2.2 k).length = 32) := digV_len _ _
        have HX := Lib.hid (HXE.out k)
        have HY := Lib.hid (HYE.out k)
        have HP := Lib.hid (HPE.out k)
        have HL1 := Lib.hid (dgs_len (min k 32) s2.1 s2.2)
        have HL2 := Lib.hid (dgs_len (min (k - 32) 32) (stT 32 s2.1 s2.2).1 (stT 32 s2.1 s2.2).2)
        have HL3 := Lib.hid (dgs_len (k - 64) (stT 64 s2.1 s2.2).1 (stT 64 s2.1 s2.2).2)
        clear HW HXX HRF HRN HXE HYE HPE
        obtain ⟨L1', hL1'⟩ : ∃ L, dgsT (min (k + 1) 32) s2.1 s2.2 = L := ⟨_, rfl⟩
        obtain ⟨L2', hL2'⟩ : ∃ L, dgsT (min (k + 1 - 32) 32) (stT 32 s2.1 s2.2).1 (stT 32 s2.1 s2.2).2 = L := ⟨_, rfl⟩
        obtain ⟨L3', hL3'⟩ : ∃ L, dgsT (k + 1 - 64) (stT 64 s2.1 s2.2).1 (stT 64 s2.1 s2.2).2 = L := ⟨_, rfl⟩
        obtain ⟨s', hs'⟩ : ∃ s', stT (k + 1) s2.1 s2.2 = s' := ⟨_, rfl⟩
        rw [hL1'] at HX
        rw [hL2'] at HY
        rw [hL3'] at HP
        rw [hs'] at HDG
        have HNX : Hid (∀ v1 v2 v3 w', RrW w a t3 N v1 v2 v3 L1' L2' L3' s' w' → RrW w a t3 N v1 v2 v3 (dgsT (min (k + 1) 32) s2.1 s2.2) (dgsT (min (k + 1 - 32) 32) (stT 32 s2.1 s2.2).1 (stT 32 s2.1 s2.2).2) (dgsT (k + 1 - 64) (stT 64 s2.1 s2.2).1 (stT 64 s2.1 s2.2).2) (stT (k + 1) s2.1 s2.2) w') := Lib.hid (fun v1 v2 v3 w' hw => by
          rw [hL1', hL2', hL3', hs']
          exact hw)
        clear hL1' hL2' hL3' hs'
        generalize dgsT (min k 32) s2.1 s2.2 = L1 at *
        generalize dgsT (min (k - 32) 32) (stT 32 s2.1 s2.2).1 (stT 32 s2.1 s2.2).2 = L2 at *
        generalize dgsT (k - 64) (stT 64 s2.1 s2.2).1 (stT 64 s2.1 s2.2).2 = L3 at *
        generalize dgT s2.1 s2.2 k = x at *
        have HSM := Lib.hid (dig_same x HDL.out)
        have HSZ := Lib.hid (dig_size x HDL.out)
        have HLX := Lib.hid (dig_list x HDL.out)
        have hbs := build_one x HDL.out
        go_upto_region 7 with (first
          | (go_at_call 25; (with_reducible refine (HGK.out).mono ?_); rintro e w5 ⟨rfl, rfl⟩)
          | (go_at_call 56; (with_reducible refine (HDG.out).mono ?_); rintro e w6 ⟨rfl, hw⟩; have HW6 := Lib.hid hw; clear hw)
          | (((with_reducible show wpList _ _ _ ((⟨none, Op.store _ (.tmp 6) (.tmp 23), _, _, _, _⟩ : Oper) :: _) _ _)); refine wpList_store_box rfl 23 (.tmp 6) (.tmp 23) rfl w6.heap.size (x.map bv).toArray rfl rfl 23 zs32 (Box.made w6 _ _) HSM.out HSZ.out (bv_one _) ?_; intro w7 hb7 hg7; have HQ7 := Lib.hid hb7; have HW7 := Lib.hid (HW6.out.call (((Below.refl w6.heap.size w6).alloc (Nat.le_refl _) (.cells zs32 23)).trans (below_only hg7 (Nat.le_refl _) (by simp)))); clear hb7 hg7))
        clear HGK HDG HW6
        have HW8 := Lib.hid (HW7.out.call ((Below.refl w7.heap.size w7).alloc (Nat.le_refl _) (.cells (x.map bv).toArray 23)))
        have HB8 : Hid (Box (w7.alloc (.cells (x.map bv).toArray 23)) w7.heap.size 23 (x.map bv).toArray) := Box.made _ _ _
        by_cases hk1 : k < 32
        · have e25 : decide ((k : Int) < 32) = true := decide_eq_true (by omega)
          have c1 := HW7.out.box.cell 1
          simp only [List.getElem?_toArray, List.getElem?_cons_zero, List.getElem?_cons_succ] at c1
          obtain ⟨g, cap, w9, hap, hc9, hf9, hw9⟩ := HW8.out.push1 HDL.out HB8.out (by rw [HL1.out]; omega)
          have HW9 := Lib.hid hw9
          clear hw9
          obtain ⟨u1, hu1⟩ : ∃ u : Value, u = .slice (some ⟨g, 0, none⟩) (L1.length + 1) cap := ⟨_, rfl⟩
          go_wp2_with ((with_reducible show wpList _ _ _ ((⟨some 29, _, _, _, _, _⟩ : Oper) :: _) _ _); refine wpList_load_mid rfl 23 (.tmp 6) rfl w6.heap.size 0 rfl (x.map bv) _ HQ7.out.range Tryd.underlying23 rfl HLX.out ?_)
          clear hap hc9 hf9 c1 hbs
          generalize w9.setCell ⟨t3, 1, none⟩ (.slice (some ⟨g, 0, none⟩) (L1.length + 1) cap) = w10 at *
          have hx := HX.out
          have hy := HY.out
          have hp := HP.out
          rw [if_pos hk1] at hx
          rw [if_neg (by omega)] at hy
          rw [if_neg (by omega)] at hp
          have HW10 := Lib.hid (HNX.out (.slice (some ⟨g, 0, none⟩) (L1.length + 1) cap) v2 v3 w10 (by rw [hx, hy, hp]; exact HW9.out))
          clear hx hy hp
          go_roundw
          case rel => exact ⟨k + 1, (.slice (some ⟨g, 0, none⟩) (L1.length + 1) cap), v2, v3, hlt, by go_num, HW10⟩
          case measure => simp [intOf]; omega
        by_cases hk2 : k < 64
        · have e25 : decide ((k : Int) < 32) = false := decide_eq_false (by omega)
          have e35 : decide ((k : Int) < 64) = true := decide_eq_true (by omega)
          have c2 := HW7.out.box.cell 2
          simp only [List.getElem?_toArray, List.getElem?_cons_zero, List.getElem?_cons_succ] at c2
          obtain ⟨g, cap, w9, hap, hc9, hf9, hw9⟩ := HW8.out.push2 HDL.out HB8.out (by rw [HL2.out]; omega)
          have HW9 := Lib.hid hw9
          clear hw9
          obtain ⟨u2, hu2⟩ : ∃ u : Value, u = .slice (some ⟨g, 0, none⟩) (L2.length + 1) cap := ⟨_, rfl⟩
          go_wp2_with ((with_reducible show wpList _ _ _ ((⟨some 39, _, _, _, _, _⟩ : Oper) :: _) _ _); refine wpList_load_mid rfl 23 (.tmp 6) rfl w6.heap.size 0 rfl (x.map bv) _ HQ7.out.range Tryd.underlying23 rfl HLX.out ?_)
          clear hap hc9 hf9 c2 hbs
          generalize w9.setCell ⟨t3, 2, none⟩ (.slice (some ⟨g, 0, none⟩) (L2.length + 1) cap) = w10 at *
          have hx := HX.out
          have hy := HY.out
          have hp := HP.out
          rw [if_neg (by omega)] at hx
          rw [if_pos (by omega)] at hy
          rw [if_neg (by omega)] at hp
          have HW10 := Lib.hid (HNX.out v1 (.slice (some ⟨g, 0, none⟩) (L2.length + 1) cap) v3 w10 (by rw [hx, hy, hp]; exact HW9.out))
          clear hx hy hp
          go_roundw
          case rel => exact ⟨k + 1, v1, (.slice (some ⟨g, 0, none⟩) (L2.length + 1) cap), v3, hlt, by go_num, HW10⟩
          case measure => simp [intOf]; omega
        have e25 : decide ((k : Int) < 32) = false := decide_eq_false (by omega)
        have e35 : decide ((k : Int) < 64) = false := decide_eq_false (by omega)
        have c3 := HW7.out.box.cell 3
        simp only [List.getElem?_toArray, List.getElem?_cons_zero, List.getElem?_cons_succ] at c3
        obtain ⟨g, cap, w9, hap, hc9, hf9, hw9⟩ := HW8.out.push3 HDL.out HB8.out (by rw [HL3.out]; omega)
        have HW9 := Lib.hid hw9
        clear hw9
        obtain ⟨u3, hu3⟩ : ∃ u : Value, u = .slice (some ⟨g, 0, none⟩) (L3.length + 1) cap := ⟨_, rfl⟩
        go_wp2_with ((with_reducible show wpList _ _ _ ((⟨some 46, _, _, _, _, _⟩ : Oper) :: _) _ _); refine wpList_load_mid rfl 23 (.tmp 6) rfl w6.heap.size 0 rfl (x.map bv) _ HQ7.out.range Tryd.underlying23 rfl HLX.out ?_)
        clear hap hc9 hf9 c3 hbs
        generalize w9.setCell ⟨t3, 3, none⟩ (.slice (some ⟨g, 0, none⟩) (L3.length + 1) cap) = w10 at *
        have hx := HX.out
        have hy := HY.out
        have hp := HP.out
        rw [if_neg (by omega)] at hx
        rw [if_neg (by omega)] at hy
        rw [if_pos (by omega)] at hp
        have HW10 := Lib.hid (HNX.out v1 v2 (.slice (some ⟨g, 0, none⟩) (L3.length + 1) cap) w10 (by rw [hx, hy, hp]; exact HW9.out))
        clear hx hy hp
        go_roundw
        case rel => exact ⟨k + 1, v1, v2, (.slice (some ⟨g, 0, none⟩) (L3.length + 1) cap), hlt, by go_num, HW10⟩
        case measure => simp [intOf]; omega
      · have HNL : Hid (stT k s2.1 s2.2 = ([], true)) := Lib.hid (stT_nil HRN.out hbd)
        have HRE : Hid (rdF l b = ([], true)) := by
          show _ = _
          rw [HRF.out]
          exact stT_past (by omega) HNL.out
        have HRW : Hid (RRd wr a [] true) := by
          have h := HW.out.rd
          rw [HNL.out] at h
          exact h
        have HOW := Lib.hid HW.out.out
        have HGW := Lib.hid HW.out.far
        clear HNL HRF HRN HXX HXE HYE HPE HW hbd
        go_wp2_with (first
          | (go_at_call 25; (with_reducible refine (HGK.out).mono ?_); rintro e w11 ⟨rfl, rfl⟩)
          | (((with_reducible show wpList _ _ _ ((⟨none, Op.store _ (.tmp 2) (.tmp 53), _, _, _, _⟩ : Oper) :: _) _ _)); refine wpList_store_box rfl 30 (.tmp 2) (.tmp 53) rfl w.heap.size zsig rfl rfl 30 zsig HOW.out rfl (sig_size 0 none 0 0 none 0 0 none 0 0) (sig_one 0 none 0 0 none 0 0 none 0 0) ?_; intro w12 hb12 hg12))
        have ha := HA.out
        obtain ⟨z1, z2, z3, z4⟩ := read_bad (l := l) (b := b) (by rw [HRE.out])
        refine bodyPost_ret (v := .agg zsig) (results_cell_row rfl _ w12 w.heap.size 30 zsig (0, 0) _ rfl hb12 Tryd.underlying30 rfl (sig_size 0 none 0 0 none 0 0 none 0 0)) rfl ?_
        refine ⟨none, none, none, 0, 0, 0, ?_, ?_, ?_, ?_, ?_, only_new HGW.out hg12 (Nat.le_refl _)⟩
        · rw [z1, z2, z3, z4]
          rfl
        · rw [z2]
          exact Digs.empty _ _ _
        · rw [z3]
          exact Digs.empty _ _ _
        · rw [z4]
          exact Digs.empty _ _ _
        · rw [HRE.out]
          exact HRW.out.other hg12 (by omega)
    · obtain rfl : k = 64 + M := by omega
      have e15 : decide (((64 + M : Nat) : Int) < 64 + (M : Int)) = false := decide_eq_false (by omega)
      have e16 : ((64 + M : Nat) : Int) = 64 + (M : Int) := by omega
      obtain ⟨gd, hgd⟩ : ∃ gd, (rdF l b).2 = gd := ⟨_, rfl⟩
      have HSE : Hid (stT (64 + M) s2.1 s2.2 = rdF l b) := Lib.hid HRF.out.symm
      rw [HSE.out] at HGK HW
      have hgd2 := hgd
      rw [hgd] at HGK
      rcases gd with _ | _
      · obtain ⟨x1, x2, x3, x4⟩ := HXX.out hgd2
        have HL1 : Hid (rdX l b = dgsT (min (64 + M) 32) s2.1 s2.2) := by
          show _ = _
          rw [x2, Nat.min_eq_right (by omega)]
        have HL2 : Hid (rdY l b = dgsT (min (64 + M - 32) 32) (stT 32 s2.1 s2.2).1 (stT 32 s2.1 s2.2).2) := by
          show _ = _
          rw [x3, Nat.min_eq_right (by omega)]
        have HL3 : Hid (rdP l b = dgsT (64 + M - 64) (stT 64 s2.1 s2.2).1 (stT 64 s2.1 s2.2).2) := by
          show _ = _
          rw [x4, show 64 + M - 64 = M by omega]
        have HN1 := Lib.hid x1
        have HA1 : Hid (AllD (rdX l b)) := by
          show AllD _
          rw [x2]
          exact dgs_all _ _ _
        have HA2 : Hid (AllD (rdY l b)) := by
          show AllD _
          rw [x3]
          exact dgs_all _ _ _
        have HA3 : Hid (AllD (rdP l b)) := by
          show AllD _
          rw [x4]
          exact dgs_all _ _ _
        rw [← HL1.out, ← HL2.out, ← HL3.out] at HW
        clear x1 x2 x3 x4 HL1 HL2 HL3 HXX HXE HYE HPE HRF HRN hgd hgd2 HSE
        obtain ⟨A1, c1, rfl⟩ := own_slice_s HW.out.o1
        obtain ⟨A2, c2, rfl⟩ := own_slice_s HW.out.o2
        obtain ⟨A3, c3, rfl⟩ := own_slice_s HW.out.o3
        have d1 := OwnD.digs HW.out.o1 HA1.out
        have d2 := OwnD.digs HW.out.o2 HA2.out
        have d3 := OwnD.digs HW.out.o3 HA3.out
        have HD1 := Lib.hid d1
        have HD2 := Lib.hid d2
        have HD3 := Lib.hid d3
        have HBX : Hid (Box wr t3 30 (sigV N A1 (rdX l b).length c1 A2 (rdY l b).length c2 A3 (rdP l b).length c3)) := HW.out.box
        have HRW := Lib.hid HW.out.rd
        have HOW := Lib.hid HW.out.out
        have HGW := Lib.hid HW.out.far
        have HLG := Lib.hid (sig_list N A1 (rdX l b).length c1 A2 (rdY l b).length c2 A3 (rdP l b).length c3)
        have HZG := Lib.hid (sig_size N A1 (rdX l b).length c1 A2 (rdY l b).length c2 A3 (rdP l b).length c3)
        have HOG := Lib.hid (sig_one N A1 (rdX l b).length c1 A2 (rdY l b).length c2 A3 (rdP l b).length c3)
        clear d1 d2 d3 HW
        go_wp2_with (first
          | (go_at_call 25; (with_reducible refine (HGK.out).mono ?_); rintro e w11 ⟨rfl, rfl⟩)
          | ((with_reducible show wpList _ _ _ ((⟨some 54, _, _, _, _, _⟩ : Oper) :: _) _ _); refine wpList_load_mid rfl 30 (.tmp 3) rfl t3 0 rfl (sigV N A1 (rdX l b).length c1 A2 (rdY l b).length c2 A3 (rdP l b).length c3).toList _ (Box.range HBX.out) Tryd.underlying30 rfl HLG.out ?_)
          | (((with_reducible show wpList _ _ _ ((⟨none, Op.store _ (.tmp 2) (.tmp 54), _, _, _, _⟩ : Oper) :: _) _ _)); refine wpList_store_box rfl 30 (.tmp 2) (.tmp 54) rfl w.heap.size (sigV N A1 (rdX l b).length c1 A2 (rdY l b).length c2 A3 (rdP l b).length c3) rfl rfl 30 zsig HOW.out rfl HZG.out HOG.out ?_; intro w12 hb12 hg12))
        have ha := HA.out
        have hnb := sig_nobyte 0 none 0 0 none 0 0 none 0 0
        refine bodyPost_ret (v := .agg (sigV N A1 (rdX l b).length c1 A2 (rdY l b).length c2 A3 (rdP l b).length c3)) (results_cell_row rfl _ w12 w.heap.size 30 (sigV N A1 (rdX l b).length c1 A2 (rdY l b).length c2 A3 (rdP l b).length c3) (0, 0) _ rfl hb12 Tryd.underlying30 rfl HZG.out) rfl ?_
        exact ⟨A1, A2, A3, c1, c2, c3, by rw [HN1.out], HD1.out.aside HOW.out hnb hg12, HD2.out.aside HOW.out hnb hg12, HD3.out.aside HOW.out hnb hg12, HRW.out.other hg12 (by omega), only_new HGW.out hg12 (Nat.le_refl _)⟩
      · have HNL : Hid (rdF l b = ([], true)) := by
          show _ = _
          rw [← HSE.out]
          exact stT_nil HRN.out (by rw [HSE.out]; exact hgd)
        have HRE := HNL
        have HRW : Hid (RRd wr a [] true) := by
          have h := HW.out.rd
          rw [HNL.out] at h
          exact h
        have HOW := Lib.hid HW.out.out
        have HGW := Lib.hid HW.out.far
        clear HNL HRF HRN HXX HXE HYE HPE HW hgd hgd2 HSE
        go_wp2_with (first
          | (go_at_call 25; (with_reducible refine (HGK.out).mono ?_); rintro e w11 ⟨rfl, rfl⟩)
          | (((with_reducible show wpList _ _ _ ((⟨none, Op.store _ (.tmp 2) (.tmp 53), _, _, _, _⟩ : Oper) :: _) _ _)); refine wpList_store_box rfl 30 (.tmp 2) (.tmp 53) rfl w.heap.size zsig rfl rfl 30 zsig HOW.out rfl (sig_size 0 none 0 0 none 0 0 none 0 0) (sig_one 0 none 0 0 none 0 0 none 0 0) ?_; intro w12 hb12 hg12))
        have ha := HA.out
        obtain ⟨z1, z2, z3, z4⟩ := read_bad (l := l) (b := b) (by rw [HRE.out])
        refine bodyPost_ret (v := .agg zsig) (results_cell_row rfl _ w12 w.heap.size 30 zsig (0, 0) _ rfl hb12 Tryd.underlying30 rfl (sig_size 0 none 0 0 none 0 0 none 0 0)) rfl ?_
        refine ⟨none, none, none, 0, 0, 0, ?_, ?_, ?_, ?_, ?_, only_new HGW.out hg12 (Nat.le_refl _)⟩
        · rw [z1, z2, z3, z4]
          rfl
        · rw [z2]
          exact Digs.empty _ _ _
        · rw [z3]
          exact Digs.empty _ _ _
        · rw [z4]
          exact Digs.empty _ _ _
        · rw [HRE.out]
          exact HRW.out.other hg12 (by omega)
end
end Go.Proofs.YtkmmhkoommbkpaaDoor
