/-
  A ring's tree is looked up: (*ring.Ring).find, (*ring.stock).left.
-/
import Derived.Test.YtojgmdagamdcfaaGreatDoorRiKit
namespace Go.Proofs.YtojgmdagamdcfaaGreatDoor
open Go.RowKit Go.Maps

noncomputable def ldKey (v : Value) : Sem Value := Instr.loadAt 37 v
set_option maxRecDepth 100000 in
theorem ldKey_def (v : Value) : Instr.loadAt 37 v = ldKey v := rfl
set_option maxRecDepth 100000 in
theorem Box.load_key {w : World} {g : Nat} {t : TypeId} {r : List UInt8} {h : Int} (hb : Box w g t (keyV r h)) (hr : r.length = 32) : (ldKey (.pointer (some ⟨g, 0, none⟩))).run Tryz.prog w = .ok (.agg (keyV r h)) w :=
  run_loadAt_mid (P := Tryz.prog) w g 0 37 (keyL r h) _ hb.range Tryz.underlying37 rfl (key_list hr h)
noncomputable def lkStock (m k : Value) : Sem Value := Instr.lookup 57 m k true
set_option maxRecDepth 100000 in
theorem lkStock_def (m k : Value) : Instr.lookup 57 m k true = lkStock m k := rfl
set_option maxRecDepth 100000 in
theorem zero_stock (w : World) : (zeroValue 64).run Tryz.prog w = .ok (.pointer none) w := by kernel_rfl

set_option maxRecDepth 100000 in
/-- The entry of a key is looked up. -/
theorem RingW.look {w : World} {B rb mb n : Nat} {es : List Ent} (h : RingW w B rb mb n es) {e : Ent} (he : e ∈ es) {r : List UInt8} {k : Int} (hk : e.is r k = true) :
    (lkStock (.map (some mb)) (.agg (keyV r k))).run Tryz.prog w = .ok (.tuple #[.pointer (some ⟨e.sb, 0, none⟩), .bool true]) w := by
  obtain ⟨rfl, rfl⟩ := Ent.is_iff.1 hk
  obtain ⟨D, hD, hr⟩ := h.map
  obtain ⟨v, ps, hrun, hv⟩ := hD.look_ok keyed Tryz.underlying57 (zero_stock w) (zd := .held (.pointer none)) (zp := []) rfl (h.ents e he).lit
  rw [hr.at_ e he] at hv
  rw [has_true_of_atKey (fun z => hr.at_ e he z)] at hrun
  obtain rfl : v = .pointer (some ⟨e.sb, 0, none⟩) := by
    simp only [anyElem, Option.some.injEq, Prod.mk.injEq, DataW.held.injEq] at hv
    exact hv.1
  exact hrun
set_option maxRecDepth 100000 in
/-- .. and isn't there. -/
theorem RingW.look_not {w : World} {B rb mb n : Nat} {es : List Ent} (h : RingW w B rb mb n es) {r : List UInt8} {k : Int} (hr : r.length = 32) (hw : (Lit.int .i64 k).wf = true) (hk : ∀ e ∈ es, e.is r k = false) :
    (lkStock (.map (some mb)) (.agg (keyV r k))).run Tryz.prog w = .ok (.tuple #[.pointer none, .bool false]) w := by
  obtain ⟨D, hD, hR⟩ := h.map
  obtain ⟨v, ps, hrun, hv⟩ := hD.look_ok keyed Tryz.underlying57 (zero_stock w) (zd := .held (.pointer none)) (zp := []) rfl (klit_is hr hw)
  have hn : Maps.has D (klit r k) = false := by
    cases hh : Maps.has D (klit r k)
    · rfl
    · obtain ⟨e, he, hl⟩ := hR.has _ hh
      have := klit_inj e.root_len hr (h.ents e he).wf hw hl
      have h2 := hk e he
      rw [Ent.is_iff.2 this] at h2
      cases h2
  rw [hn] at hrun
  rw [atKey_of_not_has hn] at hv
  obtain rfl : v = .pointer none := by
    simp only [anyElem, Option.some.injEq, Prod.mk.injEq, DataW.held.injEq] at hv
    exact hv.1
  exact hrun
set_option maxRecDepth 100000 in
theorem RingW.drew {w : World} {B rb mb n : Nat} {es : List Ent} (h : RingW w B rb mb n es) : RingW w.drew B rb mb n es := h.call (Below.refl _ _).drew
set_option maxRecDepth 100000 in
theorem RingW.drewN {w : World} {B rb mb n : Nat} {es : List Ent} (h : RingW w B rb mb n es) (m : Nat) : RingW (w.drewN m) B rb mb n es := h.call (below_drewN (Below.refl _ _) m)

attribute [local go_sem ↓] ldKey_def lkStock_def

set_option maxRecDepth 100000 in
theorem find_nil (r : List UInt8) (k : Int) (w : World) : Calls Tryz.prog 29 #[.pointer none, .agg (keyV r k)] w fun e w' => e = .returned (.tuple #[.pointer none, .int .i64 2]) ∧ Below w.heap.size w w' := by
  have HF : Hid (Below w.heap.size w (w.alloc (.cells (keyV r k) 37))) := (Below.refl _ _).alloc (Nat.le_refl _) _
  go_enter Tryz.func29, Tryz.ntmps29
  go_wp2
  go_ret2
  exact ⟨rfl, HF.out⟩

set_option maxRecDepth 100000 in
/-- What find answers, and its world. -/
theorem find_gives (rb mb : Nat) (r : List UInt8) (k : Int) (hr : r.length = 32) (w : World) (v : Value) (b : Bool) (hbox : Box w rb 59 #[.map (some mb)])
    (hl : ∀ m, (lkStock (.map (some mb)) (.agg (keyV r k))).run Tryz.prog ((w.alloc (.cells (keyV r k) 37)).drewN m) = .ok (.tuple #[v, .bool b]) ((w.alloc (.cells (keyV r k) 37)).drewN m)) :
    Calls Tryz.prog 29 #[.pointer (some ⟨rb, 0, none⟩), .agg (keyV r k)] w fun e w' => e = .returned (.tuple (if b then #[v, .int .i64 0] else #[.pointer none, .int .i64 7])) ∧ Below w.heap.size w w' := by
  have HF : Hid (Below w.heap.size w (w.alloc (.cells (keyV r k) 37))) := (Below.refl _ _).alloc (Nat.le_refl _) _
  have hB := hbox.alloc (.cells (keyV r k) 37)
  have hK : Box (w.alloc (.cells (keyV r k) 37)) w.heap.size 37 (keyV r k) := Box.made _ _ _
  have c0 : ∀ m, ((w.alloc (.cells (keyV r k) 37)).drewN m).cell? ⟨rb, 0, none⟩ = some (.map (some mb)) := fun m => hB.cell 0
  have lk : ∀ m, (ldKey (.pointer (some ⟨w.heap.size, 0, none⟩))).run Tryz.prog ((w.alloc (.cells (keyV r k) 37)).drewN m) = .ok (.agg (keyV r k)) ((w.alloc (.cells (keyV r k) 37)).drewN m) := fun m => Box.load_key (w := (w.alloc (.cells (keyV r k) 37)).drewN m) hK hr
  clear hB hK
  go_enter Tryz.func29, Tryz.ntmps29
  go_wp2
  change Code.wp _ _ _ _ (w.alloc (.cells (keyV r k) 37))
  generalize w.alloc (.cells (keyV r k) 37) = w1 at *
  go_quiet (fail)
  cases b
  · go_wp2
    go_ret2
    exact ⟨rfl, below_drewN HF.out _⟩
  · go_wp2
    go_ret2
    exact ⟨rfl, below_drewN HF.out _⟩
set_option maxRecDepth 100000 in
theorem find_any {w : World} {B rb mb n : Nat} {es : List Ent} (h : RingW w B rb mb n es) {e : Ent} (he : e ∈ es) {r : List UInt8} {k : Int} (hk : e.is r k = true) :
    Calls Tryz.prog 29 #[.pointer (some ⟨rb, 0, none⟩), .agg (keyV r k)] w fun e' w' => e' = .returned (.tuple #[.pointer (some ⟨e.sb, 0, none⟩), .int .i64 0]) ∧ Below w.heap.size w w' := by
  have hr : r.length = 32 := by rw [← (Ent.is_iff.1 hk).1]; exact e.root_len
  exact find_gives rb mb r k hr w (.pointer (some ⟨e.sb, 0, none⟩)) true h.ring (fun m => ((h.call ((Below.refl _ _).alloc (Nat.le_refl _) _)).drewN m).look he hk)
set_option maxRecDepth 100000 in
theorem find_not {w : World} {B rb mb n : Nat} {es : List Ent} (h : RingW w B rb mb n es) {r : List UInt8} {k : Int} (hr : r.length = 32) (hw : (Lit.int .i64 k).wf = true) (hk : ∀ e ∈ es, e.is r k = false) :
    Calls Tryz.prog 29 #[.pointer (some ⟨rb, 0, none⟩), .agg (keyV r k)] w fun e' w' => e' = .returned (.tuple #[.pointer none, .int .i64 7]) ∧ Below w.heap.size w w' :=
  find_gives rb mb r k hr w (.pointer none) false h.ring (fun m => ((h.call ((Below.refl _ _).alloc (Nat.le_refl _) _)).drewN m).look_not hr hw hk)

set_option maxRecDepth 100000 in
/-- How many numbers there are from the next one on. -/
theorem left_any (a t o m x : Nat) (hx : x ≤ m) (hm : m ≤ 64) (w : World) (hb : Box w a 68 (stockV t x o m)) :
    Calls Tryz.prog 30 #[.pointer (some ⟨a, 0, none⟩)] w fun e w' => e = .returned (.int .i64 ((m - x : Nat) : Int)) ∧ Below w.heap.size w w' := by
  have c1 : ∀ k, (w.drewN k).cell? ⟨a, 1, none⟩ = some (.int .i64 (x : Int)) := fun k => hb.cell 1
  have c2 : ∀ k, (w.drewN k).cell? ⟨a, 2, none⟩ = some (.slice (some ⟨o, 0, none⟩) m m) := fun k => hb.cell 2
  have hw : IntKind.i64.wrap ((m : Int) - (x : Int)) = ((m - x : Nat) : Int) := by
    rw [IntKind.wrap_i64]
    omega
  have HF : Hid (Below w.heap.size w w) := Below.refl _ _
  clear hb
  go_enter Tryz.func30, Tryz.ntmps30
  go_wp2
  go_quiet (fail)
  go_wp2
  go_ret
  exact ⟨rfl, below_drewN HF.out _⟩
end Go.Proofs.YtojgmdagamdcfaaGreatDoor
