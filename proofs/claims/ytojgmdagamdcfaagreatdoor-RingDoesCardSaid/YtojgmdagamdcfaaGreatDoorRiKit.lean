/-
  A ring in memory: its entries, what its calls leave as it was, one entry written.
-/
import Derived.Test.YtojgmdagamdcfaaGreatDoorRiKey
import Derived.Test.YtojgmdagamdcfaaGreatDoorKD
namespace Go.Proofs.YtojgmdagamdcfaaGreatDoor
open Go.RowKit Go.Maps

/-- A tree of a ring: its seed and height, the next number, which ones are open, and where it lies. -/
structure Ent where
  seed : List UInt8
  h : Nat
  next : Nat
  opens : List Bool
  sb : Nat
  ob : Nat
  tb : Nat
  gb : Nat
def Ent.root (e : Ent) : List UInt8 := keyT e.seed e.h
set_option maxRecDepth 100000 in
theorem Ent.root_len (e : Ent) : e.root.length = 32 := keyT_len e.seed e.h
noncomputable def Ent.lit (e : Ent) : Lit := klit e.root (e.h : Int)
/-- Is it this key's? -/
def Ent.is (r : List UInt8) (h : Int) (e : Ent) : Bool := decide (e.root = r) && decide ((e.h : Int) = h)
set_option maxRecDepth 100000 in
theorem Ent.is_iff {r : List UInt8} {h : Int} {e : Ent} : e.is r h = true ↔ e.root = r ∧ (e.h : Int) = h := by simp [Ent.is]

def stockV (t n o m : Nat) : Array Value := #[.pointer (some ⟨t, 0, none⟩), .int .i64 (n : Int), .slice (some ⟨o, 0, none⟩) m m]
def boolsV (l : List Bool) : Array Value := (l.map Value.bool).toArray

structure EntW (w : World) (e : Ent) : Prop where
  seed : e.seed.length = 32
  high : e.h ≤ 6
  many : e.opens.length = 2 ^ e.h
  next : e.next ≤ 2 ^ e.h
  stock : Box w e.sb 68 (stockV e.tb e.next e.ob (2 ^ e.h))
  opens : Box w e.ob 4 (boolsV e.opens)
  tree : TreeW w e.tb e.gb e.seed e.h
set_option maxRecDepth 100000 in
theorem EntW.wf {w : World} {e : Ent} (h : EntW w e) : (Lit.int .i64 (e.h : Int)).wf = true := small_wf _ (by have := h.high; omega)
set_option maxRecDepth 100000 in
theorem EntW.lit {w : World} {e : Ent} (h : EntW w e) : keyOf Tryz.prog 37 (.agg (keyV e.root (e.h : Int))) = some e.lit := klit_is e.root_len h.wf

/-- A value of a map that is told whole. -/
def anyElem (v : Value) : Option (DataW Value × List MemPlace) := some (.held v, [])

/-- The map reads as the entries. -/
structure Reads (D : DataW Value) (es : List Ent) : Prop where
  at_ : ∀ e ∈ es, ∀ z, D.atKey e.lit z = .held (.pointer (some ⟨e.sb, 0, none⟩))
  has : ∀ kl, Maps.has D kl = true → ∃ e ∈ es, e.lit = kl

structure RingW (w : World) (B rb mb n : Nat) (es : List Ent) : Prop where
  ring : Box w rb 59 #[.map (some mb)]
  map : ∃ D : DataW Value, w.ownsMap Tryz.prog 37 anyElem mb n D ∧ Reads D es
  ents : ∀ e ∈ es, EntW w e
  apart : es.Pairwise fun a b => a.sb ≠ b.sb ∧ a.ob ≠ b.ob
  keys : es.Pairwise fun a b => a.lit ≠ b.lit
  low : B ≤ mb ∧ ∀ e ∈ es, B ≤ e.sb ∧ B ≤ e.ob

/-- What a ring's calls may turn: its map, its stocks, its lists of bools. -/
def ringObj : Option Obj → Bool
  | some (.cells _ t _) => t == 68 || t == 4
  | some (.map ..) => true
  | _ => false

/-- Nothing below B has turned, and above it nothing but what is a ring's. -/
structure RFrame (B : Nat) (w w' : World) : Prop where
  os : w'.os = w.os
  tape : w'.tape = w.tape
  output : w'.output = w.output
  size : w.heap.size ≤ w'.heap.size
  block : ∀ i, i < w.heap.size → (i < B ∨ ringObj w.heap[i]? = false) → w'.heap[i]? = w.heap[i]?
set_option maxRecDepth 100000 in
theorem RFrame.refl (B : Nat) (w : World) : RFrame B w w := ⟨rfl, rfl, rfl, Nat.le_refl _, fun _ _ _ => rfl⟩
set_option maxRecDepth 100000 in
theorem RFrame.trans {B : Nat} {a b c : World} (h : RFrame B a b) (k : RFrame B b c) : RFrame B a c :=
  ⟨k.os.trans h.os, k.tape.trans h.tape, k.output.trans h.output, Nat.le_trans h.size k.size, fun i hi hr => by
    have e := h.block i hi hr
    exact (k.block i (Nat.lt_of_lt_of_le hi h.size) (hr.imp id fun hf => by rw [e]; exact hf)).trans e⟩
set_option maxRecDepth 100000 in
theorem RFrame.of_below {B : Nat} {w w' : World} (h : Below w.heap.size w w') : RFrame B w w' := ⟨h.os, h.tape, h.output, h.size, fun i hi _ => h.block i hi⟩
set_option maxRecDepth 100000 in
theorem RFrame.of_grown {B g : Nat} {w w' : World} (h : w.grownBy w' (some g)) (hB : B ≤ g) (hr : ringObj w.heap[g]? = true) : RFrame B w w' :=
  ⟨h.os, h.tape, h.output, h.size, fun i hi hf => h.block i hi fun e => by
    injection e with e
    subst e
    rcases hf with hf | hf
    · omega
    · rw [hr] at hf
      cases hf⟩
set_option maxRecDepth 100000 in
theorem RFrame.drew {B : Nat} {a w : World} (h : RFrame B a w) : RFrame B a w.drew := ⟨h.os, h.tape, h.output, h.size, h.block⟩
set_option maxRecDepth 100000 in
theorem RFrame.drewN {B : Nat} {a w : World} (h : RFrame B a w) (n : Nat) : RFrame B a (w.drewN n) := ⟨h.os, h.tape, h.output, h.size, h.block⟩
set_option maxRecDepth 100000 in
theorem RFrame.below {B : Nat} {w w' : World} (h : RFrame B w w') (hB : B ≤ w.heap.size) : Below B w w' := ⟨h.os, h.tape, h.output, h.size, fun i hi => h.block i (by omega) (.inl hi)⟩
set_option maxRecDepth 100000 in
theorem RFrame.box {B g : Nat} {w w' : World} {t : TypeId} {cs : Array Value} (h : RFrame B w w') (hb : Box w g t cs) (h1 : t ≠ 68) (h2 : t ≠ 4) : Box w' g t cs := by
  have hb' := hb
  unfold Box at hb
  exact (h.block g hb'.lt (.inr (by rw [hb]; simp [ringObj, h1, h2]))).trans hb
set_option maxRecDepth 100000 in
theorem RFrame.tree {B a g : Nat} {w w' : World} {seed : List UInt8} {h : Nat} (f : RFrame B w w') (t : TreeW w a g seed h) : TreeW w' a g seed h := ⟨f.box t.tree (by decide) (by decide), f.box t.leaves (by decide) (by decide)⟩
set_option maxRecDepth 100000 in
theorem RFrame.ring {B g : Nat} {w w' : World} {m : Nat} (f : RFrame B w w') (h : Box w g 59 #[.map (some m)]) : Box w' g 59 #[.map (some m)] := f.box h (by decide) (by decide)

set_option maxRecDepth 100000 in
theorem EntW.kept {w w' : World} {e : Ent} (h : EntW w e) (hs : w'.heap[e.sb]? = w.heap[e.sb]?) (ho : w'.heap[e.ob]? = w.heap[e.ob]?) (ht : TreeW w' e.tb e.gb e.seed e.h) : EntW w' e :=
  ⟨h.seed, h.high, h.many, h.next, hs.trans h.stock, ho.trans h.opens, ht⟩
set_option maxRecDepth 100000 in
theorem EntW.call {w w' : World} {e : Ent} (h : EntW w e) (hb : Below w.heap.size w w') : EntW w' e := h.kept (hb.block _ h.stock.lt) (hb.block _ h.opens.lt) (h.tree.call hb)

set_option maxRecDepth 100000 in
theorem RingW.call {w w' : World} {B rb mb n : Nat} {es : List Ent} (h : RingW w B rb mb n es) (hb : Below w.heap.size w w') : RingW w' B rb mb n es := by
  obtain ⟨D, hD, hr⟩ := h.map
  exact ⟨h.ring.below hb h.ring.lt, ⟨D, hD.kept (only_below hb none) (by simp), hr⟩, fun e he => (h.ents e he).call hb, h.apart, h.keys, h.low⟩
set_option maxRecDepth 100000 in
/-- A block that is nothing of the ring's has turned. -/
theorem RingW.aside {w w' : World} {B rb mb n g : Nat} {es : List Ent} (h : RingW w B rb mb n es) (hg : w.grownBy w' (some g)) {t : TypeId} {cs : Array Value} (hb : Box w g t cs) (h1 : t ≠ 59) (h2 : t ≠ 68) (h3 : t ≠ 4) (h4 : t ≠ 97) (h5 : t ≠ 33) : RingW w' B rb mb n es := by
  obtain ⟨D, hD, hr⟩ := h.map
  have hm : mb ≠ g := by
    rintro rfl
    obtain ⟨es', clock, hh, _⟩ := hD
    unfold Box at hb
    rw [hb] at hh
    cases hh
  refine ⟨h.ring.grown hg fun e => ?_, ⟨D, hD.kept hg (by simpa using hm), hr⟩, fun e he => ?_, h.apart, h.keys, h.low⟩
  · injection e with e
    exact Box.apart h.ring hb (Ne.symm h1) e
  · have k := h.ents e he
    refine k.kept (hg.block _ k.stock.lt fun e => ?_) (hg.block _ k.opens.lt fun e => ?_) ⟨k.tree.tree.grown hg fun e => ?_, k.tree.leaves.grown hg fun e => ?_⟩
    · injection e with e
      exact Box.apart k.stock hb (Ne.symm h2) e
    · injection e with e
      exact Box.apart k.opens hb (Ne.symm h3) e
    · injection e with e
      exact Box.apart k.tree.tree hb (Ne.symm h4) e
    · injection e with e
      exact Box.apart k.tree.leaves hb (Ne.symm h5) e

/-! ### One entry is another -/
def upd (es : List Ent) (e : Ent) : List Ent := es.map fun x => if x.sb = e.sb then e else x
set_option maxRecDepth 100000 in
theorem mem_upd {es : List Ent} {e x : Ent} (h : x ∈ upd es e) : (x = e) ∨ (x ∈ es ∧ x.sb ≠ e.sb) := by
  obtain ⟨y, hy, hx⟩ := List.mem_map.1 h
  split at hx
  · exact .inl hx.symm
  · subst hx
    exact .inr ⟨hy, by assumption⟩
set_option maxRecDepth 100000 in
theorem upd_mem {es : List Ent} {e e' : Ent} (he : e ∈ es) (hs : e.sb = e'.sb) : e' ∈ upd es e' := List.mem_map.2 ⟨e, he, by simp [hs]⟩
set_option maxRecDepth 100000 in
theorem upd_upd (es : List Ent) (a b : Ent) (h : a.sb = b.sb) : upd (upd es a) b = upd es b := by
  unfold upd
  rw [List.map_map]
  apply List.map_congr_left
  intro x _
  simp only [Function.comp]
  by_cases hx : x.sb = a.sb
  · simp [hx, h]
  · simp [hx, show x.sb ≠ b.sb from fun e => hx (e.trans h.symm)]
/-- It has the same tree, and lies where the other one lay. -/
structure Like (e e' : Ent) : Prop where
  seed : e'.seed = e.seed
  h : e'.h = e.h
  sb : e'.sb = e.sb
  ob : e'.ob = e.ob
  tb : e'.tb = e.tb
  gb : e'.gb = e.gb
set_option maxRecDepth 100000 in
theorem Like.root {e e' : Ent} (l : Like e e') : e'.root = e.root := by
  unfold Ent.root
  rw [l.seed, l.h]
set_option maxRecDepth 100000 in
theorem Like.lit {e e' : Ent} (l : Like e e') : e'.lit = e.lit := by
  unfold Ent.lit
  rw [l.root, l.h]
set_option maxRecDepth 100000 in
theorem Like.is {e e' : Ent} (l : Like e e') (r : List UInt8) (h : Int) : e'.is r h = e.is r h := by
  unfold Ent.is
  rw [l.root, l.h]

set_option maxRecDepth 100000 in
theorem only_one {es : List Ent} (hp : es.Pairwise fun a b => a.sb ≠ b.sb ∧ a.ob ≠ b.ob) {e x : Ent} (he : e ∈ es) (hx : x ∈ es) (hs : x.sb = e.sb) : x = e := by
  induction es with
  | nil => cases he
  | cons y r ih =>
    obtain ⟨h1, h2⟩ := List.pairwise_cons.1 hp
    rcases List.mem_cons.1 he with rfl | he1 <;> rcases List.mem_cons.1 hx with rfl | hx1
    · rfl
    · exact absurd hs.symm (h1 _ hx1).1
    · exact absurd hs (h1 _ he1).1
    · exact ih h2 he1 hx1
set_option maxRecDepth 100000 in
theorem other_ob {es : List Ent} (hp : es.Pairwise fun a b => a.sb ≠ b.sb ∧ a.ob ≠ b.ob) {e x : Ent} (he : e ∈ es) (hx : x ∈ es) (hs : x.sb ≠ e.sb) : x.ob ≠ e.ob := by
  induction es with
  | nil => cases he
  | cons y r ih =>
    obtain ⟨h1, h2⟩ := List.pairwise_cons.1 hp
    rcases List.mem_cons.1 he with rfl | he1 <;> rcases List.mem_cons.1 hx with rfl | hx1
    · exact absurd rfl hs
    · exact (h1 _ hx1).2.symm
    · exact (h1 _ he1).2
    · exact ih h2 he1 hx1
set_option maxRecDepth 100000 in
theorem upd_same {es : List Ent} (hp : es.Pairwise fun a b => a.sb ≠ b.sb ∧ a.ob ≠ b.ob) {e e' x : Ent} (he : e ∈ es) (l : Like e e') (hx : x ∈ es) :
    (if x.sb = e'.sb then e' else x).sb = x.sb ∧ (if x.sb = e'.sb then e' else x).ob = x.ob ∧ (if x.sb = e'.sb then e' else x).lit = x.lit := by
  by_cases hs : x.sb = e'.sb
  · rw [if_pos hs]
    obtain rfl := only_one hp he hx (hs.trans l.sb)
    exact ⟨l.sb, l.ob, l.lit⟩
  · rw [if_neg hs]
    exact ⟨rfl, rfl, rfl⟩
set_option maxRecDepth 100000 in
/-- An entry of the ring is written: its stock or its bools. -/
theorem RingW.turn {w w' : World} {B rb mb n g : Nat} {es : List Ent} (h : RingW w B rb mb n es) {e e' : Ent} (he : e ∈ es) (l : Like e e') (hg : w.grownBy w' (some g)) (hge : g = e.sb ∨ g = e.ob) (hE : EntW w' e') : RingW w' B rb mb n (upd es e') := by
  obtain ⟨D, hD, hr⟩ := h.map
  have k := h.ents e he
  have hbx : ∃ t cs, Box w g t cs ∧ (t = 68 ∨ t = 4) := by
    rcases hge with rfl | rfl
    · exact ⟨_, _, k.stock, .inl rfl⟩
    · exact ⟨_, _, k.opens, .inr rfl⟩
  obtain ⟨t, cs, hb, ht⟩ := hbx
  have hm : mb ≠ g := by
    rintro rfl
    obtain ⟨es', clock, hh, _⟩ := hD
    unfold Box at hb
    rw [hb] at hh
    cases hh
  have hne : ∀ {g' t' cs'}, Box w g' t' cs' → t' ≠ 68 → t' ≠ 4 → some g' ≠ some g := fun hb' n1 n2 e => by
    injection e with e
    exact Box.apart hb' hb (by
      rcases ht with rfl | rfl
      · exact n1
      · exact n2) e
  refine ⟨h.ring.grown hg (hne h.ring (by decide) (by decide)), ⟨D, hD.kept hg (by simpa using hm), fun x hx z => ?_, fun kl hk => ?_⟩, fun x hx => ?_, ?_, ?_, h.low.1, fun x hx => ?_⟩
  · rcases mem_upd hx with rfl | ⟨hx, _⟩
    · rw [l.lit, l.sb]
      exact hr.at_ e he z
    · exact hr.at_ x hx z
  · obtain ⟨x, hx, hl⟩ := hr.has kl hk
    by_cases hs : x.sb = e.sb
    · rw [only_one h.apart he hx hs] at hl
      exact ⟨e', upd_mem he l.sb.symm, l.lit.trans hl⟩
    · exact ⟨x, List.mem_map.2 ⟨x, hx, by simp [l.sb, hs]⟩, hl⟩
  · rcases mem_upd hx with rfl | ⟨hx, hs⟩
    · exact hE
    · rw [l.sb] at hs
      have kx := h.ents x hx
      refine kx.kept (hg.block _ kx.stock.lt fun e1 => ?_) (hg.block _ kx.opens.lt fun e1 => ?_) ⟨kx.tree.tree.grown hg (hne kx.tree.tree (by decide) (by decide)), kx.tree.leaves.grown hg (hne kx.tree.leaves (by decide) (by decide))⟩
      · injection e1 with e1
        rcases hge with rfl | rfl
        · exact hs e1
        · exact Box.apart kx.stock k.opens (by decide) e1
      · injection e1 with e1
        rcases hge with rfl | rfl
        · exact Box.apart kx.opens k.stock (by decide) e1
        · exact other_ob h.apart he hx hs e1
  · unfold upd
    rw [List.pairwise_map]
    refine List.Pairwise.imp_of_mem (fun {a b} ha hb' hab => ?_) h.apart
    obtain ⟨a1, a2, _⟩ := upd_same h.apart he l ha
    obtain ⟨b1, b2, _⟩ := upd_same h.apart he l hb'
    rw [a1, a2, b1, b2]
    exact hab
  · unfold upd
    rw [List.pairwise_map]
    refine List.Pairwise.imp_of_mem (fun {a b} ha hb' hab => ?_) h.keys
    rw [(upd_same h.apart he l ha).2.2, (upd_same h.apart he l hb').2.2]
    exact hab
  · rcases mem_upd hx with rfl | ⟨hx, _⟩
    · rw [l.sb, l.ob]
      exact h.low.2 e he
    · exact h.low.2 x hx
end Go.Proofs.YtojgmdagamdcfaaGreatDoor
