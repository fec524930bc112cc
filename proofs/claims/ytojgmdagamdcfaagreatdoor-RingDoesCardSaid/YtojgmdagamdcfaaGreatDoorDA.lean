/-
  The document's ring in memory: its entries, beside the program's; what its calls leave as it was.
  The document's ring: a tree is looked up (wapentakeref06.Ring.Find).
  Rows of single cells that grow; the open numbers of an entry, in the document's order; one entry of the document's ring written.
  The document's ring: Left and Take.
  The document's ring: Skip.
  The document's ring: Skip, of a tree that is there.
-/
import Derived.Test.YtojgmdagamdcfaaGreatDoorRiSkip
import Derived.Test.YtojgmdagamdcfaaGreatDoorRiAdd
import Derived.Deep.QuietTactic
import Derived.BigQuiet
import Derived.Deep.DeepCutAuto
import Derived.Test.YtojgmdagamdcfaaGreatDoorRiTake
namespace Go.Proofs.YtojgmdagamdcfaaGreatDoor
open Go.RowKit Go.Maps

abbrev intV (n : Int) : Value := .int .i64 n
set_option maxRecDepth 100000 in
theorem own_at {w w' : World} {base size n : Nat} {e : TypeId} {v : Value} {xs : List Value} (h : w.ownsRow base e size v n xs) (hb : ∀ g cs, base ≤ g → Box w g e cs → w'.heap[g]? = w.heap[g]?) : w'.ownsRow base e size v n xs := by
  refine ⟨h.1, ?_⟩
  rcases h.2 with hn | ⟨g, cap, cur, hv, hbg, hh, rest⟩
  · exact .inl hn
  · exact .inr ⟨g, cap, cur, hv, hbg, (hb g cur hbg hh).trans hh, rest⟩
set_option maxRecDepth 100000 in
theorem own_turn {w w' : World} {B base size n : Nat} {e : TypeId} {v : Value} {xs : List Value} (h : w.ownsRow base e size v n xs) (f : RFrame B w w') (h1 : e ≠ 68) (h2 : e ≠ 4) : w'.ownsRow base e size v n xs :=
  own_at h fun g cs _ hb => by
    have hl := hb.lt
    unfold Box at hb
    exact f.block g hl (.inr (by rw [hb]; simp [ringObj, h1, h2]))

/-- The numbers of an entry that are open, in the order in which the document has them. -/
def openN (e : Ent) : List Nat := (List.range e.next).filter fun j => e.opens.getD j false
def openL (e : Ent) : List Int := (openN e).map fun (j : Nat) => (j : Int)
def entL (e : Ent) (A : Option Addr) (ca : Nat) (O : Option Addr) (co : Nat) : List Value :=
  keyL e.root (e.h : Int) ++ (e.seed.map bv ++ [.slice A (2 ^ e.h) ca, .int .i64 (e.next : Int), .slice O (openL e).length co])
set_option maxRecDepth 100000 in
theorem entL_len (e : Ent) (hs : e.seed.length = 32) (A : Option Addr) (ca : Nat) (O : Option Addr) (co : Nat) : (entL e A ca O co).length = 68 := by
  unfold entL
  simp [keyL_len e.root_len, hs]
def ptrV (p : Nat) : Value := .pointer (some ⟨p, 0, none⟩)

/-- An entry of the document's ring. -/
structure DEnt (w : World) (B p : Nat) (e : Ent) (A : Option Addr) (ca : Nat) (O : Option Addr) (co : Nat) : Prop where
  box : Box w p 74 (entL e A ca O co).toArray
  leaves : w.ownsRow B 33 32 (.slice A (2 ^ e.h) ca) (2 ^ e.h) ((leavesT e.seed e.h).flatten.map bv)
  opens : w.ownsRow B 3 1 (.slice O (openL e).length co) (openL e).length ((openL e).map intV)
/-- What an entry is, wherever it lies. -/
structure EntP (e : Ent) : Prop where
  seed : e.seed.length = 32
  high : e.h ≤ 6
  many : e.opens.length = 2 ^ e.h
  next : e.next ≤ 2 ^ e.h

structure DocP (w : World) (B db : Nat) (es : List Ent) (A : Option Addr) (c : Nat) (ps : List Nat) : Prop where
  ring : Box w db 30 #[.slice A es.length c]
  list : w.ownsRow B 70 1 (.slice A es.length c) es.length (ps.map ptrV)
  ents : ∀ i (h : i < es.length), EntP (es[i]'h) ∧ ∃ a ca O co, DEnt w B (ps.getD i 0) (es[i]'h) a ca O co
  apart : ps.Nodup
  low : B ≤ db ∧ ∀ p ∈ ps, B ≤ p
def DocW (w : World) (B db : Nat) (es : List Ent) : Prop := ∃ A c ps, DocP w B db es A c ps
set_option maxRecDepth 100000 in
theorem DocP.len {w : World} {B db c : Nat} {es : List Ent} {A : Option Addr} {ps : List Nat} (h : DocP w B db es A c ps) : ps.length = es.length := by
  have := h.list.1
  simpa using this

/-- What the document's calls may turn. -/
def docObj : Option Obj → Bool
  | some (.cells _ t _) => t == 30 || t == 74 || t == 70
  | _ => false
structure DFrame (B : Nat) (w w' : World) : Prop where
  os : w'.os = w.os
  tape : w'.tape = w.tape
  output : w'.output = w.output
  size : w.heap.size ≤ w'.heap.size
  block : ∀ i, i < w.heap.size → (i < B ∨ docObj w.heap[i]? = false) → w'.heap[i]? = w.heap[i]?
set_option maxRecDepth 100000 in
theorem DFrame.refl (B : Nat) (w : World) : DFrame B w w := ⟨rfl, rfl, rfl, Nat.le_refl _, fun _ _ _ => rfl⟩
set_option maxRecDepth 100000 in
theorem DFrame.trans {B : Nat} {a b c : World} (h : DFrame B a b) (k : DFrame B b c) : DFrame B a c :=
  ⟨k.os.trans h.os, k.tape.trans h.tape, k.output.trans h.output, Nat.le_trans h.size k.size, fun i hi hr => by
    have e := h.block i hi hr
    exact (k.block i (Nat.lt_of_lt_of_le hi h.size) (hr.imp id fun hf => by rw [e]; exact hf)).trans e⟩
set_option maxRecDepth 100000 in
theorem DFrame.of_below {B : Nat} {w w' : World} (h : Below w.heap.size w w') : DFrame B w w' := ⟨h.os, h.tape, h.output, h.size, fun i hi _ => h.block i hi⟩
set_option maxRecDepth 100000 in
theorem DFrame.of_grown {B : Nat} {w w' : World} {row : Option Nat} (h : w.grownBy w' row) (hr : ∀ g, row = some g → B ≤ g ∧ docObj w.heap[g]? = true) : DFrame B w w' :=
  ⟨h.os, h.tape, h.output, h.size, fun i hi hf => h.block i hi fun e => by
    obtain ⟨h1, h2⟩ := hr i e.symm
    rcases hf with hf | hf
    · omega
    · rw [h2] at hf
      cases hf⟩
set_option maxRecDepth 100000 in
theorem DFrame.below {B : Nat} {w w' : World} (h : DFrame B w w') (hB : B ≤ w.heap.size) : Below B w w' := ⟨h.os, h.tape, h.output, h.size, fun i hi => h.block i (by omega) (.inl hi)⟩
set_option maxRecDepth 100000 in
theorem DFrame.box {B g : Nat} {w w' : World} {t : TypeId} {cs : Array Value} (h : DFrame B w w') (hb : Box w g t cs) (h1 : t ≠ 30) (h2 : t ≠ 74) (h3 : t ≠ 70) : Box w' g t cs := by
  have hb' := hb
  unfold Box at hb
  exact (h.block g hb'.lt (.inr (by rw [hb]; simp [docObj, h1, h2, h3]))).trans hb
set_option maxRecDepth 100000 in
theorem own_doc {w w' : World} {B base size n : Nat} {e : TypeId} {v : Value} {xs : List Value} (h : w.ownsRow base e size v n xs) (f : DFrame B w w') (h1 : e ≠ 30) (h2 : e ≠ 74) (h3 : e ≠ 70) : w'.ownsRow base e size v n xs :=
  own_at h fun g cs _ hb => by
    have hl := hb.lt
    unfold Box at hb
    exact f.block g hl (.inr (by rw [hb]; simp [docObj, h1, h2, h3]))

set_option maxRecDepth 100000 in
theorem own_below {w w' : World} {base size n : Nat} {e : TypeId} {v : Value} {xs : List Value} (h : w.ownsRow base e size v n xs) (hb : Below w.heap.size w w') : w'.ownsRow base e size v n xs :=
  own_at h fun g _ _ hg => hb.block g hg.lt
set_option maxRecDepth 100000 in
theorem DEnt.call {w w' : World} {B p : Nat} {e : Ent} {A O : Option Addr} {ca co : Nat} (h : DEnt w B p e A ca O co) (hb : Below w.heap.size w w') : DEnt w' B p e A ca O co :=
  ⟨h.box.below hb h.box.lt, own_below h.leaves hb, own_below h.opens hb⟩
set_option maxRecDepth 100000 in
theorem DEnt.ring {w w' : World} {B B' p : Nat} {e : Ent} {A O : Option Addr} {ca co : Nat} (h : DEnt w B p e A ca O co) (f : RFrame B' w w') : DEnt w' B p e A ca O co :=
  ⟨f.box h.box (by decide) (by decide), own_turn h.leaves f (by decide) (by decide), own_turn h.opens f (by decide) (by decide)⟩
set_option maxRecDepth 100000 in
theorem DocP.call {w w' : World} {B db c : Nat} {es : List Ent} {A : Option Addr} {ps : List Nat} (h : DocP w B db es A c ps) (hb : Below w.heap.size w w') : DocP w' B db es A c ps :=
  ⟨h.ring.below hb h.ring.lt, own_below h.list hb, fun i hi => by
    obtain ⟨h1, a, ca, O, co, h2⟩ := h.ents i hi
    exact ⟨h1, a, ca, O, co, h2.call hb⟩, h.apart, h.low⟩
set_option maxRecDepth 100000 in
theorem DocP.turn {w w' : World} {B B' db c : Nat} {es : List Ent} {A : Option Addr} {ps : List Nat} (h : DocP w B db es A c ps) (f : RFrame B' w w') : DocP w' B db es A c ps :=
  ⟨f.box h.ring (by decide) (by decide), own_turn h.list f (by decide) (by decide), fun i hi => by
    obtain ⟨h1, a, ca, O, co, h2⟩ := h.ents i hi
    exact ⟨h1, a, ca, O, co, h2.ring f⟩, h.apart, h.low⟩
set_option maxRecDepth 100000 in
theorem DocW.call {w w' : World} {B db : Nat} {es : List Ent} (h : DocW w B db es) (hb : Below w.heap.size w w') : DocW w' B db es := by
  obtain ⟨A, c, ps, h⟩ := h
  exact ⟨A, c, ps, h.call hb⟩
set_option maxRecDepth 100000 in
theorem DocW.turn {w w' : World} {B B' db : Nat} {es : List Ent} (h : DocW w B db es) (f : RFrame B' w w') : DocW w' B db es := by
  obtain ⟨A, c, ps, h⟩ := h
  exact ⟨A, c, ps, h.turn f⟩

set_option maxRecDepth 100000 in
/-- The program's ring stays when the document's is turned. -/
theorem EntW.doc {w w' : World} {B : Nat} {e : Ent} (h : EntW w e) (f : DFrame B w w') : EntW w' e :=
  ⟨h.seed, h.high, h.many, h.next, f.box h.stock (by decide) (by decide) (by decide), f.box h.opens (by decide) (by decide) (by decide), ⟨f.box h.tree.tree (by decide) (by decide) (by decide), f.box h.tree.leaves (by decide) (by decide) (by decide)⟩⟩
set_option maxRecDepth 100000 in
theorem RingW.doc {w w' : World} {B B' rb mb n : Nat} {es : List Ent} (h : RingW w B rb mb n es) (f : DFrame B' w w') : RingW w' B rb mb n es := by
  obtain ⟨D, hD, hr⟩ := h.map
  refine ⟨f.box h.ring (by decide) (by decide) (by decide), ⟨D, ?_, hr⟩, fun e he => (h.ents e he).doc f, h.apart, h.keys, h.low⟩
  have hl := hD.lt
  obtain ⟨m, clock, hm, rest⟩ := hD
  exact ⟨m, clock, (f.block mb hl (.inr (by rw [hm]; rfl))).trans hm, rest⟩
end Go.Proofs.YtojgmdagamdcfaaGreatDoor

namespace Go.Proofs.YtojgmdagamdcfaaGreatDoor
open Go.RowKit Go.Maps

/-- The place of a key's tree, or none. -/
def fndI (es : List Ent) (r : List UInt8) (k : Int) : Int := match es.findIdx? (fun e => e.is r k) with
  | some i => (i : Int)
  | none => -1
set_option maxRecDepth 100000 in
theorem fnd_at {es : List Ent} {r : List UInt8} {k : Int} {i : Nat} (hi : i < es.length) (h : (es[i]'hi).is r k = true) (hb : ∀ j (hj : j < es.length), j < i → (es[j]'hj).is r k = false) : fndI es r k = (i : Int) := by
  unfold fndI
  have e : es.findIdx? (fun e => e.is r k) = some i := by
    rw [List.findIdx?_eq_some_iff_getElem]
    exact ⟨hi, h, fun j hj => by rw [hb j (by omega) hj]; simp⟩
  rw [e]
set_option maxRecDepth 100000 in
theorem fnd_no {es : List Ent} {r : List UInt8} {k : Int} (hb : ∀ j (hj : j < es.length), (es[j]'hj).is r k = false) : fndI es r k = -1 := by
  unfold fndI
  have e : es.findIdx? (fun e => e.is r k) = none := by
    rw [List.findIdx?_eq_none_iff]
    intro x hx
    obtain ⟨j, hj, rfl⟩ := List.getElem_of_mem hx
    exact hb j hj
  rw [e]

set_option maxRecDepth 100000 in
theorem DocP.cells {w : World} {B db c : Nat} {es : List Ent} {A : Option Addr} {ps : List Nat} (h : DocP w B db es A c ps) {i : Nat} (hi : i < es.length) : ∃ g, A = some ⟨g, 0, none⟩ ∧ g < w.heap.size ∧ es.length ≤ c ∧ ∀ j, j < es.length → w.cell? ⟨g, j, none⟩ = some (ptrV (ps.getD j 0)) := by
  rcases h.list.2 with ⟨e, h0⟩ | ⟨g, cap, cur, e, hb, hh, h1, h2, h3, h4⟩
  · omega
  · injection e with e1 e2 e3
    subst e3
    refine ⟨g, e1, (Array.getElem?_eq_some_iff.1 hh).1, h1, fun j hj => ?_⟩
    have hbx : Box w g 70 cur := hh
    have hl := h.len
    have h5 := congrArg (fun l => l[j]?) h4
    simp only [List.getElem?_take, List.getElem?_map] at h5
    rw [if_pos (by omega)] at h5
    rw [hbx.cell, ← Array.getElem?_toList, h5, List.getElem?_eq_getElem (by omega), List.getD_eq_getElem?_getD, List.getElem?_eq_getElem (by omega)]
    rfl
set_option maxRecDepth 100000 in
theorem DEnt.key_run {w : World} {B p : Nat} {e : Ent} {A O : Option Addr} {ca co : Nat} (h : DEnt w B p e A ca O co) : (ldKey (.pointer (some ⟨p, 0, none⟩))).run Tryz.prog w = .ok (.agg (keyV e.root (e.h : Int))) w := by
  have hr : w.rangeAt p 0 (keyL e.root (e.h : Int)) := by
    refine Box.range_mid (t := 74) (pre := []) (post := e.seed.map bv ++ [.slice A (2 ^ e.h) ca, .int .i64 (e.next : Int), .slice O (openL e).length co]) ?_ rfl
    exact h.box
  exact run_loadAt_mid (P := Tryz.prog) w p 0 37 (keyL e.root (e.h : Int)) _ hr Tryz.underlying37 rfl (key_list e.root_len _)

attribute [local go_sem ↓] ldKey_def eqKey_def

set_option maxRecDepth 100000 in
set_option maxHeartbeats 2000000 in
theorem dfind_any {w : World} {B db : Nat} {es : List Ent} (hD : DocW w B db es) (r : List UInt8) (k : Int) (hr : r.length = 32) (hn : es.length ≤ 1000) :
    Calls Tryz.prog 27 #[.pointer (some ⟨db, 0, none⟩), .agg (keyV r k)] w fun e w' => e = .returned (.int .i64 (fndI es r k)) ∧ Below w.heap.size w w' := by
  obtain ⟨A, c, ps, hP⟩ := hD
  have HF : Hid (Below w.heap.size w (w.alloc (.cells (keyV r k) 37))) := (Below.refl _ _).alloc (Nat.le_refl _) _
  have HK : Hid (Box (w.alloc (.cells (keyV r k) 37)) w.heap.size 37 (keyV r k)) := Box.made _ _ _
  have HP := Lib.hid (hP.call HF.out)
  have HR := Lib.hid hr
  clear hP hr
  go_enter Tryz.func27, Tryz.ntmps27
  go_upto_region 1 with fail
  change Code.wp _ _ _ _ (w.alloc (.cells (keyV r k) 37))
  generalize w.alloc (.cells (keyV r k) 37) = w1 at *
  have c0 : w1.cell? ⟨db, 0, none⟩ = some (.slice A es.length c) := HP.out.ring.cell 0
  go_wp2
  clear c0
  go_loopw [4, 12] (fun z i wr => ∃ q : Nat, q ≤ es.length ∧ i = .int .i64 (q : Int) ∧ z = .int .i64 0 ∧ Hid (∀ j (hj : j < es.length), j < q → (es[j]'hj).is r k = false) ∧ Hid (Below w1.heap.size w1 wr)) (fun _ i _ => es.length - (intOf i).toNat)
  case atStart => exact ⟨0, Nat.zero_le _, rfl, rfl, Lib.hid (fun j _ h => by omega), Lib.hid (Below.refl _ _)⟩
  case round =>
    obtain ⟨q, hq, rfl, rfl, HN, HB⟩ := hrel
    by_cases hlt : q < es.length
    · have HQ := HP.out.call HB.out
      obtain ⟨g, rfl, hgs, hgc, hcell⟩ := HQ.cells hlt
      have hc := hcell q hlt
      obtain ⟨_, a, ca, O, co, hE⟩ := HQ.ents q hlt
      have l1 : ∀ n, (ldKey (.pointer (some ⟨ps.getD q 0, 0, none⟩))).run Tryz.prog (wr.drewN n) = .ok (.agg (keyV (es[q]'hlt).root ((es[q]'hlt).h : Int))) (wr.drewN n) := fun n => (hE.call (below_drewN (Below.refl _ _) n)).key_run
      have hkb := HK.out.below HB.out HK.out.lt
      have l2 : ∀ n, (ldKey (.pointer (some ⟨w.heap.size, 0, none⟩))).run Tryz.prog (wr.drewN n) = .ok (.agg (keyV r k)) (wr.drewN n) := fun n => (hkb.below (below_drewN (Below.refl _ _) n) hkb.lt).load_key HR.out
      have l1' := l1 0
      have l2' := l2 0
      have HE : Hid (∀ b : Bool, (es[q]'hlt).is r k = b → ∀ w, (eqKey (.agg (keyV (es[q]'hlt).root ((es[q]'hlt).h : Int))) (.agg (keyV r k))).run Tryz.prog w = .ok b w) := Lib.hid (fun b hb w => by
        rw [eq_key _ _ _ _ (es[q]'hlt).root_len HR.out w, ← hb]
        rfl)
      have HL := Lib.hid hlt
      have i1 : (q : Int) < (es.length : Int) := by omega
      unfold ptrV at hc
      clear hcell hE hkb HQ
      generalize hx : es[q]'hlt = x at *
      have HX : Hid (∀ h : q < es.length, es[q]'h = x) := Lib.hid (fun _ => hx)
      generalize ps.getD q 0 = p at *
      clear hx hlt
      by_cases his : x.is r k = true
      · have eq := HE.out true his
        have HZ : Hid (fndI es r k = (q : Int)) := Lib.hid (fnd_at HL.out (by rw [HX.out HL.out]; exact his) (fun j hj hjq => HN.out j hj hjq))
        clear his
        go_wp2
        go_quiet (fail)
        clear l1 l2 l1' l2'
        have HB2 := Lib.hid (HF.out.trans ((below_drewN HB.out nq).mono HF.out.size))
        go_wp2
        go_ret
        rw [HZ.out]
        exact ⟨rfl, HB2.out⟩
      · have hno : x.is r k = false := by simpa using his
        have eq := HE.out false hno
        have HN2 : Hid (∀ j (hj : j < es.length), j < q + 1 → (es[j]'hj).is r k = false) := Lib.hid (fun j hj hjq => by
          by_cases e : j = q
          · subst e
            rw [HX.out hj]
            exact hno
          · exact HN.out j hj (by omega))
        clear his hno
        go_wp2
        go_quiet (fail)
        clear l1 l2 l1' l2'
        have HB2 := Lib.hid (below_drewN HB.out nq)
        generalize wr.drewN nq = wn at *
        go_wp2
        go_roundw
        case rel => exact ⟨q + 1, HL.out, by go_num, rfl, HN2, HB2⟩
        case measure => have := HL.out; simp [intOf]; omega
    · have HZ : Hid (fndI es r k = -1) := Lib.hid (fnd_no (fun j hj => HN.out j hj (by omega)))
      have HB2 := Lib.hid (HF.out.trans (HB.out.mono HF.out.size))
      go_wp2
      go_ret
      rw [HZ.out]
      exact ⟨rfl, HB2.out⟩
end Go.Proofs.YtojgmdagamdcfaaGreatDoor

namespace Go.Proofs.YtojgmdagamdcfaaGreatDoor
open Go.RowKit Go.Maps

set_option maxRecDepth 100000 in
theorem append_cells {t e : TypeId} {z : Value} {b : Nat} (ht : Tryz.prog.underlying t = some (.slice e)) (hinf : (Tryz.prog.info? e).map (fun i => (i.zero, i.size, i.bytes)) = some (some z, 1, b)) (hz : z.cells.size = 1) (hb8 : b ≤ 8)
    {w : World} {base n : Nat} {v : Value} {xs : List Value} (hown : w.ownsRow base e 1 v n xs) {A : Option Addr} {m c : Nat} {ys : List Value} (hs : Sees w w.heap.size A ys) (hm : m = ys.length) (h1 : ∀ u ∈ ys, u.oneCell' = true) (hb : n + m ≤ 1099511627776) (hbase : base ≤ w.heap.size) :
    ∃ v' w', (apAll #[t, t] t #[v, .slice A m c]).run Tryz.prog w = .ok v' w' ∧ w'.ownsRow base e 1 v' (n + m) (xs ++ ys) ∧ w.grownBy w' v.ownBlock := by
  obtain ⟨i0, hi0, hz0, hz1, hz2⟩ := info_parts hinf
  have some_case : ∀ ad : Addr, A = some ad → (∀ j u, ys[j]? = some u → w.cell? (ad.add j) = some u) → ∃ v' w', (apAll #[t, t] t #[v, .slice A m c]).run Tryz.prog w = .ok v' w' ∧ w'.ownsRow base e 1 v' (n + m) (xs ++ ys) ∧ w.grownBy w' v.ownBlock := by
    rintro ad rfl hc
    have hbb : (n + m) * b ≤ 140737488355328 := Nat.le_trans (Nat.mul_le_mul hb hb8) (by decide)
    obtain ⟨v', w', hr, ho, hg, _⟩ := run_append_own (P := Tryz.prog) w base t t e i0 z 1 b ht hi0 hz0 hz1 hz2 hz (by omega) v n _ hown ad m c ys (by omega) hc h1 (by unfold maxLen; omega) hbb hbase
    exact ⟨v', w', hr, ho, hg⟩
  rcases hs with hnil | ⟨g, o', rfl, _, hc⟩
  · cases A with
    | some ad => exact some_case ad rfl (fun j u hu => by rw [hnil] at hu; cases hu)
    | none =>
      have hm0 : m = 0 := by rw [hm, hnil]; rfl
      subst hm0
      refine ⟨v, w, ?_, by rw [hnil]; simpa using hown, only_refl _ _⟩
      show (Builtin.append_ _ _ _).run _ _ = _
      rcases hown.2 with ⟨rfl, rfl⟩ | ⟨g, cap, cur, rfl, _, _, hnc, _⟩
      · simp [Builtin.append_, run_underlying ht, sizeOf, typeInfo, hi0, Builtin.lenOf, Builtin.firstCells]
      · simp [Builtin.append_, run_underlying ht, sizeOf, typeInfo, hi0, Builtin.lenOf, Builtin.firstCells, hnc, storeCells]
  · exact some_case _ rfl (fun j u hu => by rw [plain_add]; exact hc j u hu)
set_option maxRecDepth 100000 in
theorem int_inf : (Tryz.prog.info? 3).map (fun i => (i.zero, i.size, i.bytes)) = some (some (.int .i64 0), 1, 8) := by kernel_rfl
set_option maxRecDepth 100000 in
theorem ptr_inf : (Tryz.prog.info? 70).map (fun i => (i.zero, i.size, i.bytes)) = some (some (.pointer none), 1, 8) := by kernel_rfl
set_option maxRecDepth 100000 in
theorem ints_one (l : List Int) : ∀ u ∈ l.map intV, u.oneCell' = true := fun u hu => by
  obtain ⟨x, _, rfl⟩ := List.mem_map.1 hu
  rfl
set_option maxRecDepth 100000 in
theorem ptrs_one (l : List Nat) : ∀ u ∈ l.map ptrV, u.oneCell' = true := fun u hu => by
  obtain ⟨x, _, rfl⟩ := List.mem_map.1 hu
  rfl

/-! ### The open numbers -/
set_option maxRecDepth 100000 in
theorem getD_seti (l : List Bool) (i : Nat) (b : Bool) (j : Nat) : (l.set i b).getD j false = if j = i ∧ i < l.length then b else l.getD j false := by
  rw [List.getD_eq_getElem?_getD, List.getElem?_set, List.getD_eq_getElem?_getD]
  by_cases h : i = j
  · subst h
    by_cases hl : i < l.length
    · simp [hl]
    · rw [if_pos rfl, if_neg hl, if_neg (fun e => hl e.2), List.getElem?_eq_none (by omega)]
  · rw [if_neg h, if_neg (fun e => h e.1.symm)]
set_option maxRecDepth 100000 in
theorem openN_lt {e : Ent} {j : Nat} : j ∈ openN e ↔ j < e.next ∧ e.opens.getD j false = true := by
  unfold openN
  simp
set_option maxRecDepth 100000 in
theorem filter_same {p q : Nat → Bool} : ∀ {l : List Nat}, (∀ x ∈ l, p x = q x) → l.filter p = l.filter q := fun h => List.filter_congr h
set_option maxRecDepth 100000 in
theorem openN_taken (e : Ent) (h : e.next < e.opens.length) : openN e.taken = openN e ++ [e.next] := by
  show (List.range (e.next + 1)).filter (fun j => (e.opens.set e.next true).getD j false) = _
  rw [List.range_succ, List.filter_append]
  congr 1
  · refine filter_same fun x hx => ?_
    have : x < e.next := by simpa using hx
    rw [getD_seti, if_neg (by omega)]
  · have hg : (e.opens.set e.next true).getD e.next false = true := by rw [getD_seti, if_pos ⟨rfl, h⟩]
    simp only [List.filter_cons, List.filter_nil, hg, if_true]
set_option maxRecDepth 100000 in
theorem openN_shut (e : Ent) (m : Nat) (h : m < e.opens.length) : openN (e.opened m false) = (openN e).filter fun j => j != m := by
  show (List.range e.next).filter (fun j => (e.opens.set m false).getD j false) = _
  unfold openN
  rw [List.filter_filter]
  refine filter_same fun x _ => ?_
  rw [getD_seti]
  by_cases hx : x = m
  · rw [if_pos ⟨hx, h⟩]
    simp [hx]
  · rw [if_neg (fun q => hx q.1)]
    simp [hx]
set_option maxRecDepth 100000 in
theorem openN_skip (e : Ent) (c : Nat) : openN (e.skipped c) = (openN e).filter fun j => decide (c ≤ j) := by
  show (List.range (max e.next c)).filter (fun j => (List.replicate c false ++ e.opens.drop c).getD j false) = _
  have hg : ∀ j, (List.replicate c false ++ e.opens.drop c).getD j false = (decide (c ≤ j) && e.opens.getD j false) := fun j => by
    rw [List.getD_eq_getElem?_getD]
    by_cases hj : c ≤ j
    · rw [List.getElem?_append_right (by simpa using hj), List.length_replicate, List.getElem?_drop, show c + (j - c) = j by omega, ← List.getD_eq_getElem?_getD]
      simp [hj]
    · rw [List.getElem?_append_left (by simp; omega), List.getElem?_replicate, if_pos (by omega)]
      simp [hj]
  simp only [hg]
  unfold openN
  rw [List.filter_filter]
  rcases Nat.le_total c e.next with h | h
  · rw [Nat.max_eq_left h]
  · rw [Nat.max_eq_right h]
    have e1 : (List.range c).filter (fun j => decide (c ≤ j) && e.opens.getD j false) = [] := by
      rw [List.filter_eq_nil_iff]
      intro x hx
      have : x < c := by simpa using hx
      simp
      omega
    have e2 : (List.range e.next).filter (fun j => decide (c ≤ j) && e.opens.getD j false) = [] := by
      rw [List.filter_eq_nil_iff]
      intro x hx
      have : x < e.next := by simpa using hx
      simp
      omega
    rw [e1, e2]
set_option maxRecDepth 100000 in
theorem openN_fresh (seed : List UInt8) (h sb ob tb gb : Nat) : openN (Ent.fresh seed h sb ob tb gb) = [] := rfl
set_option maxRecDepth 100000 in
theorem EntP.taken {e : Ent} (h : EntP e) (hn : e.next < 2 ^ e.h) : EntP e.taken := ⟨h.seed, h.high, by show (e.opens.set _ _).length = _; rw [List.length_set]; exact h.many, hn⟩
set_option maxRecDepth 100000 in
theorem EntP.opened {e : Ent} (h : EntP e) (m : Nat) (b : Bool) : EntP (e.opened m b) := ⟨h.seed, h.high, by show (e.opens.set _ _).length = _; rw [List.length_set]; exact h.many, h.next⟩
set_option maxRecDepth 100000 in
theorem EntP.skipped {e : Ent} (h : EntP e) {c : Nat} (hc : c ≤ 2 ^ e.h) : EntP (e.skipped c) := ⟨h.seed, h.high, by
  show (List.replicate c false ++ e.opens.drop c).length = _
  rw [List.length_append, List.length_replicate, List.length_drop, h.many]
  show c + (2 ^ e.h - c) = 2 ^ e.h
  omega, by
  show max e.next c ≤ 2 ^ e.h
  have := h.next
  omega⟩
set_option maxRecDepth 100000 in
theorem open_few {e : Ent} (h : EntP e) : (openL e).length ≤ 64 := by
  unfold openL openN
  rw [List.length_map]
  refine Nat.le_trans (List.length_filter_le _ _) ?_
  rw [List.length_range]
  exact Nat.le_trans h.next (Nat.le_trans (Nat.pow_le_pow_right (by decide) h.high) (by decide))

/-! ### The cells of an entry -/
def rawL (e : Ent) (lv nx ov : Value) : List Value := keyL e.root (e.h : Int) ++ (e.seed.map bv ++ [lv, nx, ov])
set_option maxRecDepth 100000 in
theorem raw_pre (e : Ent) (hs : e.seed.length = 32) : (keyL e.root (e.h : Int) ++ e.seed.map bv).length = 65 := by
  simp [keyL_len e.root_len, hs]
set_option maxRecDepth 100000 in
theorem raw_at (e : Ent) (hs : e.seed.length = 32) (lv nx ov : Value) : (rawL e lv nx ov).toArray[65]? = some lv ∧ (rawL e lv nx ov).toArray[66]? = some nx ∧ (rawL e lv nx ov).toArray[67]? = some ov := by
  have hp := raw_pre e hs
  unfold rawL
  rw [← List.append_assoc]
  generalize keyL e.root (e.h : Int) ++ e.seed.map bv = l at *
  refine ⟨?_, ?_, ?_⟩ <;> rw [List.getElem?_toArray, List.getElem?_append_right (by omega), hp] <;> rfl
set_option maxRecDepth 100000 in
theorem raw_next (e : Ent) (hs : e.seed.length = 32) (lv nx ov v : Value) : (rawL e lv nx ov).toArray.setIfInBounds 66 v = (rawL e lv v ov).toArray := by
  have hp := raw_pre e hs
  unfold rawL
  rw [← List.append_assoc, ← List.append_assoc]
  generalize keyL e.root (e.h : Int) ++ e.seed.map bv = l at *
  rw [List.setIfInBounds_toArray, List.set_append, if_neg (by omega), hp]
  rfl
set_option maxRecDepth 100000 in
theorem raw_open (e : Ent) (hs : e.seed.length = 32) (lv nx ov v : Value) : (rawL e lv nx ov).toArray.setIfInBounds 67 v = (rawL e lv nx v).toArray := by
  have hp := raw_pre e hs
  unfold rawL
  rw [← List.append_assoc, ← List.append_assoc]
  generalize keyL e.root (e.h : Int) ++ e.seed.map bv = l at *
  rw [List.setIfInBounds_toArray, List.set_append, if_neg (by omega), hp]
  rfl
set_option maxRecDepth 100000 in
theorem entL_raw (e : Ent) (A : Option Addr) (ca : Nat) (O : Option Addr) (co : Nat) : entL e A ca O co = rawL e (.slice A (2 ^ e.h) ca) (.int .i64 (e.next : Int)) (.slice O (openL e).length co) := rfl

set_option maxRecDepth 100000 in
/-- One entry of the document's ring was written, and lies where it lay. -/
theorem DocP.put {w w' : World} {B db c : Nat} {es : List Ent} {A : Option Addr} {ps : List Nat} (h : DocP w B db es A c ps) {i : Nat} (hi : i < es.length) {e' : Ent} (hp : EntP e') (hg : w.grownBy w' (some (ps.getD i 0))) {a O : Option Addr} {ca co : Nat} (hE : DEnt w' B (ps.getD i 0) e' a ca O co) : DocP w' B db (es.set i e') A c ps := by
  obtain ⟨_, a0, ca0, O0, co0, h0⟩ := h.ents i hi
  have hl := h.len
  have ne : ∀ {g t cs}, Box w g t cs → t ≠ 74 → some g ≠ some (ps.getD i 0) := fun hb ht e => by
    injection e with e
    exact Box.apart hb h0.box ht e
  have own : ∀ {base size n : Nat} {t : TypeId} {v : Value} {xs : List Value}, w.ownsRow base t size v n xs → t ≠ 74 → w'.ownsRow base t size v n xs := fun ho ht =>
    own_at ho fun g cs _ hb => hg.block g hb.lt (ne hb ht)
  refine ⟨?_, ?_, fun j hj => ?_, h.apart, h.low⟩
  · rw [List.length_set]
    exact h.ring.grown hg (ne h.ring (by decide))
  · rw [List.length_set]
    exact own h.list (by decide)
  · rw [List.length_set] at hj
    by_cases hji : j = i
    · subst hji
      rw [List.getElem_set_self]
      exact ⟨hp, a, ca, O, co, hE⟩
    · rw [List.getElem_set_ne (by omega)]
      obtain ⟨q, a1, ca1, O1, co1, h1⟩ := h.ents j hj
      refine ⟨q, a1, ca1, O1, co1, h1.box.grown hg (fun e => ?_), own h1.leaves (by decide), own h1.opens (by decide)⟩
      injection e with e
      have e2 : ps[j]'(by omega) = ps[i]'(by omega) := by
        rw [List.getD_eq_getElem?_getD, List.getD_eq_getElem?_getD, List.getElem?_eq_getElem (by omega), List.getElem?_eq_getElem (by omega)] at e
        exact e
      have hap := List.pairwise_iff_getElem.1 h.apart
      rcases Nat.lt_or_ge j i with hlt | hge
      · exact hap j i (by omega) (by omega) hlt e2
      · exact hap i j (by omega) (by omega) (by omega) e2.symm
set_option maxRecDepth 100000 in
theorem DocP.entry_doc {w : World} {B db c : Nat} {es : List Ent} {A : Option Addr} {ps : List Nat} (h : DocP w B db es A c ps) {i : Nat} (hi : i < es.length) : B ≤ ps.getD i 0 ∧ docObj w.heap[ps.getD i 0]? = true := by
  obtain ⟨_, a0, ca0, O0, co0, h0⟩ := h.ents i hi
  have hl := h.len
  refine ⟨?_, ?_⟩
  · rw [List.getD_eq_getElem?_getD, List.getElem?_eq_getElem (by omega)]
    exact h.low.2 _ (List.getElem_mem _)
  · have hb := h0.box
    unfold Box at hb
    rw [hb]
    rfl
end Go.Proofs.YtojgmdagamdcfaaGreatDoor

namespace Go.Proofs.YtojgmdagamdcfaaGreatDoor
open Go.RowKit Go.Maps

attribute [local go_sem ↓] ldKey_def eqKey_def apAll_def

set_option maxRecDepth 100000 in
/-- What the calls begin with: the key is boxed, and looked up. -/
theorem DocW.boxed {w : World} {B db : Nat} {es : List Ent} (h : DocW w B db es) (r : List UInt8) (k : Int) : DocW (w.alloc (.cells (keyV r k) 37)) B db es ∧ Below w.heap.size w (w.alloc (.cells (keyV r k) 37)) ∧ Box (w.alloc (.cells (keyV r k) 37)) w.heap.size 37 (keyV r k) :=
  ⟨h.call ((Below.refl _ _).alloc (Nat.le_refl _) _), (Below.refl _ _).alloc (Nat.le_refl _) _, Box.made _ _ _⟩

set_option maxRecDepth 100000 in
set_option maxHeartbeats 2000000 in
theorem dleft_not {w : World} {B db : Nat} {es : List Ent} (hD : DocW w B db es) (r : List UInt8) (k : Int) (hr : r.length = 32) (hn : es.length ≤ 1000) (hk : ∀ j (hj : j < es.length), (es[j]'hj).is r k = false) :
    Calls Tryz.prog 22 #[.pointer (some ⟨db, 0, none⟩), .agg (keyV r k)] w fun e w' => e = .returned (.int .i64 0) ∧ Below w.heap.size w w' := by
  obtain ⟨h1, h2, h3⟩ := hD.boxed r k
  have HF := Lib.hid h2
  have lk := h3.load_key hr
  have HN := Lib.hid (dfind_any h1 r k hr hn)
  rw [fnd_no hk] at HN
  clear h1 h2 h3
  go_enter Tryz.func22, Tryz.ntmps22
  go_upto_region 1 with fail
  change Code.wp _ _ _ _ (w.alloc (.cells (keyV r k) 37))
  generalize w.alloc (.cells (keyV r k) 37) = w1 at *
  go_wp2_with (go_at_call 27; (with_reducible refine (HN.out).mono ?_); rintro e w2 ⟨rfl, hb⟩; have H2 := Lib.hid hb; clear hb)
  go_ret
  exact ⟨rfl, HF.out.trans (H2.out.mono HF.out.size)⟩

set_option maxRecDepth 100000 in
/-- The cells of one entry, in a world behind. -/
theorem DocP.entry {w : World} {B db c : Nat} {es : List Ent} {A : Option Addr} {ps : List Nat} (h : DocP w B db es A c ps) {i : Nat} (hi : i < es.length) :
    ∃ g a ca O co, A = some ⟨g, 0, none⟩ ∧ es.length ≤ c ∧ w.cell? ⟨db, 0, none⟩ = some (.slice A es.length c) ∧ w.cell? ⟨g, i, none⟩ = some (ptrV (ps.getD i 0)) ∧ DEnt w B (ps.getD i 0) (es[i]'hi) a ca O co ∧
      w.cell? ⟨ps.getD i 0, 65, none⟩ = some (.slice a (2 ^ (es[i]'hi).h) ca) ∧ w.cell? ⟨ps.getD i 0, 66, none⟩ = some (.int .i64 ((es[i]'hi).next : Int)) ∧ w.cell? ⟨ps.getD i 0, 67, none⟩ = some (.slice O (openL (es[i]'hi)).length co) := by
  obtain ⟨g, hA, hgs, hgc, hcell⟩ := h.cells hi
  obtain ⟨hp, a, ca, O, co, hE⟩ := h.ents i hi
  have hb := hE.box
  rw [entL_raw] at hb
  obtain ⟨r1, r2, r3⟩ := raw_at (es[i]'hi) hp.seed (.slice a (2 ^ (es[i]'hi).h) ca) (.int .i64 ((es[i]'hi).next : Int)) (.slice O (openL (es[i]'hi)).length co)
  exact ⟨g, a, ca, O, co, hA, hgc, h.ring.cell 0, hcell i hi, hE, (hb.cell 65).trans r1, (hb.cell 66).trans r2, (hb.cell 67).trans r3⟩

set_option maxRecDepth 100000 in
set_option maxHeartbeats 2000000 in
theorem dleft_any {w : World} {B db : Nat} {es : List Ent} (hD : DocW w B db es) (r : List UInt8) (k : Int) (hr : r.length = 32) (hn : es.length ≤ 1000) {i : Nat} (hi : i < es.length) (hf : fndI es r k = (i : Int)) :
    Calls Tryz.prog 22 #[.pointer (some ⟨db, 0, none⟩), .agg (keyV r k)] w fun e w' => e = .returned (.int .i64 ((2 ^ (es[i]'hi).h - (es[i]'hi).next : Nat) : Int)) ∧ Below w.heap.size w w' := by
  generalize hz : ((2 ^ (es[i]'hi).h - (es[i]'hi).next : Nat) : Int) = z
  have HZ := Lib.hid hz
  clear hz
  obtain ⟨h1, h2, h3⟩ := hD.boxed r k
  have HF := Lib.hid h2
  have lk := h3.load_key hr
  have HN := Lib.hid (dfind_any h1 r k hr hn)
  rw [hf] at HN
  obtain ⟨A, c, ps, hP⟩ := h1
  have HP := Lib.hid hP
  clear h2 h3 hf hP
  go_enter Tryz.func22, Tryz.ntmps22
  go_upto_region 1 with fail
  change Code.wp _ _ _ _ (w.alloc (.cells (keyV r k) 37))
  generalize w.alloc (.cells (keyV r k) 37) = w1 at *
  go_upto_region 4 with (go_at_call 27; (with_reducible refine (HN.out).mono ?_); rintro e w2 ⟨rfl, hb⟩; have H2 := Lib.hid hb; clear hb)
  obtain ⟨g, a, ca, O, co, rfl, hgc, c0, c1, hE, c2, c3, c4⟩ := (HP.out.call H2.out).entry hi
  have hx := (HP.out.ents i hi).1.next
  have hh := (HP.out.ents i hi).1.high
  have i1 : (i : Int) < (es.length : Int) := by omega
  have hpow : 2 ^ (es[i]'hi).h ≤ 64 := Nat.le_trans (Nat.pow_le_pow_right (by decide) hh) (by decide)
  unfold ptrV at c1
  have HB2 := Lib.hid (HF.out.trans (H2.out.mono HF.out.size))
  have HZ2 : Hid (((2 ^ (es[i]'hi).h : Nat) : Int) - ((es[i]'hi).next : Int) = z) := by
    show _ = _
    rw [← HZ.out]
    omega
  clear HZ
  generalize (2 ^ (es[i]'hi).h) = n at *
  generalize (es[i]'hi).next = m at *
  generalize ps.getD i 0 = p at *
  have wk : IntKind.i64.wrap ((n : Int) - (m : Int)) = (n : Int) - (m : Int) := by
    rw [IntKind.wrap_i64]
    omega
  clear hE c4
  go_quiet (fail)
  clear c0 c1 c2 c3
  have HB3 := Lib.hid (below_drewN HB2.out nq)
  go_wp2
  go_ret
  rw [← HZ2.out]
  exact ⟨rfl, HB3.out⟩

set_option maxRecDepth 100000 in
set_option maxHeartbeats 2000000 in
theorem dtake_not {w : World} {B db : Nat} {es : List Ent} (hD : DocW w B db es) (r : List UInt8) (k : Int) (hr : r.length = 32) (hn : es.length ≤ 1000) (hk : ∀ j (hj : j < es.length), (es[j]'hj).is r k = false) :
    Calls Tryz.prog 11 #[.pointer (some ⟨db, 0, none⟩), .agg (keyV r k)] w fun e w' => e = .returned (.tuple #[.int .i64 0, .int .i64 7]) ∧ Below w.heap.size w w' := by
  obtain ⟨h1, h2, h3⟩ := hD.boxed r k
  have HF := Lib.hid h2
  have lk := h3.load_key hr
  have HN := Lib.hid (dfind_any h1 r k hr hn)
  rw [fnd_no hk] at HN
  clear h1 h2 h3
  go_enter Tryz.func11, Tryz.ntmps11
  go_upto_region 1 with fail
  change Code.wp _ _ _ _ (w.alloc (.cells (keyV r k) 37))
  generalize w.alloc (.cells (keyV r k) 37) = w1 at *
  go_wp2_with (go_at_call 27; (with_reducible refine (HN.out).mono ?_); rintro e w2 ⟨rfl, hb⟩; have H2 := Lib.hid hb; clear hb)
  go_ret2
  exact ⟨rfl, HF.out.trans (H2.out.mono HF.out.size)⟩

set_option maxRecDepth 100000 in
set_option maxHeartbeats 2000000 in
theorem dtake_spent {w : World} {B db : Nat} {es : List Ent} (hD : DocW w B db es) (r : List UInt8) (k : Int) (hr : r.length = 32) (hn : es.length ≤ 1000) {i : Nat} (hi : i < es.length) (hf : fndI es r k = (i : Int)) (hs : (es[i]'hi).next = 2 ^ (es[i]'hi).h) :
    Calls Tryz.prog 11 #[.pointer (some ⟨db, 0, none⟩), .agg (keyV r k)] w fun e w' => e = .returned (.tuple #[.int .i64 0, .int .i64 6]) ∧ Below w.heap.size w w' := by
  obtain ⟨h1, h2, h3⟩ := hD.boxed r k
  have HF := Lib.hid h2
  have lk := h3.load_key hr
  have HN := Lib.hid (dfind_any h1 r k hr hn)
  rw [hf] at HN
  obtain ⟨A, c, ps, hP⟩ := h1
  have HP := Lib.hid hP
  clear h2 h3 hf hP
  go_enter Tryz.func11, Tryz.ntmps11
  go_upto_region 1 with fail
  change Code.wp _ _ _ _ (w.alloc (.cells (keyV r k) 37))
  generalize w.alloc (.cells (keyV r k) 37) = w1 at *
  go_upto_region 4 with (go_at_call 27; (with_reducible refine (HN.out).mono ?_); rintro e w2 ⟨rfl, hb⟩; have H2 := Lib.hid hb; clear hb)
  obtain ⟨g, a, ca, O, co, rfl, hgc, c0, c1, hE, c2, c3, c4⟩ := (HP.out.call H2.out).entry hi
  have i1 : (i : Int) < (es.length : Int) := by omega
  unfold ptrV at c1
  have HB2 := Lib.hid (HF.out.trans (H2.out.mono HF.out.size))
  rw [hs] at c3
  generalize (2 ^ (es[i]'hi).h) = n at *
  generalize ps.getD i 0 = p at *
  clear hE c4 hs
  go_wp2
  go_quiet (fail)
  clear c0 c1 c2 c3
  have HB3 := Lib.hid (below_drewN HB2.out nq)
  go_wp2
  go_ret2
  exact ⟨rfl, HB3.out⟩

set_option maxRecDepth 100000 in
/-- What is written of an entry that a number was taken of. -/
theorem DEnt.next_put {w : World} {B p : Nat} {e : Ent} {A O : Option Addr} {ca co : Nat} (h : DEnt w B p e A ca O co) (hs : e.seed.length = 32) (v : Value) : Box (w.setCell ⟨p, 66, none⟩ v) p 74 (rawL e (.slice A (2 ^ e.h) ca) v (.slice O (openL e).length co)).toArray := by
  have hb := h.box
  rw [entL_raw] at hb
  have h2 := hb.put 66 v
  rwa [raw_next e hs] at h2

set_option maxRecDepth 100000 in
theorem own_aside {w w' : World} {base size n p : Nat} {t : TypeId} {v : Value} {xs : List Value} {cs : Array Value} (ho : w.ownsRow base t size v n xs) (hb : Box w p 74 cs) (ht : t ≠ 74) (hg : w.grownBy w' (some p)) : w'.ownsRow base t size v n xs :=
  own_at ho fun g cs _ hb' => hg.block g hb'.lt fun e => by
    injection e with e
    exact Box.apart hb' hb ht e
set_option maxRecDepth 100000 in
/-- A new list of open numbers was laid, and is written into the entry. -/
theorem DEnt.open_put {w0 w4 w8 : World} {B p : Nat} {x y : Ent} {a A8 O : Option Addr} {ca co c8 : Nat} (h : DEnt w0 B p x a ca O co) (hs : x.seed.length = 32) (l : Like x y) (hb4 : Box w4 p 74 (rawL x (.slice a (2 ^ x.h) ca) (.int .i64 (y.next : Int)) (.slice O (openL x).length co)).toArray) (hg : w0.grownBy w4 (some p)) (hB : Below w4.heap.size w4 w8) {n : Nat} (hn : n = (openL y).length) (h8 : w8.ownsRow B 3 1 (.slice A8 n c8) n ((openL y).map intV)) :
    DEnt (w8.setCell ⟨p, 67, none⟩ (.slice A8 n c8)) B p y a ca A8 c8 ∧ w0.grownBy (w8.setCell ⟨p, 67, none⟩ (.slice A8 n c8)) (some p) ∧ (∃ v, w8.cell? ⟨p, 67, none⟩ = some v) ∧ w8.frozen? ⟨p, 67, none⟩ = false := by
  subst hn
  have hb8 := hb4.below hB hb4.lt
  have h9 := hb8.put 67 (.slice A8 (openL y).length c8)
  rw [raw_open x hs] at h9
  have er : rawL x (.slice a (2 ^ x.h) ca) (.int .i64 (y.next : Int)) (.slice A8 (openL y).length c8) = entL y a ca A8 c8 := by
    rw [entL_raw]
    unfold rawL
    rw [l.root, l.h, l.seed]
  rw [er] at h9
  have hlv := h.leaves
  rw [← l.seed, ← l.h] at hlv
  have g9 : w8.grownBy (w8.setCell ⟨p, 67, none⟩ (.slice A8 (openL y).length c8)) (some p) := only_cell w8 p 67 _
  have hg8 : w0.grownBy w8 (some p) := only_trans hg (only_below hB (some p))
  refine ⟨⟨h9, own_aside hlv h.box (by decide) (only_trans hg8 g9), own_aside h8 hb8 (by decide) g9⟩, only_trans hg8 g9, ⟨_, (hb8.cell 67).trans (raw_at x hs _ _ _).2.2⟩, hb8.free 67⟩
set_option maxRecDepth 100000 in
theorem Like.taken (e : Ent) : Like e e.taken := ⟨rfl, rfl, rfl, rfl, rfl, rfl⟩

set_option maxRecDepth 100000 in
set_option maxHeartbeats 2000000 in
theorem dtake_any {w : World} {B db : Nat} {es : List Ent} (hD : DocW w B db es) (r : List UInt8) (k : Int) (hr : r.length = 32) (hn : es.length ≤ 1000) {i : Nat} (hi : i < es.length) (x : Ent) (hx : es[i]'hi = x) (hf : fndI es r k = (i : Int)) (hs : x.next < 2 ^ x.h) (hB : B ≤ w.heap.size) :
    Calls Tryz.prog 11 #[.pointer (some ⟨db, 0, none⟩), .agg (keyV r k)] w fun e w' => e = .returned (.tuple #[.int .i64 (x.next : Int), .int .i64 0]) ∧ DocW w' B db (es.set i x.taken) ∧ DFrame B w w' := by
  obtain ⟨h1, h2, h3⟩ := hD.boxed r k
  have HF := Lib.hid h2
  have lk := h3.load_key hr
  have HN := Lib.hid (dfind_any h1 r k hr hn)
  rw [hf] at HN
  obtain ⟨A, c, ps, hP⟩ := h1
  have HP := Lib.hid hP
  clear h2 h3 hf hP
  have HBS := Lib.hid hB
  go_enter Tryz.func11, Tryz.ntmps11
  go_upto_region 1 with fail
  change Code.wp _ _ _ _ (w.alloc (.cells (keyV r k) 37))
  generalize w.alloc (.cells (keyV r k) 37) = w1 at *
  go_upto_region 4 with (go_at_call 27; (with_reducible refine (HN.out).mono ?_); rintro e w2 ⟨rfl, hb⟩; have H2 := Lib.hid hb; clear hb)
  have HP2 := Lib.hid (HP.out.call H2.out)
  obtain ⟨g, a, ca, O, co, rfl, hgc, c0, c1, hE, c2, c3, c4⟩ := HP2.out.entry hi
  have hEP := (HP.out.ents i hi).1
  have i1 : (i : Int) < (es.length : Int) := by omega
  unfold ptrV at c1
  have HB2 := Lib.hid (HF.out.trans (H2.out.mono HF.out.size))
  have HI := Lib.hid hi
  rw [hx] at hE c2 c3 c4 hEP
  have HE := Lib.hid hE
  have HEP := Lib.hid hEP
  have hpow : 2 ^ x.h ≤ 64 := Nat.le_trans (Nat.pow_le_pow_right (by decide) hEP.high) (by decide)
  have n1 : ((x.next : Int) == ((2 ^ x.h : Nat) : Int)) = false := by
    rw [beq_eq_false_iff_ne]
    omega
  have hnx64 : x.next ≤ 63 := by omega
  generalize hhx : 2 ^ x.h = tx at *
  have HHX := Lib.hid hhx
  generalize hp : ps.getD i 0 = p at *
  have HPI := Lib.hid hp
  clear hE hEP hx hhx hp hi hB
  go_wp2
  go_quiet (fail)
  have HB3 := Lib.hid (below_drewN HB2.out nq)
  have HP3 := Lib.hid (HP2.out.call (below_drewN (Below.refl _ _) nq))
  have HE3 := Lib.hid (HE.out.call (below_drewN (Below.refl _ _) nq))
  have d3 : (w2.drewN nq).cell? ⟨p, 66, none⟩ = some (.int .i64 (x.next : Int)) := c3
  have d4 : (w2.drewN nq).cell? ⟨p, 67, none⟩ = some (.slice O (openL x).length co) := c4
  have hfz : (w2.drewN nq).frozen? ⟨p, 66, none⟩ = false := HE3.out.box.free 66
  clear c0 c1 c2 c3 c4 HP2 HE lk HN
  generalize w2.drewN nq = w3 at *
  have hb4 : Box (w3.setCell ⟨p, 66, none⟩ (.int .i64 ((x.next : Int) + 1))) p 74 (rawL x (.slice a (2 ^ x.h) ca) (.int .i64 (x.taken.next : Int)) (.slice O (openL x).length co)).toArray := by
    have h := HE3.out.next_put HEP.out.seed (.int .i64 ((x.next : Int) + 1))
    exact h
  have g4 : w3.grownBy (w3.setCell ⟨p, 66, none⟩ (.int .i64 ((x.next : Int) + 1))) (some p) := only_cell w3 p 66 _
  have ho4 := own_aside HE3.out.opens HE3.out.box (by decide) g4
  have hz4 : (w3.setCell ⟨p, 66, none⟩ (.int .i64 ((x.next : Int) + 1))).heap.size = w3.heap.size := by simp [World.setCell]
  have HBS3 : B ≤ w3.heap.size := Nat.le_trans HBS.out HB3.out.size
  generalize hw4 : w3.setCell ⟨p, 66, none⟩ (.int .i64 ((x.next : Int) + 1)) = w4 at *
  have b5 : Below w4.heap.size w4 (w4.alloc (.cells #[] 3)) := (Below.refl _ _).alloc (Nat.le_refl _) _
  have c5 : (w4.alloc (.cells #[] 3)).cell? ⟨p, 67, none⟩ = some (.slice O (openL x).length co) := ((hb4.below b5 hb4.lt).cell 67).trans (raw_at x HEP.out.seed _ _ _).2.2
  have own5 : (w4.alloc (.cells #[] 3)).ownsRow w4.heap.size 3 1 (.slice (some ⟨w4.heap.size, 0, none⟩) 0 0) 0 ([] : List Value) := World.ownsRow_lit (base := w4.heap.size) (size := 1) w4 (e := 3) #[] 0 (Nat.le_refl _) (by simp [maxLen]) (by simp)
  have few := open_few HEP.out
  obtain ⟨v6, w6, hap6, own6, g6⟩ := append_cells (n := 0) (A := O) (m := (openL x).length) (c := co) (ys := (openL x).map intV) Tryz.underlying72 int_inf rfl (by omega) own5 (Sees.of_own (own_below ho4 b5)) (by simp) (ints_one _) (by omega) b5.size
  rw [Nat.zero_add, List.nil_append] at own6
  obtain ⟨A6, c6, rfl⟩ := own_slice_s own6
  have b6 : Below w4.heap.size w4 w6 := b5.trans (below_own own5 g6 b5.size)
  have b7 : Below w4.heap.size w4 (w6.alloc (.cells #[.int .i64 (x.next : Int)] 3)) := b6.alloc b6.size _
  have bx7 := Box.made w6 3 #[.int .i64 (x.next : Int)]
  obtain ⟨v8, w8, hap8, own8, g8⟩ := append_cells (A := some ⟨w6.heap.size, 0, none⟩) (m := 1) (c := 1) (ys := [intV (x.next : Int)]) Tryz.underlying72 int_inf rfl (by omega) (own6.alloc (.cells #[.int .i64 (x.next : Int)] 3)) (Sees.of_box bx7 bx7.lt) rfl (fun u hu => by obtain rfl := List.mem_singleton.1 hu; rfl) (by omega) b7.size
  obtain ⟨A8, c8, rfl⟩ := own_slice_s own8
  have b8 : Below w4.heap.size w4 w8 := b7.trans (below_own (own6.alloc (.cells #[.int .i64 (x.next : Int)] 3)) g8 b7.size)
  have eo : (openL x).map intV ++ [intV (x.next : Int)] = (openL x.taken).map intV := by
    unfold openL
    rw [openN_taken x (by rw [HEP.out.many, HHX.out]; exact hs)]
    simp
  have en : (openL x).length + 1 = (openL x.taken).length := by
    have h := congrArg List.length eo
    simpa using h
  rw [eo] at own8
  have own8' : w8.ownsRow B 3 1 (.slice A8 ((openL x).length + 1) c8) ((openL x).length + 1) ((openL x.taken).map intV) := by
    rcases own8.2 with ⟨h1, h2⟩ | ⟨g', cap, cur, h1, h2, h3⟩
    · exact absurd h2 (by omega)
    · exact ⟨own8.1, .inr ⟨g', cap, cur, h1, by omega, h3⟩⟩
  obtain ⟨hE9, g9, ⟨v9, hc9⟩, hf9⟩ := HE3.out.open_put HEP.out.seed (Like.taken x) hb4 g4 b8 en own8'
  have HP9 := Lib.hid (HP3.out.put HI.out (e' := x.taken) (HEP.out.taken (by rw [HHX.out]; exact hs)) (by rw [HPI.out]; exact g9) (by rw [HPI.out]; exact hE9))
  have hdoc := HP3.out.entry_doc HI.out
  rw [HPI.out] at hdoc
  have HF9 : Hid (DFrame B w (w8.setCell ⟨p, 67, none⟩ (.slice A8 ((openL x).length + 1) c8))) := Lib.hid ((DFrame.of_below HB3.out).trans (DFrame.of_grown g9 (fun g e => by injection e with e; subst e; exact hdoc)))
  rw [hz4] at hap6
  clear hb4 g4 ho4 own5 own6 own8 own8' b5 b6 b7 b8 bx7 g6 g8 g9 hE9 eo en hdoc HBS3
  go_wp2
  go_ret2
  exact ⟨rfl, ⟨_, _, _, HP9.out⟩, HF9.out⟩
end Go.Proofs.YtojgmdagamdcfaaGreatDoor

namespace Go.Proofs.YtojgmdagamdcfaaGreatDoor
open Go.RowKit Go.Maps

attribute [local go_sem ↓] ldKey_def eqKey_def apAll_def

/-- Of a list of numbers those that are wanted, laid anew one by one. -/
def restL (P : Int → Bool) (l : List Int) (q : Nat) : List Int := (l.take q).filter P
set_option maxRecDepth 100000 in
theorem rest_yes {P : Int → Bool} {l : List Int} {q : Nat} (hq : q < l.length) (h : P (l[q]'hq) = true) : restL P l (q + 1) = restL P l q ++ [l[q]'hq] := by
  unfold restL
  rw [List.take_succ_eq_append_getElem hq, List.filter_append]
  simp [h]
set_option maxRecDepth 100000 in
theorem rest_no {P : Int → Bool} {l : List Int} {q : Nat} (hq : q < l.length) (h : P (l[q]'hq) = false) : restL P l (q + 1) = restL P l q := by
  unfold restL
  rw [List.take_succ_eq_append_getElem hq, List.filter_append]
  simp [h]
set_option maxRecDepth 100000 in
theorem rest_len (P : Int → Bool) (l : List Int) (q : Nat) : (restL P l q).length ≤ l.length := by
  unfold restL
  exact Nat.le_trans (List.length_filter_le _ _) (by rw [List.length_take]; omega)
structure RestW (w0 : World) (P : Int → Bool) (l : List Int) (q : Nat) (A : Option Addr) (n c : Nat) (w : World) : Prop where
  len : n = (restL P l q).length
  own : w.ownsRow w0.heap.size 3 1 (.slice A n c) n ((restL P l q).map intV)
  far : Below w0.heap.size w0 w
set_option maxRecDepth 100000 in
theorem RestW.start (w : World) (P : Int → Bool) (l : List Int) : RestW w P l 0 none 0 0 w := ⟨rfl, World.ownsRow_nil _ _ _ _, Below.refl _ _⟩
set_option maxRecDepth 100000 in
theorem RestW.skip {w0 w : World} {P : Int → Bool} {l : List Int} {q : Nat} {A : Option Addr} {n c : Nat} (h : RestW w0 P l q A n c w) (hq : q < l.length) (hP : P (l[q]'hq) = false) : RestW w0 P l (q + 1) A n c w :=
  ⟨by rw [rest_no hq hP]; exact h.len, by rw [rest_no hq hP]; exact h.own, h.far⟩
set_option maxRecDepth 100000 in
theorem RestW.more {w0 w : World} {P : Int → Bool} {l : List Int} {q : Nat} {A : Option Addr} {n c : Nat} (h : RestW w0 P l q A n c w) (hq : q < l.length) (hP : P (l[q]'hq) = true) (few : l.length ≤ 64) :
    ∃ A' n' c' w', (apAll #[72, 72] 72 #[.slice A n c, .slice (some ⟨w.heap.size, 0, none⟩) 1 1]).run Tryz.prog (w.alloc (.cells #[.int .i64 (l[q]'hq)] 3)) = .ok (.slice A' n' c') w' ∧ RestW w0 P l (q + 1) A' n' c' w' := by
  have hl := rest_len P l q
  have hn := h.len
  have b1 : Below w0.heap.size w0 (w.alloc (.cells #[.int .i64 (l[q]'hq)] 3)) := h.far.alloc h.far.size _
  have bx := Box.made w 3 #[.int .i64 (l[q]'hq)]
  obtain ⟨v', w', hap, own', g'⟩ := append_cells (n := n) (A := some ⟨w.heap.size, 0, none⟩) (m := 1) (c := 1) (ys := [intV (l[q]'hq)]) Tryz.underlying72 int_inf rfl (by omega) (h.own.alloc (.cells #[.int .i64 (l[q]'hq)] 3)) (Sees.of_box bx bx.lt) rfl (fun u hu => by obtain rfl := List.mem_singleton.1 hu; rfl) (by omega) b1.size
  obtain ⟨A', c', rfl⟩ := own_slice_s own'
  refine ⟨A', n + 1, c', w', hap, ?_, ?_, b1.trans (below_own (h.own.alloc _) g' b1.size)⟩
  · rw [rest_yes hq hP, List.length_append, hn]
    rfl
  · rw [rest_yes hq hP, List.map_append]
    exact own'
set_option maxRecDepth 100000 in
theorem rest_all (P : Int → Bool) (l : List Int) : restL P l l.length = l.filter P := by
  unfold restL
  rw [List.take_length]

set_option maxRecDepth 100000 in
theorem openL_skip (e : Ent) (h : EntP e) (m : Int) (c : Nat) (hc : (c : Int) = max 0 (min m ((2 ^ e.h : Nat) : Int))) : openL (e.skipped c) = (openL e).filter fun j => decide (m ≤ j) := by
  unfold openL
  rw [openN_skip, List.filter_map]
  congr 1
  apply List.filter_congr
  intro x hx
  have h1 := (openN_lt.1 hx).1
  have h2 := h.next
  simp only [Function.comp]
  rw [decide_eq_decide]
  omega
set_option maxRecDepth 100000 in
theorem skip_next (e : Ent) (h : EntP e) (m : Int) (c : Nat) (hc : (c : Int) = max 0 (min m ((2 ^ e.h : Nat) : Int))) : c ≤ 2 ^ e.h ∧ ((e.skipped c).next : Int) = if m ≤ (e.next : Int) then (e.next : Int) else if m ≤ ((2 ^ e.h : Nat) : Int) then m else ((2 ^ e.h : Nat) : Int) := by
  have h2 := h.next
  refine ⟨by omega, ?_⟩
  show ((max e.next c : Nat) : Int) = _
  split
  · omega
  · split <;> omega
set_option maxRecDepth 100000 in
theorem Like.skipped (e : Ent) (c : Nat) : Like e (e.skipped c) := ⟨rfl, rfl, rfl, rfl, rfl, rfl⟩
set_option maxRecDepth 100000 in
theorem raw_twice {w : World} {p : Nat} {t : TypeId} {x : Ent} (hs : x.seed.length = 32) {lv nx ov : Value} (h : Box w p t (rawL x lv nx ov).toArray) (v : Value) : Box (w.setCell ⟨p, 66, none⟩ v) p t (rawL x lv v ov).toArray := by
  have h2 := h.put 66 v
  rwa [raw_next x hs] at h2

set_option maxRecDepth 100000 in
set_option maxHeartbeats 2000000 in
theorem dskip_not {w : World} {B db : Nat} {es : List Ent} (hD : DocW w B db es) (r : List UInt8) (k : Int) (hr : r.length = 32) (hn : es.length ≤ 1000) (hk : ∀ j (hj : j < es.length), (es[j]'hj).is r k = false) (m : Int) :
    Calls Tryz.prog 16 #[.pointer (some ⟨db, 0, none⟩), .agg (keyV r k), .int .i64 m] w fun e w' => e = .returned (.int .i64 7) ∧ Below w.heap.size w w' := by
  obtain ⟨h1, h2, h3⟩ := hD.boxed r k
  have HF := Lib.hid h2
  have lk := h3.load_key hr
  have HN := Lib.hid (dfind_any h1 r k hr hn)
  rw [fnd_no hk] at HN
  clear h1 h2 h3
  go_enter Tryz.func16, Tryz.ntmps16
  go_upto_region 1 with fail
  change Code.wp _ _ _ _ (w.alloc (.cells (keyV r k) 37))
  generalize w.alloc (.cells (keyV r k) 37) = w1 at *
  go_wp2_with (go_at_call 27; (with_reducible refine (HN.out).mono ?_); rintro e w2 ⟨rfl, hb⟩; have H2 := Lib.hid hb; clear hb)
  go_ret
  exact ⟨rfl, HF.out.trans (H2.out.mono HF.out.size)⟩

set_option maxRecDepth 100000 in
/-- The loop of Skip, and what is behind it: from a world in which the next number is written. -/
theorem skip_ends {w3 w4 wr : World} {B db c0 : Nat} {es : List Ent} {A0 : Option Addr} {ps : List Nat} {i : Nat} {x : Ent} {m : Int} {c : Nat} (HP3 : DocP w3 B db es A0 c0 ps) (hi : i < es.length) {p : Nat} (hpi : ps.getD i 0 = p) (hEP : EntP x) (hc : (c : Int) = max 0 (min m ((2 ^ x.h : Nat) : Int))) {a O : Option Addr} {ca co : Nat} (hE : DEnt w3 B p x a ca O co)
    (hb4 : Box w4 p 74 (rawL x (.slice a (2 ^ x.h) ca) (.int .i64 ((x.skipped c).next : Int)) (.slice O (openL x).length co)).toArray) (hg : w3.grownBy w4 (some p)) (hB : B ≤ w4.heap.size) {A : Option Addr} {n cc : Nat} (hR : RestW w4 (fun j => decide (m ≤ j)) (openL x) (openL x).length A n cc wr) :
    DocW (wr.setCell ⟨p, 67, none⟩ (.slice A n cc)) B db (es.set i (x.skipped c)) ∧ DFrame B w3 (wr.setCell ⟨p, 67, none⟩ (.slice A n cc)) ∧ (∃ v, wr.cell? ⟨p, 67, none⟩ = some v) ∧ wr.frozen? ⟨p, 67, none⟩ = false := by
  subst hpi
  have eo : restL (fun j => decide (m ≤ j)) (openL x) (openL x).length = openL (x.skipped c) := by
    rw [rest_all, openL_skip x hEP m c hc]
  have en : n = (openL (x.skipped c)).length := by rw [hR.len, eo]
  have own8 := hR.own
  rw [eo] at own8
  have own8' : wr.ownsRow B 3 1 (.slice A n cc) n ((openL (x.skipped c)).map intV) := by
    rcases own8.2 with ⟨h1, h2⟩ | ⟨g', cap, cur, h1, h2, h3⟩
    · exact ⟨own8.1, .inl ⟨h1, h2⟩⟩
    · exact ⟨own8.1, .inr ⟨g', cap, cur, h1, by omega, h3⟩⟩
  obtain ⟨hE9, g9, h9⟩ := hE.open_put hEP.seed (Like.skipped x c) hb4 hg hR.far en own8'
  exact ⟨⟨_, _, _, HP3.put hi (hEP.skipped (skip_next x hEP m c hc).1) g9 hE9⟩, DFrame.of_grown g9 (fun g e => by injection e with e; subst e; exact HP3.entry_doc hi), h9⟩
end Go.Proofs.YtojgmdagamdcfaaGreatDoor

namespace Go.Proofs.YtojgmdagamdcfaaGreatDoor
open Go.RowKit Go.Maps

attribute [local go_sem ↓] ldKey_def eqKey_def apAll_def

set_option maxRecDepth 100000 in
theorem own_cell {w : World} {base n c : Nat} {O : Option Addr} {l : List Int} (h : w.ownsRow base 3 1 (.slice O n c) n (l.map intV)) {q : Nat} (hq : q < l.length) : ∃ g, O = some ⟨g, 0, none⟩ ∧ w.cell? ⟨g, q, none⟩ = some (.int .i64 (l[q]'hq)) := by
  have hs := Sees.of_own h
  obtain ⟨g, o, e, hg, hc⟩ := hs.at_ (k := q) (by simpa using hq)
  rcases h.2 with ⟨h1, h2⟩ | ⟨g', cap, cur, h1, _⟩
  · injection h1 with h1
    rw [e] at h1
    cases h1
  · injection h1 with h1
    rw [e] at h1
    injection h1 with h1
    injection h1 with h1 h2
    subst h1 h2
    refine ⟨g, e, ?_⟩
    rw [Nat.zero_add] at hc
    rw [hc]
    simp

set_option maxRecDepth 100000 in
set_option maxHeartbeats 4000000 in
theorem dskip_any {w : World} {B db : Nat} {es : List Ent} (hD : DocW w B db es) (r : List UInt8) (k : Int) (hr : r.length = 32) (hn : es.length ≤ 1000) {i : Nat} (hi : i < es.length) (x : Ent) (hx : es[i]'hi = x) (hf : fndI es r k = (i : Int)) (m : Int) (d : Nat) (hd : (d : Int) = max 0 (min m ((2 ^ x.h : Nat) : Int))) (hB : B ≤ w.heap.size) :
    Calls Tryz.prog 16 #[.pointer (some ⟨db, 0, none⟩), .agg (keyV r k), .int .i64 m] w fun e w' => e = .returned (.int .i64 0) ∧ DocW w' B db (es.set i (x.skipped d)) ∧ DFrame B w w' := by
  obtain ⟨h1, h2, h3⟩ := hD.boxed r k
  have HF := Lib.hid h2
  have lk := h3.load_key hr
  have HN := Lib.hid (dfind_any h1 r k hr hn)
  rw [hf] at HN
  obtain ⟨A, c, ps, hP⟩ := h1
  have HP := Lib.hid hP
  clear h2 h3 hf hP
  have HBS := Lib.hid hB
  go_enter Tryz.func16, Tryz.ntmps16
  go_upto_region 1 with fail
  change Code.wp _ _ _ _ (w.alloc (.cells (keyV r k) 37))
  generalize w.alloc (.cells (keyV r k) 37) = w1 at *
  go_upto_region 4 with (go_at_call 27; (with_reducible refine (HN.out).mono ?_); rintro e w2 ⟨rfl, hb⟩; have H2 := Lib.hid hb; clear hb)
  have HP2 := Lib.hid (HP.out.call H2.out)
  obtain ⟨g, a, ca, O, co, rfl, hgc, c0, c1, hE, c2, c3, c4⟩ := HP2.out.entry hi
  have hEP := (HP.out.ents i hi).1
  have i1 : (i : Int) < (es.length : Int) := by omega
  unfold ptrV at c1
  have HB2 := Lib.hid (HF.out.trans (H2.out.mono HF.out.size))
  have HBS2 : Hid (B ≤ w2.heap.size) := Lib.hid (Nat.le_trans HBS.out HB2.out.size)
  have HI := Lib.hid hi
  rw [hx] at hE c2 c3 c4 hEP
  have HE := Lib.hid hE
  have HEP := Lib.hid hEP
  obtain ⟨tx, htx⟩ : ∃ tx, 2 ^ x.h = tx := ⟨_, rfl⟩
  have HTX := Lib.hid htx
  have HND := Lib.hid (skip_next x hEP m d hd).2
  rw [htx] at c2 HND
  have HD := Lib.hid hd
  have HFEW := Lib.hid (open_few hEP)
  have hfz : w2.frozen? ⟨ps.getD i 0, 66, none⟩ = false := HE.out.box.free 66
  generalize hp : ps.getD i 0 = p at *
  have HPI := Lib.hid hp
  clear hE hEP hx hi hB HN lk hd hp htx
  by_cases m1 : m ≤ (x.next : Int)
  · have d1 : decide ((x.next : Int) < m) = false := decide_eq_false (by omega)
    have hnd := HND.out
    rw [if_pos m1] at hnd
    have HB4 : Hid (Box w2 p 74 (rawL x (.slice a (2 ^ x.h) ca) (.int .i64 ((x.skipped d).next : Int)) (.slice O (openL x).length co)).toArray) := Lib.hid (by
      rw [hnd]
      exact HE.out.box)
    have HG4 : Hid (w2.grownBy w2 (some p)) := Lib.hid (only_refl _ _)
    have HBS4 := HBS2
    clear m1 hnd
    go_wp2
    clear c0 c1 c2 c3 c4 hfz
    have HR0 := Lib.hid (RestW.start w2 (fun j => decide (m ≤ j)) (openL x))
    have HO4 := Lib.hid (own_aside HE.out.opens HE.out.box (by decide) HG4.out)
    go_loopw [9, 11, 54] (fun v _ z wr => ∃ (q n : Nat) (A : Option Addr) (cc : Nat), q ≤ (openL x).length ∧ z = .int .i64 (q : Int) ∧ v = .slice A n cc ∧ Hid (RestW w2 (fun j => decide (m ≤ j)) (openL x) q A n cc wr)) (fun _ _ z _ => (openL x).length - (intOf z).toNat)
    case atStart => exact ⟨0, 0, none, 0, Nat.zero_le _, rfl, rfl, HR0⟩
    case round =>
      clear HR0
      obtain ⟨q, n, A, cc, hq, rfl, rfl, HR⟩ := hrel
      have few := HFEW.out
      by_cases hlt : q < (openL x).length
      · obtain ⟨g2, rfl, hcell⟩ := own_cell (own_below HO4.out HR.out.far) hlt
        have i2 : (q : Int) < ((openL x).length : Int) := by omega
        have HL := Lib.hid hlt
        by_cases hm : m ≤ (openL x)[q]'hlt
        · obtain ⟨A2, n2, c2, w5, hap, hR2⟩ := HR.out.more hlt (decide_eq_true hm) few
          have HR2 := Lib.hid hR2
          generalize (openL x)[q]'hlt = y at *
          clear hR2 hlt
          go_wp2
          go_roundw
          case rel => exact ⟨q + 1, n2, A2, c2, HL.out, by go_num, rfl, HR2⟩
          case measure => have := HL.out; simp [intOf]; omega
        · have HR2 := Lib.hid (HR.out.skip hlt (decide_eq_false hm))
          generalize (openL x)[q]'hlt = y at *
          clear hlt
          go_wp2
          go_roundw
          case rel => exact ⟨q + 1, n, A, cc, HL.out, by go_num, rfl, HR2⟩
          case measure => have := HL.out; simp [intOf]; omega
      · obtain rfl : q = (openL x).length := by omega
        obtain ⟨h1, h2, ⟨v3, h3⟩, h4⟩ := skip_ends HP2.out HI.out HPI.out HEP.out HD.out HE.out HB4.out HG4.out HBS4.out HR.out
        have H1 := Lib.hid h1
        have H2' := Lib.hid ((DFrame.of_below HB2.out).trans h2)
        clear h1 h2
        go_wp2
        go_ret
        exact ⟨rfl, H1.out, H2'.out⟩
  · by_cases m2 : m ≤ (tx : Int)
    · have d1 : decide ((x.next : Int) < m) = true := decide_eq_true (by omega)
      have d2 : decide ((tx : Int) < m) = false := decide_eq_false (by omega)
      have hnd := HND.out
      rw [if_neg m1, if_pos m2] at hnd
      have HB4 : Hid (Box (w2.setCell ⟨p, 66, none⟩ (.int .i64 m)) p 74 (rawL x (.slice a (2 ^ x.h) ca) (.int .i64 ((x.skipped d).next : Int)) (.slice O (openL x).length co)).toArray) := Lib.hid (by
        rw [hnd]
        exact raw_twice HEP.out.seed (by have h := HE.out.box; rwa [entL_raw] at h) _)
      have HG4 : Hid (w2.grownBy (w2.setCell ⟨p, 66, none⟩ (.int .i64 m)) (some p)) := Lib.hid (only_cell _ _ _ _)
      have HBS4 : Hid (B ≤ ((w2.setCell ⟨p, 66, none⟩ (.int .i64 m))).heap.size) := Lib.hid (by have h := HBS2.out; simpa [World.setCell] using h)
      have e2 : (w2.setCell ⟨p, 66, none⟩ (.int .i64 m)).cell? ⟨p, 65, none⟩ = some (.slice a tx ca) := by
        rw [← HTX.out]
        exact (HB4.out.cell 65).trans (raw_at x HEP.out.seed _ _ _).1
      have e4 : (w2.setCell ⟨p, 66, none⟩ (.int .i64 m)).cell? ⟨p, 67, none⟩ = some (.slice O (openL x).length co) := (HB4.out.cell 67).trans (raw_at x HEP.out.seed _ _ _).2.2
      clear m1 m2 hnd
      generalize hw4 : w2.setCell ⟨p, 66, none⟩ (.int .i64 m) = w4 at *
      go_wp2
      clear e2 e4 hw4
      clear c0 c1 c2 c3 c4 hfz
      have HR0 := Lib.hid (RestW.start w4 (fun j => decide (m ≤ j)) (openL x))
      have HO4 := Lib.hid (own_aside HE.out.opens HE.out.box (by decide) HG4.out)
      go_loopw [9, 11, 54] (fun v _ z wr => ∃ (q n : Nat) (A : Option Addr) (cc : Nat), q ≤ (openL x).length ∧ z = .int .i64 (q : Int) ∧ v = .slice A n cc ∧ Hid (RestW w4 (fun j => decide (m ≤ j)) (openL x) q A n cc wr)) (fun _ _ z _ => (openL x).length - (intOf z).toNat)
      case atStart => exact ⟨0, 0, none, 0, Nat.zero_le _, rfl, rfl, HR0⟩
      case round =>
        clear HR0
        obtain ⟨q, n, A, cc, hq, rfl, rfl, HR⟩ := hrel
        have few := HFEW.out
        by_cases hlt : q < (openL x).length
        · obtain ⟨g2, rfl, hcell⟩ := own_cell (own_below HO4.out HR.out.far) hlt
          have i2 : (q : Int) < ((openL x).length : Int) := by omega
          have HL := Lib.hid hlt
          by_cases hm : m ≤ (openL x)[q]'hlt
          · obtain ⟨A2, n2, c2, w5, hap, hR2⟩ := HR.out.more hlt (decide_eq_true hm) few
            have HR2 := Lib.hid hR2
            generalize (openL x)[q]'hlt = y at *
            clear hR2 hlt
            go_wp2
            go_roundw
            case rel => exact ⟨q + 1, n2, A2, c2, HL.out, by go_num, rfl, HR2⟩
            case measure => have := HL.out; simp [intOf]; omega
          · have HR2 := Lib.hid (HR.out.skip hlt (decide_eq_false hm))
            generalize (openL x)[q]'hlt = y at *
            clear hlt
            go_wp2
            go_roundw
            case rel => exact ⟨q + 1, n, A, cc, HL.out, by go_num, rfl, HR2⟩
            case measure => have := HL.out; simp [intOf]; omega
        · obtain rfl : q = (openL x).length := by omega
          obtain ⟨h1, h2, ⟨v3, h3⟩, h4⟩ := skip_ends HP2.out HI.out HPI.out HEP.out HD.out HE.out HB4.out HG4.out HBS4.out HR.out
          have H1 := Lib.hid h1
          have H2' := Lib.hid ((DFrame.of_below HB2.out).trans h2)
          clear h1 h2
          go_wp2
          go_ret
          exact ⟨rfl, H1.out, H2'.out⟩
    · have d1 : decide ((x.next : Int) < m) = true := decide_eq_true (by omega)
      have d2 : decide ((tx : Int) < m) = true := decide_eq_true (by omega)
      have hnd := HND.out
      rw [if_neg m1, if_neg m2] at hnd
      have hb3 : Box (w2.setCell ⟨p, 66, none⟩ (.int .i64 m)) p 74 (rawL x (.slice a (2 ^ x.h) ca) (.int .i64 m) (.slice O (openL x).length co)).toArray := raw_twice HEP.out.seed (by have h := HE.out.box; rwa [entL_raw] at h) _
      have HB4 : Hid (Box ((w2.setCell ⟨p, 66, none⟩ (.int .i64 m)).setCell ⟨p, 66, none⟩ (.int .i64 (tx : Int))) p 74 (rawL x (.slice a (2 ^ x.h) ca) (.int .i64 ((x.skipped d).next : Int)) (.slice O (openL x).length co)).toArray) := Lib.hid (by
        rw [hnd]
        exact raw_twice HEP.out.seed hb3 _)
      have HG4 : Hid (w2.grownBy ((w2.setCell ⟨p, 66, none⟩ (.int .i64 m)).setCell ⟨p, 66, none⟩ (.int .i64 (tx : Int))) (some p)) := Lib.hid (only_trans (only_cell _ _ _ _) (only_cell _ _ _ _))
      have HBS4 : Hid (B ≤ (((w2.setCell ⟨p, 66, none⟩ (.int .i64 m)).setCell ⟨p, 66, none⟩ (.int .i64 (tx : Int)))).heap.size) := Lib.hid (by have h := HBS2.out; simpa [World.setCell] using h)
      have e2 : (w2.setCell ⟨p, 66, none⟩ (.int .i64 m)).cell? ⟨p, 65, none⟩ = some (.slice a tx ca) := by
        rw [← HTX.out]
        exact (hb3.cell 65).trans (raw_at x HEP.out.seed _ _ _).1
      have e3 : (w2.setCell ⟨p, 66, none⟩ (.int .i64 m)).cell? ⟨p, 66, none⟩ = some (.int .i64 m) := (hb3.cell 66).trans (raw_at x HEP.out.seed _ _ _).2.1
      have e4 : ((w2.setCell ⟨p, 66, none⟩ (.int .i64 m)).setCell ⟨p, 66, none⟩ (.int .i64 (tx : Int))).cell? ⟨p, 67, none⟩ = some (.slice O (openL x).length co) := (HB4.out.cell 67).trans (raw_at x HEP.out.seed _ _ _).2.2
      have f3 : (w2.setCell ⟨p, 66, none⟩ (.int .i64 m)).frozen? ⟨p, 66, none⟩ = false := hb3.free 66
      clear m1 m2 hnd hb3
      generalize hw3 : w2.setCell ⟨p, 66, none⟩ (.int .i64 m) = w3 at *
      generalize hw4 : w3.setCell ⟨p, 66, none⟩ (.int .i64 (tx : Int)) = w4 at *
      go_wp2
      clear e2 e3 e4 f3 hw3 hw4
      clear c0 c1 c2 c3 c4 hfz
      have HR0 := Lib.hid (RestW.start w4 (fun j => decide (m ≤ j)) (openL x))
      have HO4 := Lib.hid (own_aside HE.out.opens HE.out.box (by decide) HG4.out)
      go_loopw [9, 11, 54] (fun v _ z wr => ∃ (q n : Nat) (A : Option Addr) (cc : Nat), q ≤ (openL x).length ∧ z = .int .i64 (q : Int) ∧ v = .slice A n cc ∧ Hid (RestW w4 (fun j => decide (m ≤ j)) (openL x) q A n cc wr)) (fun _ _ z _ => (openL x).length - (intOf z).toNat)
      case atStart => exact ⟨0, 0, none, 0, Nat.zero_le _, rfl, rfl, HR0⟩
      case round =>
        clear HR0
        obtain ⟨q, n, A, cc, hq, rfl, rfl, HR⟩ := hrel
        have few := HFEW.out
        by_cases hlt : q < (openL x).length
        · obtain ⟨g2, rfl, hcell⟩ := own_cell (own_below HO4.out HR.out.far) hlt
          have i2 : (q : Int) < ((openL x).length : Int) := by omega
          have HL := Lib.hid hlt
          by_cases hm : m ≤ (openL x)[q]'hlt
          · obtain ⟨A2, n2, c2, w5, hap, hR2⟩ := HR.out.more hlt (decide_eq_true hm) few
            have HR2 := Lib.hid hR2
            generalize (openL x)[q]'hlt = y at *
            clear hR2 hlt
            go_wp2
            go_roundw
            case rel => exact ⟨q + 1, n2, A2, c2, HL.out, by go_num, rfl, HR2⟩
            case measure => have := HL.out; simp [intOf]; omega
          · have HR2 := Lib.hid (HR.out.skip hlt (decide_eq_false hm))
            generalize (openL x)[q]'hlt = y at *
            clear hlt
            go_wp2
            go_roundw
            case rel => exact ⟨q + 1, n, A, cc, HL.out, by go_num, rfl, HR2⟩
            case measure => have := HL.out; simp [intOf]; omega
        · obtain rfl : q = (openL x).length := by omega
          obtain ⟨h1, h2, ⟨v3, h3⟩, h4⟩ := skip_ends HP2.out HI.out HPI.out HEP.out HD.out HE.out HB4.out HG4.out HBS4.out HR.out
          have H1 := Lib.hid h1
          have H2' := Lib.hid ((DFrame.of_below HB2.out).trans h2)
          clear h1 h2
          go_wp2
          go_ret
          exact ⟨rfl, H1.out, H2'.out⟩
end Go.Proofs.YtojgmdagamdcfaaGreatDoor
