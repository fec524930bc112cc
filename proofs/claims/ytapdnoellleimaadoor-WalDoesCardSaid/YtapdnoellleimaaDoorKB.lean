/-
  Words for memory that the proofs of this place share: a block known whole, a slice that reads as a list of cells, bytes as cells. No function of the program is named here.
  Plain facts on bytes and numbers: what a list of bytes is as a number, the highest first. No program, no memory.
-/
import Derived.WalkKit
import Derived.Deep.AppendSrc
import Derived.Deep.AppendLies
import Derived.Deep.Draws
import Derived.Deep.MidRow
import Derived.Laws.CopyOwn
import Derived.Laws.BitsAllLaws
import Derived.Laws.BitsLemmas
import Derived.RowKit
namespace Go.Proofs.YtapdnoellleimaaDoor
open Go.RowKit

/-- Block g holds just these cells, of element type t; none is frozen. -/
def Box (w : World) (g : Nat) (t : TypeId) (cs : Array Value) : Prop := w.heap[g]? = some (.cells cs t (0, 0))

theorem Box.lt {w : World} {g : Nat} {t : TypeId} {cs : Array Value} (h : Box w g t cs) : g < w.heap.size := by
  unfold Box at h
  exact (Array.getElem?_eq_some_iff.1 h).1
theorem Box.cell {w : World} {g : Nat} {t : TypeId} {cs : Array Value} (h : Box w g t cs) (i : Nat) : w.cell? ⟨g, i, none⟩ = cs[i]? := cell_of_row w g i cs t (0, 0) h
theorem Box.free {w : World} {g : Nat} {t : TypeId} {cs : Array Value} (h : Box w g t cs) (i : Nat) : w.frozen? ⟨g, i, none⟩ = false := frozen_of_row w g i cs t h
theorem Box.made (w : World) (t : TypeId) (cs : Array Value) : Box (w.alloc (.cells cs t)) w.heap.size t cs := heap_alloc_new w _
theorem Box.drew {w : World} {g : Nat} {t : TypeId} {cs : Array Value} (h : Box w g t cs) : Box w.drew g t cs := h
theorem Box.alloc {w : World} {g : Nat} {t : TypeId} {cs : Array Value} (h : Box w g t cs) (o : Obj) : Box (w.alloc o) g t cs := (Below.heap_alloc w o g h.lt).trans h
theorem Box.put {w : World} {g : Nat} {t : TypeId} {cs : Array Value} (h : Box w g t cs) (i : Nat) (u : Value) : Box (w.setCell ⟨g, i, none⟩ u) g t (cs.setIfInBounds i u) := by
  unfold Box at h ⊢
  rw [heap_setCell_same w g i cs t u h]
theorem Box.aside {w : World} {g : Nat} {t : TypeId} {cs : Array Value} (h : Box w g t cs) {p : Addr} (hp : g ≠ p.block) (u : Value) : Box (w.setCell p u) g t cs := (heap_setCell_other w p g u hp).trans h
theorem Box.below {w w' : World} {B g : Nat} {t : TypeId} {cs : Array Value} (h : Box w g t cs) (hb : Below B w w') (hg : g < B) : Box w' g t cs := (hb.block g hg).trans h
theorem Box.grown {w w' : World} {row : Option Nat} {g : Nat} {t : TypeId} {cs : Array Value} (h : Box w g t cs) (hb : w.grownBy w' row) (hg : some g ≠ row) : Box w' g t cs := (hb.block g h.lt hg).trans h
theorem Box.apart {w : World} {g g' : Nat} {t t' : TypeId} {cs cs' : Array Value} (h : Box w g t cs) (h' : Box w g' t' cs') (hne : t ≠ t') : g ≠ g' := by
  intro e
  subst e
  unfold Box at h h'
  rw [h] at h'
  simp at h'
  exact hne h'.2
theorem Box.own_ne {w : World} {g : Nat} {t : TypeId} {cs : Array Value} {base : Nat} {e : TypeId} {size n : Nat} {v : Value} {xs : List Value} (hg : Box w g t cs) (h : w.ownsRow base e size v n xs) (hne : e ≠ t) : v.ownBlock ≠ some g := by
  rcases h.2 with ⟨rfl, _⟩ | ⟨g', cap, cur, rfl, _, hh, _⟩
  · simp [Value.ownBlock]
  · intro he
    have e1 : g' = g := by simpa [Value.ownBlock] using he
    subst e1
    exact Box.apart (t := e) hh hg hne rfl

/-- Only one block, and what is new, has turned: steps that the library's word lacks. -/
theorem only_refl (w : World) (row : Option Nat) : w.grownBy w row := ⟨rfl, rfl, rfl, Nat.le_refl _, fun _ _ _ => rfl⟩
theorem only_trans {a b c : World} {row : Option Nat} (h : a.grownBy b row) (k : b.grownBy c row) : a.grownBy c row :=
  ⟨k.os.trans h.os, k.tape.trans h.tape, k.output.trans h.output, Nat.le_trans h.size k.size, fun i hi hn => (k.block i (Nat.lt_of_lt_of_le hi h.size) hn).trans (h.block i hi hn)⟩
theorem only_put {a w : World} {g : Nat} (h : a.grownBy w (some g)) (i : Nat) (u : Value) : a.grownBy (w.setCell ⟨g, i, none⟩ u) (some g) :=
  only_trans h ⟨rfl, rfl, rfl, by simp [World.setCell], fun k _ hn => heap_setCell_other w _ k u (fun e => hn (by rw [e]))⟩
theorem only_made {a w : World} {row : Option Nat} (h : a.grownBy w row) (o : Obj) : a.grownBy (w.alloc o) row := only_trans h (World.grownBy_alloc w o row)
theorem only_drew {a w : World} {row : Option Nat} (h : a.grownBy w row) : a.grownBy w.drew row := ⟨h.os, h.tape, h.output, h.size, h.block⟩
theorem only_new {a b c : World} {row : Option Nat} {g : Nat} (h : a.grownBy b row) (k : b.grownBy c (some g)) (hg : a.heap.size ≤ g) : a.grownBy c row :=
  ⟨k.os.trans h.os, k.tape.trans h.tape, k.output.trans h.output, Nat.le_trans h.size k.size, fun i hi hn => (k.block i (Nat.lt_of_lt_of_le hi h.size) (fun e => by injection e with e; omega)).trans (h.block i hi hn)⟩
theorem only_below {a b : World} (h : Below a.heap.size a b) (row : Option Nat) : a.grownBy b row := ⟨h.os, h.tape, h.output, h.size, fun i hi _ => h.block i hi⟩
theorem below_only {B g : Nat} {w w' : World} (h : w.grownBy w' (some g)) (hB : B ≤ g) (hs : B ≤ w.heap.size) : Below B w w' := (Below.refl B w).grown h hs (fun k e => by cases e; exact hB)

/-- A slice whose address is A reads as the cells xs, below block B (nil and empty: whatever the address). -/
def Sees (w : World) (B : Nat) (A : Option Addr) (xs : List Value) : Prop :=
  xs = [] ∨ ∃ g o, A = some ⟨g, o, none⟩ ∧ g < B ∧ ∀ j u, xs[j]? = some u → w.cell? ⟨g, o + j, none⟩ = some u

theorem Sees.empty (w : World) (B : Nat) (A : Option Addr) : Sees w B A [] := .inl rfl
theorem Sees.at_ {w : World} {B : Nat} {A : Option Addr} {xs : List Value} (h : Sees w B A xs) {k : Nat} (hk : k < xs.length) :
    ∃ g o, A = some ⟨g, o, none⟩ ∧ g < B ∧ w.cell? ⟨g, o + k, none⟩ = some xs[k] := by
  rcases h with rfl | ⟨g, o, e, hg, hc⟩
  · simp at hk
  · exact ⟨g, o, e, hg, hc k _ (List.getElem?_eq_getElem hk)⟩
theorem Sees.keep {w w' : World} {B : Nat} {A : Option Addr} {xs : List Value} (h : Sees w B A xs) (hk : ∀ p : Addr, p.block < B → w'.cell? p = w.cell? p) : Sees w' B A xs := by
  rcases h with h | ⟨g, o, e, hg, hc⟩
  · exact .inl h
  · exact .inr ⟨g, o, e, hg, fun j u hu => (hk _ hg).trans (hc j u hu)⟩
theorem Sees.more {w : World} {B B' : Nat} {A : Option Addr} {xs : List Value} (h : Sees w B A xs) (hB : B ≤ B') : Sees w B' A xs := by
  rcases h with h | ⟨g, o, e, hg, hc⟩
  · exact .inl h
  · exact .inr ⟨g, o, e, Nat.lt_of_lt_of_le hg hB, hc⟩
theorem Sees.below {w w' : World} {B : Nat} {A : Option Addr} {xs : List Value} (h : Sees w B A xs) (hb : Below B w w') : Sees w' B A xs := h.keep fun _ hp => hb.cell hp
theorem Sees.grown {w w' : World} {B g : Nat} {A : Option Addr} {xs : List Value} (h : Sees w B A xs) (hb : w.grownBy w' (some g)) (hB : B ≤ w.heap.size) (hg : B ≤ g) : Sees w' B A xs := h.below (below_only hb hg hB)
theorem Sees.cut {w : World} {B : Nat} {A : Option Addr} {xs : List Value} (h : Sees w B A xs) {k cap : Nat} (hc : xs.length ≤ cap) (hk : k ≤ xs.length) :
    Sees w B (if cap = k then A else A.map (·.add k)) (xs.drop k) := by
  rcases Nat.lt_or_ge k xs.length with hlt | hge
  · rcases h with rfl | ⟨g, o, rfl, hg, hcell⟩
    · simp at hlt
    · rw [if_neg (by omega)]
      refine .inr ⟨g, o + k, ?_, hg, fun j u hu => ?_⟩
      · simp only [Option.map_some, Addr.add]
        split <;> simp_all
      · rw [List.getElem?_drop] at hu
        rw [Nat.add_assoc]
        exact hcell _ u hu
  · exact .inl (by rw [List.drop_eq_nil_iff]; exact hge)
theorem Sees.take {w : World} {B : Nat} {A : Option Addr} {xs : List Value} (h : Sees w B A xs) (k : Nat) : Sees w B A (xs.take k) := by
  rcases h with rfl | ⟨g, o, e, hg, hc⟩
  · exact .inl (by simp)
  · refine .inr ⟨g, o, e, hg, fun j u hu => hc j u ?_⟩
    rw [List.getElem?_take] at hu
    split at hu
    · exact hu
    · cases hu
theorem Sees.of_own {w : World} {base : Nat} {e : TypeId} {c n : Nat} {A : Option Addr} {xs : List Value} (h : w.ownsRow base e 1 (.slice A n c) n xs) : Sees w w.heap.size A xs := by
  rcases Nat.eq_zero_or_pos n with hn | hn
  · subst hn
    exact .inl (List.eq_nil_of_length_eq_zero (by simpa using h.1))
  · obtain ⟨g, cap, hv, _, hlt⟩ := h.form hn
    have hA : A = some ⟨g, 0, none⟩ := by injection hv
    subst hA
    refine .inr ⟨g, 0, rfl, hlt, fun j u hu => ?_⟩
    have := h.cells (g := g) rfl j u hu
    have e2 : (⟨g, 0, none⟩ : Addr).add j = ⟨g, 0 + j, none⟩ := by unfold Addr.add; split <;> simp_all
    rwa [e2] at this
theorem Sees.of_box {w : World} {g : Nat} {t : TypeId} {cs : Array Value} (h : Box w g t cs) {B : Nat} (hB : g < B) : Sees w B (some ⟨g, 0, none⟩) cs.toList :=
  .inr ⟨g, 0, rfl, hB, fun j u hu => by rw [Nat.zero_add, h.cell]; simpa using hu⟩

/-- A byte as a cell, bytes as cells. -/
def bv (b : UInt8) : Value := .int .u8 (b.toNat : Int)
theorem bv_one (l : List UInt8) : ∀ u ∈ l.map bv, u.oneCell' = true := by
  intro u hu
  obtain ⟨b, _, rfl⟩ := List.mem_map.1 hu
  rfl
theorem ret_val {a b : Value} (h : a = b) : Ending.returned a = .returned b := by rw [h]
theorem byteCells_bv (s : ByteArray) : byteCells s = s.data.toList.map bv := rfl
/-- A string of bytes. -/
abbrev str (l : List UInt8) : Value := .string ⟨l.toArray⟩

/-- A scope with one label to which the run may jump ahead, and behind which it jumps no more: at the goto, walk what stands behind the label. -/
theorem wp_scope_ahead {P : Program} {a : Act} {w : World} {Q : Exit → Act → World → Prop} {c rest : Code} (l : Nat) (hf : findLabel c l = some rest)
    (first : c.wp P (Exit.jump l (fun a w => rest.wp P (Exit.noGoto Q) a w) Q) a w) : (Code.scope c).wp P Q a w :=
  wp_scope_jumps l (fun a w => rest.wp P (Exit.noGoto Q) a w) (fun _ _ => 0) hf first fun _ _ h =>
    Code.wp_mono (fun e _ _ hq => by
      cases e <;> first | exact hq | exact hq.elim) h

theorem plain_add (g o j : Nat) : (⟨g, o, none⟩ : Addr).add j = ⟨g, o + j, none⟩ := by unfold Addr.add; split <;> simp_all

/-- string(b) of a slice of bytes that is seen. -/
theorem convert_sees {P : Program} {w : World} {B : Nat} {A : Option Addr} {l : List UInt8} (src e dst : TypeId) (hs : P.underlying src = some (.slice e)) (he : P.underlying e = some (.int .u8)) (hd : P.underlying dst = some .string)
    (h : Sees w B A (l.map bv)) (c : Nat) : (convert src dst (.slice A l.length c)).run P w = .ok (str l) w := by
  rcases A with _ | ad
  · have hl : l = [] := by
      rcases h with h | ⟨g, o, e, _⟩
      · simpa using h
      · cases e
    subst hl
    exact run_convert_bytes_nil w src e hs he _ c dst hd
  · have hc : ∀ j v, (l.map bv)[j]? = some v → w.cell? (ad.add j) = some v := by
      intro j v hj
      rcases h with h | ⟨g, o, e, _, hc⟩
      · rw [h] at hj; cases hj
      · injection e with e
        subst e
        rw [plain_add]
        exact hc j v hj
    have hload := run_loadCells_list (P := P) w ad (l.map bv) hc
    have hb := run_bytesToString (P := P) w ad l.length c (l.map fun b => (b.toNat : Int)) (by
      rw [List.length_map] at hload
      rw [hload, List.map_map]
      rfl)
    rw [run_convert_bytes_string w src dst e _ _ c hs he hd, hb, foldl_push_bytes]
    unfold str
    simp [ByteArray.empty, ByteArray.emptyWithCapacity, Function.comp_def]
    rfl

/-- Stores over a whole block, one cell behind the other. -/
theorem Box.cells_at {g : Nat} {t : TypeId} : ∀ (vs : List Value) (o : Nat) (w : World) (cs : Array Value), Box w g t cs → o + vs.length ≤ cs.size →
    ∃ cs', Box (w.setCells g o vs) g t cs' ∧ cs'.size = cs.size ∧ (∀ j, j < o → cs'[j]? = cs[j]?) ∧ (∀ j, j < vs.length → cs'[o + j]? = vs[j]?) ∧ (∀ j, o + vs.length ≤ j → cs'[j]? = cs[j]?)
  | [], o, w, cs, h, _ => ⟨cs, h, rfl, fun _ _ => rfl, fun j hj => by simp at hj, fun _ _ => rfl⟩
  | v :: r, o, w, cs, h, hl => by
    simp only [List.length_cons] at hl
    obtain ⟨cs', hb, hs, h1, h2, h3⟩ := Box.cells_at r (o + 1) (w.setCell ⟨g, o, none⟩ v) _ (h.put o v) (by simp; omega)
    refine ⟨cs', hb, by simpa using hs, fun j hj => ?_, fun j hj => ?_, fun j hj => ?_⟩
    · rw [h1 j (by omega), Array.getElem?_setIfInBounds, if_neg (by omega)]
    · cases j with
      | zero =>
        rw [Nat.add_zero, h1 o (by omega), Array.getElem?_setIfInBounds, if_pos rfl, if_pos (by omega)]
        rfl
      | succ j =>
        have := h2 j (by simpa using hj)
        rw [show o + 1 + j = o + (j + 1) from by omega] at this
        rw [this]
        rfl
    · simp only [List.length_cons] at hj
      rw [h3 j (by omega), Array.getElem?_setIfInBounds, if_neg (by omega)]
theorem Box.cells_all {w : World} {g : Nat} {t : TypeId} {cs : Array Value} (h : Box w g t cs) (vs : Array Value) (hl : vs.size = cs.size) : Box (w.setCells g 0 vs.toList) g t vs := by
  obtain ⟨cs', hb, hs, _, h2, _⟩ := Box.cells_at vs.toList 0 w cs h (by simp [hl])
  have e : cs' = vs := by
    apply Array.ext_getElem?
    intro j
    rcases Nat.lt_or_ge j vs.size with hj | hj
    · have := h2 j (by simpa using hj)
      simpa using this
    · rw [Array.getElem?_eq_none (by omega), Array.getElem?_eq_none hj]
  rw [e] at hb
  exact hb
theorem only_cells {g : Nat} : ∀ (vs : List Value) (o : Nat) (w : World), w.grownBy (w.setCells g o vs) (some g)
  | [], _, w => only_refl w _
  | v :: r, o, w => only_trans (only_put (only_refl w _) o v) (only_cells r (o + 1) _)

/-- A whole array, or struct, stored over a block that is known whole: for the walk. -/
theorem wpList_store_box {P : Program} {ops : Array Oper} {rest : List Oper} {op : Oper} {a : Act} {w : World} {Q : Exit → Act → World → Prop} (hgd : op.guard = none) (ty : TypeId) (x y : Operand) (ho : op.op = .store ty x y)
    (g : Nat) (vs : Array Value) (hx : a.eval x = .pointer (some ⟨g, 0, none⟩)) (hy : a.eval y = .agg vs) (t : TypeId) (cs : Array Value) (hb : Box w g t cs) (hs : vs.size = cs.size)
    (hi : (P.info? ty).map (·.size) = some vs.size) (h1 : ∀ v ∈ vs.toList, v.oneCell' = true)
    (h : ∀ w', Box w' g t vs → w.grownBy w' (some g) → wpList P ops Q rest (a.put op.dst undef) w') : wpList P ops Q (op :: rest) a w :=
  wpList_store_mid hgd ty x y ho g 0 vs hx hy
    (fun j hj => by rw [hb.cell, hb.free, Array.getElem?_eq_getElem (by omega)]; exact ⟨rfl, rfl⟩) hi
    (by have := all_oneCell_toArray h1; simpa using this)
    (h _ (hb.cells_all vs hs) (only_cells _ _ _))

/-- copy into the head of a block that is known whole, from a slice that is seen: for the walk. -/
theorem wpList_copy_box {P : Program} {w : World} {ops : Array Oper} {rest : List Oper} {o : Oper} {a : Act} {Q : Exit → Act → World → Prop} (hgd : o.guard = none) (d s : Operand) (dT sT : TypeId)
    (ho : o.op = .call { callee := .builtin .copy, args := #[d, s], argTypes := #[dT, sT] }) (elem : TypeId) (hu : P.underlying dT = some (.slice elem)) (hsz : (P.info? elem).map (·.size) = some 1)
    (g dl dCap : Nat) (cur : List Value) (hdl : cur.length = dl) (t : TypeId) (hb : Box w g t cur.toArray) (B : Nat) (A : Option Addr) (n c : Nat) (xs : List Value) (hd : a.eval d = .slice (some ⟨g, 0, none⟩) dl dCap) (hs : a.eval s = .slice A n c)
    (hx : Sees w B A xs) (hn : xs.length = n) (hle : n ≤ cur.length) (h1 : ∀ v ∈ xs, v.oneCell' = true)
    (h : ∀ w', Box w' g t (xs ++ cur.drop n).toArray → w.grownBy w' (some g) → wpList P ops Q rest (a.put o.dst (goInt n)) w') : wpList P ops Q (o :: rest) a w := by
  subst hn
  subst hdl
  rcases hx with rfl | ⟨g', o', rfl, _, hc⟩
  · refine wpList_copy_nothing hgd d s dT sT ho elem hu hsz _ A _ dCap _ c hd hs (Nat.zero_min _) ?_
    exact h w (by simpa using hb) (only_refl _ _)
  · refine wpList_copy_own hgd d s dT sT ho elem hu hsz g 0 _ dCap ⟨g', o', none⟩ xs.length c hd hs cur.toArray t hb xs (Nat.min_eq_left hle).symm (fun j v hj => by rw [plain_add]; exact hc j v hj) (by simpa using hle) h1 ?_
    refine h _ ?_ ⟨rfl, rfl, rfl, by simp [World.setRow], fun k _ hk => setRow_other w g k _ (fun e => hk (by rw [e]))⟩
    have := setRow_heap w g cur.toArray (cur.toArray.toList.take 0 ++ (xs ++ cur.toArray.toList.drop (0 + xs.length))).toArray t (0, 0) hb
    simpa [Box] using this

/-- A bare return in the middle of a body without results. -/
theorem results_none {fn : Func} (h : fn.results = #[]) (tmps : Array Value) (P : Program) (w : World) : (results fn tmps).run P w = .ok (.tuple #[]) w := by simp [results, h]

/-- append(b, s...) of a string onto a row of bytes that is owned, and holds something. -/
theorem run_append_str {P : Program} (w : World) (base : Nat) (t tx ty e : TypeId) (i : TypeInfo) (z : Value) (ht : P.underlying t = some (.slice e)) (hx : P.underlying tx = some .string) (hi : P.info? e = some i) (hz : i.zero = some z)
    (hsize : i.size = 1) (hby : i.bytes = 1) (hzs : z.cells.size = 1) (g cap n : Nat) (xs : List Value) (hown : w.ownsRow base e 1 (.slice (some ⟨g, 0, none⟩) n cap) n xs) (s : ByteArray)
    (hb : n + s.size ≤ 70368744177664) (hbase : base ≤ w.heap.size) :
    ∃ gg cap' w', (Builtin.append_ #[t, tx] ty #[.slice (some ⟨g, 0, none⟩) n cap, .string s]).run P w = .ok (.slice (some ⟨gg, 0, none⟩) (n + s.size) cap') w' ∧
      w'.ownsRow base e 1 (.slice (some ⟨gg, 0, none⟩) (n + s.size) cap') (n + s.size) (xs ++ byteCells s) ∧ w.grownBy w' (some g) ∧ (gg = g ∨ gg = w.heap.size) := by
  have hsrc : _root_.Go.Src P i.size tx (.string s) s.size (byteCells s) w := by rw [hsize]; exact Src.ofString w hx s
  have hbl := byteCells_length s
  rcases hown.2 with ⟨h, _⟩ | ⟨g', cap', cur, hv, hbg, hg, hnc, hcm, hcs, htake⟩
  · cases h
  · injection hv with e1 e2 e3
    injection e1 with e1
    injection e1 with e1
    subst e1
    subst e3
    have hbox : Box w g e cur := hg
    have hlen : xs.length = n := by have := hown.1; omega
    have hcur : ∀ j, j < n → cur[j]? = xs[j]? := by
      intro j hj
      rw [← htake, List.getElem?_take, if_pos (by omega)]
      simp
    by_cases hroom : n + s.size ≤ cap
    · have hr := run_append_room_src (P := P) w t tx ty e i ht hi g 0 n cap (.string s) s.size (byteCells s) hsrc hroom
        (fun j hj => by rw [hbox.cell, hsize, Array.getElem?_eq_getElem (by omega)]; rfl) (fun j _ => hbox.free _)
      have e0 : 0 + n * i.size = n := by rw [hsize]; omega
      rw [e0] at hr
      obtain ⟨cs', hb', hs', h1, h2, _⟩ := Box.cells_at (byteCells s) n w cur hbox (by omega)
      refine ⟨g, cap, _, hr, ⟨by rw [List.length_append, hlen, hbl]; omega, .inr ⟨g, cap, cs', rfl, hbg, hb', hroom, hcm, by omega, ?_⟩⟩, only_cells _ _ _, .inl rfl⟩
      apply List.ext_getElem?
      intro j
      rw [List.getElem?_take]
      by_cases hj : j < n
      · rw [if_pos (by omega), List.getElem?_append_left (by omega), Array.getElem?_toList, h1 j hj, hcur j hj]
      · by_cases hj2 : j < n + s.size
        · rw [if_pos (by omega), List.getElem?_append_right (by omega), Array.getElem?_toList]
          have := h2 (j - n) (by omega)
          rw [show n + (j - n) = j from by omega] at this
          rw [this, hlen]
        · rw [if_neg (by omega), List.getElem?_eq_none (by rw [List.length_append, hlen, hbl]; omega)]
    · have hold : (Builtin.firstCells i.size n (.slice (some ⟨g, 0, none⟩) n cap)).run P w.drew = .ok xs.toArray w.drew :=
        run_firstCells_some w.drew i.size n ⟨g, 0, none⟩ n cap xs (by rw [hlen, hsize]; omega) (fun j u hu => by
          have hj : j < n := by
            rcases Nat.lt_or_ge j xs.length with h | h
            · omega
            · rw [List.getElem?_eq_none h] at hu; cases hu
          rw [plain_add, Nat.zero_add]
          show w.cell? _ = _
          rw [hbox.cell, hcur j hj, hu])
      have hfit : Builtin.nextslicecap (n + s.size) cap * i.bytes ≤ 281474976710656 := growslice_fits (by omega) (by rw [hby]; omega)
      have hr := run_append_grow_src (P := P) w t tx ty e i z ht hi hz (some ⟨g, 0, none⟩) n cap xs hold (.string s) s.size (byteCells s) hsrc (by omega) (by omega) hfit
      have hge := grownCap_ge w (n + s.size) cap e
      have hle := grownCap_le_maxLen w (n + s.size) cap e (by unfold maxLen; omega)
      refine ⟨w.heap.size, _, _, hr, ⟨by rw [List.length_append, hlen, hbl]; omega, .inr ⟨w.heap.size, _, _, rfl, hbase, heap_alloc_new w.drew _, hge, hle, ?_, ?_⟩⟩, ⟨rfl, rfl, rfl, by simp, fun k hk _ => Below.heap_alloc w.drew _ k hk⟩, .inr rfl⟩
      · simp only [Array.size_append, List.size_toArray, List.length_append, size_zeroCells, hzs, hlen, hbl]
        omega
      · rw [Array.toList_append, List.toList_toArray, List.take_append_of_le_length (by rw [List.length_append, hlen, hbl]; omega), List.take_of_length_le (by rw [List.length_append, hlen, hbl]; omega)]

/-- The same at the operation, for the walk. -/
theorem wpList_append_str {P : Program} {w : World} {ops : Array Oper} {rest : List Oper} {o : Oper} {a : Act} {Q : Exit → Act → World → Prop} (hgd : o.guard = none) (s x : Operand) (t tx : TypeId)
    (ho : o.op = .call { callee := .builtin .append, args := #[s, x], argTypes := #[t, tx] }) (base : Nat) (e : TypeId) (i : TypeInfo) (z : Value) (ht : P.underlying t = some (.slice e)) (htx : P.underlying tx = some .string) (hi : P.info? e = some i) (hz : i.zero = some z)
    (hsize : i.size = 1) (hby : i.bytes = 1) (hzs : z.cells.size = 1) (g cap n : Nat) (xs : List Value) (hs : a.eval s = .slice (some ⟨g, 0, none⟩) n cap) (hown : w.ownsRow base e 1 (.slice (some ⟨g, 0, none⟩) n cap) n xs) (str : ByteArray) (hx : a.eval x = .string str)
    (hb : n + str.size ≤ 70368744177664) (hbase : base ≤ w.heap.size)
    (h : ∀ gg cap' w', w'.ownsRow base e 1 (.slice (some ⟨gg, 0, none⟩) (n + str.size) cap') (n + str.size) (xs ++ byteCells str) → w.grownBy w' (some g) → (gg = g ∨ gg = w.heap.size) → wpList P ops Q rest (a.put o.dst (.slice (some ⟨gg, 0, none⟩) (n + str.size) cap')) w') :
    wpList P ops Q (o :: rest) a w := by
  obtain ⟨gg, cap', w', hr, h2, h3, h4⟩ := run_append_str (P := P) w base t tx o.type e i z ht htx hi hz hsize hby hzs g cap n xs hown str hb hbase
  refine wpList_plain hgd fun K hK => ?_
  unfold Oper.wp execOp
  simp only [ho, resolve, invoke, builtin, Sem.run_bind, Sem.run_pure, Result.andThen_ok, List.map_toArray, List.map_cons, List.map_nil, hs, hx, hr]
  exact hK _ _ (h gg cap' w' h2 h3 h4)

/-- What the walk leaves of a slice literal that holds one whole array. -/
theorem fold_set : ∀ (l : List Value) (n : Nat) (cs : Array Value), n + l.length = cs.size → ((l.zipIdx n).foldl (fun cs x => cs.setIfInBounds x.2 x.1) cs).toList = cs.toList.take n ++ l
  | [], n, cs, h => by
    have e : cs.toList.take n = cs.toList := List.take_of_length_le (by simp at h; simp; omega)
    simp [e]
  | v :: r, n, cs, h => by
    simp only [List.length_cons] at h
    rw [List.zipIdx_cons, List.foldl_cons, fold_set r (n + 1) _ (by simp; omega)]
    have hn : n < cs.toList.length := by simp; omega
    rw [Array.toList_setIfInBounds, List.take_succ_eq_append_getElem (by simpa using hn), List.getElem_set_self, List.take_set_of_le (Nat.le_refl n), List.append_assoc]
    rfl
theorem fold_whole (l : List Value) (cs : Array Value) (h : l.length = cs.size) : (l.zipIdx).foldl (fun cs x => cs.setIfInBounds x.2 x.1) cs = l.toArray := by
  apply Array.ext'
  rw [fold_set l 0 cs (by omega)]
  simp
end Go.Proofs.YtapdnoellleimaaDoor

namespace Go.Proofs.YtapdnoellleimaaDoor
open Go.RowKit

/-- The number of bytes, the highest first. -/
def beNat (l : List UInt8) : Nat := l.foldl (fun n b => n * 256 + b.toNat) 0
theorem beNat_snoc (l : List UInt8) (b : UInt8) : beNat (l ++ [b]) = beNat l * 256 + b.toNat := by simp [beNat]
theorem beNat_nil : beNat [] = 0 := rfl
theorem beNat_lt : ∀ (n : Nat) (l : List UInt8), l.length = n → beNat l < 256 ^ n := by
  intro n
  induction n with
  | zero => intro l hl; rw [List.eq_nil_of_length_eq_zero hl]; decide
  | succ n ih =>
    intro l hl
    have hne : l ≠ [] := by intro h; rw [h] at hl; simp at hl
    have e := List.dropLast_concat_getLast hne
    rw [← e, beNat_snoc]
    have h1 := ih l.dropLast (by simp [hl])
    have h2 : (l.getLast hne).toNat < 256 := UInt8.toNat_lt _
    rw [Nat.pow_succ]
    omega
theorem beNat_lt7 (l : List UInt8) (h : l.length ≤ 7) : beNat l < 72057594037927936 :=
  Nat.lt_of_lt_of_le (beNat_lt _ l rfl) (Nat.le_trans (Nat.pow_le_pow_right (by decide) h) (by decide))
theorem beNat_lt8 (l : List UInt8) (h : l.length ≤ 8) : beNat l < 18446744073709551616 :=
  Nat.lt_of_lt_of_le (beNat_lt _ l rfl) (Nat.le_trans (Nat.pow_le_pow_right (by decide) h) (by decide))
theorem beNat_lt4 (l : List UInt8) (h : l.length ≤ 4) : beNat l < 4294967296 :=
  Nat.lt_of_lt_of_le (beNat_lt _ l rfl) (Nat.le_trans (Nat.pow_le_pow_right (by decide) h) (by decide))
theorem beNat_lt3 (l : List UInt8) (h : l.length ≤ 3) : beNat l < 16777216 :=
  Nat.lt_of_lt_of_le (beNat_lt _ l rfl) (Nat.le_trans (Nat.pow_le_pow_right (by decide) h) (by decide))
theorem take_snoc' {α : Type} (l : List α) (k : Nat) (h : k < l.length) : l.take (k + 1) = l.take k ++ [l[k]] := by
  rw [List.take_succ_eq_append_getElem h]

/-- 'n<<8 | c' of words that have room. -/
theorem or_u64 (a b : Nat) (ha : a < 72057594037927936) (hb : b < 256) : bits .or .u64 ((a : Int) * 256) (b : Int) = (a : Int) * 256 + b := by
  rw [u64_or _ _ (by omega) (by omega) (by omega) (by omega)]
  have e1 : ((a : Int) * 256).toNat = a * 256 := by omega
  have e2 : ((b : Int)).toNat = b := by omega
  rw [e1, e2, nat_join 8 (a * 256) b (by omega) (by omega)]
  omega
theorem ofInt_wrap_i64 (x : Int) : BitVec.ofInt 64 (IntKind.i64.wrap x) = BitVec.ofInt 64 x := by
  rw [IntKind.wrap_i64]
  apply BitVec.eq_of_toInt_eq
  rw [BitVec.toInt_ofInt, BitVec.toInt_ofInt]
  simp only [Int.bmod_def]
  omega
/-- The same on a signed word: the highest byte may make it negative. -/
theorem or_i64 (a b : Nat) (ha : a < 72057594037927936) (hb : b < 256) : bits .or .i64 (IntKind.i64.wrap ((a : Int) * 256)) (b : Int) = IntKind.i64.wrap ((a : Int) * 256 + b) := by
  show IntKind.i64.wrap ((BitVec.ofInt 64 (IntKind.i64.wrap ((a : Int) * 256)) ||| BitVec.ofInt 64 (b : Int)).toNat : Int) = _
  have e : ((a * 256 : Nat) : Int) = (a : Int) * 256 := by omega
  rw [ofInt_wrap_i64, ← e, BitVec.toNat_or, ofInt_u64 _ (by omega), ofInt_u64 _ (by omega), nat_join 8 (a * 256) b (by omega) (by omega)]
  congr 1

/-- The lowest k bytes of a number, the highest of them first. -/
def beBytes : Nat → Nat → List UInt8
  | 0, _ => []
  | k + 1, n => UInt8.ofNat (n / 256 ^ k) :: beBytes k n
theorem beBytes_length : ∀ (k n : Nat), (beBytes k n).length = k
  | 0, _ => rfl
  | k + 1, n => by rw [beBytes, List.length_cons, beBytes_length k n]

/-- The byte that 'byte(n >> 8j)' is. -/
theorem put_byte (n j : Nat) (S : Int) (hS : S = 8 * ((j + 1 : Nat) : Int) - 8) : IntKind.u8.wrap ((n : Int) / 2 ^ S.toNat) = ((UInt8.ofNat (n / 256 ^ j)).toNat : Int) := by
  have e : S.toNat = 8 * j := by omega
  have e2 : (2 : Int) ^ (8 * j) = ((256 ^ j : Nat) : Int) := by
    rw [show (256 : Nat) = 2 ^ 8 from rfl, ← Nat.pow_mul, Int.natCast_pow]
    rfl
  rw [e, IntKind.wrap_u8', UInt8.toNat_ofNat', e2]
  rfl
theorem beBytes_step (done : List UInt8) (j n k : Nat) (h : done ++ beBytes (j + 1) n = beBytes k n) : (done ++ [UInt8.ofNat (n / 256 ^ j)]) ++ beBytes j n = beBytes k n := by
  rw [← h, beBytes]
  simp
end Go.Proofs.YtapdnoellleimaaDoor
