/-
  Votes in memory: their cells, what is loaded, stored and returned; lists of digests cloned.
  Votes whose lists lie in blocks of their own; one vote more onto a row of them.
-/
import Derived.Test.YtbclepdcngaonaaGreatDoorRX
import Derived.Test.YtbclepdcngaonaaGreatDoorNB
import Derived.Test.YtbclepdcngaonaaGreatDoorOC
import Derived.Maps.AppendAt
namespace Go.Proofs.YtbclepdcngaonaaGreatDoor
open Go.RowKit Go.Maps

/-- A vote. -/
structure VtX where
  kind : Int
  epoch : Int
  height : Int
  round : Int
  dig : List UInt8
  frm : Int
  leaf : Int
  opn : List (List UInt8)
  sht : List (List UInt8)
  pth : List (List UInt8)
  len : dig.length = 32
/-- A vote as memory has it: where its lists lie. -/
structure VtM where
  x : VtX
  A : Option Addr
  a : Nat
  B : Option Addr
  b : Nat
  C : Option Addr
  c : Nat
def vtL (k e h r : Int) (d : List UInt8) (f n : Int) (u v p : Value) : List Value := .int .i64 k :: .int .i64 e :: .int .i64 h :: .int .i64 r :: (d.map bv ++ [.int .i64 f, .int .i64 n, u, v, p])
set_option maxRecDepth 100000 in
theorem vtL_dig (k e h r : Int) (d : List UInt8) (f n : Int) (u v p : Value) : vtL k e h r d f n u v p = [.int .i64 k, .int .i64 e, .int .i64 h, .int .i64 r] ++ (d.map bv ++ [.int .i64 f, .int .i64 n, u, v, p]) := rfl
set_option maxRecDepth 100000 in
theorem vtL_tail (k e h r : Int) (d : List UInt8) (f n : Int) (u v p : Value) : vtL k e h r d f n u v p = (.int .i64 k :: .int .i64 e :: .int .i64 h :: .int .i64 r :: d.map bv) ++ [.int .i64 f, .int .i64 n, u, v, p] := rfl
section
variable {k e h r f n : Int} {d : List UInt8} {u v p : Value}
set_option maxRecDepth 100000 in
theorem vtL_len (hd : d.length = 32) (k e h r f n : Int) (u v p : Value) : (vtL k e h r d f n u v p).length = 41 := by
  unfold vtL
  simp [hd]
set_option maxRecDepth 100000 in
theorem vtL_one (k e h r f n : Int) (d : List UInt8) {u v p : Value} (hu : u.oneCell' = true) (hv : v.oneCell' = true) (hp : p.oneCell' = true) : ∀ z ∈ vtL k e h r d f n u v p, z.oneCell' = true := by
  intro z hz
  unfold vtL at hz
  rcases List.mem_cons.1 hz with rfl | hz
  · rfl
  rcases List.mem_cons.1 hz with rfl | hz
  · rfl
  rcases List.mem_cons.1 hz with rfl | hz
  · rfl
  rcases List.mem_cons.1 hz with rfl | hz
  · rfl
  rcases List.mem_append.1 hz with hz | hz
  · exact bv_one _ z hz
  simp only [List.mem_cons, List.not_mem_nil, or_false] at hz
  rcases hz with rfl | rfl | rfl | rfl | rfl
  · rfl
  · rfl
  · exact hu
  · exact hv
  · exact hp
set_option maxRecDepth 100000 in
theorem vtL_size (hd : d.length = 32) (k e h r f n : Int) (u v p : Value) : (Tryz.prog.info? 74).map (·.size) = some (vtL k e h r d f n u v p).length := by
  rw [vtL_len hd]
  kernel_rfl
end
def VtM.cells (m : VtM) : List Value := vtL m.x.kind m.x.epoch m.x.height m.x.round m.x.dig m.x.frm m.x.leaf (.slice m.A m.x.opn.length m.a) (.slice m.B m.x.sht.length m.b) (.slice m.C m.x.pth.length m.c)
set_option maxRecDepth 100000 in
theorem VtM.cells_len (m : VtM) : m.cells.length = 41 := vtL_len m.x.len _ _ _ _ _ _ _ _ _
set_option maxRecDepth 100000 in
theorem VtM.cells_one (m : VtM) : ∀ v ∈ m.cells, v.oneCell' = true := vtL_one _ _ _ _ _ _ _ rfl rfl rfl
set_option maxRecDepth 100000 in
theorem VtM.size (m : VtM) : (Tryz.prog.info? 74).map (·.size) = some m.cells.length := vtL_size m.x.len _ _ _ _ _ _ _ _ _
def zvtV : Array Value := #[.int .i64 0, .int .i64 0, .int .i64 0, .int .i64 0, .int .u8 0, .int .u8 0, .int .u8 0, .int .u8 0, .int .u8 0, .int .u8 0, .int .u8 0, .int .u8 0, .int .u8 0, .int .u8 0, .int .u8 0, .int .u8 0, .int .u8 0, .int .u8 0, .int .u8 0, .int .u8 0, .int .u8 0, .int .u8 0, .int .u8 0, .int .u8 0, .int .u8 0, .int .u8 0, .int .u8 0, .int .u8 0, .int .u8 0, .int .u8 0, .int .u8 0, .int .u8 0, .int .u8 0, .int .u8 0, .int .u8 0, .int .u8 0, .int .i64 0, .int .i64 0, .slice none 0 0, .slice none 0 0, .slice none 0 0]
def zvt : VtM := ⟨⟨0, 0, 0, 0, zeros, 0, 0, [], [], [], rfl⟩, none, 0, none, 0, none, 0⟩
set_option maxRecDepth 100000 in
theorem zvt_cells : zvt.cells.toArray = zvtV := rfl
set_option maxRecDepth 100000 in
theorem zvtV_size : zvtV.size = 41 := rfl
set_option maxRecDepth 100000 in
theorem zero_vt (w : World) : (zeroValue 74).run Tryz.prog w = .ok (.agg zvtV) w := by kernel_rfl

noncomputable def ldVt (v : Value) : Sem Value := Instr.loadAt 74 v
set_option maxRecDepth 100000 in
theorem ldVt_def (v : Value) : Instr.loadAt 74 v = ldVt v := rfl
noncomputable def stVt (p v : Value) : Sem Unit := Instr.storeAt 74 p v
set_option maxRecDepth 100000 in
theorem stVt_def (p v : Value) : Instr.storeAt 74 p v = stVt p v := rfl

/-! ### What a vote's cells are -/
section
variable {w : World} {g o : Nat} {t : TypeId} {k e h r f n : Int} {d : List UInt8} {u v p : Value}
set_option maxRecDepth 100000 in
theorem Box.vt_0 (hb : Box w g t (vtL k e h r d f n u v p).toArray) : w.cell? ⟨g, 0, none⟩ = some (.int .i64 k) := by rw [hb.cell, List.getElem?_toArray]; rfl
set_option maxRecDepth 100000 in
theorem Box.vt_1 (hb : Box w g t (vtL k e h r d f n u v p).toArray) : w.cell? ⟨g, 1, none⟩ = some (.int .i64 e) := by rw [hb.cell, List.getElem?_toArray]; rfl
set_option maxRecDepth 100000 in
theorem Box.vt_2 (hb : Box w g t (vtL k e h r d f n u v p).toArray) : w.cell? ⟨g, 2, none⟩ = some (.int .i64 h) := by rw [hb.cell, List.getElem?_toArray]; rfl
set_option maxRecDepth 100000 in
theorem Box.vt_3 (hb : Box w g t (vtL k e h r d f n u v p).toArray) : w.cell? ⟨g, 3, none⟩ = some (.int .i64 r) := by rw [hb.cell, List.getElem?_toArray]; rfl
set_option maxRecDepth 100000 in
theorem Box.vt_dig (hb : Box w g t (vtL k e h r d f n u v p).toArray) : w.rangeAt g 4 (d.map bv) := Box.range_mid (pre := [.int .i64 k, .int .i64 e, .int .i64 h, .int .i64 r]) (post := [.int .i64 f, .int .i64 n, u, v, p]) hb rfl
set_option maxRecDepth 100000 in
theorem Box.vt_tail (hd : d.length = 32) (hb : Box w g t (vtL k e h r d f n u v p).toArray) (j : Nat) : w.cell? ⟨g, 36 + j, none⟩ = [.int .i64 f, .int .i64 n, u, v, p][j]? := by
  rw [hb.cell, List.getElem?_toArray, vtL_tail, List.getElem?_append_right (by simp [hd])]
  congr 1
  simp [hd]
set_option maxRecDepth 100000 in
theorem Box.vt_36 (hd : d.length = 32) (hb : Box w g t (vtL k e h r d f n u v p).toArray) : w.cell? ⟨g, 36, none⟩ = some (.int .i64 f) := hb.vt_tail hd 0
set_option maxRecDepth 100000 in
theorem Box.vt_38 (hd : d.length = 32) (hb : Box w g t (vtL k e h r d f n u v p).toArray) : w.cell? ⟨g, 38, none⟩ = some u := hb.vt_tail hd 2
set_option maxRecDepth 100000 in
theorem Box.vt_39 (hd : d.length = 32) (hb : Box w g t (vtL k e h r d f n u v p).toArray) : w.cell? ⟨g, 39, none⟩ = some v := hb.vt_tail hd 3
set_option maxRecDepth 100000 in
theorem Box.vt_40 (hd : d.length = 32) (hb : Box w g t (vtL k e h r d f n u v p).toArray) : w.cell? ⟨g, 40, none⟩ = some p := hb.vt_tail hd 4
set_option maxRecDepth 100000 in
theorem range_vt (hd : d.length = 32) (hr : w.rangeAt g o (vtL k e h r d f n u v p)) : (ldVt (.pointer (some ⟨g, o, none⟩))).run Tryz.prog w = .ok (.agg (vtL k e h r d f n u v p).toArray) w :=
  run_loadAt_mid (P := Tryz.prog) w g o 74 (vtL k e h r d f n u v p) _ hr Tryz.underlying74 rfl (vtL_size hd k e h r f n u v p)
set_option maxRecDepth 100000 in
theorem Box.ld_vtl (hd : d.length = 32) (hb : Box w g t (vtL k e h r d f n u v p).toArray) : (ldVt (.pointer (some ⟨g, 0, none⟩))).run Tryz.prog w = .ok (.agg (vtL k e h r d f n u v p).toArray) w := range_vt hd hb.range
set_option maxRecDepth 100000 in
theorem Box.ld_vt {m : VtM} (hb : Box w g t m.cells.toArray) : (ldVt (.pointer (some ⟨g, 0, none⟩))).run Tryz.prog w = .ok (.agg m.cells.toArray) w := Box.ld_vtl m.x.len hb
set_option maxRecDepth 100000 in
theorem Box.st_vt {cs : Array Value} (hb : Box w g t cs) (hc : cs.size = 41) (m : VtM) :
    ∃ w', (stVt (.pointer (some ⟨g, 0, none⟩)) (.agg m.cells.toArray)).run Tryz.prog w = .ok () w' ∧ Box w' g t m.cells.toArray ∧ w.grownBy w' (some g) := by
  refine ⟨w.setCells g 0 m.cells, ?_, hb.cells_all m.cells.toArray (by rw [List.size_toArray, m.cells_len, hc]), only_cells (g := g) _ 0 _⟩
  exact run_storeAt_mid (P := Tryz.prog) _ g 0 74 m.cells.toArray (fun j hj => by
    rw [List.size_toArray, m.cells_len] at hj
    rw [hb.cell, hb.free, Array.getElem?_eq_getElem (by omega)]
    exact ⟨rfl, rfl⟩) (by rw [List.size_toArray]; exact m.size) (by have := all_oneCell_toArray m.cells_one; simpa using this)
set_option maxRecDepth 100000 in
theorem laid_vt (w : World) (m : VtM) : ∃ w', (stVt (.pointer (some ⟨w.heap.size, 0, none⟩)) (.agg m.cells.toArray)).run Tryz.prog (w.alloc (.cells zvtV 74)) = .ok () w' ∧ Box w' w.heap.size 74 m.cells.toArray ∧ Below w.heap.size w w' := by
  obtain ⟨w', h1, h2, h3⟩ := (Box.made w 74 zvtV).st_vt zvtV_size m
  exact ⟨w', h1, h2, ((Below.refl _ _).alloc (Nat.le_refl _) _).trans (below_only h3 (Nat.le_refl _) (by simp))⟩
end
set_option maxRecDepth 100000 in
theorem ret_vt {fn : Func} {q : Tmp} (hf : fn.results = #[.cell q 74]) {a : Act} {w : World} {g : Nat} (hq : a.tmps.getD q undef = .pointer (some ⟨g, 0, none⟩)) (hdf : a.defers = []) {t : TypeId} {m : VtM} (hb : Box w g t m.cells.toArray)
    {R : Ending → World → Prop} (hR : R (.returned (.agg m.cells.toArray)) w) : bodyPost Tryz.prog fn R .ret a w :=
  bodyPost_ret (results_cell_row hf _ w g t _ (0, 0) _ hq hb Tryz.underlying74 rfl (by rw [List.size_toArray]; exact m.size)) hdf hR

noncomputable def VtK : EK VtM where
  e := 74
  sl := 33
  k := 41
  bys := 152
  z := .agg zvtV
  enc := VtM.cells
  hk := by decide
  und := Tryz.underlying33
  els := by kernel_rfl
  info := by kernel_rfl
  hzs := rfl
  zone := zvt.cells_one
  len := VtM.cells_len
  one := VtM.cells_one
  hby := by decide

/-- A vote whose lists are seen. -/
structure VSee (w : World) (m : VtM) : Prop where
  opn : Digs w w.heap.size m.A m.x.opn
  sht : Digs w w.heap.size m.B m.x.sht
  pth : Digs w w.heap.size m.C m.x.pth
set_option maxRecDepth 100000 in
theorem VSee.call {w w' : World} {m : VtM} (h : VSee w m) (hb : Below w.heap.size w w') : VSee w' m := ⟨h.opn.far hb, h.sht.far hb, h.pth.far hb⟩
/-- The lists of all votes are seen. -/
def BSee (w : World) (vs : List VtM) : Prop := ∀ m ∈ vs, VSee w m
set_option maxRecDepth 100000 in
theorem BSee.call {w w' : World} {vs : List VtM} (h : BSee w vs) (hb : Below w.heap.size w w') : BSee w' vs := fun m hm => (h m hm).call hb
/-- A vote of few digests. -/
structure VFew (x : VtX) : Prop where
  opn : x.opn.length ≤ 200
  sht : x.sht.length ≤ 200
  pth : x.pth.length ≤ 200

/-- Digests that lie in a block of their own, from B on. -/
def DFresh (B : Nat) (A : Option Addr) (ds : List (List UInt8)) : Prop := ds = [] ∨ ∃ g, A = some ⟨g, 0, none⟩ ∧ B ≤ g
set_option maxRecDepth 100000 in
theorem Digs.fresh_aside {w w' : World} {B r : Nat} {A : Option Addr} {ds : List (List UInt8)} (h : Digs w w.heap.size A ds) (hf : DFresh B A ds) (hg : w.grownBy w' (some r)) (hr : r < B) : Digs w' w'.heap.size A ds := by
  refine ⟨h.1, ?_⟩
  rcases hf with rfl | ⟨g, rfl, hB⟩
  · exact .inl rfl
  · rcases h.2 with h0 | ⟨g', o, e, hlt, hc⟩
    · exact .inl h0
    · injection e with e
      injection e with e1 e2
      subst e1
      subst e2
      exact .inr ⟨g, 0, rfl, Nat.lt_of_lt_of_le hlt hg.size, fun j u hu => hg.cell (hc j u hu) (by intro e; injection e with e; have e' : g = r := e; omega)⟩

/-! ### slices.Clone of digests -/
attribute [local go_sem ↓] bsT_def apAll_def
end Go.Proofs.YtbclepdcngaonaaGreatDoor

namespace Go.Proofs.YtbclepdcngaonaaGreatDoor
open Go.RowKit Go.Maps Go.Sort

/-! ### Lists that lie in blocks of their own -/
set_option maxRecDepth 100000 in
theorem DFresh.low {B B' : Nat} {A : Option Addr} {ds : List (List UInt8)} (h : DFresh B A ds) (hb : B' ≤ B) : DFresh B' A ds := by
  rcases h with h | ⟨g, h1, h2⟩
  · exact .inl h
  · exact .inr ⟨g, h1, Nat.le_trans hb h2⟩
structure FreshM (B : Nat) (m : VtM) : Prop where
  opn : DFresh B m.A m.x.opn
  sht : DFresh B m.B m.x.sht
  pth : DFresh B m.C m.x.pth
/-- Not in that block. -/
def OffD (r : Option Nat) (A : Option Addr) (ds : List (List UInt8)) : Prop := ds = [] ∨ ∀ a, A = some a → some a.block ≠ r
set_option maxRecDepth 100000 in
theorem Digs.off {w w' : World} {r : Option Nat} {A : Option Addr} {ds : List (List UInt8)} (h : Digs w w.heap.size A ds) (ho : OffD r A ds) (hg : w.grownBy w' r) : Digs w' w'.heap.size A ds := by
  refine ⟨h.1, ?_⟩
  rcases ho with rfl | ho
  · exact .inl rfl
  · rcases h.2 with h0 | ⟨g, o, rfl, hlt, hc⟩
    · exact .inl h0
    · exact .inr ⟨g, o, rfl, Nat.lt_of_lt_of_le hlt hg.size, fun j u hu => hg.cell (hc j u hu) (fun e => ho ⟨g, o, none⟩ rfl e)⟩
set_option maxRecDepth 100000 in
theorem DFresh.off {B : Nat} {r : Option Nat} {A : Option Addr} {ds : List (List UInt8)} (h : DFresh B A ds) (hr : ∀ g, r = some g → g < B) : OffD r A ds := by
  rcases h with h | ⟨g, rfl, h2⟩
  · exact .inl h
  · refine .inr fun a ha e => ?_
    injection ha with ha
    subst ha
    have := hr _ e.symm
    simp at this
    omega
set_option maxRecDepth 100000 in
theorem Digs.off_new {w : World} {A : Option Addr} {ds : List (List UInt8)} (h : Digs w w.heap.size A ds) : OffD (some w.heap.size) A ds := by
  rcases h.2 with h0 | ⟨g, o, rfl, hlt, _⟩
  · left
    cases ds with
    | nil => rfl
    | cons d r =>
      have := h.1 d (List.mem_cons_self ..)
      have h1 := congrArg List.length h0
      simp [this] at h1
  · refine .inr fun a ha e => ?_
    injection ha with ha
    subst ha
    injection e with e
    have e2 : g = w.heap.size := e
    omega
structure OffM (r : Option Nat) (m : VtM) : Prop where
  opn : OffD r m.A m.x.opn
  sht : OffD r m.B m.x.sht
  pth : OffD r m.C m.x.pth
set_option maxRecDepth 100000 in
theorem VSee.off {w w' : World} {r : Option Nat} {m : VtM} (h : VSee w m) (ho : OffM r m) (hg : w.grownBy w' r) : VSee w' m := ⟨h.opn.off ho.opn hg, h.sht.off ho.sht hg, h.pth.off ho.pth hg⟩
set_option maxRecDepth 100000 in
theorem FreshM.off {B : Nat} {r : Option Nat} {m : VtM} (h : FreshM B m) (hr : ∀ g, r = some g → g < B) : OffM r m := ⟨h.opn.off hr, h.sht.off hr, h.pth.off hr⟩
set_option maxRecDepth 100000 in
theorem VSee.off_new {w : World} {m : VtM} (h : VSee w m) : OffM (some w.heap.size) m := ⟨h.opn.off_new, h.sht.off_new, h.pth.off_new⟩
end Go.Proofs.YtbclepdcngaonaaGreatDoor
