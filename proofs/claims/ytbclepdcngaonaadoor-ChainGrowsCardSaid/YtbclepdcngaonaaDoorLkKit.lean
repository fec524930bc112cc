/-
  Links in memory: their cells, what is loaded, stored and seen.
-/
import Derived.Test.YtbclepdcngaonaaDoorEA
import Derived.Test.YtbclepdcngaonaaDoorBA
import Derived.Test.YtbclepdcngaonaaDoorNB
namespace Go.Proofs.YtbclepdcngaonaaDoor
open Go.RowKit Go.Maps Go.Sort

/-- A link as memory has it: where its lists lie. -/
structure LkM where
  b : BlkM
  r : Int
  vs : List VtM
  A : Option Addr
  c : Nat
  ep : Int
  ms : List MemX
  M : Option Addr
  m : Nat
/-- A link. -/
structure LkX where
  b : BlkX
  r : Int
  vs : List VtX
  ep : Int
  ms : List MemX
def LkM.x (l : LkM) : LkX := ⟨l.b.x, l.r, l.vs.map VtM.x, l.ep, l.ms⟩
def lkL (bs : List Value) (r : Int) (u : Value) (ep : Int) (v : Value) : List Value := bs ++ [.int .i64 r, u, .int .i64 ep, v]
def LkM.cells (l : LkM) : List Value := lkL l.b.cells l.r (.slice l.A l.vs.length l.c) l.ep (.slice l.M l.ms.length l.m)
set_option maxRecDepth 100000 in
theorem lkL_len {bs : List Value} (hb : bs.length = 99) (r : Int) (u : Value) (ep : Int) (v : Value) : (lkL bs r u ep v).length = 103 := by
  unfold lkL
  simp [hb]
set_option maxRecDepth 100000 in
theorem lkL_one {bs : List Value} (hb : ∀ z ∈ bs, z.oneCell' = true) (r : Int) {u : Value} (ep : Int) {v : Value} (hu : u.oneCell' = true) (hv : v.oneCell' = true) : ∀ z ∈ lkL bs r u ep v, z.oneCell' = true := by
  intro z hz
  unfold lkL at hz
  rcases List.mem_append.1 hz with hz | hz
  · exact hb z hz
  simp only [List.mem_cons, List.not_mem_nil, or_false] at hz
  rcases hz with rfl | rfl | rfl | rfl
  · rfl
  · exact hu
  · rfl
  · exact hv
set_option maxRecDepth 100000 in
theorem lkL_size {bs : List Value} (hb : bs.length = 99) (r : Int) (u : Value) (ep : Int) (v : Value) : (Tryd.prog.info? 40).map (·.size) = some (lkL bs r u ep v).length := by
  rw [lkL_len hb]
  kernel_rfl
set_option maxRecDepth 100000 in
theorem LkM.cells_len (l : LkM) : l.cells.length = 103 := lkL_len l.b.cells_len _ _ _ _
set_option maxRecDepth 100000 in
theorem LkM.cells_one (l : LkM) : ∀ v ∈ l.cells, v.oneCell' = true := lkL_one l.b.cells_one _ _ rfl rfl
set_option maxRecDepth 100000 in
theorem LkM.size (l : LkM) : (Tryd.prog.info? 40).map (·.size) = some l.cells.length := lkL_size l.b.cells_len _ _ _ _
def zlkV : Array Value := #[.int .i64 0, .int .i64 0, .int .u8 0, .int .u8 0, .int .u8 0, .int .u8 0, .int .u8 0, .int .u8 0, .int .u8 0, .int .u8 0, .int .u8 0, .int .u8 0, .int .u8 0, .int .u8 0, .int .u8 0, .int .u8 0, .int .u8 0, .int .u8 0, .int .u8 0, .int .u8 0, .int .u8 0, .int .u8 0, .int .u8 0, .int .u8 0, .int .u8 0, .int .u8 0, .int .u8 0, .int .u8 0, .int .u8 0, .int .u8 0, .int .u8 0, .int .u8 0, .int .u8 0, .int .u8 0, .int .u8 0, .int .u8 0, .int .u8 0, .int .u8 0, .int .u8 0, .int .u8 0, .int .u8 0, .int .u8 0, .int .u8 0, .int .u8 0, .int .u8 0, .int .u8 0, .int .u8 0, .int .u8 0, .int .u8 0, .int .u8 0, .int .u8 0, .int .u8 0, .int .u8 0, .int .u8 0, .int .u8 0, .int .u8 0, .int .u8 0, .int .u8 0, .int .u8 0, .int .u8 0, .int .u8 0, .int .u8 0, .int .u8 0, .int .u8 0, .int .u8 0, .int .u8 0, .int .u8 0, .int .u8 0, .int .u8 0, .int .u8 0, .int .u8 0, .int .u8 0, .int .u8 0, .int .u8 0, .int .u8 0, .int .u8 0, .int .u8 0, .int .u8 0, .int .u8 0, .int .u8 0, .int .u8 0, .int .u8 0, .int .u8 0, .int .u8 0, .int .u8 0, .int .u8 0, .int .u8 0, .int .u8 0, .int .u8 0, .int .u8 0, .int .u8 0, .int .u8 0, .int .u8 0, .int .u8 0, .int .u8 0, .int .u8 0, .int .u8 0, .int .u8 0, .slice none 0 0, .int .i64 0, .slice none 0 0, .int .i64 0, .slice none 0 0]
def zlk : LkM := ⟨zblkM, 0, [], none, 0, 0, [], none, 0⟩
set_option maxRecDepth 100000 in
theorem zlk_cells : zlk.cells.toArray = zlkV := rfl
set_option maxRecDepth 100000 in
theorem zlkV_size : zlkV.size = 103 := rfl
set_option maxRecDepth 100000 in
theorem zero_lk (w : World) : (zeroValue 40).run Tryd.prog w = .ok (.agg zlkV) w := by kernel_rfl

noncomputable def ldLk (v : Value) : Sem Value := Instr.loadAt 40 v
set_option maxRecDepth 100000 in
theorem ldLk_def (v : Value) : Instr.loadAt 40 v = ldLk v := rfl
noncomputable def stLk (p v : Value) : Sem Unit := Instr.storeAt 40 p v
set_option maxRecDepth 100000 in
theorem stLk_def (p v : Value) : Instr.storeAt 40 p v = stLk p v := rfl
noncomputable def alLk (b : Bool) (v : Value) : Sem Value := Instr.alloc 40 b v
set_option maxRecDepth 100000 in
theorem alLk_def (b : Bool) (v : Value) : Instr.alloc 40 b v = alLk b v := rfl
set_option maxRecDepth 100000 in
theorem al_lk (w : World) : (alLk true (.tuple #[])).run Tryd.prog w = .ok (.pointer (some ⟨w.heap.size, 0, none⟩)) (w.alloc (.cells zlkV 40)) := by
  have h := zero_lk w
  unfold alLk Instr.alloc
  simp [Sem.run_bind, h, newVar, newRow, Value.cells]
noncomputable def bdLk (parts : Array (Nat × Value)) : Sem Value := Instr.build 40 parts
set_option maxRecDepth 100000 in
theorem bdLk_def (parts : Array (Nat × Value)) : Instr.build 40 parts = bdLk parts := rfl
set_option maxRecDepth 100000 in
theorem bd_lk0 (w : World) : (bdLk #[]).run Tryd.prog w = .ok (.agg zlkV) w := run_build w _ _ _ (by kernel_rfl)

/-! ### What a link's cells are -/
section
variable {w : World} {g o : Nat} {t : TypeId} {bs : List Value} {r ep : Int} {u v : Value}
set_option maxRecDepth 100000 in
theorem Box.lk_tail (hb : bs.length = 99) (h : Box w g t (lkL bs r u ep v).toArray) (j : Nat) : w.cell? ⟨g, 99 + j, none⟩ = [.int .i64 r, u, .int .i64 ep, v][j]? := by
  rw [h.cell, List.getElem?_toArray]
  unfold lkL
  rw [List.getElem?_append_right (by omega)]
  congr 1
  omega
set_option maxRecDepth 100000 in
theorem range_lk_blk {b : BlkM} (h : w.rangeAt g o (lkL b.cells r u ep v)) : (ldBlk (.pointer (some ⟨g, o, none⟩))).run Tryd.prog w = .ok (.agg b.cells.toArray) w :=
  range_bk b.x.lp b.x.ls b.x.ln (fun j z hz => h j z (by
    unfold lkL
    have hj : j < b.cells.length := (List.getElem?_eq_some_iff.1 hz).1
    rw [List.getElem?_append_left hj]
    exact hz))
set_option maxRecDepth 100000 in
theorem Box.lk_blk {b : BlkM} (h : Box w g t (lkL b.cells r u ep v).toArray) : (ldBlk (.pointer (some ⟨g, 0, none⟩))).run Tryd.prog w = .ok (.agg b.cells.toArray) w := range_lk_blk h.range
set_option maxRecDepth 100000 in
theorem Box.lk_ct {A : Option Addr} {n c : Nat} (hb : bs.length = 99) (h : Box w g t (lkL bs r (.slice A n c) ep v).toArray) : (ldCt (.pointer (some ⟨g, 99, none⟩))).run Tryd.prog w = .ok (.agg (crtV r A n c : Array Value)) w :=
  run_loadAt_mid (P := Tryd.prog) w g 99 38 (crtV r A n c : Array Value).toList _ (fun j z hz => by
    have h1 := h.lk_tail hb j
    have hj : j < 2 := (List.getElem?_eq_some_iff.1 hz).1
    rw [h1]
    match j, hj with
    | 0, _ => exact hz
    | 1, _ => exact hz) Tryd.underlying38 rfl (ct_list r A n c)
set_option maxRecDepth 100000 in
theorem Box.lk_cf {M : Option Addr} {n c : Nat} (hb : bs.length = 99) (h : Box w g t (lkL bs r u ep (.slice M n c)).toArray) : (ldCf (.pointer (some ⟨g, 101, none⟩))).run Tryd.prog w = .ok (.agg (cfgV ep M n c : Array Value)) w :=
  range_cf (fun j z hz => by
    have h1 := h.lk_tail hb (2 + j)
    have hj : j < 2 := (List.getElem?_eq_some_iff.1 hz).1
    rw [show 101 + j = 99 + (2 + j) by omega, h1]
    match j, hj with
    | 0, _ => exact hz
    | 1, _ => exact hz)
set_option maxRecDepth 100000 in
theorem Box.lk_99 (hb : bs.length = 99) (h : Box w g t (lkL bs r u ep v).toArray) : w.cell? ⟨g, 99, none⟩ = some (.int .i64 r) := h.lk_tail hb 0
set_option maxRecDepth 100000 in
theorem Box.lk_100 (hb : bs.length = 99) (h : Box w g t (lkL bs r u ep v).toArray) : w.cell? ⟨g, 100, none⟩ = some u := h.lk_tail hb 1
set_option maxRecDepth 100000 in
theorem Box.lk_101 (hb : bs.length = 99) (h : Box w g t (lkL bs r u ep v).toArray) : w.cell? ⟨g, 101, none⟩ = some (.int .i64 ep) := h.lk_tail hb 2
set_option maxRecDepth 100000 in
theorem Box.lk_102 (hb : bs.length = 99) (h : Box w g t (lkL bs r u ep v).toArray) : w.cell? ⟨g, 102, none⟩ = some v := h.lk_tail hb 3
set_option maxRecDepth 100000 in
theorem Box.lk_get {l : List Value} {k : Nat} (h : Box w g t (lkL l r u ep v).toArray) (hk : k < l.length) : w.cell? ⟨g, k, none⟩ = l[k]? := by
  rw [h.cell, List.getElem?_toArray]
  unfold lkL
  rw [List.getElem?_append_left hk]
set_option maxRecDepth 100000 in
theorem Box.lk_0 {b : BlkM} (h : Box w g t (lkL b.cells r u ep v).toArray) : w.cell? ⟨g, 0, none⟩ = some (.int .i64 b.x.epoch) := by rw [h.lk_get (by rw [b.cells_len]; omega)]; rfl
set_option maxRecDepth 100000 in
theorem Box.lk_1 {b : BlkM} (h : Box w g t (lkL b.cells r u ep v).toArray) : w.cell? ⟨g, 1, none⟩ = some (.int .i64 b.x.height) := by rw [h.lk_get (by rw [b.cells_len]; omega)]; rfl
set_option maxRecDepth 100000 in
theorem Box.lk_next {b : BlkM} (h : Box w g t (lkL b.cells r u ep v).toArray) : w.rangeAt g 66 (b.x.next.map bv) := by
  have e : lkL b.cells r u ep v = (.int .i64 b.x.epoch :: .int .i64 b.x.height :: (b.x.prev.map bv ++ b.x.state.map bv)) ++ (b.x.next.map bv ++ (.slice b.A b.x.reqs.length b.z :: [.int .i64 r, u, .int .i64 ep, v])) := by
    unfold lkL BlkM.cells
    rw [bkL_next]
    simp
  rw [e] at h
  exact Box.range_mid h (by simp [b.x.lp, b.x.ls])
set_option maxRecDepth 100000 in
theorem range_lk {l : LkM} (hr : w.rangeAt g o l.cells) : (ldLk (.pointer (some ⟨g, o, none⟩))).run Tryd.prog w = .ok (.agg l.cells.toArray) w :=
  run_loadAt_mid (P := Tryd.prog) w g o 40 l.cells _ hr Tryd.underlying40 rfl l.size
set_option maxRecDepth 100000 in
theorem Box.ld_lk {l : LkM} (hb : Box w g t l.cells.toArray) : (ldLk (.pointer (some ⟨g, 0, none⟩))).run Tryd.prog w = .ok (.agg l.cells.toArray) w := range_lk hb.range
set_option maxRecDepth 100000 in
theorem Box.st_lk {cs : Array Value} (hb : Box w g t cs) (hc : cs.size = 103) (l : LkM) :
    ∃ w', (stLk (.pointer (some ⟨g, 0, none⟩)) (.agg l.cells.toArray)).run Tryd.prog w = .ok () w' ∧ Box w' g t l.cells.toArray ∧ w.grownBy w' (some g) := by
  refine ⟨w.setCells g 0 l.cells, ?_, hb.cells_all l.cells.toArray (by rw [List.size_toArray, l.cells_len, hc]), only_cells (g := g) _ 0 _⟩
  exact run_storeAt_mid (P := Tryd.prog) _ g 0 40 l.cells.toArray (fun j hj => by
    rw [List.size_toArray, l.cells_len] at hj
    rw [hb.cell, hb.free, Array.getElem?_eq_getElem (by omega)]
    exact ⟨rfl, rfl⟩) (by rw [List.size_toArray]; exact l.size) (by have := all_oneCell_toArray l.cells_one; simpa using this)
set_option maxRecDepth 100000 in
theorem laid_lk (w : World) (l : LkM) : ∃ w', (stLk (.pointer (some ⟨w.heap.size, 0, none⟩)) (.agg l.cells.toArray)).run Tryd.prog (w.alloc (.cells zlkV 40)) = .ok () w' ∧ Box w' w.heap.size 40 l.cells.toArray ∧ Below w.heap.size w w' := by
  obtain ⟨w', h1, h2, h3⟩ := (Box.made w 40 zlkV).st_lk zlkV_size l
  exact ⟨w', h1, h2, ((Below.refl _ _).alloc (Nat.le_refl _) _).trans (below_only h3 (Nat.le_refl _) (by simp))⟩
end

noncomputable def LkK : EK LkM where
  e := 40
  sl := 25
  k := 103
  bys := 200
  z := .agg zlkV
  enc := LkM.cells
  hk := by decide
  und := Tryd.underlying25
  els := by kernel_rfl
  info := by kernel_rfl
  hzs := rfl
  zone := zlk.cells_one
  len := LkM.cells_len
  one := LkM.cells_one
  hby := by decide

/-- A link whose lists are seen. -/
structure LkSee (w : World) (l : LkM) : Prop where
  blk : QSee w w.heap.size l.b.A l.b.x.reqs
  vts : VtK.See w w.heap.size l.A l.vs
  sgs : ∀ m ∈ l.vs, SgSee w m.sg
  mem : Mems w w.heap.size l.M l.ms
set_option maxRecDepth 100000 in
theorem LkSee.call {w w' : World} {l : LkM} (h : LkSee w l) (hb : Below w.heap.size w w') : LkSee w' l := ⟨h.blk.far hb, EK.See.far h.vts hb, fun m hm => (h.sgs m hm).call hb, h.mem.far hb⟩
/-- A row of links, and the lists of each. -/
structure LksSee (w : World) (A : Option Addr) (ls : List LkM) : Prop where
  row : LkK.See w w.heap.size A ls
  each : ∀ l ∈ ls, LkSee w l
set_option maxRecDepth 100000 in
theorem LksSee.call {w w' : World} {A : Option Addr} {ls : List LkM} (h : LksSee w A ls) (hb : Below w.heap.size w w') : LksSee w' A ls := ⟨EK.See.far h.row hb, fun l hl => (h.each l hl).call hb⟩
set_option maxRecDepth 100000 in
/-- A link of a row, as the frozen load. -/
theorem row_link {w : World} {A : Option Addr} {ls : List LkM} (h : LkK.See w w.heap.size A ls) {j : Nat} (hj : j < ls.length) : ∃ g o, A = some ⟨g, o, none⟩ ∧ ∀ w', Below w.heap.size w w' → (ldLk (.pointer (some ⟨g, o + j * 103, none⟩))).run Tryd.prog w' = .ok (.agg (ls[j]'hj).cells.toArray) w' := by
  obtain ⟨g, o, rfl, _, _⟩ := EK.See.range h hj
  refine ⟨g, o, rfl, fun w' hb => ?_⟩
  obtain ⟨g', o', e, _, hr⟩ := EK.See.range (EK.See.far h hb) hj
  injection e with e
  injection e with e1 e2
  subst e1
  subst e2
  exact range_lk (hr j hj)
end Go.Proofs.YtbclepdcngaonaaDoor
