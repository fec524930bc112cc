/-
  Links in memory: their cells, what is loaded, stored and seen.
  A configuration's digest: config.Digest.
  Whether a link leads: chain.Step. Written by gen_lkstep.py.
  Chains on plain lists: where they lead; a chain leads just if its parts do.
  Where a chain leads: chain.Check. Written by gen_lkcheck.py.
  Whether what is played is great: wapentakelaw15.great; what is known of what isn't.
  What the document tells of chains: wapentakelaw15.alive.
-/
import Derived.Test.YtbclepdcngaonaaGreatDoorEA
import Derived.Test.YtbclepdcngaonaaGreatDoorBA
import Derived.Test.YtbclepdcngaonaaGreatDoorNB
import Derived.Test.YtbclepdcngaonaaGreatDoorHA
import Derived.Test.YtbclepdcngaonaaGreatDoorSD
import Derived.Test.YtbclepdcngaonaaGreatDoorTG
import Derived.Lib.SlBytesConst
import Derived.Test.YtbclepdcngaonaaGreatDoorEB
namespace Go.Proofs.YtbclepdcngaonaaGreatDoor
open Go.RowKit Go.Maps Go.Sort

/-- A link as memory has it: where its lists lie. -/
structure LkM where
  b : BlkM
  r : Int
  vs : List VtM
  A : Option Addr
  c : Nat
  ep : Int
  ms : List MemX
  M : Option Addr
  m : Nat
/-- A link. -/
structure LkX where
  b : BlkX
  r : Int
  vs : List VtX
  ep : Int
  ms : List MemX
def LkM.x (l : LkM) : LkX := ⟨l.b.x, l.r, l.vs.map VtM.x, l.ep, l.ms⟩
def lkL (bs : List Value) (r : Int) (u : Value) (ep : Int) (v : Value) : List Value := bs ++ [.int .i64 r, u, .int .i64 ep, v]
def LkM.cells (l : LkM) : List Value := lkL l.b.cells l.r (.slice l.A l.vs.length l.c) l.ep (.slice l.M l.ms.length l.m)
set_option maxRecDepth 100000 in
theorem lkL_len {bs : List Value} (hb : bs.length = 99) (r : Int) (u : Value) (ep : Int) (v : Value) : (lkL bs r u ep v).length = 103 := by
  unfold lkL
  simp [hb]
set_option maxRecDepth 100000 in
theorem lkL_one {bs : List Value} (hb : ∀ z ∈ bs, z.oneCell' = true) (r : Int) {u : Value} (ep : Int) {v : Value} (hu : u.oneCell' = true) (hv : v.oneCell' = true) : ∀ z ∈ lkL bs r u ep v, z.oneCell' = true := by
  intro z hz
  unfold lkL at hz
  rcases List.mem_append.1 hz with hz | hz
  · exact hb z hz
  simp only [List.mem_cons, List.not_mem_nil, or_false] at hz
  rcases hz with rfl | rfl | rfl | rfl
  · rfl
  · exact hu
  · rfl
  · exact hv
set_option maxRecDepth 100000 in
theorem lkL_size {bs : List Value} (hb : bs.length = 99) (r : Int) (u : Value) (ep : Int) (v : Value) : (Tryz.prog.info? 37).map (·.size) = some (lkL bs r u ep v).length := by
  rw [lkL_len hb]
  kernel_rfl
set_option maxRecDepth 100000 in
theorem LkM.cells_len (l : LkM) : l.cells.length = 103 := lkL_len l.b.cells_len _ _ _ _
set_option maxRecDepth 100000 in
theorem LkM.cells_one (l : LkM) : ∀ v ∈ l.cells, v.oneCell' = true := lkL_one l.b.cells_one _ _ rfl rfl
set_option maxRecDepth 100000 in
theorem LkM.size (l : LkM) : (Tryz.prog.info? 37).map (·.size) = some l.cells.length := lkL_size l.b.cells_len _ _ _ _
def zlkV : Array Value := #[.int .i64 0, .int .i64 0, .int .u8 0, .int .u8 0, .int .u8 0, .int .u8 0, .int .u8 0, .int .u8 0, .int .u8 0, .int .u8 0, .int .u8 0, .int .u8 0, .int .u8 0, .int .u8 0, .int .u8 0, .int .u8 0, .int .u8 0, .int .u8 0, .int .u8 0, .int .u8 0, .int .u8 0, .int .u8 0, .int .u8 0, .int .u8 0, .int .u8 0, .int .u8 0, .int .u8 0, .int .u8 0, .int .u8 0, .int .u8 0, .int .u8 0, .int .u8 0, .int .u8 0, .int .u8 0, .int .u8 0, .int .u8 0, .int .u8 0, .int .u8 0, .int .u8 0, .int .u8 0, .int .u8 0, .int .u8 0, .int .u8 0, .int .u8 0, .int .u8 0, .int .u8 0, .int .u8 0, .int .u8 0, .int .u8 0, .int .u8 0, .int .u8 0, .int .u8 0, .int .u8 0, .int .u8 0, .int .u8 0, .int .u8 0, .int .u8 0, .int .u8 0, .int .u8 0, .int .u8 0, .int .u8 0, .int .u8 0, .int .u8 0, .int .u8 0, .int .u8 0, .int .u8 0, .int .u8 0, .int .u8 0, .int .u8 0, .int .u8 0, .int .u8 0, .int .u8 0, .int .u8 0, .int .u8 0, .int .u8 0, .int .u8 0, .int .u8 0, .int .u8 0, .int .u8 0, .int .u8 0, .int .u8 0, .int .u8 0, .int .u8 0, .int .u8 0, .int .u8 0, .int .u8 0, .int .u8 0, .int .u8 0, .int .u8 0, .int .u8 0, .int .u8 0, .int .u8 0, .int .u8 0, .int .u8 0, .int .u8 0, .int .u8 0, .int .u8 0, .int .u8 0, .slice none 0 0, .int .i64 0, .slice none 0 0, .int .i64 0, .slice none 0 0]
def zlk : LkM := ⟨zblkM, 0, [], none, 0, 0, [], none, 0⟩
set_option maxRecDepth 100000 in
theorem zlk_cells : zlk.cells.toArray = zlkV := rfl
set_option maxRecDepth 100000 in
theorem zlkV_size : zlkV.size = 103 := rfl
set_option maxRecDepth 100000 in
theorem zero_lk (w : World) : (zeroValue 37).run Tryz.prog w = .ok (.agg zlkV) w := by kernel_rfl

noncomputable def ldLk (v : Value) : Sem Value := Instr.loadAt 37 v
set_option maxRecDepth 100000 in
theorem ldLk_def (v : Value) : Instr.loadAt 37 v = ldLk v := rfl
noncomputable def stLk (p v : Value) : Sem Unit := Instr.storeAt 37 p v
set_option maxRecDepth 100000 in
theorem stLk_def (p v : Value) : Instr.storeAt 37 p v = stLk p v := rfl
noncomputable def alLk (b : Bool) (v : Value) : Sem Value := Instr.alloc 37 b v
set_option maxRecDepth 100000 in
theorem alLk_def (b : Bool) (v : Value) : Instr.alloc 37 b v = alLk b v := rfl
set_option maxRecDepth 100000 in
theorem al_lk (w : World) : (alLk true (.tuple #[])).run Tryz.prog w = .ok (.pointer (some ⟨w.heap.size, 0, none⟩)) (w.alloc (.cells zlkV 37)) := by
  have h := zero_lk w
  unfold alLk Instr.alloc
  simp [Sem.run_bind, h, newVar, newRow, Value.cells]
noncomputable def bdLk (parts : Array (Nat × Value)) : Sem Value := Instr.build 37 parts
set_option maxRecDepth 100000 in
theorem bdLk_def (parts : Array (Nat × Value)) : Instr.build 37 parts = bdLk parts := rfl
set_option maxRecDepth 100000 in
theorem bd_lk0 (w : World) : (bdLk #[]).run Tryz.prog w = .ok (.agg zlkV) w := run_build w _ _ _ (by kernel_rfl)

/-! ### What a link's cells are -/
section
variable {w : World} {g o : Nat} {t : TypeId} {bs : List Value} {r ep : Int} {u v : Value}
set_option maxRecDepth 100000 in
theorem Box.lk_tail (hb : bs.length = 99) (h : Box w g t (lkL bs r u ep v).toArray) (j : Nat) : w.cell? ⟨g, 99 + j, none⟩ = [.int .i64 r, u, .int .i64 ep, v][j]? := by
  rw [h.cell, List.getElem?_toArray]
  unfold lkL
  rw [List.getElem?_append_right (by omega)]
  congr 1
  omega
set_option maxRecDepth 100000 in
theorem range_lk_blk {b : BlkM} (h : w.rangeAt g o (lkL b.cells r u ep v)) : (ldBlk (.pointer (some ⟨g, o, none⟩))).run Tryz.prog w = .ok (.agg b.cells.toArray) w :=
  range_bk b.x.lp b.x.ls b.x.ln (fun j z hz => h j z (by
    unfold lkL
    have hj : j < b.cells.length := (List.getElem?_eq_some_iff.1 hz).1
    rw [List.getElem?_append_left hj]
    exact hz))
set_option maxRecDepth 100000 in
theorem Box.lk_blk {b : BlkM} (h : Box w g t (lkL b.cells r u ep v).toArray) : (ldBlk (.pointer (some ⟨g, 0, none⟩))).run Tryz.prog w = .ok (.agg b.cells.toArray) w := range_lk_blk h.range
set_option maxRecDepth 100000 in
theorem Box.lk_ct {A : Option Addr} {n c : Nat} (hb : bs.length = 99) (h : Box w g t (lkL bs r (.slice A n c) ep v).toArray) : (ldCt (.pointer (some ⟨g, 99, none⟩))).run Tryz.prog w = .ok (.agg (crtV r A n c : Array Value)) w :=
  run_loadAt_mid (P := Tryz.prog) w g 99 35 (crtV r A n c : Array Value).toList _ (fun j z hz => by
    have h1 := h.lk_tail hb j
    have hj : j < 2 := (List.getElem?_eq_some_iff.1 hz).1
    rw [h1]
    match j, hj with
    | 0, _ => exact hz
    | 1, _ => exact hz) Tryz.underlying35 rfl (ct_list r A n c)
set_option maxRecDepth 100000 in
theorem Box.lk_cf {M : Option Addr} {n c : Nat} (hb : bs.length = 99) (h : Box w g t (lkL bs r u ep (.slice M n c)).toArray) : (ldCf (.pointer (some ⟨g, 101, none⟩))).run Tryz.prog w = .ok (.agg (cfgV ep M n c : Array Value)) w :=
  range_cf (fun j z hz => by
    have h1 := h.lk_tail hb (2 + j)
    have hj : j < 2 := (List.getElem?_eq_some_iff.1 hz).1
    rw [show 101 + j = 99 + (2 + j) by omega, h1]
    match j, hj with
    | 0, _ => exact hz
    | 1, _ => exact hz)
set_option maxRecDepth 100000 in
theorem Box.lk_100 (hb : bs.length = 99) (h : Box w g t (lkL bs r u ep v).toArray) : w.cell? ⟨g, 100, none⟩ = some u := h.lk_tail hb 1
set_option maxRecDepth 100000 in
theorem Box.lk_101 (hb : bs.length = 99) (h : Box w g t (lkL bs r u ep v).toArray) : w.cell? ⟨g, 101, none⟩ = some (.int .i64 ep) := h.lk_tail hb 2
set_option maxRecDepth 100000 in
theorem Box.lk_102 (hb : bs.length = 99) (h : Box w g t (lkL bs r u ep v).toArray) : w.cell? ⟨g, 102, none⟩ = some v := h.lk_tail hb 3
set_option maxRecDepth 100000 in
theorem Box.lk_get {l : List Value} {k : Nat} (h : Box w g t (lkL l r u ep v).toArray) (hk : k < l.length) : w.cell? ⟨g, k, none⟩ = l[k]? := by
  rw [h.cell, List.getElem?_toArray]
  unfold lkL
  rw [List.getElem?_append_left hk]
set_option maxRecDepth 100000 in
theorem Box.lk_1 {b : BlkM} (h : Box w g t (lkL b.cells r u ep v).toArray) : w.cell? ⟨g, 1, none⟩ = some (.int .i64 b.x.height) := by rw [h.lk_get (by rw [b.cells_len]; omega)]; rfl
set_option maxRecDepth 100000 in
theorem Box.lk_next {b : BlkM} (h : Box w g t (lkL b.cells r u ep v).toArray) : w.rangeAt g 66 (b.x.next.map bv) := by
  have e : lkL b.cells r u ep v = (.int .i64 b.x.epoch :: .int .i64 b.x.height :: (b.x.prev.map bv ++ b.x.state.map bv)) ++ (b.x.next.map bv ++ (.slice b.A b.x.reqs.length b.z :: [.int .i64 r, u, .int .i64 ep, v])) := by
    unfold lkL BlkM.cells
    rw [bkL_next]
    simp
  rw [e] at h
  exact Box.range_mid h (by simp [b.x.lp, b.x.ls])
set_option maxRecDepth 100000 in
theorem range_lk {l : LkM} (hr : w.rangeAt g o l.cells) : (ldLk (.pointer (some ⟨g, o, none⟩))).run Tryz.prog w = .ok (.agg l.cells.toArray) w :=
  run_loadAt_mid (P := Tryz.prog) w g o 37 l.cells _ hr Tryz.underlying37 rfl l.size
set_option maxRecDepth 100000 in
theorem Box.ld_lk {l : LkM} (hb : Box w g t l.cells.toArray) : (ldLk (.pointer (some ⟨g, 0, none⟩))).run Tryz.prog w = .ok (.agg l.cells.toArray) w := range_lk hb.range
set_option maxRecDepth 100000 in
theorem Box.st_lk {cs : Array Value} (hb : Box w g t cs) (hc : cs.size = 103) (l : LkM) :
    ∃ w', (stLk (.pointer (some ⟨g, 0, none⟩)) (.agg l.cells.toArray)).run Tryz.prog w = .ok () w' ∧ Box w' g t l.cells.toArray ∧ w.grownBy w' (some g) := by
  refine ⟨w.setCells g 0 l.cells, ?_, hb.cells_all l.cells.toArray (by rw [List.size_toArray, l.cells_len, hc]), only_cells (g := g) _ 0 _⟩
  exact run_storeAt_mid (P := Tryz.prog) _ g 0 37 l.cells.toArray (fun j hj => by
    rw [List.size_toArray, l.cells_len] at hj
    rw [hb.cell, hb.free, Array.getElem?_eq_getElem (by omega)]
    exact ⟨rfl, rfl⟩) (by rw [List.size_toArray]; exact l.size) (by have := all_oneCell_toArray l.cells_one; simpa using this)
set_option maxRecDepth 100000 in
theorem laid_lk (w : World) (l : LkM) : ∃ w', (stLk (.pointer (some ⟨w.heap.size, 0, none⟩)) (.agg l.cells.toArray)).run Tryz.prog (w.alloc (.cells zlkV 37)) = .ok () w' ∧ Box w' w.heap.size 37 l.cells.toArray ∧ Below w.heap.size w w' := by
  obtain ⟨w', h1, h2, h3⟩ := (Box.made w 37 zlkV).st_lk zlkV_size l
  exact ⟨w', h1, h2, ((Below.refl _ _).alloc (Nat.le_refl _) _).trans (below_only h3 (Nat.le_refl _) (by simp))⟩
end

noncomputable def LkK : EK LkM where
  e := 37
  sl := 25
  k := 103
  bys := 200
  z := .agg zlkV
  enc := LkM.cells
  hk := by decide
  und := Tryz.underlying25
  els := by kernel_rfl
  info := by kernel_rfl
  hzs := rfl
  zone := zlk.cells_one
  len := LkM.cells_len
  one := LkM.cells_one
  hby := by decide

/-- A link whose lists are seen. -/
structure LkSee (w : World) (l : LkM) : Prop where
  blk : QSee w w.heap.size l.b.A l.b.x.reqs
  vts : VtK.See w w.heap.size l.A l.vs
  sgs : ∀ m ∈ l.vs, SgSee w m.sg
  mem : Mems w w.heap.size l.M l.ms
set_option maxRecDepth 100000 in
theorem LkSee.call {w w' : World} {l : LkM} (h : LkSee w l) (hb : Below w.heap.size w w') : LkSee w' l := ⟨h.blk.far hb, EK.See.far h.vts hb, fun m hm => (h.sgs m hm).call hb, h.mem.far hb⟩
/-- A row of links, and the lists of each. -/
structure LksSee (w : World) (A : Option Addr) (ls : List LkM) : Prop where
  row : LkK.See w w.heap.size A ls
  each : ∀ l ∈ ls, LkSee w l
set_option maxRecDepth 100000 in
theorem LksSee.call {w w' : World} {A : Option Addr} {ls : List LkM} (h : LksSee w A ls) (hb : Below w.heap.size w w') : LksSee w' A ls := ⟨EK.See.far h.row hb, fun l hl => (h.each l hl).call hb⟩
set_option maxRecDepth 100000 in
/-- A link of a row, as the frozen load. -/
theorem row_link {w : World} {A : Option Addr} {ls : List LkM} (h : LkK.See w w.heap.size A ls) {j : Nat} (hj : j < ls.length) : ∃ g o, A = some ⟨g, o, none⟩ ∧ ∀ w', Below w.heap.size w w' → (ldLk (.pointer (some ⟨g, o + j * 103, none⟩))).run Tryz.prog w' = .ok (.agg (ls[j]'hj).cells.toArray) w' := by
  obtain ⟨g, o, rfl, _, _⟩ := EK.See.range h hj
  refine ⟨g, o, rfl, fun w' hb => ?_⟩
  obtain ⟨g', o', e, _, hr⟩ := EK.See.range (EK.See.far h hb) hj
  injection e with e
  injection e with e1 e2
  subst e1
  subst e2
  exact range_lk (hr j hj)
end Go.Proofs.YtbclepdcngaonaaGreatDoor

namespace Go.Proofs.YtbclepdcngaonaaGreatDoor
open Go.RowKit

attribute [local go_sem ↓] ldCf_def ldDigest_def stDigest_def

/-- "config". -/
def cfMark : List UInt8 := [99, 111, 110, 102, 105, 103]
def cfgD (ep : Int) (ms : List MemX) : List UInt8 := shaOf (cfMark ++ cfgB ep ms)
set_option maxRecDepth 100000 in
theorem cfgD_len (ep : Int) (ms : List MemX) : (cfgD ep ms).length = 32 := rfl
set_option maxRecDepth 100000 in
theorem cfgB_len15 (ep : Int) (ms : List MemX) : (cfgB ep ms).length = 16 + ms.length * 48 := by
  unfold cfgB
  rw [List.length_append, nums_len, mems_len]
  simp only [List.length_cons, List.length_nil]
  omega

set_option maxRecDepth 100000 in
set_option maxHeartbeats 2000000 in
theorem cfgdgt_any (ep : Int) (ms : List MemX) (A : Option Addr) (c : Nat) (hn : ms.length ≤ 1000000) (w : World) (hS : Mems w w.heap.size A ms) (hR : Roots w) :
    Calls Tryz.prog 26 #[.agg (cfgV ep A ms.length c)] w fun e w' => e = .returned (.agg ((cfgD ep ms).map bv).toArray) ∧ Below w.heap.size w w' := by
  have HS : Hid (Box ((w.alloc (.cells (cfgV ep A ms.length c) 24)).alloc (.cells zs32 29)) w.heap.size 24 (cfgV ep A ms.length c)) := (Box.made w _ _).alloc _
  have HO : Hid (Box ((w.alloc (.cells (cfgV ep A ms.length c) 24)).alloc (.cells zs32 29)) (w.heap.size + 1) 29 zs32) := Box.made_at (by simp) _ _
  have HF : Hid (Below w.heap.size w ((w.alloc (.cells (cfgV ep A ms.length c) 24)).alloc (.cells zs32 29))) := ((Below.refl _ _).alloc (Nat.le_refl _) _).alloc (by simp) _
  have HD : Hid (cfgD ep ms = shaOf ([cfMark, cfgB ep ms] : List (List UInt8)).flatten) := Lib.hid (by simp [cfgD])
  have HDL := Lib.hid (cfgD_len ep ms)
  have HQ1 := Lib.hid (hS.far HF.out)
  generalize cfgD ep ms = d at *
  go_enter Tryz.func26, Tryz.ntmps26
  go_upto_region 1 with fail
  change Code.wp _ _ _ _ ((w.alloc (.cells (cfgV ep A ms.length c) 24)).alloc (.cells zs32 29))
  generalize (w.alloc (.cells (cfgV ep A ms.length c) 24)).alloc (.cells zs32 29) = w1 at *
  have HW2 : Hid (Wr (w1.alloc (.cells #[.slice none 0 0] 48)) w1.heap.size w1.heap.size []) := wr_new (Box.made _ _ _) (Nat.le_refl _)
  have HF2 : Hid (Below w1.heap.size w1 (w1.alloc (.cells #[.slice none 0 0] 48))) := (Below.refl _ _).alloc (Nat.le_refl _) _
  have l2 := (HS.out.below HF2.out HS.out.lt).l_cf
  have HN := Lib.hid (cfgwrite_any w1.heap.size w1.heap.size [] ep ms A c _ HW2.out (by simp) (by omega) (Sees.below HQ1.out HF2.out))
  have HBL : Hid ((cfgB ep ms).length ≤ 48000016) := Lib.hid (by rw [cfgB_len15]; omega)
  rw [List.nil_append] at HN
  generalize cfgB ep ms = bs at *
  clear hn hS HQ1 HS
  go_upto_region 3 with (go_at_call 33; (with_reducible refine (HN.out).mono ?_); rintro e w3 ⟨rfl, hw, hf⟩; have HW3 := Lib.hid hw; have HB3 := Lib.hid (HF2.out.trans (hf.below HW2.out)); clear hw hf)
  clear HN HF2 l2
  have HWK : Hid (Below w.heap.size w w3) := Lib.hid (HF.out.trans (HB3.out.mono HF.out.size))
  have HM : Hid (∀ w', Below (w3.heap.size + 1) (w3.alloc (.cells #[.int .u8 99, .int .u8 111, .int .u8 110, .int .u8 102, .int .u8 105, .int .u8 103] 5 (6, 7))) w' → Sees w' w'.heap.size (some ⟨w3.heap.size, 0, none⟩) (cfMark.map bv)) := Lib.hid (fun w' hb => by
    refine .inr ⟨w3.heap.size, 0, rfl, Nat.lt_of_lt_of_le (by simp) hb.size, fun j u hu => ?_⟩
    rw [Nat.zero_add, hb.cell (p := ⟨w3.heap.size, j, none⟩) (Nat.lt_succ_self _), World.cell?_alloc_mark, List.getElem?_toArray]
    exact hu)
  have HF4 : Hid (Below w3.heap.size w3 (w3.alloc (.cells #[.int .u8 99, .int .u8 111, .int .u8 110, .int .u8 102, .int .u8 105, .int .u8 103] 5 (6, 7)))) := (Below.refl _ _).alloc (Nat.le_refl _) _
  have HZ4 : Hid ((w3.alloc (.cells #[.int .u8 99, .int .u8 111, .int .u8 110, .int .u8 102, .int .u8 105, .int .u8 103] 5 (6, 7))).heap.size = w3.heap.size + 1) := Lib.hid (by simp)
  have HBY := Lib.hid (bytes_any w1.heap.size w1.heap.size bs _ (HW3.out.below_size HF4.out) (by have := HBL.out; omega))
  have hcv : (convert 45 45 (.slice (some ⟨w3.heap.size, 0, none⟩) 6 6)).run Tryz.prog (w3.alloc (.cells #[.int .u8 99, .int .u8 111, .int .u8 110, .int .u8 102, .int .u8 105, .int .u8 103] 5)) = .ok (.slice (some ⟨w3.heap.size, 0, none⟩) 6 6) (w3.alloc (.cells #[.int .u8 99, .int .u8 111, .int .u8 110, .int .u8 102, .int .u8 105, .int .u8 103] 5 (6, 7))) :=
    Lib.run_convert_bytes_const (P := Tryz.prog) w3 45 5 _ 6 6 Tryz.underlying45 Tryz.underlying5
  have HRW := Lib.hid hR
  clear hR HW3 HW2
  go_wp2_with fail
  clear hcv
  refine (HBY.out).mono ?_
  rintro e w5 ⟨A, c, rfl, hc1, hc2, hsee, hb⟩
  have HS5 := Lib.hid hsee
  have HB5 := Lib.hid hb
  have HC5 := Lib.hid hc1
  have HC6 := Lib.hid hc2
  clear hsee hb hc1 hc2
  have HX6 : Hid (Box (w5.alloc (.cells #[.slice (some ⟨w3.heap.size, 0, none⟩) 6 6, .slice A bs.length c] 45)) w5.heap.size 45 #[.slice (some ⟨w3.heap.size, 0, none⟩) 6 6, .slice A bs.length c]) := Box.made _ _ _
  have HB6 : Hid (Below w5.heap.size w5 (w5.alloc (.cells #[.slice (some ⟨w3.heap.size, 0, none⟩) 6 6, .slice A bs.length c] 45))) := (Below.refl _ _).alloc (Nat.le_refl _) _
  have HB46 := Lib.hid (HB5.out.trans (HB6.out.mono HB5.out.size))
  have HFA := Lib.hid (HWK.out.trans ((HF4.out.trans (HB46.out.mono HF4.out.size)).mono HWK.out.size))
  have HFB := Lib.hid (HB3.out.trans ((HF4.out.trans (HB46.out.mono HF4.out.size)).mono HB3.out.size))
  have HOF := Lib.hid (of_any [cfMark, bs] (some ⟨w5.heap.size, 0, none⟩) 2 _ (Pieces.two (p := cfMark) HX6.out HX6.out.lt (by decide) (by decide) (HM.out _ (by have h := HB46.out; rw [HZ4.out] at h; exact h)) HC5.out HC6.out ((HS5.out.below HB6.out).more HB6.out.size)) (by simp) (by have := HBL.out; simp [cfMark]; omega) (HRW.out.of_below HFA.out))
  rw [← HD.out] at HOF
  clear HB46 HM HS5 HB5 HBY HZ4 HF4 HX6 HB6 HC5 HC6
  go_wp2_with fail
  refine (HOF.out).mono ?_
  rintro e w7 ⟨rfl, hb⟩
  have HF7 := Lib.hid (HFA.out.trans (hb.mono HFA.out.size))
  have HFC := Lib.hid (HFB.out.trans (hb.mono HFB.out.size))
  have hst := (HO.out.below HFC.out HO.out.lt).store_digest rfl d HDL.out
  have HB9 := Lib.hid ((HO.out.below HFC.out HO.out.lt).cells_dig rfl HDL.out)
  have HF9 : Hid (Below w.heap.size w (w7.setCells (w.heap.size + 1) 0 (d.map bv))) := below_cells HF7.out (by omega) HF7.out.size 0 _
  clear hb HOF HD HFA HF HO
  go_wp2
  exact ret_dig rfl rfl rfl HB9.out HDL.out ⟨rfl, HF9.out⟩

end Go.Proofs.YtbclepdcngaonaaGreatDoor

namespace Go.Proofs.YtbclepdcngaonaaGreatDoor
open Go.RowKit Go.Maps Go.Sort

/-- What a link is answered, from a configuration on, behind a height. -/
def stepN (ep : Int) (ms : List MemX) (h : Int) (x : LkX) : Int :=
  if (decide (x.b.height ≤ h) || (!goodB x.ep x.ms || decide (x.ep ≤ ep))) = true then 12 else if certB ep ms x.b x.r x.vs = false then 10 else if cfgD x.ep x.ms = x.b.next then 0 else 13
/-- A link of few things. -/
structure LkFew (l : LkM) : Prop where
  mem : l.ms.length ≤ 1000000
  blk : Small12 l.b.x
  len : l.vs.length ≤ 1000000

attribute [local go_sem ↓] ldCf_def ldBlk_def ldCt_def ldLk_def ldDigest_def eqDigest_def
set_option maxRecDepth 100000 in
set_option maxHeartbeats 8000000 in
theorem step_any15 (ep : Int) (ms : List MemX) (AM : Option Addr) (cM : Nat) (hn : ms.length ≤ 1099511627776) (h : Int) (l : LkM) (hf : LkFew l) (w : World) (hM : Mems w w.heap.size AM ms) (hL : LkSee w l) (hR : Roots w) :
    Calls Tryz.prog 7 #[.agg (cfgV ep AM ms.length cM), .int .i64 h, .agg l.cells.toArray] w fun e w' => e = .returned (.int .i64 (stepN ep ms h l.x)) ∧ Below w.heap.size w w' := by
  obtain ⟨w1, hw1⟩ : ∃ w1, w1 = (w.alloc (.cells (cfgV ep AM ms.length cM) 24)).alloc (.cells l.cells.toArray 37) := ⟨_, rfl⟩
  have hX : Box w1 w.heap.size 24 (cfgV ep AM ms.length cM) := by rw [hw1]; exact (Box.made w _ _).alloc _
  have hY : Box w1 (w.heap.size + 1) 37 (lkL l.b.cells l.r (.slice l.A l.vs.length l.c) l.ep (.slice l.M l.ms.length l.m)).toArray := by rw [hw1]; exact Box.made_at (by simp) _ _
  have HF : Hid (Below w.heap.size w w1) := by rw [hw1]; exact ((Below.refl _ _).alloc (Nat.le_refl _) _).alloc (by simp) _
  have HC : Hid (∀ w', Below w1.heap.size w1 w' → (ldCf (.pointer (some ⟨w.heap.size, 0, none⟩))).run Tryz.prog w' = .ok (.agg (cfgV ep AM ms.length cM)) w' ∧ w'.cell? ⟨w.heap.size, 0, none⟩ = some (.int .i64 ep) ∧ w'.cell? ⟨w.heap.size + 1, 1, none⟩ = some (.int .i64 l.b.x.height) ∧ (ldCf (.pointer (some ⟨w.heap.size + 1, 101, none⟩))).run Tryz.prog w' = .ok (.agg (cfgV l.ep l.M l.ms.length l.m)) w' ∧ w'.cell? ⟨w.heap.size + 1, 101, none⟩ = some (.int .i64 l.ep) ∧ (ldBlk (.pointer (some ⟨w.heap.size + 1, 0, none⟩))).run Tryz.prog w' = .ok (.agg l.b.cells.toArray) w' ∧ (ldCt (.pointer (some ⟨w.heap.size + 1, 99, none⟩))).run Tryz.prog w' = .ok (.agg (crtV l.r l.A l.vs.length l.c)) w' ∧ (ldDigest (.pointer (some ⟨w.heap.size + 1, 66, none⟩))).run Tryz.prog w' = .ok (.agg (l.b.x.next.map bv).toArray) w') := Lib.hid (fun w' hb => by
    have hx := hX.below hb hX.lt
    have hy := hY.below hb hY.lt
    exact ⟨hx.l_cf, hx.cell 0, hy.lk_1, hy.lk_cf l.b.cells_len, hy.lk_101 l.b.cells_len, hy.lk_blk, hy.lk_ct l.b.cells_len, range_load hy.lk_next l.b.x.ln⟩)
  have HR1 := Lib.hid (hR.of_below HF.out)
  have HL1 := Lib.hid (hL.call HF.out)
  have HM1 := Lib.hid (hM.far HF.out)
  have HGC : Hid (∀ w', Below w1.heap.size w1 w' → Calls Tryz.prog 24 #[.agg (cfgV l.ep l.M l.ms.length l.m)] w' fun e w'' => e = .returned (.bool (goodB l.ep l.ms)) ∧ Below w'.heap.size w' w'') := Lib.hid (fun w' hb => good_any8 l.ms l.ep l.M l.m (Nat.le_trans hf.mem (by simp [maxLen])) w' (HL1.out.mem.far hb))
  have HCK : Hid (∀ w', Below w1.heap.size w1 w' → Calls Tryz.prog 25 #[.agg (cfgV ep AM ms.length cM), .agg l.b.cells.toArray, .agg (crtV l.r l.A l.vs.length l.c)] w' fun e w'' => e = .returned (.bool (certB ep ms l.b.x l.r (l.vs.map VtM.x))) ∧ Below w'.heap.size w' w'') := Lib.hid (fun w' hb =>
    ccheck_any ms ep AM cM hn l.b hf.blk l.r l.vs l.A l.c hf.len w' (HM1.out.far hb) (HL1.out.call hb).blk (HL1.out.call hb).vts (HL1.out.call hb).sgs (HR1.out.of_below hb))
  have HDG : Hid (∀ w', Below w1.heap.size w1 w' → Calls Tryz.prog 26 #[.agg (cfgV l.ep l.M l.ms.length l.m)] w' fun e w'' => e = .returned (.agg ((cfgD l.ep l.ms).map bv).toArray) ∧ Below w'.heap.size w' w'') := Lib.hid (fun w' hb => cfgdgt_any l.ep l.ms l.M l.m hf.mem w' (HL1.out.call hb).mem (HR1.out.of_below hb))
  have ed := eq_digest (cfgD l.ep l.ms) l.b.x.next (cfgD_len _ _) l.b.x.ln
  have HE : Hid (stepN ep ms h l.x = if (decide (l.b.x.height ≤ h) || (!goodB l.ep l.ms || decide (l.ep ≤ ep))) = true then 12 else if certB ep ms l.b.x l.r (l.vs.map VtM.x) = false then 10 else if decide (cfgD l.ep l.ms = l.b.x.next) = true then 0 else 13) := Lib.hid (by
    unfold stepN LkM.x
    simp only [decide_eq_true_eq])
  clear hX hY hn hf hM hL hR HR1 HL1 HM1
  generalize stepN ep ms h l.x = res at *
  generalize decide (cfgD l.ep l.ms = l.b.x.next) = dq at *
  generalize ((cfgD l.ep l.ms).map bv).toArray = P1 at *
  generalize (l.b.x.next.map bv).toArray = Q1 at *
  generalize goodB l.ep l.ms = g0 at *
  generalize certB ep ms l.b.x l.r (l.vs.map VtM.x) = g1 at *
  generalize cfgV ep AM ms.length cM = CF at *
  generalize cfgV l.ep l.M l.ms.length l.m = CL at *
  generalize crtV l.r l.A l.vs.length l.c = CT at *
  generalize l.b.cells.toArray = BC at *
  generalize l.b.x.height = hh at *
  generalize l.ep = el at *
  generalize l.cells.toArray = LC at *
  go_enter Tryz.func7, Tryz.ntmps7
  go_upto_region 1 with fail
  change Code.wp _ _ _ _ ((w.alloc (.cells CF 24)).alloc (.cells LC 37))
  rw [← hw1]
  clear hw1
  obtain ⟨_, k1, k2, k3, k4, _⟩ := HC.out w1 (Below.refl _ _)
  by_cases hh0 : hh ≤ h
  · have e1 : decide (hh ≤ h) = true := decide_eq_true hh0
    have HRS : Hid (res = 12) := Lib.hid (by rw [HE.out, e1]; rfl)
    clear HE
    go_wp2
    go_ret
    exact ⟨ret_val (congrArg (Value.int .i64) HRS.out.symm), HF.out⟩
  have e1 : decide (hh ≤ h) = false := decide_eq_false hh0
  have HG1 := Lib.hid (HGC.out w1 (Below.refl _ _))
  cases g0 with
  | false =>
    have HRS : Hid (res = 12) := Lib.hid (by rw [HE.out, e1]; rfl)
    clear HE
    go_wp2_with (go_at_call 24; (with_reducible refine (HG1.out).mono ?_); rintro e w2 ⟨rfl, hb⟩; have HB2 := Lib.hid hb; clear hb)
    go_ret
    exact ⟨ret_val (congrArg (Value.int .i64) HRS.out.symm), HF.out.trans (HB2.out.mono HF.out.size)⟩
  | true =>
  by_cases hep : el ≤ ep
  · have e2 : decide (el ≤ ep) = true := decide_eq_true hep
    have HRS : Hid (res = 12) := Lib.hid (by rw [HE.out, e1, e2]; rfl)
    clear HE
    go_wp2_with (go_at_call 24; (with_reducible refine (HG1.out).mono ?_); rintro e w2 ⟨rfl, hb⟩; have HB2 := Lib.hid hb; obtain ⟨_, j1, _, _, j4, _⟩ := HC.out w2 hb; clear hb)
    go_ret
    exact ⟨ret_val (congrArg (Value.int .i64) HRS.out.symm), HF.out.trans (HB2.out.mono HF.out.size)⟩
  have e2 : decide (el ≤ ep) = false := decide_eq_false hep
  cases g1 with
  | false =>
    have HRS : Hid (res = 10) := Lib.hid (by rw [HE.out, e1, e2]; rfl)
    clear HE
    go_wp2_with (first
      | (go_at_call 24; (with_reducible refine (HG1.out).mono ?_); rintro e w2 ⟨rfl, hb⟩; have HB2 := Lib.hid hb; obtain ⟨j0, j1, _, _, j4, j5, j6, _⟩ := HC.out w2 hb; have HK2 := Lib.hid (HCK.out w2 hb); clear hb)
      | (go_at_call 25; (with_reducible refine (HK2.out).mono ?_); rintro e w3 ⟨rfl, hb⟩; have HB3 := Lib.hid (HB2.out.trans (hb.mono HB2.out.size)); clear hb))
    go_ret
    exact ⟨ret_val (congrArg (Value.int .i64) HRS.out.symm), HF.out.trans (HB3.out.mono HF.out.size)⟩
  | true =>
  have HRS : Hid (res = if dq = true then 0 else 13) := Lib.hid (by rw [HE.out, e1, e2]; rfl)
  clear HE hh0 hep
  go_upto_region 5 with (first
    | (go_at_call 24; (with_reducible refine (HG1.out).mono ?_); rintro e w2 ⟨rfl, hb⟩; have HB2 := Lib.hid hb; obtain ⟨j0, j1, _, _, j4, j5, j6, _⟩ := HC.out w2 hb; have HK2 := Lib.hid (HCK.out w2 hb); clear hb)
    | (go_at_call 25; (with_reducible refine (HK2.out).mono ?_); rintro e w3 ⟨rfl, hb⟩; have HB3 := Lib.hid (HB2.out.trans (hb.mono HB2.out.size)); clear hb))
  clear k1 k2 k3 k4 j0 j1 j4 j5 j6 HK2 HG1 HCK HGC HB2
  obtain ⟨wd, hwd⟩ : ∃ wd, wd = w3.drew := ⟨_, rfl⟩
  have hbd : Below w1.heap.size w1 wd := by rw [hwd]; exact HB3.out.trans (((Below.refl _ _).drew).mono HB3.out.size)
  refine wp_region_held_drew (S := fun w' => Below w1.heap.size w1 w') (by kernel_rfl) (by rw [← hwd]; exact hbd) (fun hS => ?_)
  rw [← hwd] at hS ⊢
  clear hwd hbd
  (refine wpAnyH_take (i := 0) (v := .pointer (some ⟨w.heap.size + 1, 101, none⟩)) rfl (by kernel_rfl) (by kernel_rfl) (by kernel_rfl) (fun _ _ _ h => h) (Or.inl ⟨by kernel_rfl, fun w hSw => by go_simp⟩) hS ?_)
  (try simp only [Act.put])
  (refine wpAnyH_take (i := 1) (v := .agg CL) rfl (by kernel_rfl) (by kernel_rfl) (by kernel_rfl) (fun _ _ _ h => h) (Or.inl ⟨by kernel_rfl, fun w hSw => by have hc := (HC.out w hSw).2.2.2.1; go_simp⟩) hS ?_)
  (try simp only [Act.put])
  (refine wpAnyH_take (i := 3) (v := .pointer (some ⟨w.heap.size + 1, 0, none⟩)) rfl (by kernel_rfl) (by kernel_rfl) (by kernel_rfl) (fun _ _ _ h => h) (Or.inl ⟨by kernel_rfl, fun w hSw => by go_simp⟩) hS ?_)
  (try simp only [Act.put])
  (refine wpAnyH_take (i := 4) (v := .pointer (some ⟨w.heap.size + 1, 66, none⟩)) rfl (by kernel_rfl) (by kernel_rfl) (by kernel_rfl) (fun _ _ _ h => h) (Or.inl ⟨by kernel_rfl, fun w hSw => by go_simp⟩) hS ?_)
  (try simp only [Act.put])
  (refine wpAnyH_take (i := 5) (v := .agg Q1) rfl (by kernel_rfl) (by kernel_rfl) (by kernel_rfl) (fun _ _ _ h => h) (Or.inl ⟨by kernel_rfl, fun w hSw => by have hc := (HC.out w hSw).2.2.2.2.2.2.2; go_simp⟩) hS ?_)
  (try simp only [Act.put])
  refine wpAnyH_ready (rs := [2]) (by decide +kernel) (by simp) (AllReadyH.cons rfl (fun K hK => ?_) AllReadyH.nil)
  go_simp
  (go_at_call 26; (with_reducible refine (HDG.out _ hS).mono ?_); rintro e w4 ⟨rfl, hb⟩)
  refine hK.out _ _ (hS.trans (hb.mono hS.size)) (fun hS => ?_)
  clear hK K
  (try simp only [Act.put])
  clear hb
  (refine wpAnyH_take (i := 6) (v := .bool (!dq)) rfl (by kernel_rfl) (by kernel_rfl) (by kernel_rfl) (fun _ _ _ h => h) (Or.inl ⟨by kernel_rfl, fun w hSw => by have hc := ed w; go_simp⟩) hS ?_)
  (try simp only [Act.put])
  (refine wpAnyH_take (i := 7) (v := .bool (!dq)) rfl (by kernel_rfl) (by kernel_rfl) (by kernel_rfl) (fun _ _ _ h => h) (Or.inl ⟨by kernel_rfl, fun w hSw => by go_simp⟩) hS ?_)
  (try simp only [Act.put])
  refine wpAnyH_done (by kernel_rfl) ?_ _
  have HB9 := Lib.hid hS
  clear hS HDG ed
  go_simp
  cases dq with
  | true =>
    go_wp2
    go_ret
    exact ⟨ret_val (congrArg (Value.int .i64) HRS.out.symm), HF.out.trans (HB9.out.mono HF.out.size)⟩
  | false =>
    go_wp2
    go_ret
    exact ⟨ret_val (congrArg (Value.int .i64) HRS.out.symm), HF.out.trans (HB9.out.mono HF.out.size)⟩
end Go.Proofs.YtbclepdcngaonaaGreatDoor

namespace Go.Proofs.YtbclepdcngaonaaGreatDoor
open Go.RowKit Go.Maps Go.Sort

/-- Where links lead, from a configuration on, behind a height: the configuration at the end, how many lead or which one doesn't, and why. -/
def walkN : Int → List MemX → Int → Nat → List LkX → (Int × List MemX) × Nat × Int
  | ep, ms, _, i, [] => ((ep, ms), i, 0)
  | ep, ms, h, i, l :: r => if stepN ep ms h l = 0 then walkN l.ep l.ms l.b.height (i + 1) r else ((0, []), i, stepN ep ms h l)
def checkN (ep : Int) (ms : List MemX) (ls : List LkX) : (Int × List MemX) × Nat × Int :=
  if goodB ep ms = false then ((0, []), 0, 1) else if 1024 < ls.length then ((0, []), 0, 11) else walkN ep ms 0 0 ls
/-- What a chain is answered. -/
def ChkIs (w : World) (r : (Int × List MemX) × Nat × Int) (e : Ending) (w' : World) : Prop :=
  ∃ A c, e = .returned (.tuple #[.agg (cfgV r.1.1 A r.1.2.length c), .int .i64 (r.2.1 : Int), .int .i64 r.2.2]) ∧ MK.Own w' w.heap.size (.slice A r.1.2.length c) r.1.2 ∧ Below w.heap.size w w'
set_option maxRecDepth 100000 in
theorem ChkIs.stop {w w' : World} {k : Nat} {x : Int} {r : (Int × List MemX) × Nat × Int} (hr : r = ((0, []), k, x)) (h : Below w.heap.size w w') : ChkIs w r (.returned (.tuple #[.agg (cfgV 0 none 0 0), .int .i64 (k : Int), .int .i64 x])) w' := by
  subst hr
  exact ⟨none, 0, rfl, EK.own_nil _ _ _, h⟩

/-- The box that an answer is kept in. -/
structure CkBox (w0 : World) (r : (Int × List MemX) × Nat × Int) (g : Nat) (w : World) : Prop where
  lo : w0.heap.size ≤ g
  far : Below w0.heap.size w0 w
  box : ∃ A c, Box w g 24 (cfgV r.1.1 A r.1.2.length c) ∧ Mems w w.heap.size A r.1.2
set_option maxRecDepth 100000 in
theorem CkBox.call {w0 w w' : World} {r : (Int × List MemX) × Nat × Int} {g : Nat} (h : CkBox w0 r g w) (hb : Below w.heap.size w w') : CkBox w0 r g w' := by
  obtain ⟨A, c, h1, h2⟩ := h.box
  exact ⟨h.lo, h.far.trans (hb.mono h.far.size), A, c, h1.below hb h1.lt, h2.far hb⟩
set_option maxRecDepth 100000 in
theorem walkN_cons (ep : Int) (ms : List MemX) (h : Int) (i : Nat) (l : LkX) (r : List LkX) : walkN ep ms h i (l :: r) = if stepN ep ms h l = 0 then walkN l.ep l.ms l.b.height (i + 1) r else ((0, []), i, stepN ep ms h l) := by rw [walkN]
set_option maxRecDepth 100000 in
theorem stepN_ok {ep : Int} {ms : List MemX} {h : Int} {x : LkX} (hs : stepN ep ms h x = 0) : h < x.b.height ∧ goodB x.ep x.ms = true ∧ ep < x.ep ∧ certB ep ms x.b x.r x.vs = true ∧ cfgD x.ep x.ms = x.b.next := by
  unfold stepN at hs
  split at hs
  · cases hs
  · rename_i h1
    split at hs
    · cases hs
    · rename_i h2
      split at hs
      · rename_i h3
        have h4 : goodB x.ep x.ms = true := by
          cases hg : goodB x.ep x.ms with
          | true => rfl
          | false => exact absurd (by rw [hg]; simp) h1
        have h5 : ¬ x.b.height ≤ h := fun h5 => h1 (by rw [decide_eq_true h5]; rfl)
        have h6 : ¬ x.ep ≤ ep := fun h6 => h1 (by rw [decide_eq_true h6]; simp)
        exact ⟨by omega, h4, by omega, by simpa using h2, h3⟩
      · cases hs
end Go.Proofs.YtbclepdcngaonaaGreatDoor

namespace Go.Proofs.YtbclepdcngaonaaGreatDoor
open Go.RowKit Go.Maps Go.Sort

set_option maxRecDepth 100000 in
theorem ret_cf3 {fn : Func} {p q r : Tmp} (hf : fn.results = #[.cell p 24, .tmp q, .tmp r]) {a : Act} {w : World} {g : Nat} (hp : a.tmps.getD p undef = .pointer (some ⟨g, 0, none⟩)) {b c : Value} (hq : a.tmps.getD q undef = b) (hr : a.tmps.getD r undef = c) (hdf : a.defers = []) {t : TypeId} {ep : Int} {A : Option Addr} {n m : Nat} (hb : Box w g t (cfgV ep A n m))
    {R : Ending → World → Prop} (hR : R (.returned (.tuple #[.agg (cfgV ep A n m), b, c])) w) : bodyPost Tryz.prog fn R .ret a w := by
  have hp' : a.tmps[p]?.getD undef = .pointer (some ⟨g, 0, none⟩) := by simpa using hp
  have hq' : a.tmps[q]?.getD undef = b := by simpa using hq
  have hr' : a.tmps[r]?.getD undef = c := by simpa using hr
  refine bodyPost_ret (v := .tuple #[.agg (cfgV ep A n m), b, c]) ?_ hdf hR
  simp [results, hf, hp', hq', hr', asAddr, run_loadVar_row w g t 24 (cfgV ep A n m) (0, 0) _ hb Tryz.underlying24 rfl (cf_size ep A n m)]
noncomputable def bdCf15 (parts : Array (Nat × Value)) : Sem Value := Instr.build 24 parts
set_option maxRecDepth 100000 in
theorem bdCf15_def (parts : Array (Nat × Value)) : Instr.build 24 parts = bdCf15 parts := rfl
set_option maxRecDepth 100000 in
theorem bd_cf15 (ep : Int) (A : Option Addr) (n c : Nat) (w : World) : (bdCf15 #[(0, .int .i64 ep), (1, .slice A n c)]).run Tryz.prog w = .ok (.agg (cfgV ep A n c)) w := run_build w _ _ _ (by kernel_rfl)
set_option maxRecDepth 100000 in
theorem bd_cf150 (w : World) : (bdCf15 #[]).run Tryz.prog w = .ok (.agg (cfgV 0 none 0 0)) w := run_build w _ _ _ (by kernel_rfl)
noncomputable def alCf15 (b : Bool) (v : Value) : Sem Value := Instr.alloc 24 b v
set_option maxRecDepth 100000 in
theorem alCf15_def (b : Bool) (v : Value) : Instr.alloc 24 b v = alCf15 b v := rfl
set_option maxRecDepth 100000 in
theorem zero_cf15 (w : World) : (zeroValue 24).run Tryz.prog w = .ok (.agg (cfgV 0 none 0 0)) w := by kernel_rfl
set_option maxRecDepth 100000 in
theorem al_cf15 (w : World) : (alCf15 true (.tuple #[])).run Tryz.prog w = .ok (.pointer (some ⟨w.heap.size, 0, none⟩)) (w.alloc (.cells (cfgV 0 none 0 0) 24)) := by
  have h := zero_cf15 w
  unfold alCf15 Instr.alloc
  simp [Sem.run_bind, h, newVar, newRow, Value.cells]

attribute [local go_sem ↓] ldCf_def stCf_def ldLk_def stLk_def alLk_def bdCf15_def alCf15_def
set_option maxRecDepth 100000 in
set_option maxHeartbeats 16000000 in
theorem check_any15 (ep : Int) (ms : List MemX) (AM : Option Addr) (cM : Nat) (hn : ms.length ≤ 1000000) (ls : List LkM) (A : Option Addr) (c : Nat) (hl : ls.length ≤ 1000000) (hf : ∀ l ∈ ls, LkFew l) (w : World) (hM : Mems w w.heap.size AM ms) (hL : LksSee w A ls) (hR : Roots w) :
    Calls Tryz.prog 9 #[.agg (cfgV ep AM ms.length cM), .slice A ls.length c] w (ChkIs w (checkN ep ms (ls.map LkM.x))) := by
  obtain ⟨w1, hw1⟩ : ∃ w1, w1 = (w.alloc (.cells (cfgV ep AM ms.length cM) 24)).alloc (.cells (cfgV 0 none 0 0) 24) := ⟨_, rfl⟩
  have HX : Hid (Box w1 w.heap.size 24 (cfgV ep AM ms.length cM)) := by rw [hw1]; exact (Box.made w _ _).alloc _
  have HO : Hid (Box w1 (w.heap.size + 1) 24 (cfgV 0 none 0 0)) := by rw [hw1]; exact Box.made_at (by simp) _ _
  have HF : Hid (Below w.heap.size w w1) := by rw [hw1]; exact ((Below.refl _ _).alloc (Nat.le_refl _) _).alloc (by simp) _
  have HM := Lib.hid (hM.far HF.out)
  have HL := Lib.hid hL
  have HR := Lib.hid hR
  have HGC := Lib.hid (good_any8 ms ep AM cM (Nat.le_trans hn (by simp [maxLen])) w1 HM.out)
  have HFW := Lib.hid hf
  have HN := Lib.hid hn
  have HLN := Lib.hid hl
  have lc := HX.out.l_cf
  have HE : Hid (checkN ep ms (ls.map LkM.x) = if goodB ep ms = false then ((0, []), 0, 1) else if 1024 < ls.length then ((0, []), 0, 11) else walkN ep ms 0 0 (ls.map LkM.x)) := Lib.hid (by
    unfold checkN
    rw [List.length_map])
  clear hM hL hR hf hl hn
  generalize checkN ep ms (ls.map LkM.x) = res at *
  generalize goodB ep ms = g0 at *
  have al0 := al_cf15
  have bz := bd_cf150
  go_enter Tryz.func9, Tryz.ntmps9
  go_upto_region 1 with fail
  change Code.wp _ _ _ _ ((w.alloc (.cells (cfgV ep AM ms.length cM) 24)).alloc (.cells (cfgV 0 none 0 0) 24))
  rw [← hw1]
  clear hw1
  cases g0 with
  | false =>
    have HRS : Hid (res = ((0, []), 0, 1)) := Lib.hid (by rw [HE.out]; rfl)
    clear HE
    go_wp2_with (go_at_call 24; (with_reducible refine (HGC.out).mono ?_); rintro e w2 ⟨rfl, hb⟩; have HB2 := Lib.hid hb; obtain ⟨w3, hst, hb3, hg3⟩ := (HO.out.below hb HO.out.lt).s_cf rfl 0 none 0 0; have HB3 := Lib.hid hb3; have HG3 := Lib.hid hg3; clear hb hb3 hg3)
    have HF2 := HF.out.trans (HB2.out.mono HF.out.size)
    exact ret_cf3 (b := .int .i64 0) (c := .int .i64 1) rfl rfl rfl rfl rfl HB3.out (ChkIs.stop (k := 0) HRS.out (HF2.trans (below_only HG3.out (by omega) HF2.size)))
  | true =>
  by_cases hmany : 1024 < ls.length
  · have HRS : Hid (res = ((0, []), 0, 11)) := Lib.hid (by rw [HE.out, if_neg (by simp), if_pos hmany])
    have e1 : decide ((1024 : Int) < (ls.length : Int)) = true := decide_eq_true (by omega)
    clear HE
    go_wp2_with (go_at_call 24; (with_reducible refine (HGC.out).mono ?_); rintro e w2 ⟨rfl, hb⟩; have HB2 := Lib.hid hb; obtain ⟨w3, hst, hb3, hg3⟩ := (HO.out.below hb HO.out.lt).s_cf rfl 0 none 0 0; have HB3 := Lib.hid hb3; have HG3 := Lib.hid hg3; clear hb hb3 hg3)
    have HF2 := HF.out.trans (HB2.out.mono HF.out.size)
    exact ret_cf3 (b := .int .i64 0) (c := .int .i64 11) rfl rfl rfl rfl rfl HB3.out (ChkIs.stop (k := 0) HRS.out (HF2.trans (below_only HG3.out (by omega) HF2.size)))
  have HW0 : Hid (res = walkN ep ms 0 0 (ls.map LkM.x)) := Lib.hid (by rw [HE.out, if_neg (by simp), if_neg hmany])
  have e1 : decide ((1024 : Int) < (ls.length : Int)) = false := decide_eq_false (by omega)
  clear HE hmany
  have HX2 : Hid (∀ w', Below w1.heap.size w1 w' → (ldCf (.pointer (some ⟨w.heap.size, 0, none⟩))).run Tryz.prog w' = .ok (.agg (cfgV ep AM ms.length cM)) w') := Lib.hid (fun w' hb => (HX.out.below hb HX.out.lt).l_cf)
  clear HX
  go_upto_region 5 with (go_at_call 24; (with_reducible refine (HGC.out).mono ?_); rintro e w2 ⟨rfl, hb⟩; have HB2 := Lib.hid hb; clear hb)
  clear lc e1 HGC
  have lc := HX2.out w2 HB2.out
  obtain ⟨w4, hst, hb4, hbl4, _⟩ := laid_cf w2 (cfgV 0 none 0 0) rfl ep AM ms.length cM
  have HG7 : Hid (w1.heap.size ≤ w2.heap.size) := Lib.hid HB2.out.size
  have HC4 := Lib.hid hb4
  have HB4 : Hid (Below w1.heap.size w1 w4) := Lib.hid (HB2.out.trans (hbl4.mono HB2.out.size))
  clear hb4 hbl4
  go_wp2
  clear hst lc HX2 HB2
  generalize w2.heap.size = g7 at *
  have HBW : Hid (Below w.heap.size w w4) := Lib.hid (HF.out.trans (HB4.out.mono HF.out.size))
  have HO4 : Hid (Box w4 (w.heap.size + 1) 24 (cfgV 0 none 0 0)) := Lib.hid (HO.out.below HB4.out HO.out.lt)
  have HS1 : Hid (w.heap.size + 2 ≤ w1.heap.size) := Lib.hid (by have := HO.out.lt; omega)
  have HM4 := Lib.hid (HM.out.far HB4.out)
  have HN4 : Hid (ms.length ≤ 1099511627776) := Lib.hid (by have := HN.out; omega)
  have HW4 : Hid (res = walkN ep ms 0 0 ((ls.map LkM.x).drop 0)) := Lib.hid HW0.out
  clear HM HN HO HW0 HB4
  go_loopw [8, 23] (fun hv i wr => ∃ (k : Nat) (E : Int) (M : List MemX) (B : Option Addr) (d : Nat) (hh : Int), k ≤ ls.length ∧ hv = .int .i64 hh ∧ i = .int .i64 (k : Int) ∧ Hid (Below w.heap.size w wr) ∧ Hid (Box wr (w.heap.size + 1) 24 (cfgV 0 none 0 0)) ∧ Hid (Box wr g7 24 (cfgV E B M.length d)) ∧ Hid (Mems wr wr.heap.size B M) ∧ Hid (M.length ≤ 1099511627776) ∧ Hid (res = walkN E M hh k ((ls.map LkM.x).drop k))) (fun _ i _ => ls.length - (intOf i).toNat)
  case atStart => exact ⟨0, ep, ms, AM, cM, 0, Nat.zero_le _, rfl, rfl, HBW, HO4, HC4, HM4, HN4, HW4⟩
  case round =>
    clear HBW HO4 HC4 HM4 HN4 HW4
    obtain ⟨k, E, M, B, d, hh, hk, rfl, rfl, HBW, HO4, HC4, HM4, HN4, HW4⟩ := hrel
    by_cases hlt : k < ls.length
    rotate_left
    · have i1 : ¬ (k : Int) < (ls.length : Int) := by omega
      have HRS : Hid (res = ((E, M), ls.length, 0)) := Lib.hid (by
        have e : k = ls.length := by omega
        subst e
        rw [HW4.out, List.drop_of_length_le (by rw [List.length_map]; exact Nat.le_refl _)]
        rfl)
      have bc := bd_cf15
      clear hk hlt HW4 bz al0
      go_upto_region 14 with fail
      clear i1
      obtain ⟨wd, hwd⟩ : ∃ wd, wd = wr.drew := ⟨_, rfl⟩
      have hbd : Below wr.heap.size wr wd := by rw [hwd]; exact (Below.refl _ _).drew
      have HD := Lib.hid (HBW.out.trans (hbd.mono HBW.out.size))
      have HOD := Lib.hid (HO4.out.below hbd HO4.out.lt)
      have HMD := Lib.hid (HM4.out.far hbd)
      have HCD := Lib.hid (HC4.out.below hbd HC4.out.lt)
      refine wp_region_held_drew (S := fun w' => Box w' g7 24 (cfgV E B M.length d)) (by kernel_rfl) (by rw [← hwd]; exact HCD.out) (fun hS => ?_)
      rw [← hwd] at hS ⊢
      clear hwd hbd HBW HO4 HM4 HC4
      (refine wpAnyH_take (i := 0) (v := .pointer (some ⟨g7, 0, none⟩)) rfl (by kernel_rfl) (by kernel_rfl) (by kernel_rfl) (fun _ _ _ h => h) (Or.inl ⟨by kernel_rfl, fun w hSw => by go_simp⟩) hS ?_)
      (try simp only [Act.put])
      (refine wpAnyH_take (i := 1) (v := .int .i64 E) rfl (by kernel_rfl) (by kernel_rfl) (by kernel_rfl) (fun _ _ _ h => h) (Or.inl ⟨by kernel_rfl, fun w hSw => by have hc := hSw.cell 0; go_simp⟩) hS ?_)
      (try simp only [Act.put])
      (refine wpAnyH_take (i := 2) (v := .pointer (some ⟨g7, 1, none⟩)) rfl (by kernel_rfl) (by kernel_rfl) (by kernel_rfl) (fun _ _ _ h => h) (Or.inl ⟨by kernel_rfl, fun w hSw => by go_simp⟩) hS ?_)
      (try simp only [Act.put])
      (refine wpAnyH_take (i := 3) (v := .slice B M.length d) rfl (by kernel_rfl) (by kernel_rfl) (by kernel_rfl) (fun _ _ _ h => h) (Or.inl ⟨by kernel_rfl, fun w hSw => by have hc := hSw.cell 1; go_simp⟩) hS ?_)
      (try simp only [Act.put])
      (refine wpAnyH_take (i := 6) (v := .slice A ls.length c) rfl (by kernel_rfl) (by kernel_rfl) (by kernel_rfl) (fun _ _ _ h => h) (Or.inl ⟨by kernel_rfl, fun w hSw => by go_simp⟩) hS ?_)
      (try simp only [Act.put])
      (refine wpAnyH_take (i := 7) (v := .int .i64 (ls.length : Int)) rfl (by kernel_rfl) (by kernel_rfl) (by kernel_rfl) (fun _ _ _ h => h) (Or.inl ⟨by kernel_rfl, fun w hSw => by go_simp⟩) hS ?_)
      (try simp only [Act.put])
      have HCL := Lib.hid (clone_m M B d (by have := HN4.out; omega) (by have := HN4.out; show M.length * 48 ≤ _; omega) wd HMD.out)
      refine wpAnyH_ready (rs := [4]) (by decide +kernel) (by simp) (AllReadyH.cons rfl (fun K hK => ?_) AllReadyH.nil)
      go_simp
      (go_at_call 30; (with_reducible refine (HCL.out).mono ?_); rintro e w5 ⟨A5, c5, rfl, ho5, hb⟩)
      refine hK.out _ _ (hS.below hb hS.lt) (fun hS => ?_)
      clear hK K
      (try simp only [Act.put])
      have HOW := Lib.hid ho5
      have HB5 := Lib.hid (HD.out.trans (hb.mono HD.out.size))
      have HO5 := Lib.hid (HOD.out.below hb HOD.out.lt)
      clear hb ho5
      (refine wpAnyH_take (i := 5) (v := .agg (cfgV E A5 M.length c5)) rfl (by kernel_rfl) (by kernel_rfl) (by kernel_rfl) (fun _ _ _ h => h) (Or.inl ⟨by kernel_rfl, fun w hSw => by have hc := bc E A5 M.length c5 w; go_simp⟩) hS ?_)
      (try simp only [Act.put])
      obtain ⟨w6, hst, hb6, hg6⟩ := HO5.out.s_cf rfl E A5 M.length c5
      refine wpAnyH_ready (rs := [8]) (by decide +kernel) (by simp) (AllReadyH.cons rfl (fun K hK => ?_) AllReadyH.nil)
      go_simp
      refine hK.out _ _ (hS.grown hg6 (by intro e; injection e with e; have := HG7.out; have := HS1.out; omega)) (fun hS => ?_)
      clear hK K
      (try simp only [Act.put])
      (refine wpAnyH_take (i := 9) (v := .int .i64 (ls.length : Int)) rfl (by kernel_rfl) (by kernel_rfl) (by kernel_rfl) (fun _ _ _ h => h) (Or.inl ⟨by kernel_rfl, fun w hSw => by go_simp⟩) hS ?_)
      (try simp only [Act.put])
      (refine wpAnyH_take (i := 10) (v := .int .i64 0) rfl (by kernel_rfl) (by kernel_rfl) (by kernel_rfl) (fun _ _ _ h => h) (Or.inl ⟨by kernel_rfl, fun w hSw => by go_simp⟩) hS ?_)
      (try simp only [Act.put])
      refine wpAnyH_done (by kernel_rfl) ?_ _
      go_simp
      go_wp2
      refine ret_cf3 (b := .int .i64 (ls.length : Int)) (c := .int .i64 0) rfl rfl rfl rfl rfl hb6 ?_
      exact ⟨A5, c5, by rw [HRS.out], by rw [HRS.out]; exact EK.Own.base (own_box HOW.out HO5.out (by decide) hg6) HD.out.size, HB5.out.trans (below_only hg6 (by omega) HB5.out.size)⟩
    have HLT := Lib.hid hlt
    have HLW := Lib.hid (HL.out.call HBW.out)
    obtain ⟨g, o, hA, hrl⟩ := row_link HLW.out.row hlt
    have lk := hrl wr (Below.refl _ _)
    have HST : Hid (res = if stepN E M hh (ls[k]'hlt).x = 0 then walkN (ls[k]'hlt).ep (ls[k]'hlt).ms (ls[k]'hlt).b.x.height (k + 1) ((ls.map LkM.x).drop (k + 1)) else ((0, []), k, stepN E M hh (ls[k]'hlt).x)) := Lib.hid (by
      rw [HW4.out, List.drop_eq_getElem_cons (by rw [List.length_map]; exact hlt), walkN_cons, List.getElem_map]
      rfl)
    have HFL := Lib.hid (HFW.out _ (List.getElem_mem hlt))
    have HLS := Lib.hid (HLW.out.each _ (List.getElem_mem hlt))
    have HL0 : Hid (∀ w', Below w.heap.size w w' → Mems w' w'.heap.size (ls[k]'hlt).M (ls[k]'hlt).ms) := Lib.hid (fun w' hb => ((HL.out.each _ (List.getElem_mem hlt)).call hb).mem)
    have i1 : (k : Int) < (ls.length : Int) := by omega
    have i0 : (0 : Int) ≤ (k : Int) := by omega
    have wk : IntKind.i64.wrap ((k : Int) + 1) = ((k + 1 : Nat) : Int) := by rw [IntKind.wrap_i64]; have := HLN.out; omega
    clear hrl HW4 HLW hk
    rw [hA]
    generalize ls[k]'hlt = l at *
    obtain ⟨w8, hst8, hb8, hbl8⟩ := laid_lk wr l
    have hav := al_lk wr
    have HX8 := Lib.hid hb8
    have HB8 := Lib.hid (HBW.out.trans (hbl8.mono HBW.out.size))
    have HK := Lib.hid (step_any15 E M B d HN4.out hh l HFL.out w8 (HM4.out.far hbl8) (HLS.out.call hbl8) (HR.out.of_below HB8.out))
    have HC8 := Lib.hid (HC4.out.below hbl8 HC4.out.lt)
    have HO8 := Lib.hid (HO4.out.below hbl8 HO4.out.lt)
    have HG10 : Hid (g7 < wr.heap.size) := Lib.hid HC4.out.lt
    have lc := HC8.out.l_cf
    have ll := hb8.ld_lk
    clear hb8 hbl8 hlt HBW HO4 HC4 HM4 HN4 HLS
    generalize hs : stepN E M hh l.x = s at *
    clear hs
    generalize wr.heap.size = g10 at *
    by_cases hs : s = 0
    rotate_left
    · have es : (s != 0) = true := by simpa using hs
      have HRS : Hid (res = ((0, []), k, s)) := Lib.hid (by rw [HST.out, if_neg hs])
      clear HST hs
      go_wp2_with (go_at_call 7; (with_reducible refine (HK.out).mono ?_); rintro e w9 ⟨rfl, hb⟩; have HB9 := Lib.hid (HB8.out.trans (hb.mono HB8.out.size)); obtain ⟨w3, hst, hb3, hg3⟩ := (HO8.out.below hb HO8.out.lt).s_cf rfl 0 none 0 0; have HB3 := Lib.hid hb3; have HG3 := Lib.hid hg3; clear hb hb3 hg3)
      exact ret_cf3 (b := .int .i64 (k : Int)) (c := .int .i64 s) rfl rfl rfl rfl rfl HB3.out (ChkIs.stop (k := k) HRS.out (HB9.out.trans (below_only HG3.out (by omega) HB9.out.size)))
    subst hs
    have es : ((0 : Int) != 0) = false := rfl
    have HRS : Hid (res = walkN l.ep l.ms l.b.x.height (k + 1) ((ls.map LkM.x).drop (k + 1))) := Lib.hid (by rw [HST.out, if_pos rfl])
    clear HST
    go_upto_region 12 with (go_at_call 7; (with_reducible refine (HK.out).mono ?_); rintro e w9 ⟨rfl, hb⟩; have HB9 := Lib.hid (HB8.out.trans (hb.mono HB8.out.size)); have HX9 := Lib.hid (HX8.out.below hb HX8.out.lt); have HC9 := Lib.hid (HC8.out.below hb HC8.out.lt); have HO9 := Lib.hid (HO8.out.below hb HO8.out.lt); clear hb)
    clear hst8 hav lc ll lk es HB8 HX8 HC8 HO8 HK
    obtain ⟨wd, hwd⟩ : ∃ wd, wd = w9.drew := ⟨_, rfl⟩
    have hbd : Below w9.heap.size w9 wd := by rw [hwd]; exact (Below.refl _ _).drew
    have HD := Lib.hid (HB9.out.trans (hbd.mono HB9.out.size))
    have HOD := Lib.hid (HO9.out.below hbd HO9.out.lt)
    have HCD := Lib.hid (HC9.out.below hbd HC9.out.lt)
    have HXD := Lib.hid (HX9.out.below hbd HX9.out.lt)
    obtain ⟨w11, hst, hb11, hg11⟩ := HCD.out.s_cf rfl l.ep l.M l.ms.length l.m
    refine wp_region_held_drew (S := fun w' => Box w' g10 37 (lkL l.b.cells l.r (.slice l.A l.vs.length l.c) l.ep (.slice l.M l.ms.length l.m)).toArray) (by kernel_rfl) (by rw [← hwd]; exact HXD.out) (fun hS => ?_)
    rw [← hwd] at hS ⊢
    clear hwd hbd HB9 HX9 HC9 HO9
    (refine wpAnyH_take (i := 0) (v := .pointer (some ⟨g10, 101, none⟩)) rfl (by kernel_rfl) (by kernel_rfl) (by kernel_rfl) (fun _ _ _ h => h) (Or.inl ⟨by kernel_rfl, fun w hSw => by go_simp⟩) hS ?_)
    (try simp only [Act.put])
    (refine wpAnyH_take (i := 1) (v := .agg (cfgV l.ep l.M l.ms.length l.m)) rfl (by kernel_rfl) (by kernel_rfl) (by kernel_rfl) (fun _ _ _ h => h) (Or.inl ⟨by kernel_rfl, fun w hSw => by have hc := Box.lk_cf l.b.cells_len hSw; go_simp⟩) hS ?_)
    (try simp only [Act.put])
    (refine wpAnyH_take (i := 2) (v := .pointer (some ⟨g10, 0, none⟩)) rfl (by kernel_rfl) (by kernel_rfl) (by kernel_rfl) (fun _ _ _ h => h) (Or.inl ⟨by kernel_rfl, fun w hSw => by go_simp⟩) hS ?_)
    (try simp only [Act.put])
    (refine wpAnyH_take (i := 3) (v := .pointer (some ⟨g10, 1, none⟩)) rfl (by kernel_rfl) (by kernel_rfl) (by kernel_rfl) (fun _ _ _ h => h) (Or.inl ⟨by kernel_rfl, fun w hSw => by go_simp⟩) hS ?_)
    (try simp only [Act.put])
    (refine wpAnyH_take (i := 4) (v := .int .i64 l.b.x.height) rfl (by kernel_rfl) (by kernel_rfl) (by kernel_rfl) (fun _ _ _ h => h) (Or.inl ⟨by kernel_rfl, fun w hSw => by have hc := Box.lk_1 hSw; go_simp⟩) hS ?_)
    (try simp only [Act.put])
    refine wpAnyH_ready (rs := [5]) (by decide +kernel) (by simp) (AllReadyH.cons rfl (fun K hK => ?_) AllReadyH.nil)
    go_simp
    refine hK.out _ _ (hS.grown hg11 (by intro e; injection e with e; have := HG10.out; omega)) (fun hS => ?_)
    clear hK K
    (try simp only [Act.put])
    (refine wpAnyH_take (i := 6) (v := .int .i64 l.b.x.height) rfl (by kernel_rfl) (by kernel_rfl) (by kernel_rfl) (fun _ _ _ h => h) (Or.inl ⟨by kernel_rfl, fun w hSw => by go_simp⟩) hS ?_)
    (try simp only [Act.put])
    refine wpAnyH_done (by kernel_rfl) ?_ _
    have HCE := Lib.hid hb11
    have HBE := Lib.hid (HD.out.trans (below_only hg11 (by have := HG7.out; have := HS1.out; omega) HD.out.size))
    have HOE : Hid (Box w11 (w.heap.size + 1) 24 (cfgV 0 none 0 0)) := Lib.hid (HOD.out.grown hg11 (by intro e; injection e with e; have := HG7.out; have := HS1.out; omega))
    have HME := Lib.hid (HL0.out w11 HBE.out)
    have HNE : Hid (l.ms.length ≤ 1099511627776) := Lib.hid (by have := HFL.out.mem; omega)
    clear hb11 hg11 hst hS
    go_simp
    go_wp2
    go_roundw
    case rel => exact ⟨k + 1, l.ep, l.ms, l.M, l.m, l.b.x.height, HLT.out, rfl, by go_num, HBE, HOE, HCE, HME, HNE, HRS⟩
    case measure => have := HLT.out; simp [intOf]; omega
end Go.Proofs.YtbclepdcngaonaaGreatDoor

namespace Go.Proofs.YtbclepdcngaonaaGreatDoor
open Go.RowKit Go.Maps Go.Sort

/-- A link of lists that can be. -/
structure LkLim (l : LkM) : Prop where
  len : l.b.x.reqs.length ≤ 140737488351232
  txt : ∀ q ∈ l.b.x.reqs, q.key.size ≤ 140737488351232 ∧ q.val.size ≤ 140737488351232 ∧ q.old.size ≤ 140737488351232
/-- What is played when it isn't great. -/
structure LkSmall (l : LkM) : Prop where
  mem : l.ms.length ≤ 20
  len : l.vs.length ≤ 12
  blk : Few14 l.b.x
  few : ∀ m ∈ l.vs, VFew m.x
structure LSmall (ms : List MemX) (ls : List LkM) : Prop where
  mem : ms.length ≤ 20
  len : ls.length ≤ 6
  each : ∀ l ∈ ls, LkSmall l
set_option maxRecDepth 100000 in
theorem few_small15 {x : BlkX} (h : Few14 x) : Small12 x := ⟨by have := h.len; omega, fun q hq => by have := h.txt q hq; omega⟩
set_option maxRecDepth 100000 in
theorem LkSmall.lk {l : LkM} (h : LkSmall l) : LkFew l := ⟨by have := h.mem; omega, few_small15 h.blk, by have := h.len; omega⟩
def GreatL (ms : List MemX) (ls : List LkM) (w : World) (e : Ending) (w' : World) : Prop := ∃ g : Bool, e = .returned (.bool g) ∧ (g = false → LSmall ms ls) ∧ Below w.heap.size w w'
set_option maxRecDepth 100000 in
theorem GreatL.yes {ms : List MemX} {ls : List LkM} {w w' : World} (h : Below w.heap.size w w') : GreatL ms ls w (.returned (.bool true)) w' := ⟨true, rfl, fun h => (by cases h), h⟩

attribute [local go_sem ↓] ldCf_def ldBlk_def ldCt_def ldLk_def stLk_def alLk_def ldVt_def stVt_def alVt14_def
set_option maxRecDepth 100000 in
set_option maxHeartbeats 16000000 in
theorem lgreat_any (ms : List MemX) (ep : Int) (AM : Option Addr) (cM : Nat) (ls : List LkM) (hlim : ∀ l ∈ ls, LkLim l) (A : Option Addr) (c : Nat) (w : World) (hL : LksSee w A ls) :
    Calls Tryz.prog 6 #[.agg (cfgV ep AM ms.length cM), .slice A ls.length c] w (GreatL ms ls w) := by
  obtain ⟨w1, hw1⟩ : ∃ w1, w1 = w.alloc (.cells (cfgV ep AM ms.length cM) 24) := ⟨_, rfl⟩
  have hX : Box w1 w.heap.size 24 (cfgV ep AM ms.length cM) := by rw [hw1]; exact Box.made w _ _
  have HF : Hid (Below w.heap.size w w1) := by rw [hw1]; exact (Below.refl _ _).alloc (Nat.le_refl _) _
  have c1 : w1.cell? ⟨w.heap.size, 1, none⟩ = some (.slice AM ms.length cM) := hX.cell 1
  have HL1 := Lib.hid (hL.call HF.out)
  have HLIM := Lib.hid hlim
  clear hX hlim hL
  go_enter Tryz.func6, Tryz.ntmps6
  go_upto_region 1 with fail
  change Code.wp _ _ _ _ (w.alloc (.cells (cfgV ep AM ms.length cM) 24))
  rw [← hw1]
  clear hw1
  by_cases h20 : 20 < ms.length
  · have e1 : decide ((20 : Int) < (ms.length : Int)) = true := decide_eq_true (by omega)
    go_wp2
    go_ret
    exact GreatL.yes HF.out
  have e1 : decide ((20 : Int) < (ms.length : Int)) = false := decide_eq_false (by omega)
  have H20 : Hid (ms.length ≤ 20) := Lib.hid (by omega)
  clear h20
  by_cases h6 : 6 < ls.length
  · have e2 : decide ((6 : Int) < (ls.length : Int)) = true := decide_eq_true (by omega)
    go_wp2
    go_ret
    exact GreatL.yes HF.out
  have e2 : decide ((6 : Int) < (ls.length : Int)) = false := decide_eq_false (by omega)
  have H6 : Hid (ls.length ≤ 6) := Lib.hid (by omega)
  have HEND : Hid ((∀ l ∈ ls, LkSmall l) → LSmall ms ls) := Lib.hid (fun h => ⟨H20.out, H6.out, h⟩)
  clear h6
  go_wp2
  clear c1 e1 e2
  generalize cfgV ep AM ms.length cM = CF at *
  generalize ms.length = mN at *
  go_loopw [20] (fun i wr => ∃ k : Nat, k ≤ ls.length ∧ i = .int .i64 (k : Int) ∧ Hid (Below w1.heap.size w1 wr) ∧ Hid (∀ j (h : j < ls.length), j < k → LkSmall (ls[j]'h))) (fun i _ => ls.length - (intOf i).toNat)
  case atStart => exact ⟨0, Nat.zero_le _, rfl, Lib.hid (Below.refl _ _), Lib.hid (fun j h h2 => by omega)⟩
  case round =>
    obtain ⟨k, hk, rfl, HW, HI⟩ := hrel
    by_cases hlt : k < ls.length
    rotate_left
    · have i1 : ¬ (k : Int) < (ls.length : Int) := by omega
      have HEE : Hid (LSmall ms ls) := Lib.hid (HEND.out (fun m hm => by
        obtain ⟨j, hj, rfl⟩ := List.getElem_of_mem hm
        exact HI.out j hj (by omega)))
      go_wp2
      go_ret
      exact ⟨false, rfl, fun _ => HEE.out, HF.out.trans (HW.out.mono HF.out.size)⟩
    have i1 : (k : Int) < (ls.length : Int) := by omega
    have i0 : (0 : Int) ≤ (k : Int) := by omega
    have HLR := Lib.hid (HL1.out.call HW.out)
    obtain ⟨g, o, hA, hll⟩ := row_link HLR.out.row hlt
    have lk := hll wr (Below.refl _ _)
    have HYE : Hid (LkSmall (ls[k]'hlt) → ∀ j (h : j < ls.length), j < k + 1 → LkSmall (ls[j]'h)) := Lib.hid (fun h j hj hjk => by
      by_cases e : j = k
      · subst e
        exact h
      · exact HI.out j hj (by omega))
    have HSE := Lib.hid (HLR.out.each _ (List.getElem_mem hlt))
    have HLM := Lib.hid (HLIM.out _ (List.getElem_mem hlt))
    have HLT := Lib.hid hlt
    clear hll HI HLR hk
    rw [hA]
    generalize ls[k]'hlt = l at *
    obtain ⟨w8, hst8, hb8, hbl8⟩ := laid_lk wr l
    have HX8 := Lib.hid hb8
    have HW8 := Lib.hid (HW.out.trans (hbl8.mono HW.out.size))
    have hav := al_lk wr
    have wk : IntKind.i64.wrap ((k : Int) + 1) = ((k + 1 : Nat) : Int) := by rw [IntKind.wrap_i64]; have := H6.out; omega
    have d1 : w8.cell? ⟨wr.heap.size, 102, none⟩ = some (.slice l.M l.ms.length l.m) := Box.lk_102 l.b.cells_len hb8
    have d2 : w8.cell? ⟨wr.heap.size, 100, none⟩ = some (.slice l.A l.vs.length l.c) := Box.lk_100 l.b.cells_len hb8
    have lb : (ldBlk (.pointer (some ⟨wr.heap.size, 0, none⟩))).run Tryz.prog w8 = .ok (.agg l.b.cells.toArray) w8 := Box.lk_blk hb8
    have HG := Lib.hid (great_any14 l.b HLM.out.len HLM.out.txt w8 (HSE.out.call hbl8).blk)
    have HV8 := Lib.hid (HSE.out.call hbl8).vts
    clear hb8 hbl8 HLM HSE HW hlt
    generalize wr.heap.size = g10 at *
    by_cases hm : 20 < l.ms.length
    · have e1 : decide ((20 : Int) < (l.ms.length : Int)) = true := decide_eq_true (by omega)
      go_wp2
      go_ret
      exact GreatL.yes (HF.out.trans (HW8.out.mono HF.out.size))
    have e1 : decide ((20 : Int) < (l.ms.length : Int)) = false := decide_eq_false (by omega)
    have HMM : Hid (l.ms.length ≤ 20) := Lib.hid (by omega)
    clear hm
    by_cases h12 : 12 < l.vs.length
    · have e2 : decide ((12 : Int) < (l.vs.length : Int)) = true := decide_eq_true (by omega)
      go_wp2
      go_ret
      exact GreatL.yes (HF.out.trans (HW8.out.mono HF.out.size))
    have e2 : decide ((12 : Int) < (l.vs.length : Int)) = false := decide_eq_false (by omega)
    have H12 : Hid (l.vs.length ≤ 12) := Lib.hid (by omega)
    clear h12
    go_upto_region 6 with fail
    clear hst8 lk hav
    go_wp2_with fail
    refine (HG.out).mono ?_
    rintro e w9 ⟨gb, rfl, hg, hb⟩
    have HB9 := Lib.hid (HW8.out.trans (hb.mono HW8.out.size))
    have HV9 := Lib.hid (EK.See.far HV8.out hb)
    have d2 : w9.cell? ⟨g10, 100, none⟩ = some (.slice l.A l.vs.length l.c) := Box.lk_100 l.b.cells_len (HX8.out.below hb HX8.out.lt)
    clear hb HG HV8 d1 lb
    cases gb with
    | true =>
      go_wp2
      go_ret
      exact GreatL.yes (HF.out.trans (HB9.out.mono HF.out.size))
    | false =>
    have HFW := Lib.hid (hg rfl)
    have HLK : Hid ((∀ m ∈ l.vs, VFew m.x) → LkSmall l) := Lib.hid (fun h => ⟨HMM.out, H12.out, HFW.out, h⟩)
    clear hg HX8 HW8
    go_wp2
    clear d2 e1 e2
    go_loopw [45] (fun i wr => ∃ k2 : Nat, k2 ≤ l.vs.length ∧ i = .int .i64 (k2 : Int) ∧ Hid (Below w9.heap.size w9 wr) ∧ Hid (∀ j (h : j < l.vs.length), j < k2 → VFew (l.vs[j]'h).x)) (fun i _ => l.vs.length - (intOf i).toNat)
    case atStart => exact ⟨0, Nat.zero_le _, rfl, Lib.hid (Below.refl _ _), Lib.hid (fun j h h2 => by omega)⟩
    case round =>
      obtain ⟨k2, hk2, rfl, HW2, HI2⟩ := hrel
      by_cases hlt2 : k2 < l.vs.length
      rotate_left
      · have i2 : ¬ (k2 : Int) < (l.vs.length : Int) := by omega
        have HY2 := Lib.hid (HYE.out (HLK.out (fun m hm => by
          obtain ⟨j, hj, rfl⟩ := List.getElem_of_mem hm
          exact HI2.out j hj (by omega))))
        have HW3 := Lib.hid (HB9.out.trans (HW2.out.mono HB9.out.size))
        go_wp2
        go_roundw
        case rel => exact ⟨k + 1, HLT.out, by go_num, HW3, HY2⟩
        case measure => have := HLT.out; simp [intOf]; omega
      have i2 : (k2 : Int) < (l.vs.length : Int) := by omega
      have i3 : (0 : Int) ≤ (k2 : Int) := by omega
      obtain ⟨g, o, hA, hlv⟩ := row_vote (EK.See.far HV9.out HW2.out) hlt2
      have lv := hlv wr (Below.refl _ _)
      have HY3 : Hid (VFew (l.vs[k2]'hlt2).x → ∀ j (h : j < l.vs.length), j < k2 + 1 → VFew (l.vs[j]'h).x) := Lib.hid (fun h j hj hjk => by
        by_cases e : j = k2
        · subst e
          exact h
        · exact HI2.out j hj (by omega))
      have HLT2 := Lib.hid hlt2
      clear hlv
      rw [hA]
      generalize l.vs[k2]'hlt2 = m at *
      obtain ⟨w8, hst8, hb8, hbl8⟩ := laid_vt wr m
      have HW8 := Lib.hid (HW2.out.trans (hbl8.mono HW2.out.size))
      have HWA := Lib.hid (HB9.out.trans (HW8.out.mono HB9.out.size))
      have hav := al_vt14
      have wk2 : IntKind.i64.wrap ((k2 : Int) + 1) = ((k2 + 1 : Nat) : Int) := by rw [IntKind.wrap_i64]; have := H12.out; omega
      have d1 : w8.cell? ⟨wr.heap.size, 38, none⟩ = some (.slice m.A m.x.opn.length m.a) := hb8.vt_38 m.x.len
      have d2 : w8.cell? ⟨wr.heap.size, 39, none⟩ = some (.slice m.B m.x.sht.length m.b) := hb8.vt_39 m.x.len
      have d3 : w8.cell? ⟨wr.heap.size, 40, none⟩ = some (.slice m.C m.x.pth.length m.c) := hb8.vt_40 m.x.len
      have HFV : Hid (m.x.opn.length ≤ 200 → m.x.sht.length ≤ 200 → m.x.pth.length ≤ 200 → VFew m.x) := Lib.hid (fun h1 h2 h3 => ⟨h1, h2, h3⟩)
      clear hb8 hbl8
      generalize m.x.opn.length = z1 at *
      generalize m.x.sht.length = z2 at *
      generalize m.x.pth.length = z3 at *
      by_cases g1 : 200 < z1
      · have e1 : decide ((200 : Int) < (z1 : Int)) = true := decide_eq_true (by omega)
        go_wp2
        go_ret
        exact GreatL.yes (HF.out.trans (HWA.out.mono HF.out.size))
      have e1 : decide ((200 : Int) < (z1 : Int)) = false := decide_eq_false (by omega)
      by_cases g2 : 200 < z2
      · have e2 : decide ((200 : Int) < (z2 : Int)) = true := decide_eq_true (by omega)
        go_wp2
        go_ret
        exact GreatL.yes (HF.out.trans (HWA.out.mono HF.out.size))
      have e2 : decide ((200 : Int) < (z2 : Int)) = false := decide_eq_false (by omega)
      by_cases g3 : 200 < z3
      · have e3 : decide ((200 : Int) < (z3 : Int)) = true := decide_eq_true (by omega)
        go_wp2
        go_ret
        exact GreatL.yes (HF.out.trans (HWA.out.mono HF.out.size))
      have e3 : decide ((200 : Int) < (z3 : Int)) = false := decide_eq_false (by omega)
      have HY4 := Lib.hid (HY3.out (HFV.out (by omega) (by omega) (by omega)))
      clear HY3 HFV
      go_wp2
      go_roundw
      case rel => exact ⟨k2 + 1, HLT2.out, by go_num, HW8, HY4⟩
      case measure => have := HLT2.out; simp [intOf]; omega
end Go.Proofs.YtbclepdcngaonaaGreatDoor

namespace Go.Proofs.YtbclepdcngaonaaGreatDoor
open Go.RowKit Go.Maps Go.Sort

def oneM15 : MemX := ⟨1, z32, 0, rfl⟩
set_option maxRecDepth 100000 in
theorem bd_cf151 (A : Option Addr) (n c : Nat) (w : World) : (bdCf15 #[(1, .slice A n c)]).run Tryz.prog w = .ok (.agg (cfgV 0 A n c)) w := run_build w _ _ _ (by kernel_rfl)
set_option maxRecDepth 100000 in
theorem zlk_few : LkFew zlk := ⟨Nat.zero_le _, ⟨Nat.zero_le _, fun q hq => (by cases hq)⟩, Nat.zero_le _⟩
set_option maxRecDepth 100000 in
theorem zlk_see (w : World) : LkSee w zlk := ⟨.inl rfl, .inl rfl, fun m hm => (by cases hm), .inl rfl⟩

attribute [local go_sem ↓] ldCf_def stCf_def bdCf15_def alCf15_def bdMem_def bsT_def bdLk_def ldLk_def
set_option maxRecDepth 100000 in
set_option maxHeartbeats 8000000 in
theorem alive_any15 (w : World) (hR : Roots w) : Calls Tryz.prog 5 #[] w fun e w' => e = .returned (.bool true) ∧ Below w.heap.size w w' := by
  have HR := Lib.hid hR
  have hbm : (bdMem #[(0, .int .i64 1)]).run Tryz.prog w = .ok (.agg (memL 1 z32 0).toArray) w := bd_id 1 w
  have hbs : (bsT 22 1 #[(0, .agg (memL 1 z32 0).toArray)]).run Tryz.prog w = .ok (.slice (some ⟨w.heap.size, 0, none⟩) 1 1) (w.alloc (.cells (memL 1 z32 0).toArray 66)) := MK.build1 oneM15 (.agg (memL 1 z32 0).toArray) rfl (by decide) w
  have hsee : MK.See (w.alloc (.cells (memL 1 z32 0).toArray 66)) (w.alloc (.cells (memL 1 z32 0).toArray 66)).heap.size (some ⟨w.heap.size, 0, none⟩) [oneM15] := MK.see_one w oneM15
  have HBa : Hid (Below w.heap.size w (w.alloc (.cells (memL 1 z32 0).toArray 66))) := Lib.hid ((Below.refl _ _).alloc (Nat.le_refl _) _)
  generalize hlit : (memL 1 z32 0).toArray = LM at *
  clear hlit
  generalize w.alloc (.cells LM 66) = wa at *
  have hbc := bd_cf151 (some ⟨w.heap.size, 0, none⟩) 1 1 wa
  obtain ⟨w3, hst3, hx3, hbl3, _⟩ := laid_cf wa (cfgV 0 none 0 0) rfl 0 (some ⟨w.heap.size, 0, none⟩) 1 1
  have hal := al_cf15
  have HB3 := Lib.hid (HBa.out.trans (hbl3.mono HBa.out.size))
  have HX3 := Lib.hid hx3
  have HM3 : Hid (Mems w3 w3.heap.size (some ⟨w.heap.size, 0, none⟩) [oneM15]) := Lib.hid (EK.See.far hsee hbl3)
  have lc := hx3.l_cf
  have HCK : Hid (Calls Tryz.prog 9 #[.agg (cfgV 0 (some ⟨w.heap.size, 0, none⟩) 1 1), .slice none 0 0] w3 fun e w' => ∃ A' c', e = .returned (.tuple #[.agg (cfgV 0 A' 1 c'), .int .i64 0, .int .i64 0]) ∧ Below w3.heap.size w3 w') := Lib.hid ((check_any15 0 [oneM15] (some ⟨w.heap.size, 0, none⟩) 1 (by decide) [] none 0 (by decide) (fun l hl => by cases hl) w3 HM3.out ⟨.inl rfl, fun l hl => by cases hl⟩ (HR.out.of_below HB3.out)).mono fun e w' ⟨A', c', h1, _, h2⟩ => ⟨A', c', h1, h2⟩)
  have HSE : Hid (stepN 0 [oneM15] 0 zlk.x = 12) := Lib.hid rfl
  have HST : Hid (∀ w', Below w3.heap.size w3 w' → Calls Tryz.prog 7 #[.agg (cfgV 0 (some ⟨w.heap.size, 0, none⟩) 1 1), .int .i64 0, .agg zlkV] w' fun e w'' => e = .returned (.int .i64 (stepN 0 [oneM15] 0 zlk.x)) ∧ Below w'.heap.size w' w'') := Lib.hid (fun w' hb =>
    step_any15 0 [oneM15] (some ⟨w.heap.size, 0, none⟩) 1 (by decide) 0 zlk zlk_few w' (HM3.out.far hb) (zlk_see w') ((HR.out.of_below HB3.out).of_below hb))
  have hzl := bd_lk0
  rw [HSE.out] at HST
  clear hsee hx3 hbl3 HM3 HR HSE HBa
  generalize zlkV = ZL at *
  go_enter Tryz.func5, Tryz.ntmps5
  go_upto_region 2 with fail
  clear hbm hbs hbc hst3
  generalize wa.heap.size = g1 at *
  generalize some (Addr.mk w.heap.size 0 none) = AO at *
  go_upto_region 3 with (go_at_call 9; (with_reducible refine (HCK.out).mono ?_); rintro e w4 ⟨A4, c4, rfl, hb⟩; obtain ⟨w5, hst5, hx5, hbl5, _⟩ := laid_cf w4 (cfgV 0 none 0 0) rfl 0 A4 1 c4; have HX5 := Lib.hid hx5; have HB5 := Lib.hid (hb.trans (hbl5.mono hb.size)); clear hx5 hbl5 hb)
  have e1 : w5.cell? ⟨w4.heap.size, 1, none⟩ = some (.slice A4 1 c4) := HX5.out.cell 1
  have lc5 := (HX3.out.below HB5.out HX3.out.lt).l_cf
  have HSR := Lib.hid (HST.out w5 HB5.out)
  clear hst5 lc HCK HST
  go_wp2_with (go_at_call 7; (with_reducible refine (HSR.out).mono ?_); rintro e w6 ⟨rfl, hb⟩; have HB6 := Lib.hid (HB3.out.trans ((HB5.out.trans (hb.mono HB5.out.size)).mono HB3.out.size)); clear hb)
  go_ret
  exact ⟨rfl, HB6.out⟩
end Go.Proofs.YtbclepdcngaonaaGreatDoor
