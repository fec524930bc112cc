/-
  Pieces in memory: their cells, what is loaded, stored and built; slices that read as pieces.
  A state's digest by a number and a root: chunk.digest, wapentakeref11.Top.
  A registry's bytes on plain lists: what is written. No program, no memory.
  A configuration written: config.Write.
  A registry's bytes: chunk.Bytes.
-/
import Derived.Test.YtlogceoeodjeoaaDoorNA
import Derived.Test.YtlogceoeodjeoaaDoorRB
import Derived.Test.YtlogceoeodjeoaaDoorSD
import Derived.Test.YtlogceoeodjeoaaDoorTG
import Derived.Test.YtlogceoeodjeoaaDoorOB
import Derived.Lib.SlBytesConst
import Derived.Deep.RegionHeld3
import Derived.Test.YtlogceoeodjeoaaDoorNB
import Derived.Test.YtlogceoeodjeoaaDoorOC
namespace Go.Proofs.YtlogceoeodjeoaaDoor
open Go.RowKit

/-- A piece. -/
structure PcX where
  pos : Int
  cnt : Int
  tree : List UInt8
  data : ByteArray
  path : List (List UInt8)
  len : tree.length = 32
/-- A piece as memory has it: where its path lies. -/
structure PcM where
  x : PcX
  A : Option Addr
  z : Nat
def pcL (p n : Int) (t : List UInt8) (d : ByteArray) (A : Option Addr) (m z : Nat) : List Value := .int .i64 p :: .int .i64 n :: (t.map bv ++ [.string d, .slice A m z])
set_option maxRecDepth 100000 in
theorem pcL_len {t : List UInt8} (ht : t.length = 32) (p n : Int) (d : ByteArray) (A : Option Addr) (m z : Nat) : (pcL p n t d A m z).length = 36 := by
  unfold pcL
  simp [ht]
set_option maxRecDepth 100000 in
theorem pcL_one (p n : Int) (t : List UInt8) (d : ByteArray) (A : Option Addr) (m z : Nat) : ∀ v ∈ pcL p n t d A m z, v.oneCell' = true := by
  intro v hv
  unfold pcL at hv
  rcases List.mem_cons.1 hv with rfl | hv
  · rfl
  rcases List.mem_cons.1 hv with rfl | hv
  · rfl
  rcases List.mem_append.1 hv with hv | hv
  · exact bv_one _ v hv
  simp only [List.mem_cons, List.not_mem_nil, or_false] at hv
  rcases hv with rfl | rfl <;> rfl
def PcM.cells (p : PcM) : List Value := pcL p.x.pos p.x.cnt p.x.tree p.x.data p.A p.x.path.length p.z
set_option maxRecDepth 100000 in
theorem PcM.cells_len (p : PcM) : p.cells.length = 36 := pcL_len p.x.len _ _ _ _ _ _
set_option maxRecDepth 100000 in
theorem PcM.cells_one (p : PcM) : ∀ v ∈ p.cells, v.oneCell' = true := pcL_one _ _ _ _ _ _ _
set_option maxRecDepth 100000 in
theorem PcM.size (p : PcM) : (Tryd.prog.info? 29).map (·.size) = some p.cells.length := by
  rw [p.cells_len]
  kernel_rfl
def zpcV : Array Value := #[.int .i64 0, .int .i64 0, .int .u8 0, .int .u8 0, .int .u8 0, .int .u8 0, .int .u8 0, .int .u8 0, .int .u8 0, .int .u8 0, .int .u8 0, .int .u8 0, .int .u8 0, .int .u8 0, .int .u8 0, .int .u8 0, .int .u8 0, .int .u8 0, .int .u8 0, .int .u8 0, .int .u8 0, .int .u8 0, .int .u8 0, .int .u8 0, .int .u8 0, .int .u8 0, .int .u8 0, .int .u8 0, .int .u8 0, .int .u8 0, .int .u8 0, .int .u8 0, .int .u8 0, .int .u8 0, .string ⟨#[]⟩, .slice none 0 0]
def zpc : PcM := ⟨⟨0, 0, zeros, ⟨#[]⟩, [], rfl⟩, none, 0⟩
set_option maxRecDepth 100000 in
theorem zpc_cells : zpc.cells.toArray = zpcV := rfl
set_option maxRecDepth 100000 in
theorem zpc_size : zpcV.size = 36 := rfl

noncomputable def ldPc (v : Value) : Sem Value := Instr.loadAt 29 v
set_option maxRecDepth 100000 in
theorem ldPc_def (v : Value) : Instr.loadAt 29 v = ldPc v := rfl
noncomputable def stPc (p v : Value) : Sem Unit := Instr.storeAt 29 p v
set_option maxRecDepth 100000 in
theorem stPc_def (p v : Value) : Instr.storeAt 29 p v = stPc p v := rfl
noncomputable def bdPc (parts : Array (Nat × Value)) : Sem Value := Instr.build 29 parts
set_option maxRecDepth 100000 in
theorem bdPc_def (parts : Array (Nat × Value)) : Instr.build 29 parts = bdPc parts := rfl

section
variable {w : World} {g o : Nat} {t : TypeId} {x : PcM}
set_option maxRecDepth 100000 in
theorem range_pc (h : w.rangeAt g o x.cells) : (ldPc (.pointer (some ⟨g, o, none⟩))).run Tryd.prog w = .ok (.agg x.cells.toArray) w :=
  run_loadAt_mid (P := Tryd.prog) w g o 29 x.cells _ h Tryd.underlying29 rfl x.size
set_option maxRecDepth 100000 in
theorem Box.ld_pc (h : Box w g t x.cells.toArray) : (ldPc (.pointer (some ⟨g, 0, none⟩))).run Tryd.prog w = .ok (.agg x.cells.toArray) w := range_pc h.range
set_option maxRecDepth 100000 in
theorem Box.pc_cell (h : Box w g t x.cells.toArray) {j : Nat} {v : Value} (e : x.cells[j]? = some v) : w.cell? ⟨g, j, none⟩ = some v := by rw [h.cell, List.getElem?_toArray, e]
set_option maxRecDepth 100000 in
theorem Box.pc_tree (h : Box w g t x.cells.toArray) : w.rangeAt g 2 (x.x.tree.map bv) := Box.range_mid (pre := [.int .i64 x.x.pos, .int .i64 x.x.cnt]) (post := [.string x.x.data, .slice x.A x.x.path.length x.z]) h rfl
set_option maxRecDepth 100000 in
theorem PcM.cell34 (x : PcM) : x.cells[34]? = some (.string x.x.data) := by
  unfold PcM.cells pcL
  rw [show ∀ (a b : Value) (l : List Value), (a :: b :: l)[34]? = l[32]? from fun _ _ _ => rfl, List.getElem?_append_right (by simp [x.x.len])]
  simp [x.x.len]
set_option maxRecDepth 100000 in
theorem PcM.cell35 (x : PcM) : x.cells[35]? = some (.slice x.A x.x.path.length x.z) := by
  unfold PcM.cells pcL
  rw [show ∀ (a b : Value) (l : List Value), (a :: b :: l)[35]? = l[33]? from fun _ _ _ => rfl, List.getElem?_append_right (by simp [x.x.len])]
  simp [x.x.len]
set_option maxRecDepth 100000 in
theorem Box.pc0 (h : Box w g t x.cells.toArray) : w.cell? ⟨g, 0, none⟩ = some (.int .i64 x.x.pos) := h.pc_cell rfl
set_option maxRecDepth 100000 in
theorem Box.pc1 (h : Box w g t x.cells.toArray) : w.cell? ⟨g, 1, none⟩ = some (.int .i64 x.x.cnt) := h.pc_cell rfl
set_option maxRecDepth 100000 in
theorem Box.pc34 (h : Box w g t x.cells.toArray) : w.cell? ⟨g, 34, none⟩ = some (.string x.x.data) := h.pc_cell x.cell34
set_option maxRecDepth 100000 in
theorem Box.pc35 (h : Box w g t x.cells.toArray) : w.cell? ⟨g, 35, none⟩ = some (.slice x.A x.x.path.length x.z) := h.pc_cell x.cell35
set_option maxRecDepth 100000 in
theorem Box.st_pc {cs : Array Value} (h : Box w g t cs) (hs : cs.size = 36) (x : PcM) :
    ∃ w', (stPc (.pointer (some ⟨g, 0, none⟩)) (.agg x.cells.toArray)).run Tryd.prog w = .ok () w' ∧ Box w' g t x.cells.toArray ∧ w.grownBy w' (some g) := by
  refine ⟨w.setCells g 0 x.cells, ?_, h.cells_all x.cells.toArray (by rw [List.size_toArray, x.cells_len, hs]), only_cells (g := g) x.cells 0 _⟩
  exact run_storeAt_mid (P := Tryd.prog) _ g 0 29 x.cells.toArray (fun j hj => by
    rw [List.size_toArray, x.cells_len] at hj
    rw [h.cell, h.free, Array.getElem?_eq_getElem (by omega)]
    exact ⟨rfl, rfl⟩) (by rw [List.size_toArray]; exact x.size) (by have := all_oneCell_toArray x.cells_one; simpa using this)
set_option maxRecDepth 100000 in
theorem laid_pc (w : World) (x : PcM) : ∃ w', (stPc (.pointer (some ⟨w.heap.size, 0, none⟩)) (.agg x.cells.toArray)).run Tryd.prog (w.alloc (.cells zpcV 29)) = .ok () w' ∧ Box w' w.heap.size 29 x.cells.toArray ∧ Below w.heap.size w w' := by
  obtain ⟨w', h1, h2, h3⟩ := (Box.made w 29 zpcV).st_pc zpc_size x
  exact ⟨w', h1, h2, ((Below.refl _ _).alloc (Nat.le_refl _) _).trans (below_only h3 (Nat.le_refl _) (by simp))⟩
end

set_option maxRecDepth 100000 in
theorem built_pc (p n : Int) {r : List UInt8} (hr : r.length = 32) (d : ByteArray) (A : Option Addr) (m z : Nat) : Tryd.prog.built 29 [(0, .int .i64 p), (1, .int .i64 n), (2, .agg (r.map bv).toArray), (3, .string d), (4, .slice A m z)] = some (pcL p n r d A m z).toArray := by
  have e : Tryd.prog.built 29 [(0, .int .i64 p), (1, .int .i64 n), (2, .agg (r.map bv).toArray), (3, .string d), (4, .slice A m z)] = Instr.fill (#[(0, 1), (1, 1), (2, 32), (34, 1), (35, 1)][·]?) ([] ++ ([Value.int .i64 0] ++ (Value.int .i64 0 :: (List.replicate 32 (Value.int .u8 0) ++ [Value.string ⟨#[]⟩, Value.slice none 0 0])))).toArray [(0, .int .i64 p), (1, .int .i64 n), (2, .agg (r.map bv).toArray), (3, .string d), (4, .slice A m z)] := by kernel_rfl
  rw [e, fill_step (off := 0) (size := 1) (vs := [.int .i64 p]) rfl rfl rfl rfl rfl]
  have e2 : ([] ++ ([Value.int .i64 p] ++ (Value.int .i64 0 :: (List.replicate 32 (Value.int .u8 0) ++ [Value.string ⟨#[]⟩, Value.slice none 0 0]))) : List Value) = [.int .i64 p] ++ ([Value.int .i64 0] ++ (List.replicate 32 (Value.int .u8 0) ++ [Value.string ⟨#[]⟩, Value.slice none 0 0])) := by simp
  rw [e2, fill_step (off := 1) (size := 1) (vs := [.int .i64 n]) rfl rfl rfl rfl rfl]
  have e3 : ([.int .i64 p] ++ ([Value.int .i64 n] ++ (List.replicate 32 (Value.int .u8 0) ++ [Value.string ⟨#[]⟩, Value.slice none 0 0])) : List Value) = [.int .i64 p, .int .i64 n] ++ (List.replicate 32 (Value.int .u8 0) ++ [Value.string ⟨#[]⟩, Value.slice none 0 0]) := by simp
  rw [e3, fill_step (off := 2) (size := 32) (vs := r.map bv) rfl rfl rfl rfl (by simp [hr])]
  have e4 : ([.int .i64 p, .int .i64 n] ++ (r.map bv ++ [Value.string ⟨#[]⟩, Value.slice none 0 0]) : List Value) = (.int .i64 p :: .int .i64 n :: r.map bv) ++ ([Value.string ⟨#[]⟩] ++ [Value.slice none 0 0]) := by simp
  rw [e4, fill_step (off := 34) (size := 1) (vs := [.string d]) rfl (by simp [hr]) rfl rfl rfl]
  have e5 : ((.int .i64 p :: .int .i64 n :: r.map bv) ++ ([Value.string d] ++ [Value.slice none 0 0]) : List Value) = (.int .i64 p :: .int .i64 n :: (r.map bv ++ [.string d])) ++ ([Value.slice none 0 0] ++ []) := by simp
  rw [e5, fill_step (off := 35) (size := 1) (vs := [.slice A m z]) rfl (by simp [hr]) rfl rfl rfl]
  unfold Instr.fill pcL
  simp
set_option maxRecDepth 100000 in
theorem bd_pc (p n : Int) {r : List UInt8} (hr : r.length = 32) (d : ByteArray) (A : Option Addr) (m z : Nat) (w : World) : (bdPc #[(0, .int .i64 p), (1, .int .i64 n), (2, .agg (r.map bv).toArray), (3, .string d), (4, .slice A m z)]).run Tryd.prog w = .ok (.agg (pcL p n r d A m z).toArray) w :=
  run_build w _ _ _ (built_pc p n hr d A m z)

noncomputable def PcK : EK PcM where
  e := 29
  sl := 24
  k := 36
  bys := 88
  z := .agg zpcV
  enc := PcM.cells
  hk := by decide
  und := Tryd.underlying24
  els := by kernel_rfl
  info := by kernel_rfl
  hzs := rfl
  zone := zpc.cells_one
  len := PcM.cells_len
  one := PcM.cells_one
  hby := by decide

/-- A slice that reads as pieces, with their paths. -/
structure PcsSee (w : World) (B : Nat) (A : Option Addr) (ps : List PcM) : Prop where
  see : PcK.See w B A ps
  paths : ∀ p ∈ ps, Digs w B p.A p.x.path
set_option maxRecDepth 100000 in
theorem PcsSee.far {w w' : World} {A : Option Addr} {ps : List PcM} (h : PcsSee w w.heap.size A ps) (hb : Below w.heap.size w w') : PcsSee w' w'.heap.size A ps := ⟨EK.See.far h.see hb, fun p hp => (h.paths p hp).far hb⟩
end Go.Proofs.YtlogceoeodjeoaaDoor

namespace Go.Proofs.YtlogceoeodjeoaaDoor
open Go.RowKit

attribute [local go_sem ↓] ldDigest_def stDigest_def bsAll_def

/-- "state". -/
def stMark : List UInt8 := [115, 116, 97, 116, 101]
def stD (n : Int) (r : List UInt8) : List UInt8 := shaOf (stMark ++ (numBytes n ++ r))
set_option maxRecDepth 100000 in
theorem stD_len (n : Int) (r : List UInt8) : (stD n r).length = 32 := rfl

set_option maxRecDepth 100000 in
set_option maxHeartbeats 2000000 in
theorem dgt_any (n : Int) {r : List UInt8} (hr : r.length = 32) (w : World) (hR : Roots w) :
    Calls Tryd.prog 17 #[.int .i64 n, .agg (r.map bv).toArray] w fun e w' => e = .returned (.agg ((stD n r).map bv).toArray) ∧ Below w.heap.size w w' := by
  have HS : Hid (Box ((w.alloc (.cells (r.map bv).toArray 23)).alloc (.cells zs32 23)) w.heap.size 23 (r.map bv).toArray) := (Box.made w _ _).alloc _
  have HO : Hid (Box ((w.alloc (.cells (r.map bv).toArray 23)).alloc (.cells zs32 23)) (w.heap.size + 1) 23 zs32) := Box.made_at (by simp) _ _
  have HF : Hid (Below w.heap.size w ((w.alloc (.cells (r.map bv).toArray 23)).alloc (.cells zs32 23))) := ((Below.refl _ _).alloc (Nat.le_refl _) _).alloc (by simp) _
  have HD : Hid (stD n r = shaOf ([stMark, [n].flatMap numBytes ++ r] : List (List UInt8)).flatten) := Lib.hid (by simp [stD])
  have HDL := Lib.hid (stD_len n r)
  have HRL := Lib.hid hr
  generalize stD n r = d at *
  go_enter Tryd.func17, Tryd.ntmps17
  go_upto_region 1 with fail
  change Code.wp _ _ _ _ ((w.alloc (.cells (r.map bv).toArray 23)).alloc (.cells zs32 23))
  generalize (w.alloc (.cells (r.map bv).toArray 23)).alloc (.cells zs32 23) = w1 at *
  have HW2 : Hid (Wr (w1.alloc (.cells #[.slice none 0 0] 75)) w1.heap.size w1.heap.size []) := wr_new (Box.made _ _ _) (Nat.le_refl _)
  have HF2 : Hid (Below w1.heap.size w1 (w1.alloc (.cells #[.slice none 0 0] 75))) := (Below.refl _ _).alloc (Nat.le_refl _) _
  have HN : Hid (Calls Tryd.prog 33 #[.pointer (some ⟨w1.heap.size, 0, none⟩), .slice (some ⟨(w1.alloc (.cells #[.slice none 0 0] 75)).heap.size, 0, none⟩) 1 1] ((w1.alloc (.cells #[.slice none 0 0] 75)).alloc (.cells #[.int .i64 n] 3)) fun e w' => e = .returned (.tuple #[]) ∧ Wr w' w1.heap.size w1.heap.size ([] ++ [n].flatMap numBytes) ∧ WF w1.heap.size (w1.alloc (.cells #[.slice none 0 0] 75)) w') :=
    wnum_made [n] HW2.out (by simp)
  go_upto_region 2 with fail
  generalize w1.alloc (.cells #[.slice none 0 0] 75) = w2 at *
  have HNL : Hid (([n].flatMap numBytes).length = 8) := Lib.hid (by rw [nums_len]; rfl)
  rw [List.nil_append] at HN
  generalize [n].flatMap numBytes = nb at *
  go_upto_region 3 with (go_at_call 33; (with_reducible refine (HN.out).mono ?_); rintro e w3 ⟨rfl, hw, hf⟩; have HW3 := Lib.hid hw; have HB3 := Lib.hid (HF2.out.trans (hf.below HW2.out)); clear hw hf)
  clear HN
  have ld := range_load ((HS.out.below HB3.out HS.out.lt).range) HRL.out
  have hbs := build_one r HRL.out w3
  have HN := Lib.hid (wdig_made HRL.out HW3.out (by have := HNL.out; omega))
  have HBL : Hid ((nb ++ r).length = 40) := Lib.hid (by rw [List.length_append, HNL.out, HRL.out])
  generalize nb ++ r = bs at *
  clear HS hr HW2 HF2
  go_upto_region 4 with (go_at_call 37; (with_reducible refine (HN.out).mono ?_); rintro e w4 ⟨rfl, hw, hf⟩; have HW4 := Lib.hid hw; have HB4 := Lib.hid (HB3.out.trans (hf.below HW3.out)); clear hw hf)
  clear HN ld hbs HW3 HB3
  have HWK : Hid (Below w.heap.size w w4) := Lib.hid (HF.out.trans (HB4.out.mono HF.out.size))
  have HM : Hid (∀ w', Below (w4.heap.size + 1) (w4.alloc (.cells #[.int .u8 115, .int .u8 116, .int .u8 97, .int .u8 116, .int .u8 101] 5 (5, 6))) w' → Sees w' w'.heap.size (some ⟨w4.heap.size, 0, none⟩) (stMark.map bv)) := Lib.hid (fun w' hb => by
    refine .inr ⟨w4.heap.size, 0, rfl, Nat.lt_of_lt_of_le (by simp) hb.size, fun j u hu => ?_⟩
    rw [Nat.zero_add, hb.cell (p := ⟨w4.heap.size, j, none⟩) (Nat.lt_succ_self _), World.cell?_alloc_mark, List.getElem?_toArray]
    exact hu)
  have HF4 : Hid (Below w4.heap.size w4 (w4.alloc (.cells #[.int .u8 115, .int .u8 116, .int .u8 97, .int .u8 116, .int .u8 101] 5 (5, 6)))) := (Below.refl _ _).alloc (Nat.le_refl _) _
  have HZ4 : Hid ((w4.alloc (.cells #[.int .u8 115, .int .u8 116, .int .u8 97, .int .u8 116, .int .u8 101] 5 (5, 6))).heap.size = w4.heap.size + 1) := Lib.hid (by simp)
  have HBY := Lib.hid (bytes_any w1.heap.size w1.heap.size bs _ (HW4.out.below_size HF4.out) (by have := HBL.out; omega))
  have hcv : (convert 46 46 (.slice (some ⟨w4.heap.size, 0, none⟩) 5 5)).run Tryd.prog (w4.alloc (.cells #[.int .u8 115, .int .u8 116, .int .u8 97, .int .u8 116, .int .u8 101] 5)) = .ok (.slice (some ⟨w4.heap.size, 0, none⟩) 5 5) (w4.alloc (.cells #[.int .u8 115, .int .u8 116, .int .u8 97, .int .u8 116, .int .u8 101] 5 (5, 6))) :=
    Lib.run_convert_bytes_const (P := Tryd.prog) w4 46 5 _ 5 5 Tryd.underlying46 Tryd.underlying5
  have HRW := Lib.hid hR
  clear hR HW4
  go_wp2_with fail
  clear hcv
  refine (HBY.out).mono ?_
  rintro e w5 ⟨A, c, rfl, hc1, hc2, hsee, hb⟩
  have HS5 := Lib.hid hsee
  have HB5 := Lib.hid hb
  have HC5 := Lib.hid hc1
  have HC6 := Lib.hid hc2
  clear hsee hb hc1 hc2
  have HX6 : Hid (Box (w5.alloc (.cells #[.slice (some ⟨w4.heap.size, 0, none⟩) 5 5, .slice A bs.length c] 46)) w5.heap.size 46 #[.slice (some ⟨w4.heap.size, 0, none⟩) 5 5, .slice A bs.length c]) := Box.made _ _ _
  have HB6 : Hid (Below w5.heap.size w5 (w5.alloc (.cells #[.slice (some ⟨w4.heap.size, 0, none⟩) 5 5, .slice A bs.length c] 46))) := (Below.refl _ _).alloc (Nat.le_refl _) _
  have HB46 := Lib.hid (HB5.out.trans (HB6.out.mono HB5.out.size))
  have HFA := Lib.hid (HWK.out.trans ((HF4.out.trans (HB46.out.mono HF4.out.size)).mono HWK.out.size))
  have HFB := Lib.hid (HB4.out.trans ((HF4.out.trans (HB46.out.mono HF4.out.size)).mono HB4.out.size))
  have HOF := Lib.hid (of_any [stMark, bs] (some ⟨w5.heap.size, 0, none⟩) 2 _ (Pieces.two (p := stMark) HX6.out HX6.out.lt (by decide) (by decide) (HM.out _ (by have h := HB46.out; rw [HZ4.out] at h; exact h)) HC5.out HC6.out ((HS5.out.below HB6.out).more HB6.out.size)) (by simp) (by have := HBL.out; simp [stMark]; omega) (HRW.out.of_below HFA.out))
  rw [← HD.out] at HOF
  clear HB46 HM HS5 HB5 HBY HZ4 HF4 HX6 HB6 HC5 HC6
  go_wp2_with fail
  refine (HOF.out).mono ?_
  rintro e w7 ⟨rfl, hb⟩
  have HF7 := Lib.hid (HFA.out.trans (hb.mono HFA.out.size))
  have HFC := Lib.hid (HFB.out.trans (hb.mono HFB.out.size))
  have hst := (HO.out.below HFC.out HO.out.lt).store_digest rfl d HDL.out
  have HB9 := Lib.hid ((HO.out.below HFC.out HO.out.lt).cells_dig rfl HDL.out)
  have HF9 : Hid (Below w.heap.size w (w7.setCells (w.heap.size + 1) 0 (d.map bv))) := below_cells HF7.out (by omega) HF7.out.size 0 _
  clear hb HOF HD HFA HF HO
  go_wp2
  exact ret_dig rfl rfl rfl HB9.out HDL.out ⟨rfl, HF9.out⟩

end Go.Proofs.YtlogceoeodjeoaaDoor

namespace Go.Proofs.YtlogceoeodjeoaaDoor
open Go.RowKit

/-- A member's bytes, a configuration's, a pair's, a reply's, a state's. -/
def memB (m : MemX) : List UInt8 := [m.id, m.high].flatMap numBytes ++ m.root
def cfgB (ep : Int) (ms : List MemX) : List UInt8 := [ep, (ms.length : Int)].flatMap numBytes ++ ms.flatMap memB
def pairB (p : PairX) : List UInt8 := [p.key, p.val].flatMap textBytes
def repXB (r : RepX) : List UInt8 := repB r.client r.num r.code r.vals
def stB (s : StX) : List UInt8 := (((cfgB s.ep s.ms ++ [(s.ps.length : Int)].flatMap numBytes) ++ s.ps.flatMap pairB) ++ [(s.rs.length : Int)].flatMap numBytes) ++ s.rs.flatMap repXB
set_option maxRecDepth 100000 in
theorem memB_len (m : MemX) : (memB m).length = 48 := by
  unfold memB
  rw [List.length_append, nums_len, m.len]
  rfl
set_option maxRecDepth 100000 in
theorem flatlen_le {α : Type} (f : α → List UInt8) (c : Nat) : ∀ (l : List α), (∀ x ∈ l, (f x).length ≤ c) → (l.flatMap f).length ≤ c * l.length
  | [], _ => by simp
  | x :: r, h => by
    rw [List.flatMap_cons, List.length_append, List.length_cons, Nat.mul_succ]
    have h1 := h x List.mem_cons_self
    have h2 := flatlen_le f c r (fun y hy => h y (List.mem_cons_of_mem _ hy))
    omega
set_option maxRecDepth 100000 in
theorem mems_len (ms : List MemX) : (ms.flatMap memB).length = 48 * ms.length := by
  induction ms with
  | nil => rfl
  | cons m r ih =>
    rw [List.flatMap_cons, List.length_append, ih, memB_len, List.length_cons]
    omega
set_option maxRecDepth 100000 in
theorem cfgB_len (ep : Int) (ms : List MemX) : (cfgB ep ms).length = 16 + 48 * ms.length := by
  unfold cfgB
  rw [List.length_append, nums_len, mems_len]
  rfl
set_option maxRecDepth 100000 in
theorem pairB_len (p : PairX) : (pairB p).length = 8 + p.key.size + p.val.size := by
  unfold pairB
  simp only [List.flatMap_cons, List.flatMap_nil, List.length_append, List.length_nil, textBytes_len]
  omega
set_option maxRecDepth 100000 in
theorem flat_snoc {α : Type} (f : α → List UInt8) (l : List α) (k : Nat) (h : k < l.length) : (l.take (k + 1)).flatMap f = (l.take k).flatMap f ++ f (l[k]'h) := by
  rw [List.take_succ_eq_append_getElem h, List.flatMap_append]
  simp
set_option maxRecDepth 100000 in
theorem flat_le {α : Type} (f : α → List UInt8) (l : List α) (k : Nat) : ((l.take k).flatMap f).length ≤ (l.flatMap f).length := by
  conv => rhs; rw [← List.take_append_drop k l, List.flatMap_append, List.length_append]
  omega
set_option maxRecDepth 100000 in
theorem flat_le1 {α : Type} (f : α → List UInt8) (l : List α) (k : Nat) (h : k < l.length) : ((l.take k).flatMap f).length + (f (l[k]'h)).length ≤ (l.flatMap f).length := by
  have h1 := flat_le f l (k + 1)
  rw [flat_snoc f l k h, List.length_append] at h1
  exact h1
end Go.Proofs.YtlogceoeodjeoaaDoor

namespace Go.Proofs.YtlogceoeodjeoaaDoor
open Go.RowKit

attribute [local go_sem ↓] ldDigest_def stDigest_def bsAll_def ldMem_def stMem_def

set_option maxRecDepth 100000 in
theorem MemX.root_at (x : MemX) {w : World} {g : Nat} {t : TypeId} (h : Box w g t x.cells.toArray) : w.rangeAt g 1 (x.root.map bv) := Box.range_mid (pre := [.int .i64 x.id]) (post := [.int .i64 x.high]) h rfl

set_option maxRecDepth 100000 in
set_option maxHeartbeats 2000000 in
theorem cfgwrite_any (base a : Nat) (bs : List UInt8) (ep : Int) (ms : List MemX) (A : Option Addr) (c : Nat) (w : World) (h : Wr w base a bs) (hbs : bs.length ≤ 1099511627776) (hn : ms.length ≤ 1073741824) (hM : MK.See w base A ms) :
    Calls Tryd.prog 32 #[.pointer (some ⟨a, 0, none⟩), .agg (cfgV ep A ms.length c)] w fun e w' => e = .returned (.tuple #[]) ∧ Wr w' base a (bs ++ cfgB ep ms) ∧ WF a w w' := by
  have hF1 : Below w.heap.size w (w.alloc (.cells (cfgV ep A ms.length c) 35)) := (Below.refl _ _).alloc (Nat.le_refl _) _
  have HB1 : Hid (Box (w.alloc (.cells (cfgV ep A ms.length c) 35)) w.heap.size 35 (cfgV ep A ms.length c)) := Box.made _ _ _
  have HW1 := Lib.hid (h.below_size hF1)
  have HA1 := Lib.hid (WF.of_below hF1 h.lt)
  have HM1 : Hid (MK.See (w.alloc (.cells (cfgV ep A ms.length c) 35)) base A ms) := Lib.hid (Sees.below hM (hF1.mono h.2.1))
  have HL : Hid (bs.length ≤ 1099511627776 ∧ ms.length ≤ 1073741824) := ⟨hbs, hn⟩
  clear hbs hn hM h hF1
  go_enter Tryd.func32, Tryd.ntmps32
  go_upto_region 1 with fail
  change Code.wp _ _ _ _ (w.alloc (.cells (cfgV ep A ms.length c) 35))
  generalize hg1 : w.alloc (.cells (cfgV ep A ms.length c) 35) = w1 at *
  clear hg1
  have c0 : w1.cell? ⟨w.heap.size, 0, none⟩ = some (.int .i64 ep) := HB1.out.cell 0
  have c1 : w1.cell? ⟨w.heap.size, 1, none⟩ = some (.slice A ms.length c) := HB1.out.cell 1
  have HN : Hid (Calls Tryd.prog 33 #[.pointer (some ⟨a, 0, none⟩), .slice (some ⟨w1.heap.size, 0, none⟩) 2 2] (w1.alloc (.cells #[.int .i64 ep, .int .i64 (ms.length : Int)] 3)) fun e w' => e = .returned (.tuple #[]) ∧ Wr w' base a (bs ++ [ep, (ms.length : Int)].flatMap numBytes) ∧ WF a w1 w') :=
    wnum_made [ep, (ms.length : Int)] HW1.out (by have := HL.out; simp only [List.length_cons, List.length_nil]; omega)
  go_upto_region 2 with (go_at_call 33; (with_reducible refine (HN.out).mono ?_); rintro e w2 ⟨rfl, hw, hf⟩; have HB2 := Lib.hid (hf.box HW1.out HB1.out (by decide) (by decide)); have HM2 : Hid (MK.See w2 base A ms) := Lib.hid (Sees.below HM1.out (hf.below HW1.out)); have HW2 := Lib.hid hw; have HA2 := Lib.hid (HA1.out.trans hf); clear hw hf)
  clear c0 c1 HN HB1 HW1 HA1 HM1
  have c1 : w2.cell? ⟨w.heap.size, 1, none⟩ = some (.slice A ms.length c) := HB2.out.cell 1
  have HCL : Hid ((bs ++ [ep, (ms.length : Int)].flatMap numBytes).length ≤ 1099511628000) := Lib.hid (by have := HL.out; rw [List.length_append, nums_len]; simp only [List.length_cons, List.length_nil]; omega)
  have HE : Hid (bs ++ cfgB ep ms = (bs ++ [ep, (ms.length : Int)].flatMap numBytes) ++ ms.flatMap memB) := Lib.hid (by unfold cfgB; rw [List.append_assoc])
  generalize bs ++ [ep, (ms.length : Int)].flatMap numBytes = b0 at *
  go_upto_region 3 with fail
  clear c1 HB2
  go_loopw [17] (fun i wr => ∃ k : Nat, k ≤ ms.length ∧ i = .int .i64 (k : Int) ∧ Hid (Wr wr base a (b0 ++ (ms.take k).flatMap memB)) ∧ Hid (WF a w2 wr)) (fun i _ => ms.length - (intOf i).toNat)
  case atStart => exact ⟨0, Nat.zero_le _, rfl, Lib.hid (by simpa using HW2.out), Lib.hid (WF.refl _ _)⟩
  case round =>
    obtain ⟨k, hk, rfl, HWk, HAk⟩ := hrel
    by_cases hlt : k < ms.length
    · have HLT := Lib.hid hlt
      obtain ⟨g, o, hA, _, hr⟩ := EK.See.range (Sees.below HM2.out (HAk.out.below HW2.out)) hlt
      have lk : (ldMem (.pointer (some ⟨g, o + k * 34, none⟩))).run Tryd.prog wr = .ok (.agg (ms[k]'hlt).cells.toArray) wr := range_ldm (hr k hlt)
      obtain ⟨w3, hst0, hb3, hbl3⟩ := laid_mem wr (ms[k]'hlt)
      have hst := hst0
      unfold MemX.enc zmemV at hst
      have HW3 := Lib.hid (HWk.out.below_size hbl3)
      have HA3 := Lib.hid (HAk.out.trans (WF.of_below hbl3 HWk.out.lt))
      have HB3 := Lib.hid hb3
      have HSN := Lib.hid (flat_snoc memB ms k hlt)
      have HLN : Hid ((b0 ++ (ms.take k).flatMap memB).length ≤ 8796093022208) := Lib.hid (by have h1 := flat_le memB ms k; have h2 := mems_len ms; have := HCL.out; have := HL.out; rw [List.length_append]; omega)
      have d0 : w3.cell? ⟨wr.heap.size, 0, none⟩ = some (.int .i64 (ms[k]'hlt).id) := by rw [hb3.cell, List.getElem?_toArray, MemX.cell0]
      have d33 : w3.cell? ⟨wr.heap.size, 33, none⟩ = some (.int .i64 (ms[k]'hlt).high) := by rw [hb3.cell, List.getElem?_toArray, MemX.cell33]
      rw [hA]
      have i1 : (k : Int) < (ms.length : Int) := by omega
      have i0 : (0 : Int) ≤ (k : Int) := by omega
      have wk : IntKind.i64.wrap ((k : Int) + 1) = ((k + 1 : Nat) : Int) := by rw [IntKind.wrap_i64]; have := HL.out; omega
      generalize ms[k]'hlt = m at *
      have HEQ : Hid ((b0 ++ (ms.take k).flatMap memB) ++ [m.id, m.high].flatMap numBytes ++ m.root = b0 ++ (ms.take (k + 1)).flatMap memB) := Lib.hid (by rw [HSN.out]; unfold memB; simp only [List.append_assoc])
      generalize b0 ++ (ms.take k).flatMap memB = bk at *
      have HN : Hid (Calls Tryd.prog 33 #[.pointer (some ⟨a, 0, none⟩), .slice (some ⟨w3.heap.size, 0, none⟩) 2 2] (w3.alloc (.cells #[.int .i64 m.id, .int .i64 m.high] 3)) fun e w' => e = .returned (.tuple #[]) ∧ Wr w' base a (bk ++ [m.id, m.high].flatMap numBytes) ∧ WF a w3 w') :=
        wnum_made [m.id, m.high] HW3.out (by have := HLN.out; simp only [List.length_cons, List.length_nil]; omega)
      clear hr hst0 hb3 hbl3
      go_upto_region 6 with (go_at_call 33; (with_reducible refine (HN.out).mono ?_); rintro e w4 ⟨rfl, hw, hf⟩; have HB4 := Lib.hid (hf.box HW3.out HB3.out (by decide) (by decide)); have HW4 := Lib.hid hw; have HA4 := Lib.hid (HA3.out.trans hf); clear hw hf)
      clear lk hst d0 d33 HN HB3 HW3 HA3
      have ld := range_load (m.root_at HB4.out) m.len
      have hbs := build_one m.root m.len w4
      have HL4 : Hid ((bk ++ [m.id, m.high].flatMap numBytes).length ≤ 8796093022300) := Lib.hid (by have := HLN.out; rw [List.length_append, nums_len]; simp only [List.length_cons, List.length_nil]; omega)
      have HN := Lib.hid (wdig_made m.len HW4.out (by have := HL4.out; omega))
      go_wp2_with (go_at_call 37; (with_reducible refine (HN.out).mono ?_); rintro e w5 ⟨rfl, hw, hf⟩; have HW5 := Lib.hid hw; have HA5 := Lib.hid (HA4.out.trans hf); clear hw hf)
      rw [HEQ.out] at HW5
      go_roundw
      case rel => exact ⟨k + 1, HLT.out, by go_num, HW5, HA5⟩
      case measure => have := HLT.out; simp [intOf]; omega
    · have i1 : ¬ (k : Int) < (ms.length : Int) := by omega
      have hke : k = ms.length := by omega
      subst hke
      rw [List.take_length, ← HE.out] at HWk
      clear hk
      go_wp2
      go_end0
      exact ⟨rfl, HWk.out, HA2.out.trans HAk.out⟩
end Go.Proofs.YtlogceoeodjeoaaDoor

namespace Go.Proofs.YtlogceoeodjeoaaDoor
open Go.RowKit

attribute [local go_sem ↓] ldDigest_def stDigest_def bsAll_def ldRp_def stRp_def ldSt_def stSt_def ldCf_def stCf_def ldPr_def stPr_def

set_option maxRecDepth 100000 in
theorem St_cf {w : World} {g : Nat} {t : TypeId} {s : StM} (h : Box w g t s.cells) : (ldCf (.pointer (some ⟨g, 2, none⟩))).run Tryd.prog w = .ok (.agg (cfgV s.ep s.mA s.ms.length s.mc)) w :=
  range_cf (Box.range_mid (pre := [.slice s.pA s.ps.length s.pc, .slice s.rA s.rs.length s.rc]) (mid := (cfgV s.ep s.mA s.ms.length s.mc).toList) (post := []) h rfl)
set_option maxRecDepth 100000 in
theorem stB_sizes (s : StM) (h : (stB s.pl).length ≤ 1073741824) : s.ms.length ≤ 1073741824 ∧ s.ps.length ≤ 1073741824 ∧ s.rs.length ≤ 1073741824 ∧
    (cfgB s.ep s.ms ++ [(s.ps.length : Int)].flatMap numBytes).length + (s.ps.flatMap pairB).length ≤ 1073741824 ∧ ∀ r ∈ s.rs, r.x.vals.length ≤ 1073741824 ∧ totT r.x.vals ≤ 1099511627776 := by
  have e : stB s.pl = (((cfgB s.ep s.ms ++ [(s.ps.length : Int)].flatMap numBytes) ++ s.ps.flatMap pairB) ++ [((s.rs.map RepM.x).length : Int)].flatMap numBytes) ++ (s.rs.map RepM.x).flatMap repXB := rfl
  rw [e] at h
  simp only [List.length_append, nums_len, List.length_cons, List.length_nil] at h
  have h1 := cfgB_len s.ep s.ms
  have hp : s.ps.length ≤ (s.ps.flatMap pairB).length := by
    have : ∀ l : List PairX, l.length ≤ (l.flatMap pairB).length := by
      intro l
      induction l with
      | nil => simp
      | cons x r ih =>
        rw [List.flatMap_cons, List.length_append, pairB_len, List.length_cons]
        omega
    exact this _
  have hr : ∀ l : List RepX, l.length ≤ (l.flatMap repXB).length ∧ ∀ r ∈ l, (repXB r).length ≤ (l.flatMap repXB).length := by
    intro l
    induction l with
    | nil => simp
    | cons x r ih =>
      have hx : (repXB x).length = 32 + 4 * x.vals.length + totT x.vals := repB_len _ _ _ _
      refine ⟨by rw [List.flatMap_cons, List.length_append, List.length_cons]; omega, fun y hy => ?_⟩
      rw [List.flatMap_cons, List.length_append]
      rcases List.mem_cons.1 hy with rfl | hy
      · omega
      · have := ih.2 y hy; omega
  obtain ⟨hr1, hr2⟩ := hr (s.rs.map RepM.x)
  rw [List.length_map] at hr1
  refine ⟨by omega, by omega, by omega, ?_, fun r hm => ?_⟩
  · simp only [List.length_append, nums_len, List.length_cons, List.length_nil]
    omega
  · have := hr2 r.x (List.mem_map_of_mem hm)
    have hx : (repXB r.x).length = 32 + 4 * r.x.vals.length + totT r.x.vals := repB_len _ _ _ _
    omega

set_option maxRecDepth 100000 in
set_option maxHeartbeats 4000000 in
theorem bytes_any11 (s : StM) (w : World) (hS : s.See w w.heap.size) (hl : (stB s.pl).length ≤ 1073741824) :
    Calls Tryd.prog 14 #[.agg s.cells] w (BytesIs w (stB s.pl)) := by
  have HB1 : Hid (Box (w.alloc (.cells s.cells 37)) w.heap.size 37 s.cells) := Box.made _ _ _
  have HF1 : Hid (Below w.heap.size w (w.alloc (.cells s.cells 37))) := (Below.refl _ _).alloc (Nat.le_refl _) _
  have HS1 : Hid (s.See (w.alloc (.cells s.cells 37)) w.heap.size) := Lib.hid (hS.keep HF1.out (Nat.le_refl _))
  have HZ := Lib.hid (stB_sizes s hl)
  have HE : Hid (stB s.pl = (((cfgB s.ep s.ms ++ [(s.ps.length : Int)].flatMap numBytes) ++ s.ps.flatMap pairB) ++ [(s.rs.length : Int)].flatMap numBytes) ++ (s.rs.map RepM.x).flatMap repXB) := Lib.hid (by unfold stB StM.pl; simp only [List.length_map])
  have HLB := Lib.hid hl
  clear hS hl
  unfold BytesIs
  generalize stB s.pl = all at *
  go_enter Tryd.func14, Tryd.ntmps14
  go_upto_region 1 with fail
  change Code.wp _ _ _ _ (w.alloc (.cells s.cells 37))
  generalize hg1 : w.alloc (.cells s.cells 37) = w1 at *
  clear hg1
  have HW2 : Hid (Wr (w1.alloc (.cells #[.slice none 0 0] 75)) w1.heap.size w1.heap.size []) := wr_new (Box.made _ _ _) (Nat.le_refl _)
  have HF2 : Hid (Below w1.heap.size w1 (w1.alloc (.cells #[.slice none 0 0] 75))) := (Below.refl _ _).alloc (Nat.le_refl _) _
  have HB2 := Lib.hid (HB1.out.alloc (.cells #[.slice none 0 0] 75))
  have HS2 : Hid (s.See (w1.alloc (.cells #[.slice none 0 0] 75)) w1.heap.size) := Lib.hid (HS1.out.keep (HF2.out.mono HF1.out.size) HF1.out.size)
  go_upto_region 2 with fail
  have HSZ : Hid (w.heap.size ≤ w1.heap.size) := Lib.hid HF1.out.size
  generalize hg2 : w1.alloc (.cells #[.slice none 0 0] 75) = w2 at *
  clear hg2
  generalize w1.heap.size = a at *
  have l2 := St_cf HB2.out
  have HC := Lib.hid (cfgwrite_any a a [] s.ep s.ms s.mA s.mc w2 HW2.out (by simp) HZ.out.1 HS2.out.ms)
  rw [List.nil_append] at HC
  have HL0 : Hid ((cfgB s.ep s.ms).length ≤ 1073741824) := Lib.hid (by have := HZ.out.2.2.2.1; rw [List.length_append] at this; omega)
  generalize cfgB s.ep s.ms = b0 at *
  go_upto_region 3 with (go_at_call 32; (with_reducible refine (HC.out).mono ?_); rintro e w3 ⟨rfl, hw, hf⟩; have HB3 := Lib.hid (hf.box HW2.out HB2.out (by decide) (by decide)); have HA3 := Lib.hid (WF.below hf HW2.out); have HW3 := Lib.hid hw; clear hw hf)
  clear HC l2 HW2 HB2
  have c0 : w3.cell? ⟨w.heap.size, 0, none⟩ = some (.slice s.pA s.ps.length s.pc) := HB3.out.cell 0
  have HN : Hid (Calls Tryd.prog 33 #[.pointer (some ⟨a, 0, none⟩), .slice (some ⟨w3.heap.size, 0, none⟩) 1 1] (w3.alloc (.cells #[.int .i64 (s.ps.length : Int)] 3)) fun e w' => e = .returned (.tuple #[]) ∧ Wr w' a a (b0 ++ [(s.ps.length : Int)].flatMap numBytes) ∧ WF a w3 w') :=
    wnum_made [(s.ps.length : Int)] HW3.out (by have := HL0.out; simp only [List.length_cons, List.length_nil]; omega)
  have HL1 : Hid ((b0 ++ [(s.ps.length : Int)].flatMap numBytes).length + (s.ps.flatMap pairB).length ≤ 1073741824) := HZ.out.2.2.2.1
  generalize b0 ++ [(s.ps.length : Int)].flatMap numBytes = b1 at *
  go_upto_region 4 with (go_at_call 33; (with_reducible refine (HN.out).mono ?_); rintro e w4 ⟨rfl, hw, hf⟩; have HB4 := Lib.hid (hf.box HW3.out HB3.out (by decide) (by decide)); have HA4 := Lib.hid (HA3.out.trans (WF.below hf HW3.out)); have HW4 := Lib.hid hw; clear hw hf)
  clear HN HB3 HA3 HW3 c0
  have HS4 : Hid (s.See w4 a) := Lib.hid (HS2.out.keep HA4.out (Nat.le_refl _))
  have c0 : w4.cell? ⟨w.heap.size, 0, none⟩ = some (.slice s.pA s.ps.length s.pc) := HB4.out.cell 0
  go_upto_region 5 with fail
  clear c0
  go_loopw [19] (fun i wr => ∃ k : Nat, k ≤ s.ps.length ∧ i = .int .i64 (k : Int) ∧ Hid (Wr wr a a (b1 ++ (s.ps.take k).flatMap pairB)) ∧ Hid (WF a w4 wr)) (fun i _ => s.ps.length - (intOf i).toNat)
  case atStart => exact ⟨0, Nat.zero_le _, rfl, Lib.hid (by simpa using HW4.out), Lib.hid (WF.refl _ _)⟩
  case round =>
    obtain ⟨k, hk, rfl, HWk, HAk⟩ := hrel
    by_cases hlt : k < s.ps.length
    · have HLT := Lib.hid hlt
      obtain ⟨g, o, hA, _, hr⟩ := EK.See.range (Sees.below HS4.out.ps (HAk.out.below HW4.out)) hlt
      have lk : (ldPr (.pointer (some ⟨g, o + k * 2, none⟩))).run Tryd.prog wr = .ok (.agg #[.string (s.ps[k]'hlt).key, .string (s.ps[k]'hlt).val]) wr := range_pr (hr k hlt)
      obtain ⟨w5, hst, hb5, hbl5, _⟩ := laid_pr wr #[.string ⟨#[]⟩, .string ⟨#[]⟩] rfl (s.ps[k]'hlt).key (s.ps[k]'hlt).val
      have HW5 := Lib.hid (HWk.out.below_size hbl5)
      have HA5 := Lib.hid (HAk.out.trans (WF.of_below hbl5 HWk.out.lt))
      have HSN := Lib.hid (flat_snoc pairB s.ps k hlt)
      have HLN : Hid ((b1 ++ (s.ps.take k).flatMap pairB).length + (pairB (s.ps[k]'hlt)).length ≤ 1073741824) := Lib.hid (by have h1 := flat_le1 pairB s.ps k hlt; have := HL1.out; rw [List.length_append]; omega)
      have d0 : w5.cell? ⟨wr.heap.size, 0, none⟩ = some (.string (s.ps[k]'hlt).key) := hb5.cell 0
      have d1 : w5.cell? ⟨wr.heap.size, 1, none⟩ = some (.string (s.ps[k]'hlt).val) := hb5.cell 1
      rw [hA]
      have i1 : (k : Int) < (s.ps.length : Int) := by omega
      have i0 : (0 : Int) ≤ (k : Int) := by omega
      have wk : IntKind.i64.wrap ((k : Int) + 1) = ((k + 1 : Nat) : Int) := by rw [IntKind.wrap_i64]; have := HZ.out.2.1; omega
      generalize s.ps[k]'hlt = m at *
      have HEQ : Hid ((b1 ++ (s.ps.take k).flatMap pairB) ++ [m.key, m.val].flatMap textBytes = b1 ++ (s.ps.take (k + 1)).flatMap pairB) := Lib.hid (by rw [HSN.out]; unfold pairB; simp only [List.append_assoc])
      generalize b1 ++ (s.ps.take k).flatMap pairB = bk at *
      have HN : Hid (Calls Tryd.prog 34 #[.pointer (some ⟨a, 0, none⟩), .slice (some ⟨w5.heap.size, 0, none⟩) 2 2] (w5.alloc (.cells #[.string m.key, .string m.val] 9)) fun e w' => e = .returned (.tuple #[]) ∧ Wr w' a a (bk ++ [m.key, m.val].flatMap textBytes) ∧ WF a w5 w') :=
        wtext_made [m.key, m.val] HW5.out (by have := HLN.out; unfold pairB at this; omega) (by simp)
      clear hr hb5 hbl5
      go_wp2_with (go_at_call 34; (with_reducible refine (HN.out).mono ?_); rintro e w6 ⟨rfl, hw, hf⟩; have HW6 := Lib.hid hw; have HA6 := Lib.hid (HA5.out.trans hf); clear hw hf)
      rw [HEQ.out] at HW6
      go_roundw
      case rel => exact ⟨k + 1, HLT.out, by go_num, HW6, HA6⟩
      case measure => have := HLT.out; simp [intOf]; omega
    · have i1 : ¬ (k : Int) < (s.ps.length : Int) := by omega
      have hke : k = s.ps.length := by omega
      subst hke
      rw [List.take_length] at HWk
      clear hk hlt
      have HBk := Lib.hid (HAk.out.box HW4.out HB4.out (by decide) (by decide))
      have HLk := Lib.hid (HA4.out.trans (HAk.out.below HW4.out))
      have HL2 : Hid ((b1 ++ s.ps.flatMap pairB).length ≤ 1073741824) := Lib.hid (by have := HL1.out; rw [List.length_append]; omega)
      generalize b1 ++ s.ps.flatMap pairB = b2 at *
      clear HAk HW4 HB4 HA4 HS4
      have c1 : wr.cell? ⟨w.heap.size, 1, none⟩ = some (.slice s.rA s.rs.length s.rc) := HBk.out.cell 1
      have HN : Hid (Calls Tryd.prog 33 #[.pointer (some ⟨a, 0, none⟩), .slice (some ⟨wr.heap.size, 0, none⟩) 1 1] (wr.alloc (.cells #[.int .i64 (s.rs.length : Int)] 3)) fun e w' => e = .returned (.tuple #[]) ∧ Wr w' a a (b2 ++ [(s.rs.length : Int)].flatMap numBytes) ∧ WF a wr w') :=
        wnum_made [(s.rs.length : Int)] HWk.out (by have := HL2.out; simp only [List.length_cons, List.length_nil]; omega)
      have HL3 : Hid ((b2 ++ [(s.rs.length : Int)].flatMap numBytes).length + ((s.rs.map RepM.x).flatMap repXB).length ≤ 1073741824) := Lib.hid (by have := HLB.out; rw [HE.out, List.length_append] at this; exact this)
      generalize b2 ++ [(s.rs.length : Int)].flatMap numBytes = b3 at *
      go_upto_region 10 with (go_at_call 33; (with_reducible refine (HN.out).mono ?_); rintro e w7 ⟨rfl, hw, hf⟩; have HB7 := Lib.hid (hf.box HWk.out HBk.out (by decide) (by decide)); have HA7 := Lib.hid (HLk.out.trans (WF.below hf HWk.out)); have HW7 := Lib.hid hw; clear hw hf)
      clear HN HBk HLk HWk c1 i1
      have HS7 : Hid (s.See w7 a) := Lib.hid (HS2.out.keep HA7.out (Nat.le_refl _))
      have c1 : w7.cell? ⟨w.heap.size, 1, none⟩ = some (.slice s.rA s.rs.length s.rc) := HB7.out.cell 1
      go_upto_region 11 with fail
      clear c1
      go_loopw [38] (fun i wr => ∃ k : Nat, k ≤ s.rs.length ∧ i = .int .i64 (k : Int) ∧ Hid (Wr wr a a (b3 ++ ((s.rs.map RepM.x).take k).flatMap repXB)) ∧ Hid (WF a w7 wr)) (fun i _ => s.rs.length - (intOf i).toNat)
      case atStart => exact ⟨0, Nat.zero_le _, rfl, Lib.hid (by simpa using HW7.out), Lib.hid (WF.refl _ _)⟩
      case round =>
        obtain ⟨k, hk, rfl, HWk, HAk⟩ := hrel
        by_cases hlt : k < s.rs.length
        · have HLT := Lib.hid hlt
          obtain ⟨g, o, hA, _, hr⟩ := EK.See.range (Sees.below HS7.out.rs (HAk.out.below HW7.out)) hlt
          have lk : (ldRp (.pointer (some ⟨g, o + k * 4, none⟩))).run Tryd.prog wr = .ok (.agg (repv (s.rs[k]'hlt).x.client (s.rs[k]'hlt).x.num (s.rs[k]'hlt).x.code (s.rs[k]'hlt).A (s.rs[k]'hlt).x.vals.length (s.rs[k]'hlt).z)) wr := range_rp (hr k hlt)
          obtain ⟨w8, hst, hb8, hbl8, _⟩ := laid_rp wr (repv 0 0 0 none 0 0) rfl (s.rs[k]'hlt).x.client (s.rs[k]'hlt).x.num (s.rs[k]'hlt).x.code (s.rs[k]'hlt).A (s.rs[k]'hlt).x.vals.length (s.rs[k]'hlt).z
          have HW8 := Lib.hid (HWk.out.below_size hbl8)
          have HA8 := Lib.hid (HAk.out.trans (WF.of_below hbl8 HWk.out.lt))
          have hkm : k < (s.rs.map RepM.x).length := by rw [List.length_map]; exact hlt
          have HSN := Lib.hid (flat_snoc repXB (s.rs.map RepM.x) k hkm)
          have HLN : Hid ((b3 ++ ((s.rs.map RepM.x).take k).flatMap repXB).length ≤ 1099511627776) := Lib.hid (by have h1 := flat_le repXB (s.rs.map RepM.x) k; have := HL3.out; rw [List.length_append]; omega)
          have HVV := Lib.hid (HZ.out.2.2.2.2 _ (List.getElem_mem hlt))
          have HV : Hid (Sees w8 a (s.rs[k]'hlt).A ((s.rs[k]'hlt).x.vals.map Value.string)) := Lib.hid (by
            have h1 := HS7.out.vals _ (List.getElem_mem hlt)
            unfold EK.See at h1
            rw [SK_flat] at h1
            exact (h1.below (HAk.out.below HW7.out)).below (hbl8.mono HWk.out.2.1))
          have lr := hb8.l_rp
          rw [List.getElem_map] at HSN
          rw [hA]
          have i1 : (k : Int) < (s.rs.length : Int) := by omega
          have i0 : (0 : Int) ≤ (k : Int) := by omega
          have wk : IntKind.i64.wrap ((k : Int) + 1) = ((k + 1 : Nat) : Int) := by rw [IntKind.wrap_i64]; have := HZ.out.2.2.1; omega
          generalize s.rs[k]'hlt = m at *
          obtain ⟨⟨mc, mn, mk, mv⟩, mA, mz⟩ := m
          simp only at lk hst lr HV HVV
          have HEQ : Hid ((b3 ++ ((s.rs.map RepM.x).take k).flatMap repXB) ++ repB mc mn mk mv = b3 ++ ((s.rs.map RepM.x).take (k + 1)).flatMap repXB) := Lib.hid (by rw [HSN.out]; unfold repXB; simp only [List.append_assoc])
          generalize b3 ++ ((s.rs.map RepM.x).take k).flatMap repXB = bk at *
          have HN := Lib.hid (wreply_any a a bk mc mn mk mA mv mz w8 HW8.out HLN.out HVV.out.1 HVV.out.2 HV.out)
          clear hr hb8 hbl8 hkm HSN HLN HVV HV
          go_wp2_with (go_at_call 35; (with_reducible refine (HN.out).mono ?_); rintro e w9 ⟨rfl, hw, hf⟩; have HW9 := Lib.hid hw; have HA9 := Lib.hid (HA8.out.trans hf); clear hw hf)
          rw [HEQ.out] at HW9
          go_roundw
          case rel => exact ⟨k + 1, HLT.out, by go_num, HW9, HA9⟩
          case measure => have := HLT.out; simp [intOf]; omega
        · have i1 : ¬ (k : Int) < (s.rs.length : Int) := by omega
          have hke : k = s.rs.length := by omega
          subst hke
          have e2 : (s.rs.map RepM.x).take s.rs.length = s.rs.map RepM.x := List.take_of_length_le (by rw [List.length_map]; exact Nat.le_refl _)
          rw [e2, ← HE.out] at HWk
          clear hk hlt e2
          have HLk := Lib.hid (HA7.out.trans (HAk.out.below HW7.out))
          have HBY := Lib.hid (bytes_any a a all wr HWk.out (by have := HLB.out; omega))
          have HFW := Lib.hid (HF1.out.trans ((HF2.out.trans HLk.out).mono HSZ.out))
          go_wp2_with (go_at_call 36; (with_reducible refine (HBY.out).mono ?_); rintro e wz ⟨A, c, rfl, hc1, hc2, hse, hb⟩; have HC1 := Lib.hid hc1; have HC2 := Lib.hid hc2; have HSE := Lib.hid hse; have HBZ := Lib.hid hb; clear hc1 hc2 hse hb)
          go_ret
          exact ⟨A, c, rfl, HC1.out, HC2.out, HSE.out, HFW.out.trans (HBZ.out.mono HFW.out.size)⟩
end Go.Proofs.YtlogceoeodjeoaaDoor
