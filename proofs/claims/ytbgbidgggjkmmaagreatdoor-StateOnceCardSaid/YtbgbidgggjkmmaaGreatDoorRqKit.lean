/-
  Requests in memory: their cells, what is loaded, stored, compared and built.
-/
import Derived.Test.YtbgbidgggjkmmaaGreatDoorRqPlain
import Derived.Test.YtbgbidgggjkmmaaGreatDoorCfChg
import Derived.Test.YtbgbidgggjkmmaaGreatDoorTG
import Derived.Lib.Hide
import Derived.Deep.RegionHeld3
namespace Go.Proofs.YtbgbidgggjkmmaaGreatDoor
open Go.RowKit

/-! ### Structs compared, field by field -/
section
variable {P : Program} {d : Nat} {w : World} {xs ys : Array Value}
set_option maxRecDepth 100000 in
theorem eqF_nil : (Op.eqFields d xs ys []).run P w = .ok true w := rfl
set_option maxRecDepth 100000 in
theorem eqF_cons {f : Field} {fs : List Field} {a b : Bool} {x y : Value} {ty : TypeId} {off : Nat} (n : decide (f.name ≠ "_") = true ∧ f.type = ty ∧ f.offset = off) (hx : (part ty xs off).run P w = .ok x w) (hy : (part ty ys off).run P w = .ok y w)
    (he : (Op.equalIn d ty x y).run P w = .ok a w) (h : (Op.eqFields d xs ys fs).run P w = .ok b w) : (Op.eqFields d xs ys (f :: fs)).run P w = .ok (a && b) w := by
  obtain ⟨n0, rfl, rfl⟩ := n
  unfold Op.eqFields
  rw [if_pos (of_decide_eq_true n0), Sem.run_bind, hx, Result.andThen_ok, Sem.run_bind, hy, Result.andThen_ok, Sem.run_bind, he, Result.andThen_ok]
  cases a
  · rw [if_pos (by simp)]
    rfl
  · rw [if_neg (by simp), h]
    rfl
set_option maxRecDepth 100000 in
theorem part_agg {ty : TypeId} {fs : Array Field} {off n : Nat} {pre mid post : List Value} (hu : P.underlying ty = some (.struct fs)) (hi : (P.info? ty).map (·.size) = some n) (ho : pre.length = off) (hm : mid.length = n) :
    (part ty (pre ++ (mid ++ post)).toArray off).run P w = .ok (.agg mid.toArray) w := by
  obtain ⟨i, hi1⟩ := info_of_underlying hu
  rw [hi1] at hi
  simp only [Option.map_some, Option.some.injEq] at hi
  have hsz : P.cellsOf ty = n := by unfold Program.cellsOf; rw [hi1]; simpa using hi
  have e : List.take (P.cellsOf ty) (List.drop off (pre ++ (mid ++ post))) = mid := by
    rw [hsz, ← ho, ← hm]
    simp
  unfold part isAgg
  simp only [Sem.run_bind, run_underlying hu, Result.andThen_ok]
  simp [run_sizeOf w hi1, e]
end
set_option maxRecDepth 100000 in
theorem run_eq_str (d : Nat) (a b : ByteArray) (w : World) : (Op.equalIn (d + 1) 9 (.string a) (.string b)).run Tryz.prog w = .ok (decide (a = b)) w := by
  rw [run_equalIn_string w d 9 a b Tryz.underlying9]
  congr 1
  rw [Bool.eq_iff_iff]
  simp only [beq_iff_eq, decide_eq_true_iff, ByteArray.toList_eq]
  refine ⟨fun h => ?_, fun h => by rw [h]⟩
  cases a; cases b
  congr 1
  exact Array.toList_inj.1 h
set_option maxRecDepth 100000 in
theorem run_eq_int (d : Nat) (a b : Int) (w : World) : (Op.equalIn (d + 1) 3 (.int .i64 a) (.int .i64 b)).run Tryz.prog w = .ok (decide (a = b)) w := by
  rw [run_equalIn_int w d 3 .i64 .i64 a b Tryz.underlying3]
  congr 1

/-! ### A request's cells -/
def opL (x : ReqX) : List Value := .int .i64 x.kind :: .string x.key :: .string x.val :: .string x.old :: chgL x.ck x.cid x.cn x.root x.high
def ReqX.cells (x : ReqX) : List Value := .int .i64 x.client :: .int .i64 x.num :: opL x
def ReqX.enc (x : ReqX) : Value := .agg x.cells.toArray
set_option maxRecDepth 100000 in
theorem opL_len (x : ReqX) : (opL x).length = 40 := by
  unfold opL
  simp only [List.length_cons, chg_len x.len]
set_option maxRecDepth 100000 in
theorem ReqX.cells_len (x : ReqX) : x.cells.length = 42 := by
  unfold ReqX.cells
  simp only [List.length_cons, opL_len x]
set_option maxRecDepth 100000 in
theorem ReqX.cells_one (x : ReqX) : ∀ v ∈ x.cells, v.oneCell' = true := by
  intro v hv
  unfold ReqX.cells opL chgL at hv
  simp only [List.mem_cons] at hv
  rcases hv with rfl | rfl | rfl | rfl | rfl | rfl | rfl | rfl | rfl | hv <;> first | rfl | exact keyL_one _ _ v hv
set_option maxRecDepth 100000 in
theorem ReqX.size (x : ReqX) : (Tryz.prog.info? 56).map (·.size) = some x.cells.length := by
  rw [x.cells_len]
  kernel_rfl
abbrev zreqV : Array Value := #[.int .i64 0, .int .i64 0, .int .i64 0, .string ⟨#[]⟩, .string ⟨#[]⟩, .string ⟨#[]⟩, .int .i64 0, .int .i64 0, .int .i64 0, .int .u8 0, .int .u8 0, .int .u8 0, .int .u8 0, .int .u8 0, .int .u8 0, .int .u8 0, .int .u8 0, .int .u8 0, .int .u8 0, .int .u8 0, .int .u8 0, .int .u8 0, .int .u8 0, .int .u8 0, .int .u8 0, .int .u8 0, .int .u8 0, .int .u8 0, .int .u8 0, .int .u8 0, .int .u8 0, .int .u8 0, .int .u8 0, .int .u8 0, .int .u8 0, .int .u8 0, .int .u8 0, .int .u8 0, .int .u8 0, .int .u8 0, .int .u8 0, .int .i64 0]
set_option maxRecDepth 100000 in
theorem zeros_len : zeros.length = 32 := rfl
set_option maxRecDepth 100000 in
theorem zreq_cells : zreq.cells.toArray = zreqV := rfl
abbrev zchgV : Array Value := #[.int .i64 0, .int .i64 0, .int .i64 0, .int .u8 0, .int .u8 0, .int .u8 0, .int .u8 0, .int .u8 0, .int .u8 0, .int .u8 0, .int .u8 0, .int .u8 0, .int .u8 0, .int .u8 0, .int .u8 0, .int .u8 0, .int .u8 0, .int .u8 0, .int .u8 0, .int .u8 0, .int .u8 0, .int .u8 0, .int .u8 0, .int .u8 0, .int .u8 0, .int .u8 0, .int .u8 0, .int .u8 0, .int .u8 0, .int .u8 0, .int .u8 0, .int .u8 0, .int .u8 0, .int .u8 0, .int .u8 0, .int .i64 0]
set_option maxRecDepth 100000 in
theorem zchg_cells : (chgL 0 0 0 zeros 0).toArray = zchgV := rfl

/-! ### What is frozen -/
noncomputable def ldReq (v : Value) : Sem Value := Instr.loadAt 56 v
set_option maxRecDepth 100000 in
theorem ldReq_def (v : Value) : Instr.loadAt 56 v = ldReq v := rfl
noncomputable def stReq (p v : Value) : Sem Unit := Instr.storeAt 56 p v
set_option maxRecDepth 100000 in
theorem stReq_def (p v : Value) : Instr.storeAt 56 p v = stReq p v := rfl
noncomputable def stChg (p v : Value) : Sem Unit := Instr.storeAt 52 p v
set_option maxRecDepth 100000 in
theorem stChg_def (p v : Value) : Instr.storeAt 52 p v = stChg p v := rfl
noncomputable def eqReq (a b : Value) : Sem Bool := Op.equalIn 10000 56 a b
set_option maxRecDepth 100000 in
theorem eqReq_def (a b : Value) : Op.equalIn 10000 56 a b = eqReq a b := rfl
noncomputable def bdReq (parts : Array (Nat × Value)) : Sem Value := Instr.build 56 parts
set_option maxRecDepth 100000 in
theorem bdReq_def (parts : Array (Nat × Value)) : Instr.build 56 parts = bdReq parts := rfl

set_option maxRecDepth 100000 in
theorem Box.ld_req {w : World} {g : Nat} {t : TypeId} {x : ReqX} (h : Box w g t x.cells.toArray) : (ldReq (.pointer (some ⟨g, 0, none⟩))).run Tryz.prog w = .ok (.agg x.cells.toArray) w :=
  run_loadAt_mid (P := Tryz.prog) w g 0 56 x.cells _ h.range Tryz.underlying56 rfl x.size
set_option maxRecDepth 100000 in
theorem Box.st_req {w : World} {g : Nat} {t : TypeId} {cs : Array Value} (h : Box w g t cs) (hs : cs.size = 42) (x : ReqX) :
    ∃ w', (stReq (.pointer (some ⟨g, 0, none⟩)) (.agg x.cells.toArray)).run Tryz.prog w = .ok () w' ∧ Box w' g t x.cells.toArray ∧ w.grownBy w' (some g) := by
  refine ⟨w.setCells g 0 x.cells, ?_, h.cells_all x.cells.toArray (by rw [List.size_toArray, x.cells_len, hs]), only_cells (g := g) x.cells 0 _⟩
  exact run_storeAt_mid (P := Tryz.prog) _ g 0 56 x.cells.toArray (fun j hj => by
    rw [List.size_toArray, x.cells_len] at hj
    rw [h.cell, h.free, Array.getElem?_eq_getElem (by omega)]
    exact ⟨rfl, rfl⟩) (by rw [List.size_toArray]; exact x.size) (by have := all_oneCell_toArray x.cells_one; simpa using this)
set_option maxRecDepth 100000 in
theorem bd_req0 (w : World) : (bdReq #[]).run Tryz.prog w = .ok (.agg zreqV) w := run_build w _ _ _ (by kernel_rfl)
set_option maxRecDepth 100000 in
theorem ret_req {fn : Func} {p : Tmp} (hf : fn.results = #[.cell p 56]) {a : Act} {w : World} {g : Nat} (hp : a.tmps.getD p undef = .pointer (some ⟨g, 0, none⟩)) (hdf : a.defers = []) {t : TypeId} {x : ReqX} (hb : Box w g t x.cells.toArray)
    {R : Ending → World → Prop} (hR : R (.returned (.agg x.cells.toArray)) w) : bodyPost Tryz.prog fn R .ret a w :=
  bodyPost_ret (results_cell_row hf _ w g t _ (0, 0) _ hp hb Tryz.underlying56 rfl (by rw [List.size_toArray]; exact x.size)) hdf hR

/-! ### One part of a request or a change is put -/
set_option maxRecDepth 100000 in
theorem Box.put_in {w : World} {g o : Nat} {t : TypeId} {pre post : List Value} {v : Value} (h : Box w g t (pre ++ (v :: post)).toArray) (ho : pre.length = o) (u : Value) : Box (w.setCell ⟨g, o, none⟩ u) g t (pre ++ (u :: post)).toArray := by
  subst ho
  have e : (pre ++ (v :: post)).toArray.setIfInBounds pre.length u = (pre ++ (u :: post)).toArray := by
    apply Array.ext'
    simp
  have := h.put pre.length u
  rwa [e] at this
section
variable {w : World} {g : Nat} {t : TypeId} {x : ReqX} (h : Box w g t x.cells.toArray)
include h
set_option maxRecDepth 100000 in
theorem Box.put_client (u : Int) : Box (w.setCell ⟨g, 0, none⟩ (.int .i64 u)) g t ({ x with client := u } : ReqX).cells.toArray := Box.put_in (pre := []) h rfl _
set_option maxRecDepth 100000 in
theorem Box.put_num (u : Int) : Box (w.setCell ⟨g, 1, none⟩ (.int .i64 u)) g t ({ x with num := u } : ReqX).cells.toArray := Box.put_in (pre := [.int .i64 x.client]) h rfl _
set_option maxRecDepth 100000 in
theorem Box.put_kind (u : Int) : Box (w.setCell ⟨g, 2, none⟩ (.int .i64 u)) g t ({ x with kind := u } : ReqX).cells.toArray := Box.put_in (pre := [.int .i64 x.client, .int .i64 x.num]) h rfl _
set_option maxRecDepth 100000 in
theorem Box.put_key (u : ByteArray) : Box (w.setCell ⟨g, 3, none⟩ (.string u)) g t ({ x with key := u } : ReqX).cells.toArray := Box.put_in (pre := [.int .i64 x.client, .int .i64 x.num, .int .i64 x.kind]) h rfl _
set_option maxRecDepth 100000 in
theorem Box.put_val (u : ByteArray) : Box (w.setCell ⟨g, 4, none⟩ (.string u)) g t ({ x with val := u } : ReqX).cells.toArray := Box.put_in (pre := [.int .i64 x.client, .int .i64 x.num, .int .i64 x.kind, .string x.key]) h rfl _
set_option maxRecDepth 100000 in
theorem Box.put_old (u : ByteArray) : Box (w.setCell ⟨g, 5, none⟩ (.string u)) g t ({ x with old := u } : ReqX).cells.toArray := Box.put_in (pre := [.int .i64 x.client, .int .i64 x.num, .int .i64 x.kind, .string x.key, .string x.val]) h rfl _
set_option maxRecDepth 100000 in
theorem Box.put_ck (u : Int) : Box (w.setCell ⟨g, 6, none⟩ (.int .i64 u)) g t ({ x with ck := u } : ReqX).cells.toArray := Box.put_in (pre := [.int .i64 x.client, .int .i64 x.num, .int .i64 x.kind, .string x.key, .string x.val, .string x.old]) h rfl _
set_option maxRecDepth 100000 in
theorem Box.put_cid (u : Int) : Box (w.setCell ⟨g, 7, none⟩ (.int .i64 u)) g t ({ x with cid := u } : ReqX).cells.toArray := Box.put_in (pre := [.int .i64 x.client, .int .i64 x.num, .int .i64 x.kind, .string x.key, .string x.val, .string x.old, .int .i64 x.ck]) h rfl _
set_option maxRecDepth 100000 in
theorem Box.put_cn (u : Int) : Box (w.setCell ⟨g, 8, none⟩ (.int .i64 u)) g t ({ x with cn := u } : ReqX).cells.toArray := Box.put_in (pre := [.int .i64 x.client, .int .i64 x.num, .int .i64 x.kind, .string x.key, .string x.val, .string x.old, .int .i64 x.ck, .int .i64 x.cid]) h rfl _
set_option maxRecDepth 100000 in
theorem Box.put_high (u : Int) : Box (w.setCell ⟨g, 41, none⟩ (.int .i64 u)) g t ({ x with high := u } : ReqX).cells.toArray :=
  Box.put_in (pre := [.int .i64 x.client, .int .i64 x.num, .int .i64 x.kind, .string x.key, .string x.val, .string x.old, .int .i64 x.ck, .int .i64 x.cid, .int .i64 x.cn] ++ x.root.map bv) (v := .int .i64 x.high) (post := []) h (by simp [x.len]) _
set_option maxRecDepth 100000 in
theorem Box.put_root (d : List UInt8) (hd : d.length = 32) : (stDigest (.pointer (some ⟨g, 9, none⟩)) (.agg (d.map bv).toArray)).run Tryz.prog w = .ok () (w.setCells g 9 (d.map bv)) ∧ Box (w.setCells g 9 (d.map bv)) g t ({ x with root := d, len := hd } : ReqX).cells.toArray ∧ w.grownBy (w.setCells g 9 (d.map bv)) (some g) :=
  ⟨h.store_mid (o := 9) (by rw [List.size_toArray, x.cells_len]; decide) d hd,
    Box.put_mid (pre := [.int .i64 x.client, .int .i64 x.num, .int .i64 x.kind, .string x.key, .string x.val, .string x.old, .int .i64 x.ck, .int .i64 x.cid, .int .i64 x.cn]) (mid := x.root.map bv) (post := [.int .i64 x.high]) h rfl (by simp [x.len, hd]), only_cells (g := g) _ 9 w⟩
set_option maxRecDepth 100000 in
theorem Box.put_chg (k i n : Int) {r : List UInt8} (hr : r.length = 32) (hh : Int) : (stChg (.pointer (some ⟨g, 6, none⟩)) (.agg (chgL k i n r hh).toArray)).run Tryz.prog w = .ok () (w.setCells g 6 (chgL k i n r hh)) ∧
    Box (w.setCells g 6 (chgL k i n r hh)) g t ({ x with ck := k, cid := i, cn := n, root := r, high := hh, len := hr } : ReqX).cells.toArray ∧ w.grownBy (w.setCells g 6 (chgL k i n r hh)) (some g) := by
  have hb : Box w g t ([Value.int .i64 x.client, .int .i64 x.num, .int .i64 x.kind, .string x.key, .string x.val, .string x.old] ++ (chgL x.ck x.cid x.cn x.root x.high ++ [])).toArray := by rw [List.append_nil]; exact h
  have h1 := Box.put_mid hb (o := 6) rfl (vs := chgL k i n r hh) (by rw [chg_len hr, chg_len x.len])
  rw [List.append_nil] at h1
  refine ⟨?_, h1, only_cells (g := g) _ 6 w⟩
  exact run_storeAt_mid (P := Tryz.prog) w g 6 52 (chgL k i n r hh).toArray (fun j hj => by
    rw [List.size_toArray, chg_len hr] at hj
    rw [h.cell, h.free, Array.getElem?_eq_getElem (by rw [List.size_toArray, x.cells_len]; omega)]
    exact ⟨rfl, rfl⟩) (by rw [List.size_toArray]; exact chg_list hr k i n hh) (by
      have h1 : ∀ v ∈ chgL k i n r hh, v.oneCell' = true := by
        intro v hv
        unfold chgL at hv
        simp only [List.mem_cons] at hv
        rcases hv with rfl | rfl | rfl | hv <;> first | rfl | exact keyL_one _ _ v hv
      have := all_oneCell_toArray h1
      simpa using this)
end

/-! ### The same, of a request whose parts are written out -/
section
variable {w : World} {g : Nat} {t : TypeId} {c n k a1 a2 a3 hh : Int} {s1 s2 s3 : ByteArray} {r : List UInt8} {hr : r.length = 32} (h : Box w g t (ReqX.mk c n k s1 s2 s3 a1 a2 a3 r hh hr).cells.toArray)
include h
set_option maxRecDepth 100000 in
theorem Box.rk_client (u : Int) : Box (w.setCell ⟨g, 0, none⟩ (.int .i64 u)) g t (ReqX.mk u n k s1 s2 s3 a1 a2 a3 r hh hr).cells.toArray := Box.put_client h u
set_option maxRecDepth 100000 in
theorem Box.rk_num (u : Int) : Box (w.setCell ⟨g, 1, none⟩ (.int .i64 u)) g t (ReqX.mk c u k s1 s2 s3 a1 a2 a3 r hh hr).cells.toArray := Box.put_num h u
set_option maxRecDepth 100000 in
theorem Box.rk_kind (u : Int) : Box (w.setCell ⟨g, 2, none⟩ (.int .i64 u)) g t (ReqX.mk c n u s1 s2 s3 a1 a2 a3 r hh hr).cells.toArray := Box.put_kind h u
set_option maxRecDepth 100000 in
theorem Box.rk_key (u : ByteArray) : Box (w.setCell ⟨g, 3, none⟩ (.string u)) g t (ReqX.mk c n k u s2 s3 a1 a2 a3 r hh hr).cells.toArray := Box.put_key h u
set_option maxRecDepth 100000 in
theorem Box.rk_val (u : ByteArray) : Box (w.setCell ⟨g, 4, none⟩ (.string u)) g t (ReqX.mk c n k s1 u s3 a1 a2 a3 r hh hr).cells.toArray := Box.put_val h u
set_option maxRecDepth 100000 in
theorem Box.rk_old (u : ByteArray) : Box (w.setCell ⟨g, 5, none⟩ (.string u)) g t (ReqX.mk c n k s1 s2 u a1 a2 a3 r hh hr).cells.toArray := Box.put_old h u
set_option maxRecDepth 100000 in
theorem Box.rk_ck (u : Int) : Box (w.setCell ⟨g, 6, none⟩ (.int .i64 u)) g t (ReqX.mk c n k s1 s2 s3 u a2 a3 r hh hr).cells.toArray := Box.put_ck h u
set_option maxRecDepth 100000 in
theorem Box.rk_cid (u : Int) : Box (w.setCell ⟨g, 7, none⟩ (.int .i64 u)) g t (ReqX.mk c n k s1 s2 s3 a1 u a3 r hh hr).cells.toArray := Box.put_cid h u
set_option maxRecDepth 100000 in
theorem Box.rk_cn (u : Int) : Box (w.setCell ⟨g, 8, none⟩ (.int .i64 u)) g t (ReqX.mk c n k s1 s2 s3 a1 a2 u r hh hr).cells.toArray := Box.put_cn h u
set_option maxRecDepth 100000 in
theorem Box.rk_high (u : Int) : Box (w.setCell ⟨g, 41, none⟩ (.int .i64 u)) g t (ReqX.mk c n k s1 s2 s3 a1 a2 a3 r u hr).cells.toArray := Box.put_high h u
set_option maxRecDepth 100000 in
theorem Box.rk_root (d : List UInt8) (hd : d.length = 32) : (stDigest (.pointer (some ⟨g, 9, none⟩)) (.agg (d.map bv).toArray)).run Tryz.prog w = .ok () (w.setCells g 9 (d.map bv)) ∧ Box (w.setCells g 9 (d.map bv)) g t (ReqX.mk c n k s1 s2 s3 a1 a2 a3 d hh hd).cells.toArray ∧ w.grownBy (w.setCells g 9 (d.map bv)) (some g) := Box.put_root h d hd
set_option maxRecDepth 100000 in
theorem Box.rk_chg (k' i' n' : Int) {d : List UInt8} (hd : d.length = 32) (h' : Int) : (stChg (.pointer (some ⟨g, 6, none⟩)) (.agg (chgL k' i' n' d h').toArray)).run Tryz.prog w = .ok () (w.setCells g 6 (chgL k' i' n' d h')) ∧
    Box (w.setCells g 6 (chgL k' i' n' d h')) g t (ReqX.mk c n k s1 s2 s3 k' i' n' d h' hd).cells.toArray ∧ w.grownBy (w.setCells g 6 (chgL k' i' n' d h')) (some g) := Box.put_chg h k' i' n' hd h'
end

/-! ### A change's own block -/
section
variable {w : World} {g : Nat} {t : TypeId} {k i n hh : Int} {r : List UInt8} (h : Box w g t (chgL k i n r hh).toArray)
include h
set_option maxRecDepth 100000 in
theorem Box.chg_ck (u : Int) : Box (w.setCell ⟨g, 0, none⟩ (.int .i64 u)) g t (chgL u i n r hh).toArray := Box.put_in (pre := []) h rfl _
set_option maxRecDepth 100000 in
theorem Box.chg_cid (u : Int) : Box (w.setCell ⟨g, 1, none⟩ (.int .i64 u)) g t (chgL k u n r hh).toArray := Box.put_in (pre := [.int .i64 k]) h rfl _
set_option maxRecDepth 100000 in
theorem Box.chg_cn (u : Int) : Box (w.setCell ⟨g, 2, none⟩ (.int .i64 u)) g t (chgL k i u r hh).toArray := Box.put_in (pre := [.int .i64 k, .int .i64 i]) h rfl _
set_option maxRecDepth 100000 in
theorem Box.chg_high (hr : r.length = 32) (u : Int) : Box (w.setCell ⟨g, 35, none⟩ (.int .i64 u)) g t (chgL k i n r u).toArray :=
  Box.put_in (pre := [.int .i64 k, .int .i64 i, .int .i64 n] ++ r.map bv) (v := .int .i64 hh) (post := []) h (by simp [hr]) _
set_option maxRecDepth 100000 in
theorem Box.chg_root (hr : r.length = 32) (d : List UInt8) (hd : d.length = 32) : (stDigest (.pointer (some ⟨g, 3, none⟩)) (.agg (d.map bv).toArray)).run Tryz.prog w = .ok () (w.setCells g 3 (d.map bv)) ∧ Box (w.setCells g 3 (d.map bv)) g t (chgL k i n d hh).toArray ∧ w.grownBy (w.setCells g 3 (d.map bv)) (some g) :=
  ⟨h.store_mid (o := 3) (by rw [List.size_toArray, chg_len hr]; decide) d hd,
    Box.put_mid (pre := [.int .i64 k, .int .i64 i, .int .i64 n]) (mid := r.map bv) (post := [.int .i64 hh]) h rfl (by simp [hr, hd]), only_cells (g := g) _ 3 w⟩
end
set_option maxRecDepth 100000 in
theorem Box.chg_3 {w : World} {g : Nat} {t : TypeId} {k i n hh : Int} {r : List UInt8} (h : Box w g t (chgL k i n r hh).toArray) : w.rangeAt g 3 (r.map bv) := Box.range_mid (pre := [Value.int .i64 k, .int .i64 i, .int .i64 n]) (post := [.int .i64 hh]) h rfl
set_option maxRecDepth 100000 in
theorem Box.chg_35 {w : World} {g : Nat} {t : TypeId} {k i n hh : Int} {r : List UInt8} (h : Box w g t (chgL k i n r hh).toArray) (hr : r.length = 32) : w.cell? ⟨g, 35, none⟩ = some (.int .i64 hh) := by
  rw [h.cell, List.getElem?_toArray]
  show (r.map bv ++ [Value.int .i64 hh])[32]? = _
  rw [List.getElem?_append_right (by simp [hr])]
  simp [hr]
set_option maxRecDepth 100000 in
theorem Box.st_chg {w : World} {g : Nat} {t : TypeId} {cs : Array Value} (h : Box w g t cs) (hs : cs.size = 36) (k i n : Int) {r : List UInt8} (hr : r.length = 32) (hh : Int) :
    ∃ w', (stChg (.pointer (some ⟨g, 0, none⟩)) (.agg (chgL k i n r hh).toArray)).run Tryz.prog w = .ok () w' ∧ Box w' g t (chgL k i n r hh).toArray ∧ w.grownBy w' (some g) := by
  refine ⟨w.setCells g 0 (chgL k i n r hh), ?_, h.cells_all (chgL k i n r hh).toArray (by rw [List.size_toArray, chg_len hr, hs]), only_cells (g := g) _ 0 _⟩
  exact run_storeAt_mid (P := Tryz.prog) _ g 0 52 (chgL k i n r hh).toArray (fun j hj => by
    rw [List.size_toArray, chg_len hr] at hj
    rw [h.cell, h.free, Array.getElem?_eq_getElem (by omega)]
    exact ⟨rfl, rfl⟩) (by rw [List.size_toArray]; exact chg_list hr k i n hh) (by
      have h1 : ∀ v ∈ chgL k i n r hh, v.oneCell' = true := by
        intro v hv
        unfold chgL at hv
        simp only [List.mem_cons] at hv
        rcases hv with rfl | rfl | rfl | hv <;> first | rfl | exact keyL_one _ _ v hv
      have := all_oneCell_toArray h1
      simpa using this)
set_option maxRecDepth 100000 in
theorem ret_chg {fn : Func} {p : Tmp} (hf : fn.results = #[.cell p 52]) {a : Act} {w : World} {g : Nat} (hp : a.tmps.getD p undef = .pointer (some ⟨g, 0, none⟩)) (hdf : a.defers = []) {t : TypeId} {k i n hh : Int} {r : List UInt8} (hr : r.length = 32) (hb : Box w g t (chgL k i n r hh).toArray)
    {R : Ending → World → Prop} (hR : R (.returned (.agg (chgL k i n r hh).toArray)) w) : bodyPost Tryz.prog fn R .ret a w :=
  bodyPost_ret (results_cell_row hf _ w g t _ (0, 0) _ hp hb Tryz.underlying52 rfl (by rw [List.size_toArray]; exact chg_list hr k i n hh)) hdf hR

/-! ### What a request's block holds -/
section
variable {w : World} {g : Nat} {t : TypeId} {x : ReqX} (h : Box w g t x.cells.toArray)
include h
set_option maxRecDepth 100000 in
theorem Box.rq_cell {j : Nat} {v : Value} (e : x.cells[j]? = some v) : w.cell? ⟨g, j, none⟩ = some v := by rw [h.cell, List.getElem?_toArray, e]
set_option maxRecDepth 100000 in
theorem Box.rq_high : w.cell? ⟨g, 41, none⟩ = some (.int .i64 x.high) := h.rq_cell (by
  show (chgL x.ck x.cid x.cn x.root x.high)[35]? = _
  show (x.root.map bv ++ [Value.int .i64 x.high])[32]? = _
  rw [List.getElem?_append_right (by simp [x.len])]
  simp [x.len])
set_option maxRecDepth 100000 in
theorem Box.rq_root : w.rangeAt g 9 (x.root.map bv) := Box.range_mid (pre := [.int .i64 x.client, .int .i64 x.num, .int .i64 x.kind, .string x.key, .string x.val, .string x.old, .int .i64 x.ck, .int .i64 x.cid, .int .i64 x.cn]) (post := [.int .i64 x.high]) h rfl
set_option maxRecDepth 100000 in
theorem Box.rq_chg : w.rangeAt g 6 (chgL x.ck x.cid x.cn x.root x.high) := by
  have hb : Box w g t ([Value.int .i64 x.client, .int .i64 x.num, .int .i64 x.kind, .string x.key, .string x.val, .string x.old] ++ (chgL x.ck x.cid x.cn x.root x.high ++ [])).toArray := by rw [List.append_nil]; exact h
  exact Box.range_mid hb rfl
end

/-! ### Comparison -/
set_option maxRecDepth 100000 in
theorem req_op (x : ReqX) (w : World) : (part 54 x.cells.toArray 2).run Tryz.prog w = .ok (.agg (opL x).toArray) w := by
  have hu : Tryz.prog.underlying 54 = some (.struct (Tryz.prog.fieldsOf 54)) := by kernel_rfl
  have e : x.cells = [Value.int .i64 x.client, .int .i64 x.num] ++ (opL x ++ []) := by rw [List.append_nil]; rfl
  rw [e]
  exact part_agg (n := 40) hu (by kernel_rfl) rfl (opL_len x)
set_option maxRecDepth 100000 in
theorem op_chg (x : ReqX) (w : World) : (part 52 (opL x).toArray 4).run Tryz.prog w = .ok (.agg (chgL x.ck x.cid x.cn x.root x.high).toArray) w := by
  have hu : Tryz.prog.underlying 52 = some (.struct (Tryz.prog.fieldsOf 52)) := by kernel_rfl
  have e : opL x = [Value.int .i64 x.kind, .string x.key, .string x.val, .string x.old] ++ (chgL x.ck x.cid x.cn x.root x.high ++ []) := by rw [List.append_nil]; rfl
  rw [e]
  exact part_agg (n := 36) hu (by kernel_rfl) rfl (chg_len x.len _ _ _ _)
set_option maxRecDepth 100000 in
theorem chg_ky (k i n h : Int) {r : List UInt8} (hr : r.length = 32) (w : World) : (part 50 (chgL k i n r h).toArray 3).run Tryz.prog w = .ok (.agg (keyV r h)) w := by
  have hu : Tryz.prog.underlying 50 = some (.struct (Tryz.prog.fieldsOf 50)) := by kernel_rfl
  have e : chgL k i n r h = [Value.int .i64 k, .int .i64 i, .int .i64 n] ++ (keyL r h ++ []) := by rw [List.append_nil]; rfl
  rw [e]
  exact part_agg (n := 33) hu (by kernel_rfl) rfl (keyL_len hr h)
set_option maxRecDepth 100000 in
theorem eq_chg (d : Nat) (x y : ReqX) (w : World) : (Op.equalIn (d + 4) 52 (.agg (chgL x.ck x.cid x.cn x.root x.high).toArray) (.agg (chgL y.ck y.cid y.cn y.root y.high).toArray)).run Tryz.prog w =
    .ok (decide (x.ck = y.ck) && (decide (x.cid = y.cid) && (decide (x.cn = y.cn) && ((decide (x.root = y.root) && decide (x.high = y.high)) && true)))) w := by
  have hu : Tryz.prog.underlying 52 = some (.struct (Tryz.prog.fieldsOf 52)) := by kernel_rfl
  have hst : Tryz.prog.stoodInHeld 52 = false := by kernel_rfl
  have hfs : (Tryz.prog.fieldsOf 52).toList.map (fun f => (decide (f.name ≠ "_"), f.type, f.offset)) = [(true, 3, 0), (true, 3, 1), (true, 3, 2), (true, 50, 3)] := by kernel_rfl
  rw [run_equalIn_struct w (d + 3) 52 _ _ hu hst]
  generalize (Tryz.prog.fieldsOf 52).toList = fs at hfs
  obtain ⟨f0, fs, rfl⟩ : ∃ f0 r, fs = f0 :: r := by cases fs <;> simp at hfs ⊢
  obtain ⟨f1, fs, rfl⟩ : ∃ f1 r, fs = f1 :: r := by cases fs <;> simp at hfs ⊢
  obtain ⟨f2, fs, rfl⟩ : ∃ f2 r, fs = f2 :: r := by cases fs <;> simp at hfs ⊢
  obtain ⟨f3, fs, rfl⟩ : ∃ f3 r, fs = f3 :: r := by cases fs <;> simp at hfs ⊢
  obtain rfl : fs = [] := by cases fs <;> simp at hfs ⊢
  simp only [List.map_cons, List.map_nil, List.cons.injEq, Prod.mk.injEq, and_true] at hfs
  obtain ⟨n0, n1, n2, n3⟩ := hfs
  exact eqF_cons n0 (run_part_plain (P := Tryz.prog) w (by kernel_rfl) rfl) (run_part_plain (P := Tryz.prog) w (by kernel_rfl) rfl) (run_eq_int (d + 2) _ _ w)
    (eqF_cons n1 (run_part_plain (P := Tryz.prog) w (by kernel_rfl) rfl) (run_part_plain (P := Tryz.prog) w (by kernel_rfl) rfl) (run_eq_int (d + 2) _ _ w)
    (eqF_cons n2 (run_part_plain (P := Tryz.prog) w (by kernel_rfl) rfl) (run_part_plain (P := Tryz.prog) w (by kernel_rfl) rfl) (run_eq_int (d + 2) _ _ w)
    (eqF_cons n3 (chg_ky _ _ _ _ x.len w) (chg_ky _ _ _ _ y.len w) (eq_key_at d _ _ _ _ x.len y.len w) eqF_nil)))
set_option maxRecDepth 100000 in
theorem eq_op (d : Nat) (x y : ReqX) (w : World) : (Op.equalIn (d + 5) 54 (.agg (opL x).toArray) (.agg (opL y).toArray)).run Tryz.prog w =
    .ok (decide (x.kind = y.kind) && (decide (x.key = y.key) && (decide (x.val = y.val) && (decide (x.old = y.old) && ((decide (x.ck = y.ck) && (decide (x.cid = y.cid) && (decide (x.cn = y.cn) && ((decide (x.root = y.root) && decide (x.high = y.high)) && true)))) && true))))) w := by
  have hu : Tryz.prog.underlying 54 = some (.struct (Tryz.prog.fieldsOf 54)) := by kernel_rfl
  have hst : Tryz.prog.stoodInHeld 54 = false := by kernel_rfl
  have hfs : (Tryz.prog.fieldsOf 54).toList.map (fun f => (decide (f.name ≠ "_"), f.type, f.offset)) = [(true, 3, 0), (true, 9, 1), (true, 9, 2), (true, 9, 3), (true, 52, 4)] := by kernel_rfl
  rw [run_equalIn_struct w (d + 4) 54 _ _ hu hst]
  generalize (Tryz.prog.fieldsOf 54).toList = fs at hfs
  obtain ⟨f0, fs, rfl⟩ : ∃ f0 r, fs = f0 :: r := by cases fs <;> simp at hfs ⊢
  obtain ⟨f1, fs, rfl⟩ : ∃ f1 r, fs = f1 :: r := by cases fs <;> simp at hfs ⊢
  obtain ⟨f2, fs, rfl⟩ : ∃ f2 r, fs = f2 :: r := by cases fs <;> simp at hfs ⊢
  obtain ⟨f3, fs, rfl⟩ : ∃ f3 r, fs = f3 :: r := by cases fs <;> simp at hfs ⊢
  obtain ⟨f4, fs, rfl⟩ : ∃ f4 r, fs = f4 :: r := by cases fs <;> simp at hfs ⊢
  obtain rfl : fs = [] := by cases fs <;> simp at hfs ⊢
  simp only [List.map_cons, List.map_nil, List.cons.injEq, Prod.mk.injEq, and_true] at hfs
  obtain ⟨n0, n1, n2, n3, n4⟩ := hfs
  exact eqF_cons n0 (run_part_plain (P := Tryz.prog) w (by kernel_rfl) rfl) (run_part_plain (P := Tryz.prog) w (by kernel_rfl) rfl) (run_eq_int (d + 3) _ _ w)
    (eqF_cons n1 (run_part_plain (P := Tryz.prog) w (by kernel_rfl) rfl) (run_part_plain (P := Tryz.prog) w (by kernel_rfl) rfl) (run_eq_str (d + 3) _ _ w)
    (eqF_cons n2 (run_part_plain (P := Tryz.prog) w (by kernel_rfl) rfl) (run_part_plain (P := Tryz.prog) w (by kernel_rfl) rfl) (run_eq_str (d + 3) _ _ w)
    (eqF_cons n3 (run_part_plain (P := Tryz.prog) w (by kernel_rfl) rfl) (run_part_plain (P := Tryz.prog) w (by kernel_rfl) rfl) (run_eq_str (d + 3) _ _ w)
    (eqF_cons n4 (op_chg x w) (op_chg y w) (eq_chg d x y w) eqF_nil))))
set_option maxRecDepth 100000 in
theorem eq_req (x y : ReqX) (w : World) : (eqReq (.agg x.cells.toArray) (.agg y.cells.toArray)).run Tryz.prog w = .ok (decide (x = y)) w := by
  have hu : Tryz.prog.underlying 56 = some (.struct (Tryz.prog.fieldsOf 56)) := by kernel_rfl
  have hst : Tryz.prog.stoodInHeld 56 = false := by kernel_rfl
  have hfs : (Tryz.prog.fieldsOf 56).toList.map (fun f => (decide (f.name ≠ "_"), f.type, f.offset)) = [(true, 3, 0), (true, 3, 1), (true, 54, 2)] := by kernel_rfl
  show (Op.equalIn (9999 + 1) 56 (.agg x.cells.toArray) (.agg y.cells.toArray)).run _ w = _
  rw [run_equalIn_struct w 9999 56 _ _ hu hst]
  generalize (Tryz.prog.fieldsOf 56).toList = fs at hfs
  obtain ⟨f0, fs, rfl⟩ : ∃ f0 r, fs = f0 :: r := by cases fs <;> simp at hfs ⊢
  obtain ⟨f1, fs, rfl⟩ : ∃ f1 r, fs = f1 :: r := by cases fs <;> simp at hfs ⊢
  obtain ⟨f2, fs, rfl⟩ : ∃ f2 r, fs = f2 :: r := by cases fs <;> simp at hfs ⊢
  obtain rfl : fs = [] := by cases fs <;> simp at hfs ⊢
  simp only [List.map_cons, List.map_nil, List.cons.injEq, Prod.mk.injEq, and_true] at hfs
  obtain ⟨n0, n1, n2⟩ := hfs
  have h := eqF_cons n0 (run_part_plain (P := Tryz.prog) w (by kernel_rfl) rfl) (run_part_plain (P := Tryz.prog) w (by kernel_rfl) rfl) (run_eq_int 9998 x.client y.client w)
    (eqF_cons n1 (run_part_plain (P := Tryz.prog) w (by kernel_rfl) rfl) (run_part_plain (P := Tryz.prog) w (by kernel_rfl) rfl) (run_eq_int 9998 x.num y.num w)
    (eqF_cons n2 (req_op x w) (req_op y w) (eq_op 9994 x y w) eqF_nil))
  refine h.trans ?_
  congr 1
  rw [Bool.eq_iff_iff]
  simp only [Bool.and_eq_true, decide_eq_true_iff, and_true, ReqX.eq_iff]

end Go.Proofs.YtbgbidgggjkmmaaGreatDoor
