/-
  A request's bytes, by the document: wapentakeref09.Bytes. Written by gen_cerreq.py.
  A block's bytes and digest, by the document: wapentakeref12.Bytes, wapentakeref12.Digest.
-/
import Derived.Test.YtbclepdcngaonaaGreatDoorRA
import Derived.Test.YtbclepdcngaonaaGreatDoorRB
import Derived.Test.YtbclepdcngaonaaGreatDoorTG
import Derived.Test.YtbclepdcngaonaaGreatDoorEJ
import Derived.Deep.RegionHeld3
import Derived.Test.YtbclepdcngaonaaGreatDoorBB
import Derived.Test.YtbclepdcngaonaaGreatDoorEA
import Derived.Lib.QuietBelow
import Derived.BigQuiet
namespace Go.Proofs.YtbclepdcngaonaaGreatDoor
open Go.RowKit

noncomputable def ldOp14 (v : Value) : Sem Value := Instr.loadAt 98 v
set_option maxRecDepth 100000 in
theorem ldOp14_def (v : Value) : Instr.loadAt 98 v = ldOp14 v := rfl
noncomputable def stOp14 (p v : Value) : Sem Unit := Instr.storeAt 98 p v
set_option maxRecDepth 100000 in
theorem stOp14_def (p v : Value) : Instr.storeAt 98 p v = stOp14 p v := rfl
noncomputable def alOp14 (b : Bool) (v : Value) : Sem Value := Instr.alloc 98 b v
set_option maxRecDepth 100000 in
theorem alOp14_def (b : Bool) (v : Value) : Instr.alloc 98 b v = alOp14 b v := rfl
def zopV14 : Array Value := #[.int .i64 0, .string ⟨#[]⟩, .string ⟨#[]⟩, .string ⟨#[]⟩, .int .i64 0, .int .i64 0, .int .i64 0, .int .u8 0, .int .u8 0, .int .u8 0, .int .u8 0, .int .u8 0, .int .u8 0, .int .u8 0, .int .u8 0, .int .u8 0, .int .u8 0, .int .u8 0, .int .u8 0, .int .u8 0, .int .u8 0, .int .u8 0, .int .u8 0, .int .u8 0, .int .u8 0, .int .u8 0, .int .u8 0, .int .u8 0, .int .u8 0, .int .u8 0, .int .u8 0, .int .u8 0, .int .u8 0, .int .u8 0, .int .u8 0, .int .u8 0, .int .u8 0, .int .u8 0, .int .u8 0, .int .i64 0]
set_option maxRecDepth 100000 in
theorem zero_op14 (w : World) : (zeroValue 98).run Tryz.prog w = .ok (.agg zopV14) w := by kernel_rfl
set_option maxRecDepth 100000 in
theorem al_op14 (w : World) : (alOp14 true (.tuple #[])).run Tryz.prog w = .ok (.pointer (some ⟨w.heap.size, 0, none⟩)) (w.alloc (.cells zopV14 98)) := by
  have h := zero_op14 w
  unfold alOp14 Instr.alloc
  simp [Sem.run_bind, h, newVar, newRow, Value.cells]
set_option maxRecDepth 100000 in
theorem op_list14 (x : ReqX) : (Tryz.prog.info? 98).map (·.size) = some (opL x).length := by
  rw [opL_len]
  kernel_rfl
set_option maxRecDepth 100000 in
theorem op_one14 (x : ReqX) : ∀ v ∈ opL x, v.oneCell' = true := fun v hv => x.cells_one v (List.mem_cons_of_mem _ (List.mem_cons_of_mem _ hv))
set_option maxRecDepth 100000 in
theorem Box.ld_op14 {w : World} {g : Nat} {t : TypeId} {x : ReqX} (h : Box w g t x.cells.toArray) : (ldOp14 (.pointer (some ⟨g, 2, none⟩))).run Tryz.prog w = .ok (.agg (opL x).toArray) w := by
  have h' : Box w g t ([Value.int .i64 x.client, Value.int .i64 x.num] ++ (opL x ++ [])).toArray := by
    rw [List.append_nil]
    exact h
  exact run_loadAt_mid (P := Tryz.prog) w g 2 98 (opL x) _ (Box.range_mid h' rfl) Tryz.underlying98 rfl (op_list14 x)
set_option maxRecDepth 100000 in
theorem laid_op14 (w : World) (x : ReqX) : ∃ w', (stOp14 (.pointer (some ⟨w.heap.size, 0, none⟩)) (.agg (opL x).toArray)).run Tryz.prog (w.alloc (.cells zopV14 98)) = .ok () w' ∧ Box w' w.heap.size 98 (opL x).toArray ∧ Below w.heap.size w w' := by
  have hb := Box.made w 98 zopV14
  refine ⟨_, ?_, hb.cells_all (opL x).toArray (by rw [List.size_toArray, opL_len]; rfl), ((Below.refl _ _).alloc (Nat.le_refl _) _).trans (below_only (only_cells (g := w.heap.size) (opL x) 0 _) (Nat.le_refl _) (by simp))⟩
  exact run_storeAt_mid (P := Tryz.prog) _ w.heap.size 0 98 (opL x).toArray (fun j hj => by
    rw [List.size_toArray, opL_len] at hj
    rw [hb.cell, hb.free, Array.getElem?_eq_getElem (by show 0 + j < 40; omega)]
    exact ⟨rfl, rfl⟩) (by rw [List.size_toArray]; exact op_list14 x) (by have := all_oneCell_toArray (op_one14 x); simpa using this)
section
variable {w : World} {g : Nat} {t : TypeId} {x : ReqX}
set_option maxRecDepth 100000 in
theorem Box.op_root14 (h : Box w g t (opL x).toArray) : w.rangeAt g 7 (x.root.map bv) := Box.range_mid (pre := [.int .i64 x.kind, .string x.key, .string x.val, .string x.old, .int .i64 x.ck, .int .i64 x.cid, .int .i64 x.cn]) (post := [.int .i64 x.high]) (by
  have e : opL x = [.int .i64 x.kind, .string x.key, .string x.val, .string x.old, .int .i64 x.ck, .int .i64 x.cid, .int .i64 x.cn] ++ (x.root.map bv ++ [.int .i64 x.high]) := by
    unfold opL chgL keyL
    simp
  rw [← e]
  exact h) rfl
set_option maxRecDepth 100000 in
theorem Box.op_high14 (h : Box w g t (opL x).toArray) : w.cell? ⟨g, 39, none⟩ = some (.int .i64 x.high) := by
  have e : opL x = ([.int .i64 x.kind, .string x.key, .string x.val, .string x.old, .int .i64 x.ck, .int .i64 x.cid, .int .i64 x.cn] ++ x.root.map bv) ++ [.int .i64 x.high] := by
    unfold opL chgL keyL
    simp
  rw [e] at h
  rw [h.cell, List.getElem?_toArray, List.getElem?_append_right (by simp [x.len])]
  simp [x.len]
end
set_option maxRecDepth 100000 in
theorem nums_made14 (ns : List Int) (hI : ∀ n ∈ ns, R64 n) (hn : ns.length ≤ 4096) (W : World) :
    Calls Tryz.prog 104 #[.slice (some ⟨W.heap.size, 0, none⟩) ns.length ns.length] (W.alloc (.cells (ns.map (Value.int .i64)).toArray 3)) fun e w' => e = .returned (str (ns.flatMap numBytes)) ∧ Below W.heap.size W w' := by
  have hb : Box (W.alloc (.cells (ns.map (Value.int .i64)).toArray 3)) W.heap.size 3 (ns.map (Value.int .i64)).toArray := Box.made _ _ _
  have hf : Below W.heap.size W (W.alloc (.cells (ns.map (Value.int .i64)).toArray 3)) := (Below.refl _ _).alloc (Nat.le_refl _) _
  exact (nums_any ns (some ⟨W.heap.size, 0, none⟩) ns.length _ hI hn (Sees.of_box hb hb.lt)).mono fun e w' ⟨he, hb⟩ => ⟨he, hf.trans (hb.mono hf.size)⟩

attribute [local go_sem ↓] ldOp14_def stOp14_def alOp14_def ldDigest_def
set_option maxRecDepth 100000 in
set_option maxHeartbeats 8000000 in
theorem rreqbytes_any (x : ReqX) (hn : R64 x.client ∧ R64 x.num ∧ R64 x.kind ∧ R64 x.ck ∧ R64 x.cid ∧ R64 x.cn ∧ R64 x.high) (hq : x.key.size ≤ 16777216 ∧ x.val.size ≤ 16777216 ∧ x.old.size ≤ 16777216) (w : World) :
    Calls Tryz.prog 69 #[.agg x.cells.toArray] w fun e w' => e = .returned (str (reqB x)) ∧ Below w.heap.size w w' := by
  obtain ⟨w1, hw1⟩ : ∃ w1, w1 = w.alloc (.cells x.cells.toArray 100) := ⟨_, rfl⟩
  have HX : Hid (Box w1 w.heap.size 100 x.cells.toArray) := by rw [hw1]; exact Box.made w _ _
  have HF : Hid (Below w.heap.size w w1) := by rw [hw1]; exact (Below.refl _ _).alloc (Nat.le_refl _) _
  have lo := HX.out.ld_op14
  have hal := al_op14
  obtain ⟨w2, hst, hb2, hbl2⟩ := laid_op14 w1 x
  have HB2 := Lib.hid hbl2
  have HO2 := Lib.hid hb2
  have HXC : Hid (∀ w', Below w2.heap.size w2 w' → w'.cell? ⟨w.heap.size, 0, none⟩ = some (.int .i64 x.client) ∧ w'.cell? ⟨w.heap.size, 1, none⟩ = some (.int .i64 x.num)) := Lib.hid (fun w' hb => by
    have h := (HX.out.below HB2.out HX.out.lt).below hb (Nat.lt_of_lt_of_le HX.out.lt HB2.out.size)
    exact ⟨h.cell 0, h.cell 1⟩)
  have HOC : Hid (∀ w', Below w2.heap.size w2 w' → w'.cell? ⟨w1.heap.size, 0, none⟩ = some (.int .i64 x.kind) ∧ w'.cell? ⟨w1.heap.size, 1, none⟩ = some (.string x.key) ∧ w'.cell? ⟨w1.heap.size, 2, none⟩ = some (.string x.val) ∧ w'.cell? ⟨w1.heap.size, 3, none⟩ = some (.string x.old) ∧ w'.cell? ⟨w1.heap.size, 4, none⟩ = some (.int .i64 x.ck) ∧ w'.cell? ⟨w1.heap.size, 5, none⟩ = some (.int .i64 x.cid) ∧ w'.cell? ⟨w1.heap.size, 6, none⟩ = some (.int .i64 x.cn) ∧ w'.cell? ⟨w1.heap.size, 39, none⟩ = some (.int .i64 x.high) ∧
      (ldDigest (.pointer (some ⟨w1.heap.size, 7, none⟩))).run Tryz.prog w' = .ok (.agg (x.root.map bv).toArray) w') := Lib.hid (fun w' hb => by
    have h := HO2.out.below hb HO2.out.lt
    exact ⟨h.cell 0, h.cell 1, h.cell 2, h.cell 3, h.cell 4, h.cell 5, h.cell 6, h.op_high14, range_load h.op_root14 x.len⟩)
  have HN1 : Hid (∀ W, Calls Tryz.prog 104 #[.slice (some ⟨W.heap.size, 0, none⟩) 3 3] (W.alloc (.cells #[.int .i64 x.client, .int .i64 x.num, .int .i64 x.kind] 3)) fun e w' => e = .returned (str ([x.client, x.num, x.kind].flatMap numBytes)) ∧ Below W.heap.size W w') := Lib.hid (fun W => nums_made14 [x.client, x.num, x.kind] (fun n h => by
    simp only [List.mem_cons, List.not_mem_nil, or_false] at h
    rcases h with rfl | rfl | rfl
    · exact hn.1
    · exact hn.2.1
    · exact hn.2.2.1) (by simp) W)
  have HN2 : Hid (∀ W, Calls Tryz.prog 104 #[.slice (some ⟨W.heap.size, 0, none⟩) 4 4] (W.alloc (.cells #[.int .i64 x.ck, .int .i64 x.cid, .int .i64 x.cn, .int .i64 x.high] 3)) fun e w' => e = .returned (str ([x.ck, x.cid, x.cn, x.high].flatMap numBytes)) ∧ Below W.heap.size W w') := Lib.hid (fun W => nums_made14 [x.ck, x.cid, x.cn, x.high] (fun n h => by
    simp only [List.mem_cons, List.not_mem_nil, or_false] at h
    rcases h with rfl | rfl | rfl | rfl
    · exact hn.2.2.2.1
    · exact hn.2.2.2.2.1
    · exact hn.2.2.2.2.2.1
    · exact hn.2.2.2.2.2.2) (by simp) W)
  have HT1 : Hid (∀ W, Calls Tryz.prog 105 #[.string x.key] W fun e w' => e = .returned (str (textBytes x.key)) ∧ Below W.heap.size W w') := Lib.hid (fun W => reftext_any9 x.key (by have := hq.1; omega) W)
  have HT2 : Hid (∀ W, Calls Tryz.prog 105 #[.string x.val] W fun e w' => e = .returned (str (textBytes x.val)) ∧ Below W.heap.size W w') := Lib.hid (fun W => reftext_any9 x.val (by have := hq.2.1; omega) W)
  have HT3 : Hid (∀ W, Calls Tryz.prog 105 #[.string x.old] W fun e w' => e = .returned (str (textBytes x.old)) ∧ Below W.heap.size W w') := Lib.hid (fun W => reftext_any9 x.old (by have := hq.2.2; omega) W)
  have HD : Hid (∀ W, Calls Tryz.prog 68 #[.agg (x.root.map bv).toArray] W fun e w' => e = .returned (str x.root) ∧ Below W.heap.size W w') := Lib.hid (fun W => digstr_any x.root x.len W)
  have HE : Hid (str (reqB x) = str ((((([x.client, x.num, x.kind].flatMap numBytes ++ textBytes x.key) ++ textBytes x.val) ++ textBytes x.old) ++ [x.ck, x.cid, x.cn, x.high].flatMap numBytes) ++ x.root)) := Lib.hid (by
    unfold reqB
    simp)
  have l0 : ([x.client, x.num, x.kind].flatMap numBytes).length ≤ 24 := by rw [nums_len]; simp
  have l4 : ([x.ck, x.cid, x.cn, x.high].flatMap numBytes).length ≤ 32 := by rw [nums_len]; simp
  have l1 : (textBytes x.key).length ≤ 16777220 := by rw [textBytes_len]; omega
  have l2 : (textBytes x.val).length ≤ 16777220 := by rw [textBytes_len]; omega
  have l3 : (textBytes x.old).length ≤ 16777220 := by rw [textBytes_len]; omega
  have l5 : x.root.length ≤ 32 := by rw [x.len]; exact Nat.le_refl _
  have C1 := Lib.hid (cat14 ([x.client, x.num, x.kind].flatMap numBytes) (textBytes x.key) (k := 100000000) (by omega) (by omega))
  have C2 := Lib.hid (cat14 ([x.client, x.num, x.kind].flatMap numBytes ++ textBytes x.key) (textBytes x.val) (k := 100000000) (by rw [List.length_append]; omega) (by omega))
  have C3 := Lib.hid (cat14 (([x.client, x.num, x.kind].flatMap numBytes ++ textBytes x.key) ++ textBytes x.val) (textBytes x.old) (k := 100000000) (by rw [List.length_append, List.length_append]; omega) (by omega))
  have C4 := Lib.hid (cat14 ((([x.client, x.num, x.kind].flatMap numBytes ++ textBytes x.key) ++ textBytes x.val) ++ textBytes x.old) ([x.ck, x.cid, x.cn, x.high].flatMap numBytes) (k := 100000000) (by rw [List.length_append, List.length_append, List.length_append]; omega) (by omega))
  have C5 := Lib.hid (cat14 (((([x.client, x.num, x.kind].flatMap numBytes ++ textBytes x.key) ++ textBytes x.val) ++ textBytes x.old) ++ [x.ck, x.cid, x.cn, x.high].flatMap numBytes) x.root (k := 100000000) (by rw [List.length_append, List.length_append, List.length_append, List.length_append]; omega) (by omega))
  have HZ : Hid (∀ x, Below w2.heap.size w2 x → Below w.heap.size w x) := Lib.hid (fun x hb => HF.out.trans ((HB2.out.trans (hb.mono HB2.out.size)).mono HF.out.size))
  clear hb2 hbl2 hn hq l0 l1 l2 l3 l4 l5
  generalize str (reqB x) = RES at *
  generalize ((((([x.client, x.num, x.kind].flatMap numBytes ++ textBytes x.key) ++ textBytes x.val) ++ textBytes x.old) ++ [x.ck, x.cid, x.cn, x.high].flatMap numBytes) ++ x.root) = q5 at *
  generalize (((([x.client, x.num, x.kind].flatMap numBytes ++ textBytes x.key) ++ textBytes x.val) ++ textBytes x.old) ++ [x.ck, x.cid, x.cn, x.high].flatMap numBytes) = q4 at *
  generalize ((([x.client, x.num, x.kind].flatMap numBytes ++ textBytes x.key) ++ textBytes x.val) ++ textBytes x.old) = q3 at *
  generalize (([x.client, x.num, x.kind].flatMap numBytes ++ textBytes x.key) ++ textBytes x.val) = q2 at *
  generalize ([x.client, x.num, x.kind].flatMap numBytes ++ textBytes x.key) = q1 at *
  generalize [x.client, x.num, x.kind].flatMap numBytes = q0 at *
  generalize [x.ck, x.cid, x.cn, x.high].flatMap numBytes = p4 at *
  generalize textBytes x.key = p1 at *
  generalize textBytes x.val = p2 at *
  generalize textBytes x.old = p3 at *
  generalize x.root = p5 at *
  generalize hxc : x.cells.toArray = XC at hw1 ⊢
  generalize hox : (opL x).toArray = OX at lo hst
  go_enter Tryz.func69, Tryz.ntmps69
  go_upto_region 1 with fail
  change Code.wp _ _ _ _ (w.alloc (.cells XC 100))
  rw [← hw1]
  clear hw1
  go_upto_region 2 with fail
  clear lo hst hal hxc hox
  generalize w1.heap.size = gq at *
  obtain ⟨wd, hwd⟩ : ∃ wd, wd = w2.drew := ⟨_, rfl⟩
  have hbd : Below w2.heap.size w2 wd := by rw [hwd]; exact (Below.refl _ _).drew
  refine wp_region_held_drew (S := fun w' => Below w2.heap.size w2 w') (by kernel_rfl) (by rw [← hwd]; exact hbd) (fun hS => ?_)
  rw [← hwd] at hS ⊢
  clear hwd hbd
  (refine wpAnyH_take (i := 0) (v := .pointer (some ⟨w.heap.size, 0, none⟩)) rfl (by kernel_rfl) (by kernel_rfl) (by kernel_rfl) (fun _ _ _ h => h) (Or.inl ⟨by kernel_rfl, fun w hSw => by go_simp⟩) hS ?_)
  (try simp only [Act.put])
  (refine wpAnyH_take (i := 1) (v := .int .i64 x.client) rfl (by kernel_rfl) (by kernel_rfl) (by kernel_rfl) (fun _ _ _ h => h) (Or.inl ⟨by kernel_rfl, fun w hSw => by have hc := (HXC.out w hSw).1; go_simp⟩) hS ?_)
  (try simp only [Act.put])
  (refine wpAnyH_take (i := 2) (v := .pointer (some ⟨w.heap.size, 1, none⟩)) rfl (by kernel_rfl) (by kernel_rfl) (by kernel_rfl) (fun _ _ _ h => h) (Or.inl ⟨by kernel_rfl, fun w hSw => by go_simp⟩) hS ?_)
  (try simp only [Act.put])
  (refine wpAnyH_take (i := 3) (v := .int .i64 x.num) rfl (by kernel_rfl) (by kernel_rfl) (by kernel_rfl) (fun _ _ _ h => h) (Or.inl ⟨by kernel_rfl, fun w hSw => by have hc := (HXC.out w hSw).2; go_simp⟩) hS ?_)
  (try simp only [Act.put])
  (refine wpAnyH_take (i := 4) (v := .pointer (some ⟨gq, 0, none⟩)) rfl (by kernel_rfl) (by kernel_rfl) (by kernel_rfl) (fun _ _ _ h => h) (Or.inl ⟨by kernel_rfl, fun w hSw => by go_simp⟩) hS ?_)
  (try simp only [Act.put])
  (refine wpAnyH_take (i := 5) (v := .int .i64 x.kind) rfl (by kernel_rfl) (by kernel_rfl) (by kernel_rfl) (fun _ _ _ h => h) (Or.inl ⟨by kernel_rfl, fun w hSw => by have hc := (HOC.out w hSw).1; go_simp⟩) hS ?_)
  (try simp only [Act.put])
  (refine wpAnyH_take (i := 8) (v := .pointer (some ⟨gq, 1, none⟩)) rfl (by kernel_rfl) (by kernel_rfl) (by kernel_rfl) (fun _ _ _ h => h) (Or.inl ⟨by kernel_rfl, fun w hSw => by go_simp⟩) hS ?_)
  (try simp only [Act.put])
  (refine wpAnyH_take (i := 9) (v := .string x.key) rfl (by kernel_rfl) (by kernel_rfl) (by kernel_rfl) (fun _ _ _ h => h) (Or.inl ⟨by kernel_rfl, fun w hSw => by have hc := (HOC.out w hSw).2.1; go_simp⟩) hS ?_)
  (try simp only [Act.put])
  (refine wpAnyH_take (i := 12) (v := .pointer (some ⟨gq, 2, none⟩)) rfl (by kernel_rfl) (by kernel_rfl) (by kernel_rfl) (fun _ _ _ h => h) (Or.inl ⟨by kernel_rfl, fun w hSw => by go_simp⟩) hS ?_)
  (try simp only [Act.put])
  (refine wpAnyH_take (i := 13) (v := .string x.val) rfl (by kernel_rfl) (by kernel_rfl) (by kernel_rfl) (fun _ _ _ h => h) (Or.inl ⟨by kernel_rfl, fun w hSw => by have hc := (HOC.out w hSw).2.2.1; go_simp⟩) hS ?_)
  (try simp only [Act.put])
  (refine wpAnyH_take (i := 16) (v := .pointer (some ⟨gq, 3, none⟩)) rfl (by kernel_rfl) (by kernel_rfl) (by kernel_rfl) (fun _ _ _ h => h) (Or.inl ⟨by kernel_rfl, fun w hSw => by go_simp⟩) hS ?_)
  (try simp only [Act.put])
  (refine wpAnyH_take (i := 17) (v := .string x.old) rfl (by kernel_rfl) (by kernel_rfl) (by kernel_rfl) (fun _ _ _ h => h) (Or.inl ⟨by kernel_rfl, fun w hSw => by have hc := (HOC.out w hSw).2.2.2.1; go_simp⟩) hS ?_)
  (try simp only [Act.put])
  have hS0 := hS
  refine wpAnyH_ready (rs := [6]) (by decide +kernel) (by simp) (AllReadyH.cons rfl (fun K hK => ?_) AllReadyH.nil)
  go_simp
  have hal := hS.alloc hS.size (.cells #[.int .i64 x.client, .int .i64 x.num, .int .i64 x.kind] 3)
  refine hK.out _ _ (hal) (fun hS => ?_)
  clear hK K
  (try simp only [Act.put])
  clear hal
  refine wpAnyH_ready (rs := [7]) (by decide +kernel) (by simp) (AllReadyH.cons rfl (fun K hK => ?_) AllReadyH.nil)
  go_simp
  (go_at_call 104; (with_reducible refine ((HN1.out wd)).mono ?_); rintro e x3 ⟨rfl, hb⟩)
  refine hK.out _ _ (hS0.trans (hb.mono hS0.size)) (fun hS => ?_)
  clear hK K
  (try simp only [Act.put])
  clear hb
  clear hS0
  refine wpAnyH_ready (rs := [10]) (by decide +kernel) (by simp) (AllReadyH.cons rfl (fun K hK => ?_) AllReadyH.nil)
  go_simp
  (go_at_call 105; (with_reducible refine (HT1.out _).mono ?_); rintro e x4 ⟨rfl, hb⟩)
  refine hK.out _ _ (hS.trans (hb.mono hS.size)) (fun hS => ?_)
  clear hK K
  (try simp only [Act.put])
  clear hb
  (refine wpAnyH_take (i := 11) (v := .string ⟨q1.toArray⟩) rfl (by kernel_rfl) (by kernel_rfl) (by kernel_rfl) (fun _ _ _ h => h) (Or.inl ⟨by kernel_rfl, fun w hSw => by have h1 := C1.out.cat; have h2 := C1.out.la; have h3 := C1.out.lb; have h4 := Nat.add_le_add h2 h3; go_simp; (try omega)⟩) hS ?_)
  (try simp only [Act.put])
  refine wpAnyH_ready (rs := [14]) (by decide +kernel) (by simp) (AllReadyH.cons rfl (fun K hK => ?_) AllReadyH.nil)
  go_simp
  (go_at_call 105; (with_reducible refine (HT2.out _).mono ?_); rintro e x5 ⟨rfl, hb⟩)
  refine hK.out _ _ (hS.trans (hb.mono hS.size)) (fun hS => ?_)
  clear hK K
  (try simp only [Act.put])
  clear hb
  (refine wpAnyH_take (i := 15) (v := .string ⟨q2.toArray⟩) rfl (by kernel_rfl) (by kernel_rfl) (by kernel_rfl) (fun _ _ _ h => h) (Or.inl ⟨by kernel_rfl, fun w hSw => by have h1 := C2.out.cat; have h2 := C2.out.la; have h3 := C2.out.lb; have h4 := Nat.add_le_add h2 h3; go_simp; (try omega)⟩) hS ?_)
  (try simp only [Act.put])
  refine wpAnyH_ready (rs := [18]) (by decide +kernel) (by simp) (AllReadyH.cons rfl (fun K hK => ?_) AllReadyH.nil)
  go_simp
  (go_at_call 105; (with_reducible refine (HT3.out _).mono ?_); rintro e x6 ⟨rfl, hb⟩)
  refine hK.out _ _ (hS.trans (hb.mono hS.size)) (fun hS => ?_)
  clear hK K
  (try simp only [Act.put])
  clear hb
  (refine wpAnyH_take (i := 19) (v := .string ⟨q3.toArray⟩) rfl (by kernel_rfl) (by kernel_rfl) (by kernel_rfl) (fun _ _ _ h => h) (Or.inl ⟨by kernel_rfl, fun w hSw => by have h1 := C3.out.cat; have h2 := C3.out.la; have h3 := C3.out.lb; have h4 := Nat.add_le_add h2 h3; go_simp; (try omega)⟩) hS ?_)
  (try simp only [Act.put])
  (refine wpAnyH_take (i := 20) (v := .string ⟨q3.toArray⟩) rfl (by kernel_rfl) (by kernel_rfl) (by kernel_rfl) (fun _ _ _ h => h) (Or.inl ⟨by kernel_rfl, fun w hSw => by go_simp⟩) hS ?_)
  (try simp only [Act.put])
  refine wpAnyH_done (by kernel_rfl) ?_ _
  have HB6 := Lib.hid hS
  clear hS
  go_simp
  go_upto_region 3 with fail
  obtain ⟨we, hwe⟩ : ∃ we, we = x6.drew := ⟨_, rfl⟩
  have hbe : Below w2.heap.size w2 we := by rw [hwe]; exact HB6.out.trans ((Below.refl _ _).drew)
  refine wp_region_held_drew (S := fun w' => Below w2.heap.size w2 w') (by kernel_rfl) (by rw [← hwe]; exact hbe) (fun hS => ?_)
  rw [← hwe] at hS ⊢
  clear hwe hbe
  (refine wpAnyH_take (i := 0) (v := .string ⟨q3.toArray⟩) rfl (by kernel_rfl) (by kernel_rfl) (by kernel_rfl) (fun _ _ _ h => h) (Or.inl ⟨by kernel_rfl, fun w hSw => by go_simp⟩) hS ?_)
  (try simp only [Act.put])
  (refine wpAnyH_take (i := 1) (v := .pointer (some ⟨gq, 4, none⟩)) rfl (by kernel_rfl) (by kernel_rfl) (by kernel_rfl) (fun _ _ _ h => h) (Or.inl ⟨by kernel_rfl, fun w hSw => by go_simp⟩) hS ?_)
  (try simp only [Act.put])
  (refine wpAnyH_take (i := 2) (v := .pointer (some ⟨gq, 4, none⟩)) rfl (by kernel_rfl) (by kernel_rfl) (by kernel_rfl) (fun _ _ _ h => h) (Or.inl ⟨by kernel_rfl, fun w hSw => by go_simp⟩) hS ?_)
  (try simp only [Act.put])
  (refine wpAnyH_take (i := 3) (v := .int .i64 x.ck) rfl (by kernel_rfl) (by kernel_rfl) (by kernel_rfl) (fun _ _ _ h => h) (Or.inl ⟨by kernel_rfl, fun w hSw => by have hc := (HOC.out w hSw).2.2.2.2.1; go_simp⟩) hS ?_)
  (try simp only [Act.put])
  (refine wpAnyH_take (i := 4) (v := .pointer (some ⟨gq, 4, none⟩)) rfl (by kernel_rfl) (by kernel_rfl) (by kernel_rfl) (fun _ _ _ h => h) (Or.inl ⟨by kernel_rfl, fun w hSw => by go_simp⟩) hS ?_)
  (try simp only [Act.put])
  (refine wpAnyH_take (i := 5) (v := .pointer (some ⟨gq, 5, none⟩)) rfl (by kernel_rfl) (by kernel_rfl) (by kernel_rfl) (fun _ _ _ h => h) (Or.inl ⟨by kernel_rfl, fun w hSw => by go_simp⟩) hS ?_)
  (try simp only [Act.put])
  (refine wpAnyH_take (i := 6) (v := .int .i64 x.cid) rfl (by kernel_rfl) (by kernel_rfl) (by kernel_rfl) (fun _ _ _ h => h) (Or.inl ⟨by kernel_rfl, fun w hSw => by have hc := (HOC.out w hSw).2.2.2.2.2.1; go_simp⟩) hS ?_)
  (try simp only [Act.put])
  (refine wpAnyH_take (i := 7) (v := .pointer (some ⟨gq, 4, none⟩)) rfl (by kernel_rfl) (by kernel_rfl) (by kernel_rfl) (fun _ _ _ h => h) (Or.inl ⟨by kernel_rfl, fun w hSw => by go_simp⟩) hS ?_)
  (try simp only [Act.put])
  (refine wpAnyH_take (i := 8) (v := .pointer (some ⟨gq, 6, none⟩)) rfl (by kernel_rfl) (by kernel_rfl) (by kernel_rfl) (fun _ _ _ h => h) (Or.inl ⟨by kernel_rfl, fun w hSw => by go_simp⟩) hS ?_)
  (try simp only [Act.put])
  (refine wpAnyH_take (i := 9) (v := .int .i64 x.cn) rfl (by kernel_rfl) (by kernel_rfl) (by kernel_rfl) (fun _ _ _ h => h) (Or.inl ⟨by kernel_rfl, fun w hSw => by have hc := (HOC.out w hSw).2.2.2.2.2.2.1; go_simp⟩) hS ?_)
  (try simp only [Act.put])
  (refine wpAnyH_take (i := 10) (v := .pointer (some ⟨gq, 4, none⟩)) rfl (by kernel_rfl) (by kernel_rfl) (by kernel_rfl) (fun _ _ _ h => h) (Or.inl ⟨by kernel_rfl, fun w hSw => by go_simp⟩) hS ?_)
  (try simp only [Act.put])
  (refine wpAnyH_take (i := 11) (v := .pointer (some ⟨gq, 7, none⟩)) rfl (by kernel_rfl) (by kernel_rfl) (by kernel_rfl) (fun _ _ _ h => h) (Or.inl ⟨by kernel_rfl, fun w hSw => by go_simp⟩) hS ?_)
  (try simp only [Act.put])
  (refine wpAnyH_take (i := 12) (v := .pointer (some ⟨gq, 39, none⟩)) rfl (by kernel_rfl) (by kernel_rfl) (by kernel_rfl) (fun _ _ _ h => h) (Or.inl ⟨by kernel_rfl, fun w hSw => by go_simp⟩) hS ?_)
  (try simp only [Act.put])
  (refine wpAnyH_take (i := 13) (v := .int .i64 x.high) rfl (by kernel_rfl) (by kernel_rfl) (by kernel_rfl) (fun _ _ _ h => h) (Or.inl ⟨by kernel_rfl, fun w hSw => by have hc := (HOC.out w hSw).2.2.2.2.2.2.2.1; go_simp⟩) hS ?_)
  (try simp only [Act.put])
  (refine wpAnyH_take (i := 17) (v := .pointer (some ⟨gq, 4, none⟩)) rfl (by kernel_rfl) (by kernel_rfl) (by kernel_rfl) (fun _ _ _ h => h) (Or.inl ⟨by kernel_rfl, fun w hSw => by go_simp⟩) hS ?_)
  (try simp only [Act.put])
  (refine wpAnyH_take (i := 18) (v := .pointer (some ⟨gq, 7, none⟩)) rfl (by kernel_rfl) (by kernel_rfl) (by kernel_rfl) (fun _ _ _ h => h) (Or.inl ⟨by kernel_rfl, fun w hSw => by go_simp⟩) hS ?_)
  (try simp only [Act.put])
  (refine wpAnyH_take (i := 19) (v := .pointer (some ⟨gq, 7, none⟩)) rfl (by kernel_rfl) (by kernel_rfl) (by kernel_rfl) (fun _ _ _ h => h) (Or.inl ⟨by kernel_rfl, fun w hSw => by go_simp⟩) hS ?_)
  (try simp only [Act.put])
  (refine wpAnyH_take (i := 20) (v := .agg (p5.map bv).toArray) rfl (by kernel_rfl) (by kernel_rfl) (by kernel_rfl) (fun _ _ _ h => h) (Or.inl ⟨by kernel_rfl, fun w hSw => by have hc := (HOC.out w hSw).2.2.2.2.2.2.2.2; go_simp⟩) hS ?_)
  (try simp only [Act.put])
  have hS0 := hS
  refine wpAnyH_ready (rs := [14]) (by decide +kernel) (by simp) (AllReadyH.cons rfl (fun K hK => ?_) AllReadyH.nil)
  go_simp
  have hal := hS.alloc hS.size (.cells #[.int .i64 x.ck, .int .i64 x.cid, .int .i64 x.cn, .int .i64 x.high] 3)
  refine hK.out _ _ (hal) (fun hS => ?_)
  clear hK K
  (try simp only [Act.put])
  clear hal
  refine wpAnyH_ready (rs := [15]) (by decide +kernel) (by simp) (AllReadyH.cons rfl (fun K hK => ?_) AllReadyH.nil)
  go_simp
  (go_at_call 104; (with_reducible refine ((HN2.out we)).mono ?_); rintro e x7 ⟨rfl, hb⟩)
  refine hK.out _ _ (hS0.trans (hb.mono hS0.size)) (fun hS => ?_)
  clear hK K
  (try simp only [Act.put])
  clear hb
  clear hS0
  (refine wpAnyH_take (i := 16) (v := .string ⟨q4.toArray⟩) rfl (by kernel_rfl) (by kernel_rfl) (by kernel_rfl) (fun _ _ _ h => h) (Or.inl ⟨by kernel_rfl, fun w hSw => by have h1 := C4.out.cat; have h2 := C4.out.la; have h3 := C4.out.lb; have h4 := Nat.add_le_add h2 h3; go_simp; (try omega)⟩) hS ?_)
  (try simp only [Act.put])
  refine wpAnyH_ready (rs := [21]) (by decide +kernel) (by simp) (AllReadyH.cons rfl (fun K hK => ?_) AllReadyH.nil)
  go_simp
  (go_at_call 68; (with_reducible refine (HD.out _).mono ?_); rintro e x8 ⟨rfl, hb⟩)
  refine hK.out _ _ (hS.trans (hb.mono hS.size)) (fun hS => ?_)
  clear hK K
  (try simp only [Act.put])
  clear hb
  (refine wpAnyH_take (i := 22) (v := .string ⟨q5.toArray⟩) rfl (by kernel_rfl) (by kernel_rfl) (by kernel_rfl) (fun _ _ _ h => h) (Or.inl ⟨by kernel_rfl, fun w hSw => by have h1 := C5.out.cat; have h2 := C5.out.la; have h3 := C5.out.lb; have h4 := Nat.add_le_add h2 h3; go_simp; (try omega)⟩) hS ?_)
  (try simp only [Act.put])
  (refine wpAnyH_take (i := 23) (v := .string ⟨q5.toArray⟩) rfl (by kernel_rfl) (by kernel_rfl) (by kernel_rfl) (fun _ _ _ h => h) (Or.inl ⟨by kernel_rfl, fun w hSw => by go_simp⟩) hS ?_)
  (try simp only [Act.put])
  refine wpAnyH_done (by kernel_rfl) ?_ _
  have HB8 := Lib.hid hS
  clear hS
  go_simp
  go_wp2
  go_ret
  exact ⟨ret_val HE.out.symm, HZ.out _ HB8.out⟩
end Go.Proofs.YtbclepdcngaonaaGreatDoor

namespace Go.Proofs.YtbclepdcngaonaaGreatDoor
open Go.RowKit Go.Maps Go.Sort

set_option maxRecDepth 100000 in
theorem reqs_take14 {xs : List ReqX} {j : Nat} (h : j < xs.length) : (xs.take (j + 1)).flatMap reqB = (xs.take j).flatMap reqB ++ reqB (xs[j]'h) := reqs_take12 h

attribute [local go_sem ↓] ldReq_def stReq_def ldDigest_def
set_option maxRecDepth 100000 in
set_option maxHeartbeats 8000000 in
theorem rblkbytes_any (b : BlkM) (hz : Small12 b.x) (hE : R64 b.x.epoch) (hH : R64 b.x.height) (hnum : ∀ q ∈ b.x.reqs, R64 q.client ∧ R64 q.num ∧ R64 q.kind ∧ R64 q.ck ∧ R64 q.cid ∧ R64 q.cn ∧ R64 q.high) (w : World) (hS : QSee w w.heap.size b.A b.x.reqs) :
    Calls Tryz.prog 35 #[.agg b.cells.toArray] w fun e w' => e = .returned (str (blkB b.x)) ∧ Below w.heap.size w w' := by
  obtain ⟨w1, hw1⟩ : ∃ w1, w1 = w.alloc (.cells b.cells.toArray 32) := ⟨_, rfl⟩
  have HX : Hid (Box w1 w.heap.size 32 b.cells.toArray) := by rw [hw1]; exact Box.made w _ _
  have HF : Hid (Below w.heap.size w w1) := by rw [hw1]; exact (Below.refl _ _).alloc (Nat.le_refl _) _
  have HS := Lib.hid (hS.far HF.out)
  have HN := Lib.hid hnum
  have HL := Lib.hid hz.len
  have HT := Lib.hid hz.txt
  have HC : Hid (∀ w', Below w1.heap.size w1 w' → w'.cell? ⟨w.heap.size, 0, none⟩ = some (.int .i64 b.x.epoch) ∧ w'.cell? ⟨w.heap.size, 1, none⟩ = some (.int .i64 b.x.height) ∧ (ldDigest (.pointer (some ⟨w.heap.size, 2, none⟩))).run Tryz.prog w' = .ok (.agg (b.x.prev.map bv).toArray) w' ∧ (ldDigest (.pointer (some ⟨w.heap.size, 34, none⟩))).run Tryz.prog w' = .ok (.agg (b.x.state.map bv).toArray) w' ∧ (ldDigest (.pointer (some ⟨w.heap.size, 66, none⟩))).run Tryz.prog w' = .ok (.agg (b.x.next.map bv).toArray) w' ∧
      w'.cell? ⟨w.heap.size, 98, none⟩ = some (.slice b.A b.x.reqs.length b.z)) := Lib.hid (fun w' hb => by
    have h := HX.out.below hb HX.out.lt
    exact ⟨h.bk_0, h.bk_1, range_load h.bk_prev b.x.lp, range_load (h.bk_state b.x.lp) b.x.ls, range_load (h.bk_next b.x.lp b.x.ls) b.x.ln, h.bk_98 b.x.lp b.x.ls b.x.ln⟩)
  have K0 : Hid (∀ d os, Calls Tryz.prog 66 #[.int .i64 b.x.epoch] (grow (redrawn w1 d) os) fun e w'' => e = .returned (str (numBytes b.x.epoch)) ∧ ∃ p : Regrown, w'' = grow (redrawn w1 p.d) p.os) := Lib.hid (fun d os => Calls.regrown_of (refnum_any _ hE.1 hE.2 _))
  have K1 : Hid (∀ d os, Calls Tryz.prog 66 #[.int .i64 b.x.height] (grow (redrawn w1 d) os) fun e w'' => e = .returned (str (numBytes b.x.height)) ∧ ∃ p : Regrown, w'' = grow (redrawn w1 p.d) p.os) := Lib.hid (fun d os => Calls.regrown_of (refnum_any _ hH.1 hH.2 _))
  have K2 : Hid (∀ d os, Calls Tryz.prog 68 #[.agg (b.x.prev.map bv).toArray] (grow (redrawn w1 d) os) fun e w'' => e = .returned (str b.x.prev) ∧ ∃ p : Regrown, w'' = grow (redrawn w1 p.d) p.os) := Lib.hid (fun d os => Calls.regrown_of (digstr_any _ b.x.lp _))
  have K3 : Hid (∀ d os, Calls Tryz.prog 68 #[.agg (b.x.state.map bv).toArray] (grow (redrawn w1 d) os) fun e w'' => e = .returned (str b.x.state) ∧ ∃ p : Regrown, w'' = grow (redrawn w1 p.d) p.os) := Lib.hid (fun d os => Calls.regrown_of (digstr_any _ b.x.ls _))
  have K4 : Hid (∀ d os, Calls Tryz.prog 68 #[.agg (b.x.next.map bv).toArray] (grow (redrawn w1 d) os) fun e w'' => e = .returned (str b.x.next) ∧ ∃ p : Regrown, w'' = grow (redrawn w1 p.d) p.os) := Lib.hid (fun d os => Calls.regrown_of (digstr_any _ b.x.ln _))
  have K5 : Hid (∀ d os, Calls Tryz.prog 66 #[.int .i64 (b.x.reqs.length : Int)] (grow (redrawn w1 d) os) fun e w'' => e = .returned (str (numBytes (b.x.reqs.length : Int))) ∧ ∃ p : Regrown, w'' = grow (redrawn w1 p.d) p.os) := Lib.hid (fun d os => Calls.regrown_of (refnum_any _ (by omega) (by have := hz.len; omega) _))
  obtain ⟨q5, hq5⟩ : ∃ q5, q5 = ((((numBytes b.x.epoch ++ numBytes b.x.height) ++ b.x.prev) ++ b.x.state) ++ b.x.next) ++ numBytes (b.x.reqs.length : Int) := ⟨_, rfl⟩
  have HB5 : Hid (blkB b.x = q5 ++ b.x.reqs.flatMap reqB) := Lib.hid (by
    rw [hq5]
    unfold blkB
    simp)
  have HQ5 : Hid (q5.length = 120) := Lib.hid (by
    rw [hq5]
    simp only [List.length_append, numBytes_len, b.x.lp, b.x.ls, b.x.ln])
  obtain ⟨s1, t1, u1⟩ := cat14 (numBytes b.x.epoch) (numBytes b.x.height) (k := 1000) (by rw [numBytes_len]; omega) (by rw [numBytes_len]; omega)
  obtain ⟨s2, t2, u2⟩ := cat14 (numBytes b.x.epoch ++ numBytes b.x.height) b.x.prev (k := 1000) (by simp only [List.length_append, numBytes_len]; omega) (by rw [b.x.lp]; omega)
  obtain ⟨s3, t3, u3⟩ := cat14 ((numBytes b.x.epoch ++ numBytes b.x.height) ++ b.x.prev) b.x.state (k := 1000) (by simp only [List.length_append, numBytes_len, b.x.lp]; omega) (by rw [b.x.ls]; omega)
  obtain ⟨s4, t4, u4⟩ := cat14 (((numBytes b.x.epoch ++ numBytes b.x.height) ++ b.x.prev) ++ b.x.state) b.x.next (k := 1000) (by simp only [List.length_append, numBytes_len, b.x.lp, b.x.ls]; omega) (by rw [b.x.ln]; omega)
  obtain ⟨s5, t5, u5⟩ := cat14c hq5.symm (k := 1000) (by simp only [List.length_append, numBytes_len, b.x.lp, b.x.ls, b.x.ln]; omega) (by rw [numBytes_len]; omega)
  have Q0 : ∀ d os, (grow (redrawn w1 d) os).cell? ⟨w.heap.size, 0, none⟩ = some (.int .i64 b.x.epoch) := fun d os => (HC.out _ (below_regrown w1 d os)).1
  have Q1 : ∀ d os, (grow (redrawn w1 d) os).cell? ⟨w.heap.size, 1, none⟩ = some (.int .i64 b.x.height) := fun d os => (HC.out _ (below_regrown w1 d os)).2.1
  have Q2 : ∀ d os, (ldDigest (.pointer (some ⟨w.heap.size, 2, none⟩))).run Tryz.prog (grow (redrawn w1 d) os) = .ok (.agg (b.x.prev.map bv).toArray) (grow (redrawn w1 d) os) := fun d os => (HC.out _ (below_regrown w1 d os)).2.2.1
  have Q3 : ∀ d os, (ldDigest (.pointer (some ⟨w.heap.size, 34, none⟩))).run Tryz.prog (grow (redrawn w1 d) os) = .ok (.agg (b.x.state.map bv).toArray) (grow (redrawn w1 d) os) := fun d os => (HC.out _ (below_regrown w1 d os)).2.2.2.1
  have Q4 : ∀ d os, (ldDigest (.pointer (some ⟨w.heap.size, 66, none⟩))).run Tryz.prog (grow (redrawn w1 d) os) = .ok (.agg (b.x.next.map bv).toArray) (grow (redrawn w1 d) os) := fun d os => (HC.out _ (below_regrown w1 d os)).2.2.2.2.1
  have Q5 : ∀ d os, (grow (redrawn w1 d) os).cell? ⟨w.heap.size, 98, none⟩ = some (.slice b.A b.x.reqs.length b.z) := fun d os => (HC.out _ (below_regrown w1 d os)).2.2.2.2.2
  have HC98 : Hid (∀ w', Below w1.heap.size w1 w' → w'.cell? ⟨w.heap.size, 98, none⟩ = some (.slice b.A b.x.reqs.length b.z)) := Lib.hid (fun w' hb => (HC.out w' hb).2.2.2.2.2)
  clear HC HX hS hnum hz hE hH hq5
  obtain ⟨RES, hRES⟩ : ∃ R, R = str (blkB b.x) := ⟨_, rfl⟩
  have HRS := Lib.hid hRES
  rw [← hRES]
  clear hRES
  generalize (((numBytes b.x.epoch ++ numBytes b.x.height) ++ b.x.prev) ++ b.x.state) ++ b.x.next = q4 at *
  generalize ((numBytes b.x.epoch ++ numBytes b.x.height) ++ b.x.prev) ++ b.x.state = q3 at *
  generalize (numBytes b.x.epoch ++ numBytes b.x.height) ++ b.x.prev = q2 at *
  generalize numBytes b.x.epoch ++ numBytes b.x.height = q1 at *
  generalize numBytes b.x.epoch = p0 at *
  generalize numBytes b.x.height = p1 at *
  generalize numBytes (b.x.reqs.length : Int) = p5 at *
  generalize (b.x.prev.map bv).toArray = D2 at *
  generalize (b.x.state.map bv).toArray = D3 at *
  generalize (b.x.next.map bv).toArray = D4 at *
  generalize b.x.prev = p2 at *
  generalize b.x.state = p3 at *
  generalize b.x.next = p4 at *
  generalize b.cells.toArray = BC at *
  generalize b.x.epoch = n0 at *
  generalize b.x.height = n1 at *
  go_enter Tryz.func35, Tryz.ntmps35
  go_upto_region 1 with fail
  change Code.wp _ _ _ _ (w.alloc (.cells BC 32))
  rw [← hw1]
  clear hw1
  refine wp_region_quiet_below (by kernel_rfl) (by kernel_rfl) ?_
  repeat (go_big_quiet_step (first
    | (go_at_call 66; with_reducible exact K0.out _ _)
    | (go_at_call 66; with_reducible exact K1.out _ _)
    | (go_at_call 68; with_reducible exact K2.out _ _)
    | (go_at_call 68; with_reducible exact K3.out _ _)
    | (go_at_call 68; with_reducible exact K4.out _ _)
    | (go_at_call 66; with_reducible exact K5.out _ _)))
  refine wpQuiet_nil ?_
  intro _ hw'
  obtain ⟨⟨dq, osq⟩, hw''⟩ := hw'
  subst hw''
  have HB7 := Lib.hid (below_regrown w1 dq osq)
  clear Q0 Q1 Q2 Q3 Q4 Q5 K0 K1 K2 K3 K4 K5 s1 s2 s3 s4 s5 t1 t2 t3 t4 t5 u1 u2 u3 u4 u5
  generalize grow (redrawn w1 dq) osq = w7 at *
  have c98 := HC98.out w7 HB7.out
  go_wp2
  clear c98 HC98
  have HF7 := Lib.hid (HF.out.trans (HB7.out.mono HF.out.size))
  have HS7 := Lib.hid (HS.out.far HB7.out)
  have HSA : Hid (q5 = q5 ++ (b.x.reqs.take 0).flatMap reqB) := Lib.hid (by simp)
  clear HS HB7 HF
  generalize b.x.reqs = xs at *
  generalize b.A = A at *
  generalize b.z = z at *
  go_loopw [3, 33] (fun s i wr => ∃ (k : Nat) (T : List UInt8), k ≤ xs.length ∧ s = .string ⟨T.toArray⟩ ∧ Hid (T = q5 ++ (xs.take k).flatMap reqB) ∧ i = .int .i64 (k : Int) ∧ Hid (Below w7.heap.size w7 wr)) (fun _ i _ => xs.length - (intOf i).toNat)
  case atStart => exact ⟨0, _, Nat.zero_le _, rfl, HSA, rfl, Lib.hid (Below.refl _ _)⟩
  case round =>
    clear HSA
    obtain ⟨k, T, hk, rfl, HT', rfl, HW⟩ := hrel
    by_cases hlt : k < xs.length
    · have HLT := Lib.hid hlt
      obtain ⟨g, o, rfl, _, hr⟩ := (HS7.out.far HW.out).at_ hlt
      have lk := hr k hlt
      have i1 : (k : Int) < (xs.length : Int) := by omega
      have i0 : (0 : Int) ≤ (k : Int) := by omega
      have wk : IntKind.i64.wrap ((k : Int) + 1) = ((k + 1 : Nat) : Int) := by rw [IntKind.wrap_i64]; have := HL.out; omega
      obtain ⟨w4, hst, hb4, hg4⟩ := (Box.made wr 100 zreqV).st_req rfl (xs[k]'hlt)
      have hF4 : Below wr.heap.size wr w4 := ((Below.refl _ _).alloc (Nat.le_refl _) _).trans (below_only hg4 (Nat.le_refl _) (by simp))
      have HW4 := Lib.hid (HW.out.trans (hF4.mono HW.out.size))
      have l4 := hb4.ld_req
      have HK := Lib.hid (rreqbytes_any (xs[k]'hlt) (HN.out _ (List.getElem_mem hlt)) (HT.out _ (List.getElem_mem hlt)) w4)
      have ht1 : T.length ≤ 120 + 64 * 67108864 := by
        rw [HT'.out, List.length_append, HQ5.out]
        have h1 := reqs_size (xs := xs.take k) (fun q hq => HT.out q (List.mem_of_mem_take hq))
        have h2 : (xs.take k).length ≤ 64 := by rw [List.length_take]; have := HL.out; omega
        have h3 : (xs.take k).length * 67108864 ≤ 64 * 67108864 := Nat.mul_le_mul_right _ h2
        omega
      have ht2 : (reqB (xs[k]'hlt)).length ≤ 67108864 := reqB_size (HT.out _ (List.getElem_mem hlt))
      have HT2 : Hid (T ++ reqB (xs[k]'hlt) = q5 ++ (xs.take (k + 1)).flatMap reqB) := Lib.hid (by rw [HT'.out, List.append_assoc, ← reqs_take14 hlt])
      obtain ⟨U, hU⟩ : ∃ U, T ++ reqB (xs[k]'hlt) = U := ⟨_, rfl⟩
      rw [hU] at HT2
      obtain ⟨s1, t1, u1⟩ := cat14c hU (k := 5000000000) (by omega) (by omega)
      have hs1 := Nat.add_le_add t1 u1
      generalize reqB (xs[k]'hlt) = rb at *
      generalize xs[k]'hlt = q at *
      clear hr hb4 hg4 hF4 hU ht1 ht2 HT'
      go_wp2_with (go_at_call 69; (with_reducible refine (HK.out).mono ?_); rintro e w5 ⟨rfl, hb⟩; have HW5 := Lib.hid (HW4.out.trans (hb.mono HW4.out.size)); clear hb)
      go_roundw
      case rel => exact ⟨k + 1, U, HLT.out, rfl, HT2, by go_num, HW5⟩
      case measure => have := HLT.out; simp [intOf]; omega
    · have i1 : ¬ (k : Int) < (xs.length : Int) := by omega
      have hE : blkB b.x = T := by
        rw [HB5.out, HT'.out, List.take_of_length_le (by omega)]
      go_wp2
      go_ret
      exact ⟨ret_val (by rw [HRS.out, hE]; rfl), HF7.out.trans (HW.out.mono HF7.out.size)⟩


attribute [local go_sem ↓] ldBlk_def stDigest_def
end Go.Proofs.YtbclepdcngaonaaGreatDoor
