/-
  A request's bytes, by the document: wapentakeref09.Bytes. Written by gen_cerreq.py.
  A block's bytes and digest, by the document: wapentakeref12.Bytes, wapentakeref12.Digest.
  What a vote signs, by the document: wapentakeref13.Head, wapentakeref13.Signs.
  Whether a vote is a member's, by the document: wapentakeref13.Right.
-/
import Derived.Test.YtejnfgcnifcpaaaGreatDoorRA
import Derived.Test.YtejnfgcnifcpaaaGreatDoorRB
import Derived.Test.YtejnfgcnifcpaaaGreatDoorTG
import Derived.Deep.RegionHeld3
import Derived.Test.YtejnfgcnifcpaaaGreatDoorBlDgt
import Derived.Test.YtejnfgcnifcpaaaGreatDoorEA
import Derived.Lib.QuietBelow
import Derived.BigQuiet
import Derived.Test.YtejnfgcnifcpaaaGreatDoorVD
import Derived.Test.YtejnfgcnifcpaaaGreatDoorEB
import Derived.Test.YtejnfgcnifcpaaaGreatDoorKRCheck
namespace Go.Proofs.YtejnfgcnifcpaaaGreatDoor
open Go.RowKit

noncomputable def ldOp14 (v : Value) : Sem Value := Instr.loadAt 111 v
set_option maxRecDepth 100000 in
theorem ldOp14_def (v : Value) : Instr.loadAt 111 v = ldOp14 v := rfl
noncomputable def stOp14 (p v : Value) : Sem Unit := Instr.storeAt 111 p v
set_option maxRecDepth 100000 in
theorem stOp14_def (p v : Value) : Instr.storeAt 111 p v = stOp14 p v := rfl
noncomputable def alOp14 (b : Bool) (v : Value) : Sem Value := Instr.alloc 111 b v
set_option maxRecDepth 100000 in
theorem alOp14_def (b : Bool) (v : Value) : Instr.alloc 111 b v = alOp14 b v := rfl
def zopV14 : Array Value := #[.int .i64 0, .string ⟨#[]⟩, .string ⟨#[]⟩, .string ⟨#[]⟩, .int .i64 0, .int .i64 0, .int .i64 0, .int .u8 0, .int .u8 0, .int .u8 0, .int .u8 0, .int .u8 0, .int .u8 0, .int .u8 0, .int .u8 0, .int .u8 0, .int .u8 0, .int .u8 0, .int .u8 0, .int .u8 0, .int .u8 0, .int .u8 0, .int .u8 0, .int .u8 0, .int .u8 0, .int .u8 0, .int .u8 0, .int .u8 0, .int .u8 0, .int .u8 0, .int .u8 0, .int .u8 0, .int .u8 0, .int .u8 0, .int .u8 0, .int .u8 0, .int .u8 0, .int .u8 0, .int .u8 0, .int .i64 0]
set_option maxRecDepth 100000 in
theorem zero_op14 (w : World) : (zeroValue 111).run Tryz.prog w = .ok (.agg zopV14) w := by kernel_rfl
set_option maxRecDepth 100000 in
theorem al_op14 (w : World) : (alOp14 true (.tuple #[])).run Tryz.prog w = .ok (.pointer (some ⟨w.heap.size, 0, none⟩)) (w.alloc (.cells zopV14 111)) := by
  have h := zero_op14 w
  unfold alOp14 Instr.alloc
  simp [Sem.run_bind, h, newVar, newRow, Value.cells]
set_option maxRecDepth 100000 in
theorem op_list14 (x : ReqX) : (Tryz.prog.info? 111).map (·.size) = some (opL x).length := by
  rw [opL_len]
  kernel_rfl
set_option maxRecDepth 100000 in
theorem op_one14 (x : ReqX) : ∀ v ∈ opL x, v.oneCell' = true := fun v hv => x.cells_one v (List.mem_cons_of_mem _ (List.mem_cons_of_mem _ hv))
set_option maxRecDepth 100000 in
theorem Box.ld_op14 {w : World} {g : Nat} {t : TypeId} {x : ReqX} (h : Box w g t x.cells.toArray) : (ldOp14 (.pointer (some ⟨g, 2, none⟩))).run Tryz.prog w = .ok (.agg (opL x).toArray) w := by
  have h' : Box w g t ([Value.int .i64 x.client, Value.int .i64 x.num] ++ (opL x ++ [])).toArray := by
    rw [List.append_nil]
    exact h
  exact run_loadAt_mid (P := Tryz.prog) w g 2 111 (opL x) _ (Box.range_mid h' rfl) Tryz.underlying111 rfl (op_list14 x)
set_option maxRecDepth 100000 in
theorem laid_op14 (w : World) (x : ReqX) : ∃ w', (stOp14 (.pointer (some ⟨w.heap.size, 0, none⟩)) (.agg (opL x).toArray)).run Tryz.prog (w.alloc (.cells zopV14 111)) = .ok () w' ∧ Box w' w.heap.size 111 (opL x).toArray ∧ Below w.heap.size w w' := by
  have hb := Box.made w 111 zopV14
  refine ⟨_, ?_, hb.cells_all (opL x).toArray (by rw [List.size_toArray, opL_len]; rfl), ((Below.refl _ _).alloc (Nat.le_refl _) _).trans (below_only (only_cells (g := w.heap.size) (opL x) 0 _) (Nat.le_refl _) (by simp))⟩
  exact run_storeAt_mid (P := Tryz.prog) _ w.heap.size 0 111 (opL x).toArray (fun j hj => by
    rw [List.size_toArray, opL_len] at hj
    rw [hb.cell, hb.free, Array.getElem?_eq_getElem (by show 0 + j < 40; omega)]
    exact ⟨rfl, rfl⟩) (by rw [List.size_toArray]; exact op_list14 x) (by have := all_oneCell_toArray (op_one14 x); simpa using this)
section
variable {w : World} {g : Nat} {t : TypeId} {x : ReqX}
set_option maxRecDepth 100000 in
theorem Box.op_root14 (h : Box w g t (opL x).toArray) : w.rangeAt g 7 (x.root.map bv) := Box.range_mid (pre := [.int .i64 x.kind, .string x.key, .string x.val, .string x.old, .int .i64 x.ck, .int .i64 x.cid, .int .i64 x.cn]) (post := [.int .i64 x.high]) (by
  have e : opL x = [.int .i64 x.kind, .string x.key, .string x.val, .string x.old, .int .i64 x.ck, .int .i64 x.cid, .int .i64 x.cn] ++ (x.root.map bv ++ [.int .i64 x.high]) := by
    unfold opL chgL keyL
    simp
  rw [← e]
  exact h) rfl
set_option maxRecDepth 100000 in
theorem Box.op_high14 (h : Box w g t (opL x).toArray) : w.cell? ⟨g, 39, none⟩ = some (.int .i64 x.high) := by
  have e : opL x = ([.int .i64 x.kind, .string x.key, .string x.val, .string x.old, .int .i64 x.ck, .int .i64 x.cid, .int .i64 x.cn] ++ x.root.map bv) ++ [.int .i64 x.high] := by
    unfold opL chgL keyL
    simp
  rw [e] at h
  rw [h.cell, List.getElem?_toArray, List.getElem?_append_right (by simp [x.len])]
  simp [x.len]
end
/-- Texts joined, and how long. -/
structure Cat14 (a b c : List UInt8) (k : Nat) : Prop where
  cat : (⟨a.toArray⟩ : ByteArray) ++ ⟨b.toArray⟩ = ⟨c.toArray⟩
  la : a.length ≤ k
  lb : b.length ≤ k
set_option maxRecDepth 100000 in
theorem cat14 (a b : List UInt8) {k : Nat} (ha : a.length ≤ k) (hb : b.length ≤ k) : Cat14 a b (a ++ b) k :=
  ⟨bytes_cat a b, ha, hb⟩
set_option maxRecDepth 100000 in
theorem nums_made14 (ns : List Int) (hI : ∀ n ∈ ns, R64 n) (hn : ns.length ≤ 4096) (W : World) :
    Calls Tryz.prog 136 #[.slice (some ⟨W.heap.size, 0, none⟩) ns.length ns.length] (W.alloc (.cells (ns.map (Value.int .i64)).toArray 3)) fun e w' => e = .returned (str (ns.flatMap numBytes)) ∧ Below W.heap.size W w' := by
  have hb : Box (W.alloc (.cells (ns.map (Value.int .i64)).toArray 3)) W.heap.size 3 (ns.map (Value.int .i64)).toArray := Box.made _ _ _
  have hf : Below W.heap.size W (W.alloc (.cells (ns.map (Value.int .i64)).toArray 3)) := (Below.refl _ _).alloc (Nat.le_refl _) _
  exact (nums_any ns (some ⟨W.heap.size, 0, none⟩) ns.length _ hI hn (Sees.of_box hb hb.lt)).mono fun e w' ⟨he, hb⟩ => ⟨he, hf.trans (hb.mono hf.size)⟩

attribute [local go_sem ↓] ldOp14_def stOp14_def alOp14_def ldDigest_def
set_option maxRecDepth 100000 in
set_option maxHeartbeats 8000000 in
theorem rreqbytes_any (x : ReqX) (hn : R64 x.client ∧ R64 x.num ∧ R64 x.kind ∧ R64 x.ck ∧ R64 x.cid ∧ R64 x.cn ∧ R64 x.high) (hq : x.key.size ≤ 16777216 ∧ x.val.size ≤ 16777216 ∧ x.old.size ≤ 16777216) (w : World) :
    Calls Tryz.prog 112 #[.agg x.cells.toArray] w fun e w' => e = .returned (str (reqB x)) ∧ Below w.heap.size w w' := by
  obtain ⟨w1, hw1⟩ : ∃ w1, w1 = w.alloc (.cells x.cells.toArray 113) := ⟨_, rfl⟩
  have HX : Hid (Box w1 w.heap.size 113 x.cells.toArray) := by rw [hw1]; exact Box.made w _ _
  have HF : Hid (Below w.heap.size w w1) := by rw [hw1]; exact (Below.refl _ _).alloc (Nat.le_refl _) _
  have lo := HX.out.ld_op14
  have hal := al_op14
  obtain ⟨w2, hst, hb2, hbl2⟩ := laid_op14 w1 x
  have HB2 := Lib.hid hbl2
  have HO2 := Lib.hid hb2
  have HXC : Hid (∀ w', Below w2.heap.size w2 w' → w'.cell? ⟨w.heap.size, 0, none⟩ = some (.int .i64 x.client) ∧ w'.cell? ⟨w.heap.size, 1, none⟩ = some (.int .i64 x.num)) := Lib.hid (fun w' hb => by
    have h := (HX.out.below HB2.out HX.out.lt).below hb (Nat.lt_of_lt_of_le HX.out.lt HB2.out.size)
    exact ⟨h.cell 0, h.cell 1⟩)
  have HOC : Hid (∀ w', Below w2.heap.size w2 w' → w'.cell? ⟨w1.heap.size, 0, none⟩ = some (.int .i64 x.kind) ∧ w'.cell? ⟨w1.heap.size, 1, none⟩ = some (.string x.key) ∧ w'.cell? ⟨w1.heap.size, 2, none⟩ = some (.string x.val) ∧ w'.cell? ⟨w1.heap.size, 3, none⟩ = some (.string x.old) ∧ w'.cell? ⟨w1.heap.size, 4, none⟩ = some (.int .i64 x.ck) ∧ w'.cell? ⟨w1.heap.size, 5, none⟩ = some (.int .i64 x.cid) ∧ w'.cell? ⟨w1.heap.size, 6, none⟩ = some (.int .i64 x.cn) ∧ w'.cell? ⟨w1.heap.size, 39, none⟩ = some (.int .i64 x.high) ∧
      (ldDigest (.pointer (some ⟨w1.heap.size, 7, none⟩))).run Tryz.prog w' = .ok (.agg (x.root.map bv).toArray) w') := Lib.hid (fun w' hb => by
    have h := HO2.out.below hb HO2.out.lt
    exact ⟨h.cell 0, h.cell 1, h.cell 2, h.cell 3, h.cell 4, h.cell 5, h.cell 6, h.op_high14, range_load h.op_root14 x.len⟩)
  have HN1 : Hid (∀ W, Calls Tryz.prog 136 #[.slice (some ⟨W.heap.size, 0, none⟩) 3 3] (W.alloc (.cells #[.int .i64 x.client, .int .i64 x.num, .int .i64 x.kind] 3)) fun e w' => e = .returned (str ([x.client, x.num, x.kind].flatMap numBytes)) ∧ Below W.heap.size W w') := Lib.hid (fun W => nums_made14 [x.client, x.num, x.kind] (fun n h => by
    simp only [List.mem_cons, List.not_mem_nil, or_false] at h
    rcases h with rfl | rfl | rfl
    · exact hn.1
    · exact hn.2.1
    · exact hn.2.2.1) (by simp) W)
  have HN2 : Hid (∀ W, Calls Tryz.prog 136 #[.slice (some ⟨W.heap.size, 0, none⟩) 4 4] (W.alloc (.cells #[.int .i64 x.ck, .int .i64 x.cid, .int .i64 x.cn, .int .i64 x.high] 3)) fun e w' => e = .returned (str ([x.ck, x.cid, x.cn, x.high].flatMap numBytes)) ∧ Below W.heap.size W w') := Lib.hid (fun W => nums_made14 [x.ck, x.cid, x.cn, x.high] (fun n h => by
    simp only [List.mem_cons, List.not_mem_nil, or_false] at h
    rcases h with rfl | rfl | rfl | rfl
    · exact hn.2.2.2.1
    · exact hn.2.2.2.2.1
    · exact hn.2.2.2.2.2.1
    · exact hn.2.2.2.2.2.2) (by simp) W)
  have HT1 : Hid (∀ W, Calls Tryz.prog 137 #[.string x.key] W fun e w' => e = .returned (str (textBytes x.key)) ∧ Below W.heap.size W w') := Lib.hid (fun W => reftext_any9 x.key (by have := hq.1; omega) W)
  have HT2 : Hid (∀ W, Calls Tryz.prog 137 #[.string x.val] W fun e w' => e = .returned (str (textBytes x.val)) ∧ Below W.heap.size W w') := Lib.hid (fun W => reftext_any9 x.val (by have := hq.2.1; omega) W)
  have HT3 : Hid (∀ W, Calls Tryz.prog 137 #[.string x.old] W fun e w' => e = .returned (str (textBytes x.old)) ∧ Below W.heap.size W w') := Lib.hid (fun W => reftext_any9 x.old (by have := hq.2.2; omega) W)
  have HD : Hid (∀ W, Calls Tryz.prog 111 #[.agg (x.root.map bv).toArray] W fun e w' => e = .returned (str x.root) ∧ Below W.heap.size W w') := Lib.hid (fun W => digstr_any x.root x.len W)
  have HE : Hid (str (reqB x) = str ((((([x.client, x.num, x.kind].flatMap numBytes ++ textBytes x.key) ++ textBytes x.val) ++ textBytes x.old) ++ [x.ck, x.cid, x.cn, x.high].flatMap numBytes) ++ x.root)) := Lib.hid (by
    unfold reqB
    simp)
  have l0 : ([x.client, x.num, x.kind].flatMap numBytes).length ≤ 24 := by rw [nums_len]; simp
  have l4 : ([x.ck, x.cid, x.cn, x.high].flatMap numBytes).length ≤ 32 := by rw [nums_len]; simp
  have l1 : (textBytes x.key).length ≤ 16777220 := by rw [textBytes_len]; omega
  have l2 : (textBytes x.val).length ≤ 16777220 := by rw [textBytes_len]; omega
  have l3 : (textBytes x.old).length ≤ 16777220 := by rw [textBytes_len]; omega
  have l5 : x.root.length ≤ 32 := by rw [x.len]; exact Nat.le_refl _
  have C1 := Lib.hid (cat14 ([x.client, x.num, x.kind].flatMap numBytes) (textBytes x.key) (k := 100000000) (by omega) (by omega))
  have C2 := Lib.hid (cat14 ([x.client, x.num, x.kind].flatMap numBytes ++ textBytes x.key) (textBytes x.val) (k := 100000000) (by rw [List.length_append]; omega) (by omega))
  have C3 := Lib.hid (cat14 (([x.client, x.num, x.kind].flatMap numBytes ++ textBytes x.key) ++ textBytes x.val) (textBytes x.old) (k := 100000000) (by rw [List.length_append, List.length_append]; omega) (by omega))
  have C4 := Lib.hid (cat14 ((([x.client, x.num, x.kind].flatMap numBytes ++ textBytes x.key) ++ textBytes x.val) ++ textBytes x.old) ([x.ck, x.cid, x.cn, x.high].flatMap numBytes) (k := 100000000) (by rw [List.length_append, List.length_append, List.length_append]; omega) (by omega))
  have C5 := Lib.hid (cat14 (((([x.client, x.num, x.kind].flatMap numBytes ++ textBytes x.key) ++ textBytes x.val) ++ textBytes x.old) ++ [x.ck, x.cid, x.cn, x.high].flatMap numBytes) x.root (k := 100000000) (by rw [List.length_append, List.length_append, List.length_append, List.length_append]; omega) (by omega))
  have HZ : Hid (∀ x, Below w2.heap.size w2 x → Below w.heap.size w x) := Lib.hid (fun x hb => HF.out.trans ((HB2.out.trans (hb.mono HB2.out.size)).mono HF.out.size))
  clear hb2 hbl2 hn hq l0 l1 l2 l3 l4 l5
  generalize str (reqB x) = RES at *
  generalize ((((([x.client, x.num, x.kind].flatMap numBytes ++ textBytes x.key) ++ textBytes x.val) ++ textBytes x.old) ++ [x.ck, x.cid, x.cn, x.high].flatMap numBytes) ++ x.root) = q5 at *
  generalize (((([x.client, x.num, x.kind].flatMap numBytes ++ textBytes x.key) ++ textBytes x.val) ++ textBytes x.old) ++ [x.ck, x.cid, x.cn, x.high].flatMap numBytes) = q4 at *
  generalize ((([x.client, x.num, x.kind].flatMap numBytes ++ textBytes x.key) ++ textBytes x.val) ++ textBytes x.old) = q3 at *
  generalize (([x.client, x.num, x.kind].flatMap numBytes ++ textBytes x.key) ++ textBytes x.val) = q2 at *
  generalize ([x.client, x.num, x.kind].flatMap numBytes ++ textBytes x.key) = q1 at *
  generalize [x.client, x.num, x.kind].flatMap numBytes = q0 at *
  generalize [x.ck, x.cid, x.cn, x.high].flatMap numBytes = p4 at *
  generalize textBytes x.key = p1 at *
  generalize textBytes x.val = p2 at *
  generalize textBytes x.old = p3 at *
  generalize x.root = p5 at *
  generalize hxc : x.cells.toArray = XC at hw1 ⊢
  generalize hox : (opL x).toArray = OX at lo hst
  go_enter Tryz.func112, Tryz.ntmps112
  go_upto_region 1 with fail
  change Code.wp _ _ _ _ (w.alloc (.cells XC 113))
  rw [← hw1]
  clear hw1
  go_upto_region 2 with fail
  clear lo hst hal hxc hox
  generalize w1.heap.size = gq at *
  obtain ⟨wd, hwd⟩ : ∃ wd, wd = w2.drew := ⟨_, rfl⟩
  have hbd : Below w2.heap.size w2 wd := by rw [hwd]; exact (Below.refl _ _).drew
  refine wp_region_held_drew (S := fun w' => Below w2.heap.size w2 w') (by kernel_rfl) (by rw [← hwd]; exact hbd) (fun hS => ?_)
  rw [← hwd] at hS ⊢
  clear hwd hbd
  (refine wpAnyH_take (i := 0) (v := .pointer (some ⟨w.heap.size, 0, none⟩)) rfl (by kernel_rfl) (by kernel_rfl) (by kernel_rfl) (fun _ _ _ h => h) (Or.inl ⟨by kernel_rfl, fun w hSw => by go_simp⟩) hS ?_)
  (try simp only [Act.put])
  (refine wpAnyH_take (i := 1) (v := .int .i64 x.client) rfl (by kernel_rfl) (by kernel_rfl) (by kernel_rfl) (fun _ _ _ h => h) (Or.inl ⟨by kernel_rfl, fun w hSw => by have hc := (HXC.out w hSw).1; go_simp⟩) hS ?_)
  (try simp only [Act.put])
  (refine wpAnyH_take (i := 2) (v := .pointer (some ⟨w.heap.size, 1, none⟩)) rfl (by kernel_rfl) (by kernel_rfl) (by kernel_rfl) (fun _ _ _ h => h) (Or.inl ⟨by kernel_rfl, fun w hSw => by go_simp⟩) hS ?_)
  (try simp only [Act.put])
  (refine wpAnyH_take (i := 3) (v := .int .i64 x.num) rfl (by kernel_rfl) (by kernel_rfl) (by kernel_rfl) (fun _ _ _ h => h) (Or.inl ⟨by kernel_rfl, fun w hSw => by have hc := (HXC.out w hSw).2; go_simp⟩) hS ?_)
  (try simp only [Act.put])
  (refine wpAnyH_take (i := 4) (v := .pointer (some ⟨gq, 0, none⟩)) rfl (by kernel_rfl) (by kernel_rfl) (by kernel_rfl) (fun _ _ _ h => h) (Or.inl ⟨by kernel_rfl, fun w hSw => by go_simp⟩) hS ?_)
  (try simp only [Act.put])
  (refine wpAnyH_take (i := 5) (v := .int .i64 x.kind) rfl (by kernel_rfl) (by kernel_rfl) (by kernel_rfl) (fun _ _ _ h => h) (Or.inl ⟨by kernel_rfl, fun w hSw => by have hc := (HOC.out w hSw).1; go_simp⟩) hS ?_)
  (try simp only [Act.put])
  (refine wpAnyH_take (i := 8) (v := .pointer (some ⟨gq, 1, none⟩)) rfl (by kernel_rfl) (by kernel_rfl) (by kernel_rfl) (fun _ _ _ h => h) (Or.inl ⟨by kernel_rfl, fun w hSw => by go_simp⟩) hS ?_)
  (try simp only [Act.put])
  (refine wpAnyH_take (i := 9) (v := .string x.key) rfl (by kernel_rfl) (by kernel_rfl) (by kernel_rfl) (fun _ _ _ h => h) (Or.inl ⟨by kernel_rfl, fun w hSw => by have hc := (HOC.out w hSw).2.1; go_simp⟩) hS ?_)
  (try simp only [Act.put])
  (refine wpAnyH_take (i := 12) (v := .pointer (some ⟨gq, 2, none⟩)) rfl (by kernel_rfl) (by kernel_rfl) (by kernel_rfl) (fun _ _ _ h => h) (Or.inl ⟨by kernel_rfl, fun w hSw => by go_simp⟩) hS ?_)
  (try simp only [Act.put])
  (refine wpAnyH_take (i := 13) (v := .string x.val) rfl (by kernel_rfl) (by kernel_rfl) (by kernel_rfl) (fun _ _ _ h => h) (Or.inl ⟨by kernel_rfl, fun w hSw => by have hc := (HOC.out w hSw).2.2.1; go_simp⟩) hS ?_)
  (try simp only [Act.put])
  (refine wpAnyH_take (i := 16) (v := .pointer (some ⟨gq, 3, none⟩)) rfl (by kernel_rfl) (by kernel_rfl) (by kernel_rfl) (fun _ _ _ h => h) (Or.inl ⟨by kernel_rfl, fun w hSw => by go_simp⟩) hS ?_)
  (try simp only [Act.put])
  (refine wpAnyH_take (i := 17) (v := .string x.old) rfl (by kernel_rfl) (by kernel_rfl) (by kernel_rfl) (fun _ _ _ h => h) (Or.inl ⟨by kernel_rfl, fun w hSw => by have hc := (HOC.out w hSw).2.2.2.1; go_simp⟩) hS ?_)
  (try simp only [Act.put])
  have hS0 := hS
  refine wpAnyH_ready (rs := [6]) (by decide +kernel) (by simp) (AllReadyH.cons rfl (fun K hK => ?_) AllReadyH.nil)
  go_simp
  have hal := hS.alloc hS.size (.cells #[.int .i64 x.client, .int .i64 x.num, .int .i64 x.kind] 3)
  refine hK.out _ _ (hal) (fun hS => ?_)
  clear hK K
  (try simp only [Act.put])
  clear hal
  refine wpAnyH_ready (rs := [7]) (by decide +kernel) (by simp) (AllReadyH.cons rfl (fun K hK => ?_) AllReadyH.nil)
  go_simp
  (go_at_call 136; (with_reducible refine ((HN1.out wd)).mono ?_); rintro e x3 ⟨rfl, hb⟩)
  refine hK.out _ _ (hS0.trans (hb.mono hS0.size)) (fun hS => ?_)
  clear hK K
  (try simp only [Act.put])
  clear hb
  clear hS0
  refine wpAnyH_ready (rs := [10]) (by decide +kernel) (by simp) (AllReadyH.cons rfl (fun K hK => ?_) AllReadyH.nil)
  go_simp
  (go_at_call 137; (with_reducible refine (HT1.out _).mono ?_); rintro e x4 ⟨rfl, hb⟩)
  refine hK.out _ _ (hS.trans (hb.mono hS.size)) (fun hS => ?_)
  clear hK K
  (try simp only [Act.put])
  clear hb
  (refine wpAnyH_take (i := 11) (v := .string ⟨q1.toArray⟩) rfl (by kernel_rfl) (by kernel_rfl) (by kernel_rfl) (fun _ _ _ h => h) (Or.inl ⟨by kernel_rfl, fun w hSw => by have h1 := C1.out.cat; have h2 := C1.out.la; have h3 := C1.out.lb; have h4 := Nat.add_le_add h2 h3; go_simp; (try omega)⟩) hS ?_)
  (try simp only [Act.put])
  refine wpAnyH_ready (rs := [14]) (by decide +kernel) (by simp) (AllReadyH.cons rfl (fun K hK => ?_) AllReadyH.nil)
  go_simp
  (go_at_call 137; (with_reducible refine (HT2.out _).mono ?_); rintro e x5 ⟨rfl, hb⟩)
  refine hK.out _ _ (hS.trans (hb.mono hS.size)) (fun hS => ?_)
  clear hK K
  (try simp only [Act.put])
  clear hb
  (refine wpAnyH_take (i := 15) (v := .string ⟨q2.toArray⟩) rfl (by kernel_rfl) (by kernel_rfl) (by kernel_rfl) (fun _ _ _ h => h) (Or.inl ⟨by kernel_rfl, fun w hSw => by have h1 := C2.out.cat; have h2 := C2.out.la; have h3 := C2.out.lb; have h4 := Nat.add_le_add h2 h3; go_simp; (try omega)⟩) hS ?_)
  (try simp only [Act.put])
  refine wpAnyH_ready (rs := [18]) (by decide +kernel) (by simp) (AllReadyH.cons rfl (fun K hK => ?_) AllReadyH.nil)
  go_simp
  (go_at_call 137; (with_reducible refine (HT3.out _).mono ?_); rintro e x6 ⟨rfl, hb⟩)
  refine hK.out _ _ (hS.trans (hb.mono hS.size)) (fun hS => ?_)
  clear hK K
  (try simp only [Act.put])
  clear hb
  (refine wpAnyH_take (i := 19) (v := .string ⟨q3.toArray⟩) rfl (by kernel_rfl) (by kernel_rfl) (by kernel_rfl) (fun _ _ _ h => h) (Or.inl ⟨by kernel_rfl, fun w hSw => by have h1 := C3.out.cat; have h2 := C3.out.la; have h3 := C3.out.lb; have h4 := Nat.add_le_add h2 h3; go_simp; (try omega)⟩) hS ?_)
  (try simp only [Act.put])
  (refine wpAnyH_take (i := 20) (v := .string ⟨q3.toArray⟩) rfl (by kernel_rfl) (by kernel_rfl) (by kernel_rfl) (fun _ _ _ h => h) (Or.inl ⟨by kernel_rfl, fun w hSw => by go_simp⟩) hS ?_)
  (try simp only [Act.put])
  refine wpAnyH_done (by kernel_rfl) ?_ _
  have HB6 := Lib.hid hS
  clear hS
  go_simp
  go_upto_region 3 with fail
  obtain ⟨we, hwe⟩ : ∃ we, we = x6.drew := ⟨_, rfl⟩
  have hbe : Below w2.heap.size w2 we := by rw [hwe]; exact HB6.out.trans ((Below.refl _ _).drew)
  refine wp_region_held_drew (S := fun w' => Below w2.heap.size w2 w') (by kernel_rfl) (by rw [← hwe]; exact hbe) (fun hS => ?_)
  rw [← hwe] at hS ⊢
  clear hwe hbe
  (refine wpAnyH_take (i := 0) (v := .string ⟨q3.toArray⟩) rfl (by kernel_rfl) (by kernel_rfl) (by kernel_rfl) (fun _ _ _ h => h) (Or.inl ⟨by kernel_rfl, fun w hSw => by go_simp⟩) hS ?_)
  (try simp only [Act.put])
  (refine wpAnyH_take (i := 1) (v := .pointer (some ⟨gq, 4, none⟩)) rfl (by kernel_rfl) (by kernel_rfl) (by kernel_rfl) (fun _ _ _ h => h) (Or.inl ⟨by kernel_rfl, fun w hSw => by go_simp⟩) hS ?_)
  (try simp only [Act.put])
  (refine wpAnyH_take (i := 2) (v := .pointer (some ⟨gq, 4, none⟩)) rfl (by kernel_rfl) (by kernel_rfl) (by kernel_rfl) (fun _ _ _ h => h) (Or.inl ⟨by kernel_rfl, fun w hSw => by go_simp⟩) hS ?_)
  (try simp only [Act.put])
  (refine wpAnyH_take (i := 3) (v := .int .i64 x.ck) rfl (by kernel_rfl) (by kernel_rfl) (by kernel_rfl) (fun _ _ _ h => h) (Or.inl ⟨by kernel_rfl, fun w hSw => by have hc := (HOC.out w hSw).2.2.2.2.1; go_simp⟩) hS ?_)
  (try simp only [Act.put])
  (refine wpAnyH_take (i := 4) (v := .pointer (some ⟨gq, 4, none⟩)) rfl (by kernel_rfl) (by kernel_rfl) (by kernel_rfl) (fun _ _ _ h => h) (Or.inl ⟨by kernel_rfl, fun w hSw => by go_simp⟩) hS ?_)
  (try simp only [Act.put])
  (refine wpAnyH_take (i := 5) (v := .pointer (some ⟨gq, 5, none⟩)) rfl (by kernel_rfl) (by kernel_rfl) (by kernel_rfl) (fun _ _ _ h => h) (Or.inl ⟨by kernel_rfl, fun w hSw => by go_simp⟩) hS ?_)
  (try simp only [Act.put])
  (refine wpAnyH_take (i := 6) (v := .int .i64 x.cid) rfl (by kernel_rfl) (by kernel_rfl) (by kernel_rfl) (fun _ _ _ h => h) (Or.inl ⟨by kernel_rfl, fun w hSw => by have hc := (HOC.out w hSw).2.2.2.2.2.1; go_simp⟩) hS ?_)
  (try simp only [Act.put])
  (refine wpAnyH_take (i := 7) (v := .pointer (some ⟨gq, 4, none⟩)) rfl (by kernel_rfl) (by kernel_rfl) (by kernel_rfl) (fun _ _ _ h => h) (Or.inl ⟨by kernel_rfl, fun w hSw => by go_simp⟩) hS ?_)
  (try simp only [Act.put])
  (refine wpAnyH_take (i := 8) (v := .pointer (some ⟨gq, 6, none⟩)) rfl (by kernel_rfl) (by kernel_rfl) (by kernel_rfl) (fun _ _ _ h => h) (Or.inl ⟨by kernel_rfl, fun w hSw => by go_simp⟩) hS ?_)
  (try simp only [Act.put])
  (refine wpAnyH_take (i := 9) (v := .int .i64 x.cn) rfl (by kernel_rfl) (by kernel_rfl) (by kernel_rfl) (fun _ _ _ h => h) (Or.inl ⟨by kernel_rfl, fun w hSw => by have hc := (HOC.out w hSw).2.2.2.2.2.2.1; go_simp⟩) hS ?_)
  (try simp only [Act.put])
  (refine wpAnyH_take (i := 10) (v := .pointer (some ⟨gq, 4, none⟩)) rfl (by kernel_rfl) (by kernel_rfl) (by kernel_rfl) (fun _ _ _ h => h) (Or.inl ⟨by kernel_rfl, fun w hSw => by go_simp⟩) hS ?_)
  (try simp only [Act.put])
  (refine wpAnyH_take (i := 11) (v := .pointer (some ⟨gq, 7, none⟩)) rfl (by kernel_rfl) (by kernel_rfl) (by kernel_rfl) (fun _ _ _ h => h) (Or.inl ⟨by kernel_rfl, fun w hSw => by go_simp⟩) hS ?_)
  (try simp only [Act.put])
  (refine wpAnyH_take (i := 12) (v := .pointer (some ⟨gq, 39, none⟩)) rfl (by kernel_rfl) (by kernel_rfl) (by kernel_rfl) (fun _ _ _ h => h) (Or.inl ⟨by kernel_rfl, fun w hSw => by go_simp⟩) hS ?_)
  (try simp only [Act.put])
  (refine wpAnyH_take (i := 13) (v := .int .i64 x.high) rfl (by kernel_rfl) (by kernel_rfl) (by kernel_rfl) (fun _ _ _ h => h) (Or.inl ⟨by kernel_rfl, fun w hSw => by have hc := (HOC.out w hSw).2.2.2.2.2.2.2.1; go_simp⟩) hS ?_)
  (try simp only [Act.put])
  (refine wpAnyH_take (i := 17) (v := .pointer (some ⟨gq, 4, none⟩)) rfl (by kernel_rfl) (by kernel_rfl) (by kernel_rfl) (fun _ _ _ h => h) (Or.inl ⟨by kernel_rfl, fun w hSw => by go_simp⟩) hS ?_)
  (try simp only [Act.put])
  (refine wpAnyH_take (i := 18) (v := .pointer (some ⟨gq, 7, none⟩)) rfl (by kernel_rfl) (by kernel_rfl) (by kernel_rfl) (fun _ _ _ h => h) (Or.inl ⟨by kernel_rfl, fun w hSw => by go_simp⟩) hS ?_)
  (try simp only [Act.put])
  (refine wpAnyH_take (i := 19) (v := .pointer (some ⟨gq, 7, none⟩)) rfl (by kernel_rfl) (by kernel_rfl) (by kernel_rfl) (fun _ _ _ h => h) (Or.inl ⟨by kernel_rfl, fun w hSw => by go_simp⟩) hS ?_)
  (try simp only [Act.put])
  (refine wpAnyH_take (i := 20) (v := .agg (p5.map bv).toArray) rfl (by kernel_rfl) (by kernel_rfl) (by kernel_rfl) (fun _ _ _ h => h) (Or.inl ⟨by kernel_rfl, fun w hSw => by have hc := (HOC.out w hSw).2.2.2.2.2.2.2.2; go_simp⟩) hS ?_)
  (try simp only [Act.put])
  have hS0 := hS
  refine wpAnyH_ready (rs := [14]) (by decide +kernel) (by simp) (AllReadyH.cons rfl (fun K hK => ?_) AllReadyH.nil)
  go_simp
  have hal := hS.alloc hS.size (.cells #[.int .i64 x.ck, .int .i64 x.cid, .int .i64 x.cn, .int .i64 x.high] 3)
  refine hK.out _ _ (hal) (fun hS => ?_)
  clear hK K
  (try simp only [Act.put])
  clear hal
  refine wpAnyH_ready (rs := [15]) (by decide +kernel) (by simp) (AllReadyH.cons rfl (fun K hK => ?_) AllReadyH.nil)
  go_simp
  (go_at_call 136; (with_reducible refine ((HN2.out we)).mono ?_); rintro e x7 ⟨rfl, hb⟩)
  refine hK.out _ _ (hS0.trans (hb.mono hS0.size)) (fun hS => ?_)
  clear hK K
  (try simp only [Act.put])
  clear hb
  clear hS0
  (refine wpAnyH_take (i := 16) (v := .string ⟨q4.toArray⟩) rfl (by kernel_rfl) (by kernel_rfl) (by kernel_rfl) (fun _ _ _ h => h) (Or.inl ⟨by kernel_rfl, fun w hSw => by have h1 := C4.out.cat; have h2 := C4.out.la; have h3 := C4.out.lb; have h4 := Nat.add_le_add h2 h3; go_simp; (try omega)⟩) hS ?_)
  (try simp only [Act.put])
  refine wpAnyH_ready (rs := [21]) (by decide +kernel) (by simp) (AllReadyH.cons rfl (fun K hK => ?_) AllReadyH.nil)
  go_simp
  (go_at_call 111; (with_reducible refine (HD.out _).mono ?_); rintro e x8 ⟨rfl, hb⟩)
  refine hK.out _ _ (hS.trans (hb.mono hS.size)) (fun hS => ?_)
  clear hK K
  (try simp only [Act.put])
  clear hb
  (refine wpAnyH_take (i := 22) (v := .string ⟨q5.toArray⟩) rfl (by kernel_rfl) (by kernel_rfl) (by kernel_rfl) (fun _ _ _ h => h) (Or.inl ⟨by kernel_rfl, fun w hSw => by have h1 := C5.out.cat; have h2 := C5.out.la; have h3 := C5.out.lb; have h4 := Nat.add_le_add h2 h3; go_simp; (try omega)⟩) hS ?_)
  (try simp only [Act.put])
  (refine wpAnyH_take (i := 23) (v := .string ⟨q5.toArray⟩) rfl (by kernel_rfl) (by kernel_rfl) (by kernel_rfl) (fun _ _ _ h => h) (Or.inl ⟨by kernel_rfl, fun w hSw => by go_simp⟩) hS ?_)
  (try simp only [Act.put])
  refine wpAnyH_done (by kernel_rfl) ?_ _
  have HB8 := Lib.hid hS
  clear hS
  go_simp
  go_wp2
  go_ret
  exact ⟨ret_val HE.out.symm, HZ.out _ HB8.out⟩
end Go.Proofs.YtejnfgcnifcpaaaGreatDoor

namespace Go.Proofs.YtejnfgcnifcpaaaGreatDoor
open Go.RowKit Go.Maps Go.Sort

set_option maxRecDepth 100000 in
theorem cat14c {a b c : List UInt8} (h : a ++ b = c) {k : Nat} (ha : a.length ≤ k) (hb : b.length ≤ k) : Cat14 a b c k := by
  subst h
  exact cat14 a b ha hb
set_option maxRecDepth 100000 in
theorem reqs_take14 {xs : List ReqX} {j : Nat} (h : j < xs.length) : (xs.take (j + 1)).flatMap reqB = (xs.take j).flatMap reqB ++ reqB (xs[j]'h) := reqs_take12 h

attribute [local go_sem ↓] ldReq_def stReq_def ldDigest_def
set_option maxRecDepth 100000 in
set_option maxHeartbeats 8000000 in
theorem rblkbytes_any (b : BlkM) (hz : Small12 b.x) (hE : R64 b.x.epoch) (hH : R64 b.x.height) (hnum : ∀ q ∈ b.x.reqs, R64 q.client ∧ R64 q.num ∧ R64 q.kind ∧ R64 q.ck ∧ R64 q.cid ∧ R64 q.cn ∧ R64 q.high) (w : World) (hS : QSee w w.heap.size b.A b.x.reqs) :
    Calls Tryz.prog 72 #[.agg b.cells.toArray] w fun e w' => e = .returned (str (blkB b.x)) ∧ Below w.heap.size w w' := by
  obtain ⟨w1, hw1⟩ : ∃ w1, w1 = w.alloc (.cells b.cells.toArray 29) := ⟨_, rfl⟩
  have HX : Hid (Box w1 w.heap.size 29 b.cells.toArray) := by rw [hw1]; exact Box.made w _ _
  have HF : Hid (Below w.heap.size w w1) := by rw [hw1]; exact (Below.refl _ _).alloc (Nat.le_refl _) _
  have HS := Lib.hid (hS.far HF.out)
  have HN := Lib.hid hnum
  have HL := Lib.hid hz.len
  have HT := Lib.hid hz.txt
  have HC : Hid (∀ w', Below w1.heap.size w1 w' → w'.cell? ⟨w.heap.size, 0, none⟩ = some (.int .i64 b.x.epoch) ∧ w'.cell? ⟨w.heap.size, 1, none⟩ = some (.int .i64 b.x.height) ∧ (ldDigest (.pointer (some ⟨w.heap.size, 2, none⟩))).run Tryz.prog w' = .ok (.agg (b.x.prev.map bv).toArray) w' ∧ (ldDigest (.pointer (some ⟨w.heap.size, 34, none⟩))).run Tryz.prog w' = .ok (.agg (b.x.state.map bv).toArray) w' ∧ (ldDigest (.pointer (some ⟨w.heap.size, 66, none⟩))).run Tryz.prog w' = .ok (.agg (b.x.next.map bv).toArray) w' ∧
      w'.cell? ⟨w.heap.size, 98, none⟩ = some (.slice b.A b.x.reqs.length b.z)) := Lib.hid (fun w' hb => by
    have h := HX.out.below hb HX.out.lt
    exact ⟨h.bk_0, h.bk_1, range_load h.bk_prev b.x.lp, range_load (h.bk_state b.x.lp) b.x.ls, range_load (h.bk_next b.x.lp b.x.ls) b.x.ln, h.bk_98 b.x.lp b.x.ls b.x.ln⟩)
  have K0 : Hid (∀ d os, Calls Tryz.prog 42 #[.int .i64 b.x.epoch] (grow (redrawn w1 d) os) fun e w'' => e = .returned (str (numBytes b.x.epoch)) ∧ ∃ p : Regrown, w'' = grow (redrawn w1 p.d) p.os) := Lib.hid (fun d os => Calls.regrown_of (refnum_any _ hE.1 hE.2 _))
  have K1 : Hid (∀ d os, Calls Tryz.prog 42 #[.int .i64 b.x.height] (grow (redrawn w1 d) os) fun e w'' => e = .returned (str (numBytes b.x.height)) ∧ ∃ p : Regrown, w'' = grow (redrawn w1 p.d) p.os) := Lib.hid (fun d os => Calls.regrown_of (refnum_any _ hH.1 hH.2 _))
  have K2 : Hid (∀ d os, Calls Tryz.prog 111 #[.agg (b.x.prev.map bv).toArray] (grow (redrawn w1 d) os) fun e w'' => e = .returned (str b.x.prev) ∧ ∃ p : Regrown, w'' = grow (redrawn w1 p.d) p.os) := Lib.hid (fun d os => Calls.regrown_of (digstr_any _ b.x.lp _))
  have K3 : Hid (∀ d os, Calls Tryz.prog 111 #[.agg (b.x.state.map bv).toArray] (grow (redrawn w1 d) os) fun e w'' => e = .returned (str b.x.state) ∧ ∃ p : Regrown, w'' = grow (redrawn w1 p.d) p.os) := Lib.hid (fun d os => Calls.regrown_of (digstr_any _ b.x.ls _))
  have K4 : Hid (∀ d os, Calls Tryz.prog 111 #[.agg (b.x.next.map bv).toArray] (grow (redrawn w1 d) os) fun e w'' => e = .returned (str b.x.next) ∧ ∃ p : Regrown, w'' = grow (redrawn w1 p.d) p.os) := Lib.hid (fun d os => Calls.regrown_of (digstr_any _ b.x.ln _))
  have K5 : Hid (∀ d os, Calls Tryz.prog 42 #[.int .i64 (b.x.reqs.length : Int)] (grow (redrawn w1 d) os) fun e w'' => e = .returned (str (numBytes (b.x.reqs.length : Int))) ∧ ∃ p : Regrown, w'' = grow (redrawn w1 p.d) p.os) := Lib.hid (fun d os => Calls.regrown_of (refnum_any _ (by omega) (by have := hz.len; omega) _))
  obtain ⟨q5, hq5⟩ : ∃ q5, q5 = ((((numBytes b.x.epoch ++ numBytes b.x.height) ++ b.x.prev) ++ b.x.state) ++ b.x.next) ++ numBytes (b.x.reqs.length : Int) := ⟨_, rfl⟩
  have HB5 : Hid (blkB b.x = q5 ++ b.x.reqs.flatMap reqB) := Lib.hid (by
    rw [hq5]
    unfold blkB
    simp)
  have HQ5 : Hid (q5.length = 120) := Lib.hid (by
    rw [hq5]
    simp only [List.length_append, numBytes_len, b.x.lp, b.x.ls, b.x.ln])
  obtain ⟨s1, t1, u1⟩ := cat14 (numBytes b.x.epoch) (numBytes b.x.height) (k := 1000) (by rw [numBytes_len]; omega) (by rw [numBytes_len]; omega)
  obtain ⟨s2, t2, u2⟩ := cat14 (numBytes b.x.epoch ++ numBytes b.x.height) b.x.prev (k := 1000) (by simp only [List.length_append, numBytes_len]; omega) (by rw [b.x.lp]; omega)
  obtain ⟨s3, t3, u3⟩ := cat14 ((numBytes b.x.epoch ++ numBytes b.x.height) ++ b.x.prev) b.x.state (k := 1000) (by simp only [List.length_append, numBytes_len, b.x.lp]; omega) (by rw [b.x.ls]; omega)
  obtain ⟨s4, t4, u4⟩ := cat14 (((numBytes b.x.epoch ++ numBytes b.x.height) ++ b.x.prev) ++ b.x.state) b.x.next (k := 1000) (by simp only [List.length_append, numBytes_len, b.x.lp, b.x.ls]; omega) (by rw [b.x.ln]; omega)
  obtain ⟨s5, t5, u5⟩ := cat14c hq5.symm (k := 1000) (by simp only [List.length_append, numBytes_len, b.x.lp, b.x.ls, b.x.ln]; omega) (by rw [numBytes_len]; omega)
  have Q0 : ∀ d os, (grow (redrawn w1 d) os).cell? ⟨w.heap.size, 0, none⟩ = some (.int .i64 b.x.epoch) := fun d os => (HC.out _ (below_regrown w1 d os)).1
  have Q1 : ∀ d os, (grow (redrawn w1 d) os).cell? ⟨w.heap.size, 1, none⟩ = some (.int .i64 b.x.height) := fun d os => (HC.out _ (below_regrown w1 d os)).2.1
  have Q2 : ∀ d os, (ldDigest (.pointer (some ⟨w.heap.size, 2, none⟩))).run Tryz.prog (grow (redrawn w1 d) os) = .ok (.agg (b.x.prev.map bv).toArray) (grow (redrawn w1 d) os) := fun d os => (HC.out _ (below_regrown w1 d os)).2.2.1
  have Q3 : ∀ d os, (ldDigest (.pointer (some ⟨w.heap.size, 34, none⟩))).run Tryz.prog (grow (redrawn w1 d) os) = .ok (.agg (b.x.state.map bv).toArray) (grow (redrawn w1 d) os) := fun d os => (HC.out _ (below_regrown w1 d os)).2.2.2.1
  have Q4 : ∀ d os, (ldDigest (.pointer (some ⟨w.heap.size, 66, none⟩))).run Tryz.prog (grow (redrawn w1 d) os) = .ok (.agg (b.x.next.map bv).toArray) (grow (redrawn w1 d) os) := fun d os => (HC.out _ (below_regrown w1 d os)).2.2.2.2.1
  have Q5 : ∀ d os, (grow (redrawn w1 d) os).cell? ⟨w.heap.size, 98, none⟩ = some (.slice b.A b.x.reqs.length b.z) := fun d os => (HC.out _ (below_regrown w1 d os)).2.2.2.2.2
  have HC98 : Hid (∀ w', Below w1.heap.size w1 w' → w'.cell? ⟨w.heap.size, 98, none⟩ = some (.slice b.A b.x.reqs.length b.z)) := Lib.hid (fun w' hb => (HC.out w' hb).2.2.2.2.2)
  clear HC HX hS hnum hz hE hH hq5
  obtain ⟨RES, hRES⟩ : ∃ R, R = str (blkB b.x) := ⟨_, rfl⟩
  have HRS := Lib.hid hRES
  rw [← hRES]
  clear hRES
  generalize (((numBytes b.x.epoch ++ numBytes b.x.height) ++ b.x.prev) ++ b.x.state) ++ b.x.next = q4 at *
  generalize ((numBytes b.x.epoch ++ numBytes b.x.height) ++ b.x.prev) ++ b.x.state = q3 at *
  generalize (numBytes b.x.epoch ++ numBytes b.x.height) ++ b.x.prev = q2 at *
  generalize numBytes b.x.epoch ++ numBytes b.x.height = q1 at *
  generalize numBytes b.x.epoch = p0 at *
  generalize numBytes b.x.height = p1 at *
  generalize numBytes (b.x.reqs.length : Int) = p5 at *
  generalize (b.x.prev.map bv).toArray = D2 at *
  generalize (b.x.state.map bv).toArray = D3 at *
  generalize (b.x.next.map bv).toArray = D4 at *
  generalize b.x.prev = p2 at *
  generalize b.x.state = p3 at *
  generalize b.x.next = p4 at *
  generalize b.cells.toArray = BC at *
  generalize b.x.epoch = n0 at *
  generalize b.x.height = n1 at *
  go_enter Tryz.func72, Tryz.ntmps72
  go_upto_region 1 with fail
  change Code.wp _ _ _ _ (w.alloc (.cells BC 29))
  rw [← hw1]
  clear hw1
  refine wp_region_quiet_below (by kernel_rfl) (by kernel_rfl) ?_
  repeat (go_big_quiet_step (first
    | (go_at_call 42; with_reducible exact K0.out _ _)
    | (go_at_call 42; with_reducible exact K1.out _ _)
    | (go_at_call 111; with_reducible exact K2.out _ _)
    | (go_at_call 111; with_reducible exact K3.out _ _)
    | (go_at_call 111; with_reducible exact K4.out _ _)
    | (go_at_call 42; with_reducible exact K5.out _ _)))
  refine wpQuiet_nil ?_
  intro _ hw'
  obtain ⟨⟨dq, osq⟩, hw''⟩ := hw'
  subst hw''
  have HB7 := Lib.hid (below_regrown w1 dq osq)
  clear Q0 Q1 Q2 Q3 Q4 Q5 K0 K1 K2 K3 K4 K5 s1 s2 s3 s4 s5 t1 t2 t3 t4 t5 u1 u2 u3 u4 u5
  generalize grow (redrawn w1 dq) osq = w7 at *
  have c98 := HC98.out w7 HB7.out
  go_wp2
  clear c98 HC98
  have HF7 := Lib.hid (HF.out.trans (HB7.out.mono HF.out.size))
  have HS7 := Lib.hid (HS.out.far HB7.out)
  have HSA : Hid (q5 = q5 ++ (b.x.reqs.take 0).flatMap reqB) := Lib.hid (by simp)
  clear HS HB7 HF
  generalize b.x.reqs = xs at *
  generalize b.A = A at *
  generalize b.z = z at *
  go_loopw [3, 33] (fun s i wr => ∃ (k : Nat) (T : List UInt8), k ≤ xs.length ∧ s = .string ⟨T.toArray⟩ ∧ Hid (T = q5 ++ (xs.take k).flatMap reqB) ∧ i = .int .i64 (k : Int) ∧ Hid (Below w7.heap.size w7 wr)) (fun _ i _ => xs.length - (intOf i).toNat)
  case atStart => exact ⟨0, _, Nat.zero_le _, rfl, HSA, rfl, Lib.hid (Below.refl _ _)⟩
  case round =>
    clear HSA
    obtain ⟨k, T, hk, rfl, HT', rfl, HW⟩ := hrel
    by_cases hlt : k < xs.length
    · have HLT := Lib.hid hlt
      obtain ⟨g, o, rfl, _, hr⟩ := (HS7.out.far HW.out).at_ hlt
      have lk := hr k hlt
      have i1 : (k : Int) < (xs.length : Int) := by omega
      have i0 : (0 : Int) ≤ (k : Int) := by omega
      have wk : IntKind.i64.wrap ((k : Int) + 1) = ((k + 1 : Nat) : Int) := by rw [IntKind.wrap_i64]; have := HL.out; omega
      obtain ⟨w4, hst, hb4, hg4⟩ := (Box.made wr 113 zreqV).st_req rfl (xs[k]'hlt)
      have hF4 : Below wr.heap.size wr w4 := ((Below.refl _ _).alloc (Nat.le_refl _) _).trans (below_only hg4 (Nat.le_refl _) (by simp))
      have HW4 := Lib.hid (HW.out.trans (hF4.mono HW.out.size))
      have l4 := hb4.ld_req
      have HK := Lib.hid (rreqbytes_any (xs[k]'hlt) (HN.out _ (List.getElem_mem hlt)) (HT.out _ (List.getElem_mem hlt)) w4)
      have ht1 : T.length ≤ 120 + 64 * 67108864 := by
        rw [HT'.out, List.length_append, HQ5.out]
        have h1 := reqs_size (xs := xs.take k) (fun q hq => HT.out q (List.mem_of_mem_take hq))
        have h2 : (xs.take k).length ≤ 64 := by rw [List.length_take]; have := HL.out; omega
        have h3 : (xs.take k).length * 67108864 ≤ 64 * 67108864 := Nat.mul_le_mul_right _ h2
        omega
      have ht2 : (reqB (xs[k]'hlt)).length ≤ 67108864 := reqB_size (HT.out _ (List.getElem_mem hlt))
      have HT2 : Hid (T ++ reqB (xs[k]'hlt) = q5 ++ (xs.take (k + 1)).flatMap reqB) := Lib.hid (by rw [HT'.out, List.append_assoc, ← reqs_take14 hlt])
      obtain ⟨U, hU⟩ : ∃ U, T ++ reqB (xs[k]'hlt) = U := ⟨_, rfl⟩
      rw [hU] at HT2
      obtain ⟨s1, t1, u1⟩ := cat14c hU (k := 5000000000) (by omega) (by omega)
      have hs1 := Nat.add_le_add t1 u1
      generalize reqB (xs[k]'hlt) = rb at *
      generalize xs[k]'hlt = q at *
      clear hr hb4 hg4 hF4 hU ht1 ht2 HT'
      go_wp2_with (go_at_call 112; (with_reducible refine (HK.out).mono ?_); rintro e w5 ⟨rfl, hb⟩; have HW5 := Lib.hid (HW4.out.trans (hb.mono HW4.out.size)); clear hb)
      go_roundw
      case rel => exact ⟨k + 1, U, HLT.out, rfl, HT2, by go_num, HW5⟩
      case measure => have := HLT.out; simp [intOf]; omega
    · have i1 : ¬ (k : Int) < (xs.length : Int) := by omega
      have hE : blkB b.x = T := by
        rw [HB5.out, HT'.out, List.take_of_length_le (by omega)]
      go_wp2
      go_ret
      exact ⟨ret_val (by rw [HRS.out, hE]; rfl), HF7.out.trans (HW.out.mono HF7.out.size)⟩


attribute [local go_sem ↓] ldBlk_def stDigest_def
set_option maxRecDepth 100000 in
set_option maxHeartbeats 4000000 in
theorem rblkdgt_any (b : BlkM) (hz : Small12 b.x) (hE : R64 b.x.epoch) (hH : R64 b.x.height) (hnum : ∀ q ∈ b.x.reqs, R64 q.client ∧ R64 q.num ∧ R64 q.kind ∧ R64 q.ck ∧ R64 q.cid ∧ R64 q.cn ∧ R64 q.high) (w : World) (hS : QSee w w.heap.size b.A b.x.reqs) :
    Calls Tryz.prog 36 #[.agg b.cells.toArray] w fun e w' => e = .returned (.agg ((blkD b.x).map bv).toArray) ∧ Below w.heap.size w w' := by
  obtain ⟨w1, hw1⟩ : ∃ w1, w1 = (w.alloc (.cells b.cells.toArray 29)).alloc (.cells zs32 26) := ⟨_, rfl⟩
  have hX : Box w1 w.heap.size 29 b.cells.toArray := by rw [hw1]; exact (Box.made w _ _).alloc _
  have HO : Hid (Box w1 (w.heap.size + 1) 26 zs32) := by rw [hw1]; exact Box.made_at (by simp) _ _
  have HF : Hid (Below w.heap.size w w1) := by rw [hw1]; exact ((Below.refl _ _).alloc (Nat.le_refl _) _).alloc (by simp) _
  have lb := hX.ld_blk
  have HB := Lib.hid (rblkbytes_any b hz hE hH hnum w1 (hS.far HF.out))
  have hbl : (blkB b.x).length ≤ 4294967416 := hz.bytes
  obtain ⟨X, hX'⟩ : ∃ X, bkMark ++ blkB b.x = X := ⟨_, rfl⟩
  have HT : Hid (∀ w', Calls Tryz.prog 71 #[.string ⟨X.toArray⟩] w' fun e w'' => e = .returned (.agg ((blkD b.x).map bv).toArray) ∧ Below w'.heap.size w' w'') := Lib.hid (fun w' => by
    have h := text_any X (by rw [← hX', List.length_append]; simp only [bkMark, List.length_cons, List.length_nil]; omega) w'
    rw [← hX'] at h ⊢
    exact h)
  obtain ⟨s1, t1, u1⟩ := cat14c hX' (k := 5000000000) (by simp only [bkMark, List.length_cons, List.length_nil]; omega) (by omega)
  have hs1 := Nat.add_le_add t1 u1
  simp only [bkMark, List.length_cons, List.length_nil] at s1 t1 hs1
  have HDL := Lib.hid (blkD_len b.x)
  clear hX hz hE hH hnum hS hX' hbl
  generalize blkB b.x = bs at *
  generalize blkD b.x = d at *
  generalize b.cells.toArray = cs at *
  go_enter Tryz.func36, Tryz.ntmps36
  go_upto_region 1 with fail
  change Code.wp _ _ _ _ ((w.alloc (.cells cs 29)).alloc (.cells zs32 26))
  rw [← hw1]
  clear hw1
  go_wp2_with (first | (go_at_call 72; (with_reducible refine (HB.out).mono ?_); rintro e w2 ⟨rfl, hb2⟩; have HB2 := Lib.hid hb2; clear hb2) | (go_at_call 71; (with_reducible refine (HT.out _).mono ?_); rintro e w3 ⟨rfl, hb3⟩; have HB3 := Lib.hid (HB2.out.trans (hb3.mono HB2.out.size)); clear hb3; have hst := (HO.out.below HB3.out HO.out.lt).store_digest rfl d HDL.out))
  have HF3 := HF.out.trans (HB3.out.mono HF.out.size)
  exact ret_dig rfl rfl rfl ((HO.out.below HB3.out HO.out.lt).cells_dig rfl HDL.out) HDL.out ⟨rfl, below_cells HF3 (by omega) HF3.size 0 _⟩
end Go.Proofs.YtejnfgcnifcpaaaGreatDoor

namespace Go.Proofs.YtejnfgcnifcpaaaGreatDoor
open Go.RowKit Go.Maps Go.Sort

/-- A vote's numbers are ints. -/
structure VtNum (x : VtX) : Prop where
  kind : R64 x.kind
  epoch : R64 x.epoch
  height : R64 x.height
  round : R64 x.round
  frm : R64 x.frm

attribute [local go_sem ↓] ldDigest_def
set_option maxRecDepth 100000 in
set_option maxHeartbeats 4000000 in
theorem rhead_any (m : VtM) (hN : VtNum m.x) (w : World) :
    Calls Tryz.prog 82 #[.agg m.cells.toArray] w fun e w' => e = .returned (str (headB m.x)) ∧ Below w.heap.size w w' := by
  obtain ⟨w1, hw1⟩ : ∃ w1, w1 = w.alloc (.cells m.cells.toArray 69) := ⟨_, rfl⟩
  have HX : Hid (Box w1 w.heap.size 69 m.cells.toArray) := by rw [hw1]; exact Box.made _ _ _
  have HF : Hid (Below w.heap.size w w1) := by rw [hw1]; exact (Below.refl _ _).alloc (Nat.le_refl _) _
  have c0 : w1.cell? ⟨w.heap.size, 0, none⟩ = some (.int .i64 m.x.kind) := HX.out.vt_0
  have c1 : w1.cell? ⟨w.heap.size, 1, none⟩ = some (.int .i64 m.x.epoch) := HX.out.vt_1
  have c2 : w1.cell? ⟨w.heap.size, 2, none⟩ = some (.int .i64 m.x.height) := HX.out.vt_2
  have c3 : w1.cell? ⟨w.heap.size, 3, none⟩ = some (.int .i64 m.x.round) := HX.out.vt_3
  have c36 : w1.cell? ⟨w.heap.size, 36, none⟩ = some (.int .i64 m.x.frm) := HX.out.vt_36 m.x.len
  have HLD : Hid (∀ w', Below w1.heap.size w1 w' → (ldDigest (.pointer (some ⟨w.heap.size, 4, none⟩))).run Tryz.prog w' = .ok (.agg (m.x.dig.map bv).toArray) w') := Lib.hid (fun w' hb => range_load (HX.out.below hb HX.out.lt).vt_dig m.x.len)
  have HDS : Hid (∀ w', Calls Tryz.prog 111 #[.agg (m.x.dig.map bv).toArray] w' fun e w'' => e = .returned (str m.x.dig) ∧ Below w'.heap.size w' w'') := Lib.hid (fun w' => digstr_any m.x.dig m.x.len w')
  have HE : Hid (headB m.x = [m.x.kind, m.x.epoch, m.x.height, m.x.round, m.x.frm].flatMap numBytes ++ m.x.dig) := Lib.hid rfl
  have HDL := Lib.hid m.x.len
  have HR := Lib.hid hN
  have l1 := hN.kind
  clear l1 hN HX
  generalize m.cells.toArray = cs at *
  generalize headB m.x = RS at *
  generalize (m.x.dig.map bv).toArray = DC at *
  generalize m.x.dig = dg at *
  have HR' : Hid (R64 m.x.kind ∧ R64 m.x.epoch ∧ R64 m.x.height ∧ R64 m.x.round ∧ R64 m.x.frm) := ⟨HR.out.kind, HR.out.epoch, HR.out.height, HR.out.round, HR.out.frm⟩
  clear HR
  generalize m.x.kind = n0 at *
  generalize m.x.epoch = n1 at *
  generalize m.x.height = n2 at *
  generalize m.x.round = n3 at *
  generalize m.x.frm = n4 at *
  go_enter Tryz.func82, Tryz.ntmps82
  go_upto_region 1 with fail
  change Code.wp _ _ _ _ (w.alloc (.cells cs 69))
  rw [← hw1]
  clear hw1
  go_wp2
  clear c0 c1 c2 c3 c36
  go_loopw [3, 17] (fun s i wr => ∃ (k : Nat) (T : List UInt8), k ≤ 5 ∧ s = .string ⟨T.toArray⟩ ∧ Hid (T = ([n0, n1, n2, n3, n4].take k).flatMap numBytes) ∧ i = .int .i64 (k : Int) ∧ Hid (Below w1.heap.size w1 wr)) (fun _ i _ => 5 - (intOf i).toNat)
  case atStart => exact ⟨0, [], by omega, rfl, Lib.hid (by simp), rfl, Lib.hid (Below.refl _ _)⟩
  case round =>
    obtain ⟨k, T, hk, rfl, HT, rfl, HW⟩ := hrel
    by_cases hlt : k < 5
    · have HLT := Lib.hid hlt
      obtain ⟨n, hix, hn, hnx⟩ : ∃ n : Int, (Instr.index 165 (.agg #[.int .i64 n0, .int .i64 n1, .int .i64 n2, .int .i64 n3, .int .i64 n4]) (.int .i64 (k : Int))).run Tryz.prog wr = .ok (.int .i64 n) wr ∧ R64 n ∧ ([n0, n1, n2, n3, n4].take (k + 1)).flatMap numBytes = ([n0, n1, n2, n3, n4].take k).flatMap numBytes ++ numBytes n := by
        have h := HR'.out
        match k, hlt with
        | 0, _ => exact ⟨n0, by kernel_rfl, h.1, by simp⟩
        | 1, _ => exact ⟨n1, by kernel_rfl, h.2.1, by simp⟩
        | 2, _ => exact ⟨n2, by kernel_rfl, h.2.2.1, by simp⟩
        | 3, _ => exact ⟨n3, by kernel_rfl, h.2.2.2.1, by simp⟩
        | 4, _ => exact ⟨n4, by kernel_rfl, h.2.2.2.2, by simp⟩
      have j1 : (k : Int) < 5 := by omega
      have j0 : (0 : Int) ≤ (k : Int) := by omega
      have wj : IntKind.i64.wrap ((k : Int) + 1) = ((k + 1 : Nat) : Int) := by rw [IntKind.wrap_i64]; omega
      have ht1 : T.length ≤ 40 := by
        rw [HT.out, nums_len]
        have := List.length_take_le k [n0, n1, n2, n3, n4]
        have h5 : ([n0, n1, n2, n3, n4].take k).length ≤ 5 := Nat.le_trans this (by omega)
        omega
      have HT2 : Hid (T ++ numBytes n = ([n0, n1, n2, n3, n4].take (k + 1)).flatMap numBytes) := Lib.hid (by rw [hnx, HT.out])
      have HNC : Hid (∀ w', Calls Tryz.prog 42 #[.int .i64 n] w' fun e w'' => e = .returned (str (numBytes n)) ∧ Below w'.heap.size w' w'') := Lib.hid (fun w' => refnum_any n hn.1 hn.2 w')
      obtain ⟨U, hU⟩ : ∃ U, T ++ numBytes n = U := ⟨_, rfl⟩
      rw [hU] at HT2
      obtain ⟨s1, t1, u1⟩ := cat14c hU (k := 1000) (by omega) (by rw [numBytes_len]; omega)
      have hs1 := Nat.add_le_add t1 u1
      generalize numBytes n = rb at *
      clear hn hnx hU ht1 hk hlt
      go_wp2_with (go_at_call 42; (with_reducible refine (HNC.out _).mono ?_); rintro e w5 ⟨rfl, hb⟩; have HW5 := Lib.hid (HW.out.trans (hb.mono HW.out.size)); clear hb)
      go_roundw
      case rel => exact ⟨k + 1, U, HLT.out, rfl, HT2, by go_num, HW5⟩
      case measure => have := HLT.out; simp [intOf]; omega
    · have j1 : ¬ (k : Int) < 5 := by omega
      have hT : T = [n0, n1, n2, n3, n4].flatMap numBytes := by
        rw [HT.out, List.take_of_length_le (by simp; omega)]
      have hl : T.length = 40 := by rw [hT, nums_len]; rfl
      have HE2 : Hid (RS = T ++ dg) := Lib.hid (by rw [HE.out, hT])
      obtain ⟨s1, t1, u1⟩ := cat14c HE2.out.symm (k := 1000) (by omega) (by rw [HDL.out]; omega)
      have hs1 := Nat.add_le_add t1 u1
      have ld := HLD.out wr HW.out
      clear hT hl HT hk hlt
      go_wp2_with (go_at_call 111; (with_reducible refine (HDS.out _).mono ?_); rintro e w5 ⟨rfl, hb⟩; have HW5 := Lib.hid (HW.out.trans (hb.mono HW.out.size)); clear hb)
      go_ret
      exact ⟨ret_val rfl, HF.out.trans (HW5.out.mono HF.out.size)⟩

attribute [local go_sem ↓] ldVt_def stDigest_def
set_option maxRecDepth 100000 in
set_option maxHeartbeats 4000000 in
theorem rsigns_any (m : VtM) (hN : VtNum m.x) (w : World) :
    Calls Tryz.prog 76 #[.agg m.cells.toArray] w fun e w' => e = .returned (.agg ((voteD m.x).map bv).toArray) ∧ Below w.heap.size w w' := by
  obtain ⟨w1, hw1⟩ : ∃ w1, w1 = (w.alloc (.cells m.cells.toArray 69)).alloc (.cells zs32 26) := ⟨_, rfl⟩
  have hX : Box w1 w.heap.size 69 m.cells.toArray := by rw [hw1]; exact (Box.made w _ _).alloc _
  have HO : Hid (Box w1 (w.heap.size + 1) 26 zs32) := by rw [hw1]; exact Box.made_at (by simp) _ _
  have HF : Hid (Below w.heap.size w w1) := by rw [hw1]; exact ((Below.refl _ _).alloc (Nat.le_refl _) _).alloc (by simp) _
  have lb := hX.ld_vt
  have HB := Lib.hid (rhead_any m hN w1)
  have hbl : (headB m.x).length = 72 := headB_len m.x
  obtain ⟨X, hX'⟩ : ∃ X, voMark ++ headB m.x = X := ⟨_, rfl⟩
  have HT : Hid (∀ w', Calls Tryz.prog 71 #[.string ⟨X.toArray⟩] w' fun e w'' => e = .returned (.agg ((voteD m.x).map bv).toArray) ∧ Below w'.heap.size w' w'') := Lib.hid (fun w' => by
    have h := text_any X (by rw [← hX', List.length_append]; simp only [voMark, List.length_cons, List.length_nil]; omega) w'
    rw [← hX'] at h ⊢
    exact h)
  obtain ⟨s1, t1, u1⟩ := cat14c hX' (k := 5000000000) (by simp only [voMark, List.length_cons, List.length_nil]; omega) (by omega)
  have hs1 := Nat.add_le_add t1 u1
  simp only [voMark, List.length_cons, List.length_nil] at s1 t1 hs1
  have HDL := Lib.hid (voteD_len m.x)
  clear hX hN hX' hbl
  generalize headB m.x = bs at *
  generalize voteD m.x = d at *
  generalize m.cells.toArray = cs at *
  go_enter Tryz.func76, Tryz.ntmps76
  go_upto_region 1 with fail
  change Code.wp _ _ _ _ ((w.alloc (.cells cs 69)).alloc (.cells zs32 26))
  rw [← hw1]
  clear hw1
  go_wp2_with (first | (go_at_call 82; (with_reducible refine (HB.out).mono ?_); rintro e w2 ⟨rfl, hb2⟩; have HB2 := Lib.hid hb2; clear hb2) | (go_at_call 71; (with_reducible refine (HT.out _).mono ?_); rintro e w3 ⟨rfl, hb3⟩; have HB3 := Lib.hid (HB2.out.trans (hb3.mono HB2.out.size)); clear hb3; have hst := (HO.out.below HB3.out HO.out.lt).store_digest rfl d HDL.out))
  have HF3 := HF.out.trans (HB3.out.mono HF.out.size)
  exact ret_dig rfl rfl rfl ((HO.out.below HB3.out HO.out.lt).cells_dig rfl HDL.out) HDL.out ⟨rfl, below_cells HF3 (by omega) HF3.size 0 _⟩
end Go.Proofs.YtejnfgcnifcpaaaGreatDoor

namespace Go.Proofs.YtejnfgcnifcpaaaGreatDoor
open Go.RowKit Go.Maps Go.Sort

set_option maxRecDepth 100000 in
theorem range_tail14 {w : World} {g o : Nat} {a : Value} {l : List Value} (h : w.rangeAt g o (a :: l)) : w.rangeAt g (o + 1) l := fun j v hv => by
  have h1 := h (j + 1) v (by simpa using hv)
  rwa [show o + (j + 1) = o + 1 + j by omega] at h1
set_option maxRecDepth 100000 in
theorem find_has14 {ms : List MemX} {i : Int} (h : posN ms i < ms.length) : findM ms i = ms[posN ms i]'h ∧ hasB ms i = true ∧ posI ms i = (posN ms i : Int) := by
  refine ⟨?_, decide_eq_true h, if_pos h⟩
  unfold findM
  rw [if_pos h, List.getD_eq_getElem?_getD, List.getElem?_eq_getElem h]
  rfl
set_option maxRecDepth 100000 in
theorem find_not14 {ms : List MemX} {i : Int} (h : ¬ posN ms i < ms.length) : hasB ms i = false ∧ posI ms i = -1 := ⟨decide_eq_false h, if_neg h⟩

attribute [local go_sem ↓] ldVt_def ldDigest_def ldCf_def ldSg_def ldKy13_def
set_option maxRecDepth 100000 in
set_option maxHeartbeats 8000000 in
theorem rright_any (ms : List MemX) (ep : Int) (A : Option Addr) (c : Nat) (hn : ms.length ≤ 1099511627776) (m : VtM) (hN : VtNum m.x) (w : World) (hS : Mems w w.heap.size A ms) (hs : SgSee w m.sg) :
    Calls Tryz.prog 37 #[.agg (cfgV ep A ms.length c), .agg m.cells.toArray] w fun e w' => e = .returned (.bool (rightX14 ms ep m.x)) ∧ Below w.heap.size w w' := by
  obtain ⟨w1, hw1⟩ : ∃ w1, w1 = (w.alloc (.cells (cfgV ep A ms.length c) 24)).alloc (.cells m.cells.toArray 69) := ⟨_, rfl⟩
  have hX : Box w1 w.heap.size 24 (cfgV ep A ms.length c) := by rw [hw1]; exact (Box.made w _ _).alloc _
  have hV : Box w1 (w.heap.size + 1) 69 m.cells.toArray := by rw [hw1]; exact Box.made_at (by simp) _ _
  have HF : Hid (Below w.heap.size w w1) := by rw [hw1]; exact ((Below.refl _ _).alloc (Nat.le_refl _) _).alloc (by simp) _
  have HC : Hid (∀ w', Below w1.heap.size w1 w' → (ldCf (.pointer (some ⟨w.heap.size, 0, none⟩))).run Tryz.prog w' = .ok (.agg (cfgV ep A ms.length c)) w' ∧ w'.cell? ⟨w.heap.size, 0, none⟩ = some (.int .i64 ep) ∧ (ldVt (.pointer (some ⟨w.heap.size + 1, 0, none⟩))).run Tryz.prog w' = .ok (.agg m.cells.toArray) w' ∧ w'.cell? ⟨w.heap.size + 1, 1, none⟩ = some (.int .i64 m.x.epoch) ∧ w'.cell? ⟨w.heap.size + 1, 36, none⟩ = some (.int .i64 m.x.frm) ∧
      (ldSg (.pointer (some ⟨w.heap.size + 1, 37, none⟩))).run Tryz.prog w' = .ok (.agg m.sg.cells) w' ∧ w'.cell? ⟨w.heap.size, 1, none⟩ = some (.slice A ms.length c)) := Lib.hid (fun w' hb => by
    have hx := hX.below hb hX.lt
    have hv := hV.below hb hV.lt
    exact ⟨hx.l_cf, hx.cell 0, hv.ld_vt, hv.vt_1, hv.vt_36 m.x.len, hv.ld_vsg, hx.cell 1⟩)
  have hn2 : ms.length ≤ maxLen := Nat.le_trans hn (by simp [maxLen])
  have HM := Lib.hid (hS.far HF.out)
  have HG := Lib.hid (hs.call HF.out)
  have HPL := Lib.hid (place_any ms ep A c hn2 m.x.frm w1 HM.out)
  have HGD : Hid (∀ w', Calls Tryz.prog 74 #[.agg m.cells.toArray] w' fun e w'' => e = .returned (.bool (vGood m.x)) ∧ Below w'.heap.size w' w'') := Lib.hid (fun w' => rvgood_any m w')
  have HSN : Hid (∀ w', Calls Tryz.prog 76 #[.agg m.cells.toArray] w' fun e w'' => e = .returned (.agg ((voteD m.x).map bv).toArray) ∧ Below w'.heap.size w' w'') := Lib.hid (fun w' => rsigns_any m hN w')
  have HE : Hid (rightX14 ms ep m.x = (vGood m.x && (decide (m.x.epoch = ep) && (hasB ms m.x.frm && sgGood (findM ms m.x.frm) (voteD m.x) m.sg)))) := Lib.hid rfl
  have HCK : Hid (∀ k : MemX, ∀ w', Below w1.heap.size w1 w' → Calls Tryz.prog 75 #[.agg (keyV k.root k.high), .agg ((voteD m.x).map bv).toArray, .agg m.sg.cells] w' fun e w'' => e = .returned (.bool (sgGood k (voteD m.x) m.sg)) ∧ Below w'.heap.size w' w'') := Lib.hid (fun k w' hb => by
    have h := HG.out.call hb
    exact rkcheck_any k.root (voteD m.x) k.len (voteD_len m.x) k.high m.sg.n m.sg.X m.sg.Y m.sg.P m.sg.A m.sg.B m.sg.C m.sg.a m.sg.b m.sg.c h.cap w' h.A h.B h.C)
  have c36 := (HC.out w1 (Below.refl _ _)).2.2.2.2.1
  have lcf := (HC.out w1 (Below.refl _ _)).1
  clear hX hV hS hs hN hn2
  by_cases hpos : posN ms m.x.frm < ms.length
  rotate_left
  · obtain ⟨h1, h2⟩ := find_not14 hpos
    have HR : Hid (rightX14 ms ep m.x = false) := Lib.hid (by rw [HE.out, h1]; simp)
    rw [h2] at HPL
    clear HE HCK HSN HGD h1 h2 hpos HM HG
    generalize rightX14 ms ep m.x = r at *
    generalize cfgV ep A ms.length c = CF at *
    generalize m.cells.toArray = cs at *
    generalize m.x.frm = n1 at *
    go_enter Tryz.func37, Tryz.ntmps37
    go_upto_region 1 with fail
    change Code.wp _ _ _ _ ((w.alloc (.cells CF 24)).alloc (.cells cs 69))
    rw [← hw1]
    clear hw1
    go_upto_region 2 with (go_at_call 73; (with_reducible refine (HPL.out).mono ?_); rintro e w2 ⟨rfl, hb⟩; have HB2 := Lib.hid hb; clear hb)
    have ldv := (HC.out w2 HB2.out).2.2.1
    go_wp2
    go_ret
    exact ⟨ret_val (congrArg Value.bool HR.out.symm), HF.out.trans (HB2.out.mono HF.out.size)⟩
  obtain ⟨hm, h1, h2⟩ := find_has14 hpos
  have HE2 : Hid (rightX14 ms ep m.x = (vGood m.x && (decide (m.x.epoch = ep) && sgGood (findM ms m.x.frm) (voteD m.x) m.sg))) := Lib.hid (by rw [HE.out, h1]; rfl)
  rw [h2] at HPL
  have HP := Lib.hid hpos
  have hp0 : ¬ ((posN ms m.x.frm : Nat) : Int) < 0 := by omega
  have HKY : Hid (∀ w', Below w1.heap.size w1 w' → ∃ g o, A = some ⟨g, o, none⟩ ∧ (ldKy13 (.pointer (some ⟨g, o + posN ms m.x.frm * 34 + 1, none⟩))).run Tryz.prog w' = .ok (.agg (keyV (findM ms m.x.frm).root (findM ms m.x.frm).high)) w') := Lib.hid (fun w' hb => by
    obtain ⟨g, o, hA, _, hr⟩ := (HM.out.far hb).range hpos
    refine ⟨g, o, hA, ?_⟩
    rw [hm]
    exact range_ky (range_tail14 (hr _ hpos)) (ms[posN ms m.x.frm]'hpos).len)
  have HK := Lib.hid (HCK.out (findM ms m.x.frm))
  clear HE HCK h1 h2 hm HM HG hpos
  generalize findM ms m.x.frm = k at *
  generalize posN ms m.x.frm = p at *
  generalize sgGood k (voteD m.x) m.sg = sg at *
  generalize keyV k.root k.high = KV at *
  generalize ((voteD m.x).map bv).toArray = DC at *
  generalize rightX14 ms ep m.x = r at *
  generalize vGood m.x = gd at *
  generalize cfgV ep A ms.length c = CF at *
  generalize m.cells.toArray = cs at *
  generalize m.sg.cells = SC at *
  generalize m.x.epoch = n0 at *
  generalize m.x.frm = n1 at *
  go_enter Tryz.func37, Tryz.ntmps37
  go_upto_region 1 with fail
  change Code.wp _ _ _ _ ((w.alloc (.cells CF 24)).alloc (.cells cs 69))
  rw [← hw1]
  clear hw1
  go_upto_region 2 with (go_at_call 73; (with_reducible refine (HPL.out).mono ?_); rintro e w2 ⟨rfl, hb⟩; have HB2 := Lib.hid hb; clear hb)
  clear c36 lcf HPL
  have ldv := (HC.out w2 HB2.out).2.2.1
  rcases gd with _ | _
  · have HR : Hid (r = false) := Lib.hid (by rw [HE2.out]; rfl)
    clear HE2
    go_wp2_with (go_at_call 74; (with_reducible refine (HGD.out _).mono ?_); rintro e w3 ⟨rfl, hb⟩; have HB3 := Lib.hid (HB2.out.trans (hb.mono HB2.out.size)); clear hb)
    go_ret
    exact ⟨ret_val (congrArg Value.bool HR.out.symm), HF.out.trans (HB3.out.mono HF.out.size)⟩
  by_cases g0 : n0 = ep
  rotate_left
  · have HR : Hid (r = false) := Lib.hid (by rw [HE2.out, decide_eq_false g0]; rfl)
    have m0 : (n0 != ep) = true := by simpa using g0
    clear HE2 g0
    go_wp2_with (go_at_call 74; (with_reducible refine (HGD.out _).mono ?_); rintro e w3 ⟨rfl, hb⟩; have HB3 := Lib.hid (HB2.out.trans (hb.mono HB2.out.size)); clear hb; have e0 := (HC.out w3 HB3.out).2.1; have e1 := (HC.out w3 HB3.out).2.2.2.1)
    go_ret
    exact ⟨ret_val (congrArg Value.bool HR.out.symm), HF.out.trans (HB3.out.mono HF.out.size)⟩
  subst g0
  have HR : Hid (r = sg) := Lib.hid (by rw [HE2.out]; simp)
  have m0 : (n0 != n0) = false := by simp
  clear HE2
  go_upto_region 4 with (go_at_call 74; (with_reducible refine (HGD.out _).mono ?_); rintro e w3 ⟨rfl, hb⟩; have HB3 := Lib.hid (HB2.out.trans (hb.mono HB2.out.size)); clear hb; have e0 := (HC.out w3 HB3.out).2.1; have e1 := (HC.out w3 HB3.out).2.2.2.1)
  clear e0 e1 m0 ldv HB2
  obtain ⟨g, o, rfl, _⟩ := HKY.out w3 HB3.out
  have Q1 : ∀ d os, (grow (redrawn w3 d) os).cell? ⟨w.heap.size, 1, none⟩ = some (.slice (some ⟨g, o, none⟩) ms.length c) := fun d os => (HC.out _ (HB3.out.trans ((below_regrown w3 d os).mono HB3.out.size))).2.2.2.2.2.2
  have Q2 : ∀ d os, (ldVt (.pointer (some ⟨w.heap.size + 1, 0, none⟩))).run Tryz.prog (grow (redrawn w3 d) os) = .ok (.agg cs) (grow (redrawn w3 d) os) := fun d os => (HC.out _ (HB3.out.trans ((below_regrown w3 d os).mono HB3.out.size))).2.2.1
  have Q3 : ∀ d os, (ldSg (.pointer (some ⟨w.heap.size + 1, 37, none⟩))).run Tryz.prog (grow (redrawn w3 d) os) = .ok (.agg SC) (grow (redrawn w3 d) os) := fun d os => (HC.out _ (HB3.out.trans ((below_regrown w3 d os).mono HB3.out.size))).2.2.2.2.2.1
  have Q4 : ∀ d os, (ldKy13 (.pointer (some ⟨g, o + p * 34 + 1, none⟩))).run Tryz.prog (grow (redrawn w3 d) os) = .ok (.agg KV) (grow (redrawn w3 d) os) := fun d os => by
    obtain ⟨g', o', he, hl⟩ := HKY.out _ (HB3.out.trans ((below_regrown w3 d os).mono HB3.out.size))
    cases he
    exact hl
  have i1 : (p : Int) < (ms.length : Int) := by have := HP.out; omega
  have i0 : (0 : Int) ≤ (p : Int) := by omega
  have K1 : Hid (∀ d os, Calls Tryz.prog 76 #[.agg cs] (grow (redrawn w3 d) os) fun e w'' => e = .returned (.agg DC) ∧ ∃ p : Regrown, w'' = grow (redrawn w3 p.d) p.os) := Lib.hid (fun d os => Calls.regrown_of (HSN.out _))
  have K2 : Hid (∀ d os, Calls Tryz.prog 75 #[.agg KV, .agg DC, .agg SC] (grow (redrawn w3 d) os) fun e w'' => e = .returned (.bool sg) ∧ ∃ p : Regrown, w'' = grow (redrawn w3 p.d) p.os) := Lib.hid (fun d os => Calls.regrown_of (HK.out _ (HB3.out.trans ((below_regrown w3 d os).mono HB3.out.size))))
  clear HC HKY HGD HSN HK
  refine wp_region_quiet_below (by kernel_rfl) (by kernel_rfl) ?_
  repeat (go_big_quiet_step (first
    | (go_at_call 76; with_reducible exact K1.out _ _)
    | (go_at_call 75; with_reducible exact K2.out _ _)))
  refine wpQuiet_nil ?_
  intro _ hw'
  obtain ⟨⟨dq, osq⟩, hw''⟩ := hw'
  subst hw''
  have HB7 := Lib.hid (HF.out.trans ((HB3.out.trans ((below_regrown w3 dq osq).mono HB3.out.size)).mono HF.out.size))
  clear Q1 Q2 Q3 Q4 K1 K2
  generalize grow (redrawn w3 dq) osq = w7 at *
  go_wp2
  go_ret
  exact ⟨ret_val (congrArg Value.bool HR.out.symm), HB7.out⟩
end Go.Proofs.YtejnfgcnifcpaaaGreatDoor
