/-
  The document's ring: Sign.
  The document's ring: Retire.
  The document's leaves of a tree, as a row of their own (wapentakeref05.Leaves).
  The document's ring: Add.
-/
import Derived.Test.YtojgmdagamdcfaaGreatDoorDA
import Derived.Test.YtojgmdagamdcfaaGreatDoorRiSign
import Derived.Test.YtojgmdagamdcfaaGreatDoorKRKey
import Derived.Test.YtojgmdagamdcfaaGreatDoorRiAdd
namespace Go.Proofs.YtojgmdagamdcfaaGreatDoor
open Go.RowKit Go.Maps

attribute [local go_sem ↓] ldKey_def eqKey_def apAll_def ldDigest_def stSig_def

set_option maxRecDepth 100000 in
theorem open_mem (e : Ent) (n : Int) : n ∈ openL e ↔ ∃ j : Nat, n = (j : Int) ∧ j < e.next ∧ e.opens.getD j false = true := by
  unfold openL
  rw [List.mem_map]
  constructor
  · rintro ⟨j, hj, rfl⟩
    exact ⟨j, rfl, (openN_lt.1 hj).1, (openN_lt.1 hj).2⟩
  · rintro ⟨j, rfl, h1, h2⟩
    exact ⟨j, openN_lt.2 ⟨h1, h2⟩, rfl⟩
set_option maxRecDepth 100000 in
theorem openL_shut (e : Ent) (m : Nat) (h : m < e.opens.length) : openL (e.opened m false) = (openL e).filter fun j => decide (j ≠ (m : Int)) := by
  unfold openL
  rw [openN_shut e m h, List.filter_map]
  congr 1
  apply List.filter_congr
  intro x _
  simp only [Function.comp]
  by_cases hx : x = m
  · simp [hx]
  · have : ¬ ((x : Int) = (m : Int)) := by omega
    simp [hx, this]
set_option maxRecDepth 100000 in
theorem rest_none {l : List Int} {n : Int} (h : n ∉ l) : restL (fun j => decide (j ≠ n)) l l.length = l := by
  rw [rest_all, List.filter_eq_self]
  intro a ha
  exact decide_eq_true (fun e => h (e ▸ ha))
set_option maxRecDepth 100000 in
theorem rest_less {n : Int} : ∀ {l : List Int}, n ∈ l → (l.filter fun j => decide (j ≠ n)).length < l.length
  | [], h => by cases h
  | a :: r, h => by
    by_cases ha : a = n
    · rw [List.filter_cons_of_neg (by simp [ha])]
      have := List.length_filter_le (fun j => decide (j ≠ n)) r
      rw [List.length_cons]
      omega
    · have hm : n ∈ r := by
        rcases List.mem_cons.1 h with rfl | h
        · exact absurd rfl ha
        · exact h
      rw [List.filter_cons_of_pos (by simp [ha])]
      have := rest_less hm
      simpa using this
set_option maxRecDepth 100000 in
theorem Like.opened (e : Ent) (i : Nat) (b : Bool) : Like e (e.opened i b) := ⟨rfl, rfl, rfl, rfl, rfl, rfl⟩

set_option maxRecDepth 100000 in
set_option maxHeartbeats 2000000 in
theorem dsign_not {w : World} {B db : Nat} {es : List Ent} (hD : DocW w B db es) (r : List UInt8) (k : Int) (hr : r.length = 32) (hn : es.length ≤ 1000) (hk : ∀ j (hj : j < es.length), (es[j]'hj).is r k = false) (n : Int) (d : List UInt8) :
    Calls Tryz.prog 13 #[.pointer (some ⟨db, 0, none⟩), .agg (keyV r k), .int .i64 n, .agg (d.map bv).toArray] w fun e w' => e = .returned (.tuple #[.agg zsig, .int .i64 7]) ∧ Below w.heap.size w w' := by
  obtain ⟨w1, hw1⟩ : ∃ w1, w1 = ((w.alloc (.cells (keyV r k) 37)).alloc (.cells (d.map bv).toArray 33)).alloc (.cells zsig 48) := ⟨_, rfl⟩
  have HDG : Hid (Box w1 (w.heap.size + 1) 33 (d.map bv).toArray) := by
    rw [hw1]
    exact (Box.made_at (by simp) _ _).alloc _
  have HO : Hid (Box w1 (w.heap.size + 1 + 1) 48 zsig) := by
    rw [hw1]
    exact Box.made_at (by simp) _ _
  have HF : Hid (Below w.heap.size w w1) := by
    rw [hw1]
    exact (((Below.refl _ _).alloc (Nat.le_refl _) _).alloc (by simp) _).alloc (by simp; omega) _
  have HZ : Hid (w1.heap.size = w.heap.size + 1 + 1 + 1) := by
    rw [hw1]
    exact Lib.hid (by simp)
  have lk : (ldKey (.pointer (some ⟨w.heap.size, 0, none⟩))).run Tryz.prog w1 = .ok (.agg (keyV r k)) w1 := by
    rw [hw1]
    exact Box.load_key (((Box.made w 37 (keyV r k)).alloc _).alloc _) hr
  have HN := Lib.hid (dfind_any (hD.call HF.out) r k hr hn)
  rw [fnd_no hk] at HN
  go_enter Tryz.func13, Tryz.ntmps13
  go_upto_region 1 with fail
  change Code.wp _ _ _ _ (((w.alloc (.cells (keyV r k) 37)).alloc (.cells (d.map bv).toArray 33)).alloc (.cells zsig 48))
  rw [← hw1]
  clear hw1
  go_wp2_with (first
    | (go_at_call 27; (with_reducible refine (HN.out).mono ?_); rintro e1 w2 ⟨rfl, hb⟩; have H2 := Lib.hid hb; clear hb)
    | (((with_reducible show wpList _ _ _ ((⟨none, Op.store _ (.tmp 8) (.tmp 20), _, _, _, _⟩ : Oper) :: _) _ _)); refine wpList_store_box rfl 48 (.tmp 8) (.tmp 20) rfl (w.heap.size + 1 + 1) zsig rfl rfl 48 zsig (HO.out.below H2.out HO.out.lt) rfl (sig_size 0 none 0 0 none 0 0 none 0 0) (sig_one 0 none 0 0 none 0 0 none 0 0) ?_; intro w7 hb7 hg7))
  exact ret_sig_tmp rfl rfl rfl rfl hb7 (sig_size 0 none 0 0 none 0 0 none 0 0) ⟨rfl, (HF.out.trans (H2.out.mono HF.out.size)).trans (below_only hg7 (by omega) (HF.out.trans (H2.out.mono HF.out.size)).size)⟩

set_option maxRecDepth 100000 in
set_option maxHeartbeats 4000000 in
theorem dsign_other {w : World} {B db : Nat} {es : List Ent} (hD : DocW w B db es) (r : List UInt8) (k : Int) (hr : r.length = 32) (hn : es.length ≤ 1000) {i : Nat} (hi : i < es.length) (x : Ent) (hx : es[i]'hi = x) (hf : fndI es r k = (i : Int)) (n : Int) (hno : n ∉ openL x) (d : List UInt8) :
    Calls Tryz.prog 13 #[.pointer (some ⟨db, 0, none⟩), .agg (keyV r k), .int .i64 n, .agg (d.map bv).toArray] w fun e w' => e = .returned (.tuple #[.agg zsig, .int .i64 9]) ∧ Below w.heap.size w w' := by
  have HNO := Lib.hid hno
  clear hno
  obtain ⟨w1, hw1⟩ : ∃ w1, w1 = ((w.alloc (.cells (keyV r k) 37)).alloc (.cells (d.map bv).toArray 33)).alloc (.cells zsig 48) := ⟨_, rfl⟩
  have HDG : Hid (Box w1 (w.heap.size + 1) 33 (d.map bv).toArray) := by
    rw [hw1]
    exact (Box.made_at (by simp) _ _).alloc _
  have HO : Hid (Box w1 (w.heap.size + 1 + 1) 48 zsig) := by
    rw [hw1]
    exact Box.made_at (by simp) _ _
  have HF : Hid (Below w.heap.size w w1) := by
    rw [hw1]
    exact (((Below.refl _ _).alloc (Nat.le_refl _) _).alloc (by simp) _).alloc (by simp; omega) _
  have HZ : Hid (w1.heap.size = w.heap.size + 1 + 1 + 1) := by
    rw [hw1]
    exact Lib.hid (by simp)
  have lk : (ldKey (.pointer (some ⟨w.heap.size, 0, none⟩))).run Tryz.prog w1 = .ok (.agg (keyV r k)) w1 := by
    rw [hw1]
    exact Box.load_key (((Box.made w 37 (keyV r k)).alloc _).alloc _) hr
  have HN := Lib.hid (dfind_any (hD.call HF.out) r k hr hn)
  rw [hf] at HN
  have HD1 := Lib.hid (hD.call HF.out)
  go_enter Tryz.func13, Tryz.ntmps13
  go_upto_region 1 with fail
  change Code.wp _ _ _ _ (((w.alloc (.cells (keyV r k) 37)).alloc (.cells (d.map bv).toArray 33)).alloc (.cells zsig 48))
  rw [← hw1]
  clear hw1
  go_upto_region 4 with (go_at_call 27; (with_reducible refine (HN.out).mono ?_); rintro e1 w2 ⟨rfl, hb⟩; have H2 := Lib.hid hb; clear hb)
  obtain ⟨A, c, ps, hP⟩ := HD1.out.call H2.out
  have HP2 := Lib.hid hP
  obtain ⟨g, a, ca, O, co, rfl, hgc, c0, c1, hE, c2, c3, c4⟩ := HP2.out.entry hi
  have hEP := (HP2.out.ents i hi).1
  have i1 : (i : Int) < (es.length : Int) := by omega
  unfold ptrV at c1
  have HB2 := Lib.hid (HF.out.trans (H2.out.mono HF.out.size))
  have HI := Lib.hid hi
  rw [hx] at hE c2 c3 c4 hEP
  have HE := Lib.hid hE
  have HEP := Lib.hid hEP
  have HFEW := Lib.hid (open_few hEP)
  have HO2 := Lib.hid (HO.out.below H2.out HO.out.lt)
  have HDG2 := Lib.hid (HDG.out.below H2.out HDG.out.lt)
  generalize hp : ps.getD i 0 = p at *
  have HPI := Lib.hid hp
  clear hE hEP hx hi HN lk hP hp HD1 HO HDG
  go_wp2
  clear c0 c1 c2 c3
  have HR0 := Lib.hid (RestW.start w2 (fun j => decide (j ≠ n)) (openL x))
  go_loopw [12, 14, 33] (fun v _ z wr => ∃ (q m : Nat) (A : Option Addr) (cc : Nat), q ≤ (openL x).length ∧ z = .int .i64 (q : Int) ∧ v = .slice A m cc ∧ Hid (RestW w2 (fun j => decide (j ≠ n)) (openL x) q A m cc wr)) (fun _ _ z _ => (openL x).length - (intOf z).toNat)
  case atStart => exact ⟨0, 0, none, 0, Nat.zero_le _, rfl, rfl, HR0⟩
  case round =>
    clear HR0
    obtain ⟨q, m, A, cc, hq, rfl, rfl, HR⟩ := hrel
    have few := HFEW.out
    by_cases hlt : q < (openL x).length
    · clear c4
      obtain ⟨g2, rfl, hcell⟩ := own_cell (own_below HE.out.opens HR.out.far) hlt
      have i2 : (q : Int) < ((openL x).length : Int) := by omega
      have HL := Lib.hid hlt
      by_cases hm : (openL x)[q]'hlt ≠ n
      · obtain ⟨A2, n2, c2, w5, hap, hR2⟩ := HR.out.more hlt (decide_eq_true hm) few
        have HR2 := Lib.hid hR2
        have q1 : ((openL x)[q]'hlt != n) = true := by simpa using hm
        generalize (openL x)[q]'hlt = y at *
        clear hR2 hlt hm
        go_wp2
        go_roundw
        case rel => exact ⟨q + 1, n2, A2, c2, HL.out, by go_num, rfl, HR2⟩
        case measure => have := HL.out; simp [intOf]; omega
      · have HR2 := Lib.hid (HR.out.skip hlt (decide_eq_false hm))
        have q1 : ((openL x)[q]'hlt != n) = false := by simpa using hm
        generalize (openL x)[q]'hlt = y at *
        clear hlt hm
        go_wp2
        go_roundw
        case rel => exact ⟨q + 1, m, A, cc, HL.out, by go_num, rfl, HR2⟩
        case measure => have := HL.out; simp [intOf]; omega
    · obtain rfl : q = (openL x).length := by omega
      have hml := HR.out.len
      rw [rest_none HNO.out] at hml
      subst hml
      have hc4 : wr.cell? ⟨p, 67, none⟩ = some (.slice O (openL x).length co) := by
        rw [HR.out.far.cell (p := ⟨p, 67, none⟩) HE.out.box.lt]
        exact c4
      clear c4
      have HBR := Lib.hid (HB2.out.trans (HR.out.far.mono HB2.out.size))
      have HOR := Lib.hid (HO2.out.below HR.out.far HO2.out.lt)
      go_wp2_with (((with_reducible show wpList _ _ _ ((⟨none, Op.store _ (.tmp 8) (.tmp 53), _, _, _, _⟩ : Oper) :: _) _ _)); refine wpList_store_box rfl 48 (.tmp 8) (.tmp 53) rfl (w.heap.size + 1 + 1) zsig rfl rfl 48 zsig (HOR.out) rfl (sig_size 0 none 0 0 none 0 0 none 0 0) (sig_one 0 none 0 0 none 0 0 none 0 0) ?_; intro w7 hb7 hg7)
      exact ret_sig_tmp rfl rfl rfl rfl hb7 (sig_size 0 none 0 0 none 0 0 none 0 0) ⟨rfl, HBR.out.trans (below_only hg7 (by omega) HBR.out.size)⟩

/-- The document's signature, and its ring. -/
def DSignIs (w : World) (B db : Nat) (es : List Ent) (seed : List UInt8) (h n : Nat) (d : List UInt8) (e : Ending) (w' : World) : Prop :=
  ∃ A X C a b c, e = .returned (.tuple #[.agg (sigV (n : Int) A 32 a X 32 b C (pathT (leavesT seed h) n).length c), .int .i64 0]) ∧ Digs w' w'.heap.size A (openT seed (n : Int) d) ∧ Digs w' w'.heap.size X (shutT seed (n : Int) d) ∧ Digs w' w'.heap.size C (pathT (leavesT seed h) n) ∧ DocW w' B db es ∧ DFrame B w w'
set_option maxRecDepth 100000 in
theorem DFrame.new {B g : Nat} {w a b : World} (h : DFrame B w a) (hg : a.grownBy b (some g)) (hn : w.heap.size ≤ g) : DFrame B w b :=
  ⟨hg.os.trans h.os, hg.tape.trans h.tape, hg.output.trans h.output, Nat.le_trans h.size hg.size, fun i hi hr => (hg.block i (Nat.lt_of_lt_of_le hi h.size) (fun e => by injection e with e; omega)).trans (h.block i hi hr)⟩
set_option maxRecDepth 100000 in
/-- A block of another type was written. -/
theorem DocP.other {w w' : World} {B db c g : Nat} {es : List Ent} {A : Option Addr} {ps : List Nat} (h : DocP w B db es A c ps) (hg : w.grownBy w' (some g)) {t : TypeId} {cs : Array Value} (hb : Box w g t cs) (h1 : t ≠ 30) (h2 : t ≠ 74) (h3 : t ≠ 70) (h4 : t ≠ 33) (h5 : t ≠ 3) : DocP w' B db es A c ps := by
  have ne : ∀ {g' t' cs'}, Box w g' t' cs' → t ≠ t' → some g' ≠ some g := fun hb' ht e => by
    injection e with e
    exact Box.apart hb' hb (Ne.symm ht) e
  have own : ∀ {base size n : Nat} {t' : TypeId} {v : Value} {xs : List Value}, w.ownsRow base t' size v n xs → t ≠ t' → w'.ownsRow base t' size v n xs := fun ho ht =>
    own_at ho fun g' cs' _ hb' => hg.block g' hb'.lt (ne hb' ht)
  refine ⟨h.ring.grown hg (ne h.ring h1), own h.list h3, fun j hj => ?_, h.apart, h.low⟩
  obtain ⟨q, a1, ca1, O1, co1, hE⟩ := h.ents j hj
  exact ⟨q, a1, ca1, O1, co1, hE.box.grown hg (ne hE.box h2), own hE.leaves h4, own hE.opens h5⟩
set_option maxRecDepth 100000 in
theorem raw_seed {w : World} {p : Nat} {t : TypeId} {x : Ent} {lv nx ov : Value} (h : Box w p t (rawL x lv nx ov).toArray) : w.rangeAt p 33 (x.seed.map bv) :=
  Box.range_mid (pre := keyL x.root (x.h : Int)) (post := [lv, nx, ov]) h (by rw [keyL_len x.root_len])

set_option maxRecDepth 100000 in
set_option maxHeartbeats 4000000 in
theorem dsign_any {w : World} {B db : Nat} {es : List Ent} (hD : DocW w B db es) (r : List UInt8) (k : Int) (hr : r.length = 32) (hn : es.length ≤ 1000) {i : Nat} (hi : i < es.length) (x : Ent) (hx : es[i]'hi = x) (hf : fndI es r k = (i : Int)) (n : Nat) (hyes : (n : Int) ∈ openL x) (d : List UInt8) (hd : d.length = 32) (hB : B ≤ w.heap.size) :
    Calls Tryz.prog 13 #[.pointer (some ⟨db, 0, none⟩), .agg (keyV r k), .int .i64 (n : Int), .agg (d.map bv).toArray] w (DSignIs w B db (es.set i (x.opened n false)) x.seed x.h n d) := by
  have HYES := Lib.hid hyes
  have HDL := Lib.hid hd
  have HBS := Lib.hid hB
  clear hyes hd hB
  obtain ⟨w1, hw1⟩ : ∃ w1, w1 = ((w.alloc (.cells (keyV r k) 37)).alloc (.cells (d.map bv).toArray 33)).alloc (.cells zsig 48) := ⟨_, rfl⟩
  have HDG : Hid (Box w1 (w.heap.size + 1) 33 (d.map bv).toArray) := by
    rw [hw1]
    exact (Box.made_at (by simp) _ _).alloc _
  have HO : Hid (Box w1 (w.heap.size + 1 + 1) 48 zsig) := by
    rw [hw1]
    exact Box.made_at (by simp) _ _
  have HF : Hid (Below w.heap.size w w1) := by
    rw [hw1]
    exact (((Below.refl _ _).alloc (Nat.le_refl _) _).alloc (by simp) _).alloc (by simp; omega) _
  have HZ : Hid (w1.heap.size = w.heap.size + 1 + 1 + 1) := by
    rw [hw1]
    exact Lib.hid (by simp)
  have lk : (ldKey (.pointer (some ⟨w.heap.size, 0, none⟩))).run Tryz.prog w1 = .ok (.agg (keyV r k)) w1 := by
    rw [hw1]
    exact Box.load_key (((Box.made w 37 (keyV r k)).alloc _).alloc _) hr
  have HN := Lib.hid (dfind_any (hD.call HF.out) r k hr hn)
  rw [hf] at HN
  have HD1 := Lib.hid (hD.call HF.out)
  go_enter Tryz.func13, Tryz.ntmps13
  go_upto_region 1 with fail
  change Code.wp _ _ _ _ (((w.alloc (.cells (keyV r k) 37)).alloc (.cells (d.map bv).toArray 33)).alloc (.cells zsig 48))
  rw [← hw1]
  clear hw1
  go_upto_region 4 with (go_at_call 27; (with_reducible refine (HN.out).mono ?_); rintro e1 w2 ⟨rfl, hb⟩; have H2 := Lib.hid hb; clear hb)
  obtain ⟨A, c, ps, hP⟩ := HD1.out.call H2.out
  have HP2 := Lib.hid hP
  obtain ⟨g, a, ca, O, co, rfl, hgc, c0, c1, hE, c2, c3, c4⟩ := HP2.out.entry hi
  have hEP := (HP2.out.ents i hi).1
  have i1 : (i : Int) < (es.length : Int) := by omega
  unfold ptrV at c1
  have HB2 := Lib.hid (HF.out.trans (H2.out.mono HF.out.size))
  have HI := Lib.hid hi
  rw [hx] at hE c2 c3 c4 hEP
  have HE := Lib.hid hE
  have HEP := Lib.hid hEP
  have HFEW := Lib.hid (open_few hEP)
  have HO2 := Lib.hid (HO.out.below H2.out HO.out.lt)
  have HDG2 := Lib.hid (HDG.out.below H2.out HDG.out.lt)
  generalize hp : ps.getD i 0 = p at *
  have HPI := Lib.hid hp
  clear hE hEP hx hi HN lk hP hp HD1 HO HDG
  go_wp2
  clear c0 c1 c2 c3
  have HR0 := Lib.hid (RestW.start w2 (fun j => decide (j ≠ (n : Int))) (openL x))
  go_loopw [12, 14, 33] (fun v _ z wr => ∃ (q m : Nat) (A : Option Addr) (cc : Nat), q ≤ (openL x).length ∧ z = .int .i64 (q : Int) ∧ v = .slice A m cc ∧ Hid (RestW w2 (fun j => decide (j ≠ (n : Int))) (openL x) q A m cc wr)) (fun _ _ z _ => (openL x).length - (intOf z).toNat)
  case atStart => exact ⟨0, 0, none, 0, Nat.zero_le _, rfl, rfl, HR0⟩
  case round =>
    clear HR0
    obtain ⟨q, m, A, cc, hq, rfl, rfl, HR⟩ := hrel
    have few := HFEW.out
    by_cases hlt : q < (openL x).length
    · clear c4
      obtain ⟨g2, rfl, hcell⟩ := own_cell (own_below HE.out.opens HR.out.far) hlt
      have i2 : (q : Int) < ((openL x).length : Int) := by omega
      have HL := Lib.hid hlt
      by_cases hm : (openL x)[q]'hlt ≠ (n : Int)
      · obtain ⟨A2, n2, c2, w5, hap, hR2⟩ := HR.out.more hlt (decide_eq_true hm) few
        have HR2 := Lib.hid hR2
        have q1 : ((openL x)[q]'hlt != (n : Int)) = true := by simpa using hm
        generalize (openL x)[q]'hlt = y at *
        clear hR2 hlt hm
        go_wp2
        go_roundw
        case rel => exact ⟨q + 1, n2, A2, c2, HL.out, by go_num, rfl, HR2⟩
        case measure => have := HL.out; simp [intOf]; omega
      · have HR2 := Lib.hid (HR.out.skip hlt (decide_eq_false hm))
        have q1 : ((openL x)[q]'hlt != (n : Int)) = false := by simpa using hm
        generalize (openL x)[q]'hlt = y at *
        clear hlt hm
        go_wp2
        go_roundw
        case rel => exact ⟨q + 1, m, A, cc, HL.out, by go_num, rfl, HR2⟩
        case measure => have := HL.out; simp [intOf]; omega
    · obtain rfl : q = (openL x).length := by omega
      have hml := HR.out.len
      rw [rest_all] at hml
      have hless := rest_less HYES.out
      have q2 : ((m : Int) == ((openL x).length : Int)) = false := by
        rw [beq_eq_false_iff_ne]
        omega
      have hc4 : wr.cell? ⟨p, 67, none⟩ = some (.slice O (openL x).length co) := by
        rw [HR.out.far.cell (p := ⟨p, 67, none⟩) HE.out.box.lt]
        exact c4
      clear c4
      obtain ⟨j, hj, hj1, hj2⟩ := (open_mem x (n : Int)).1 HYES.out
      obtain rfl : n = j := by omega
      have hmo : n < x.opens.length := by
        have h1 := HEP.out.many
        have h2 := HEP.out.next
        omega
      have eo : restL (fun j => decide (j ≠ (n : Int))) (openL x) (openL x).length = openL (x.opened n false) := by
        rw [rest_all, openL_shut x n hmo]
      have en : m = (openL (x.opened n false)).length := by rw [HR.out.len, eo]
      have own8 := HR.out.own
      rw [eo] at own8
      have HBS2 : B ≤ w2.heap.size := Nat.le_trans HBS.out HB2.out.size
      have own8' : wr.ownsRow B 3 1 (.slice A m cc) m ((openL (x.opened n false)).map intV) := by
        rcases own8.2 with ⟨h1, h2⟩ | ⟨g', cap, cur, h1, h2, h3⟩
        · exact ⟨own8.1, .inl ⟨h1, h2⟩⟩
        · exact ⟨own8.1, .inr ⟨g', cap, cur, h1, by omega, h3⟩⟩
      have hbx := HE.out.box
      rw [entL_raw] at hbx
      obtain ⟨hE9, g9, ⟨v9, hc9⟩, hf9⟩ := HE.out.open_put HEP.out.seed (Like.opened x n false) hbx (only_refl _ _) HR.out.far en own8'
      have HP9 := Lib.hid (HP2.out.put HI.out (e' := x.opened n false) (HEP.out.opened n false) (by rw [HPI.out]; exact g9) (by rw [HPI.out]; exact hE9))
      have hdoc := HP2.out.entry_doc HI.out
      rw [HPI.out] at hdoc
      have HF9 : Hid (DFrame B w (wr.setCell ⟨p, 67, none⟩ (.slice A m cc))) := Lib.hid ((DFrame.of_below HB2.out).trans (DFrame.of_grown g9 (fun g e => by injection e with e; subst e; exact hdoc)))
      have HO4 := Lib.hid (HO2.out.grown g9 (fun e => by injection e with e; exact Box.apart HO2.out HE.out.box (by decide) e))
      have HDG4 := Lib.hid (HDG2.out.grown g9 (fun e => by injection e with e; exact Box.apart HDG2.out HE.out.box (by decide) e))
      have hb9 := hE9.box
      rw [entL_raw] at hb9
      have HE4 : Hid (Box (wr.setCell ⟨p, 67, none⟩ (.slice A m cc)) p 74 (rawL x (.slice a (2 ^ x.h) ca) (.int .i64 (x.next : Int)) (.slice A (openL (x.opened n false)).length cc)).toArray) := Lib.hid hb9
      have HLF : Hid (Digs (wr.setCell ⟨p, 67, none⟩ (.slice A m cc)) (wr.setCell ⟨p, 67, none⟩ (.slice A m cc)).heap.size a (leavesT x.seed x.h)) := Lib.hid (by
        have hl := hE9.leaves
        have e2 : (2 ^ (x.opened n false).h) = (leavesT x.seed x.h).length := (leaves_len x.seed x.h).symm
        rw [e2] at hl
        exact OwnD.digs hl (leaves_all x.seed x.h))
      have HZ4 : Hid (w.heap.size + 1 + 1 + 1 ≤ (wr.setCell ⟨p, 67, none⟩ (.slice A m cc)).heap.size) := Lib.hid (by
        have h1 := HZ.out
        have h2 := H2.out.size
        have h3 := g9.size
        omega)
      have HMO : Hid (n < 2 ^ x.h) := Lib.hid (by rw [← HEP.out.many]; exact hmo)
      clear hE9 g9 hb9 hbx own8 own8' hdoc hmo hj1 hj2 hj eo en hml hless HBS2 HR
      go_upto_region 15 with fail
      clear hc4 hc9 hf9 q2
      generalize wr.setCell ⟨p, 67, none⟩ (.slice A m cc) = w4 at *
      have hlen := leaves_len x.seed x.h
      have hhi : 2 ^ x.h ≤ 64 := Nat.le_trans (Nat.pow_le_pow_right (by decide) HEP.out.high) (by decide)
      have HSG : Hid (∀ w', Below w4.heap.size w4 w' → Calls Tryz.prog 32 #[.agg (x.seed.map bv).toArray, .slice a (leavesT x.seed x.h).length ca, .int .i64 (n : Int), .agg (d.map bv).toArray] w' (RKSignIs w' n (openT x.seed n d) (shutT x.seed n d) (pathT (leavesT x.seed x.h) n))) := Lib.hid (fun w' hb =>
        rksign_any x.seed HEP.out.seed (leavesT x.seed x.h) a ca n (by have := HMO.out; omega) (by omega) d HDL.out w' (HLF.out.far hb))
      have HLV : Hid ((rawL x (.slice a (2 ^ x.h) ca) (.int .i64 (x.next : Int)) (.slice A (openL (x.opened n false)).length cc)).toArray[65]? = some (.slice a (leavesT x.seed x.h).length ca)) := Lib.hid (by
        rw [leaves_len]
        exact (raw_at x HEP.out.seed _ _ _).1)
      unfold RKSignIs at HSG
      generalize hXL : (leavesT x.seed x.h).length = XL at *
      generalize hPL : (pathT (leavesT x.seed x.h) n).length = PL at *
      clear hlen hhi
      have HPL := Lib.hid hPL
      clear hXL hPL
      have hn2 := dig_list d HDL.out
      have hn3 := dig_list x.seed HEP.out.seed
      have hund := Tryz.underlying33
      have HBd : Hid (Below w4.heap.size w4 w4.drew) := Lib.hid (Below.refl _ _).drew
      refine wp_region_held_drew (S := fun w' => Box w' p 74 (rawL x (.slice a (2 ^ x.h) ca) (.int .i64 (x.next : Int)) (.slice A (openL (x.opened n false)).length cc)).toArray ∧ Box w' (w.heap.size + 1) 33 (d.map bv).toArray) (by kernel_rfl) ⟨HE4.out.drew, HDG4.out.drew⟩ (fun hS => ?_)
      (refine wpAnyH_take (i := 0) (v := .pointer (some ⟨p, 0, none⟩)) rfl (by kernel_rfl) (by kernel_rfl) (by kernel_rfl) (fun _ _ _ h => h) (Or.inl ⟨by kernel_rfl, fun w hSw => by go_simp⟩) hS ?_)
      (try simp only [Act.put])
      (refine wpAnyH_take (i := 1) (v := .pointer (some ⟨p, 0, none⟩)) rfl (by kernel_rfl) (by kernel_rfl) (by kernel_rfl) (fun _ _ _ h => h) (Or.inl ⟨by kernel_rfl, fun w hSw => by go_simp⟩) hS ?_)
      (try simp only [Act.put])
      (refine wpAnyH_take (i := 2) (v := .pointer (some ⟨p, 33, none⟩)) rfl (by kernel_rfl) (by kernel_rfl) (by kernel_rfl) (fun _ _ _ h => h) (Or.inl ⟨by kernel_rfl, fun w hSw => by go_simp⟩) hS ?_)
      (try simp only [Act.put])
      (refine wpAnyH_take (i := 3) (v := .agg (x.seed.map bv).toArray) rfl (by kernel_rfl) (by kernel_rfl) (by kernel_rfl) (fun _ _ _ h => h) (yieldsIf_load_mid (by kernel_rfl) 33 (.tmp 60) rfl p (33) (by kernel_rfl) (x.seed.map bv) _ (fun w h => raw_seed h.1) hund rfl hn3) hS ?_)
      (try simp only [Act.put])
      (refine wpAnyH_take (i := 4) (v := .pointer (some ⟨p, 0, none⟩)) rfl (by kernel_rfl) (by kernel_rfl) (by kernel_rfl) (fun _ _ _ h => h) (Or.inl ⟨by kernel_rfl, fun w hSw => by go_simp⟩) hS ?_)
      (try simp only [Act.put])
      (refine wpAnyH_take (i := 5) (v := .pointer (some ⟨p, 0, none⟩)) rfl (by kernel_rfl) (by kernel_rfl) (by kernel_rfl) (fun _ _ _ h => h) (Or.inl ⟨by kernel_rfl, fun w hSw => by go_simp⟩) hS ?_)
      (try simp only [Act.put])
      (refine wpAnyH_take (i := 6) (v := .pointer (some ⟨p, 65, none⟩)) rfl (by kernel_rfl) (by kernel_rfl) (by kernel_rfl) (fun _ _ _ h => h) (Or.inl ⟨by kernel_rfl, fun w hSw => by go_simp⟩) hS ?_)
      (try simp only [Act.put])
      (refine wpAnyH_take (i := 7) (v := .slice a XL ca) rfl (by kernel_rfl) (by kernel_rfl) (by kernel_rfl) (fun _ _ _ h => h) (Or.inl ⟨by kernel_rfl, fun w hSw => by have hc := (hSw.1.cell 65).trans HLV.out; go_simp⟩) hS ?_)
      (try simp only [Act.put])
      (refine wpAnyH_take (i := 8) (v := .int .i64 (n : Int)) rfl (by kernel_rfl) (by kernel_rfl) (by kernel_rfl) (fun _ _ _ h => h) (Or.inl ⟨by kernel_rfl, fun w hSw => by go_simp⟩) hS ?_)
      (try simp only [Act.put])
      (refine wpAnyH_take (i := 9) (v := .agg (d.map bv).toArray) rfl (by kernel_rfl) (by kernel_rfl) (by kernel_rfl) (fun _ _ _ h => h) (yieldsIf_load_mid (by kernel_rfl) 33 (.tmp 7) rfl (w.heap.size + 1) (0) (by kernel_rfl) (d.map bv) _ (fun w h => h.2.range) hund rfl hn2) hS ?_)
      (try simp only [Act.put])
      refine wpAnyH_ready (rs := [10]) (by decide +kernel) (by simp) (AllReadyH.cons rfl (fun K hK => ?_) AllReadyH.nil)
      go_simp
      (go_at_call 32; (with_reducible refine (HSG.out _ HBd.out).mono ?_); rintro e1 w5 ⟨A1, X1, C1, a1, b1, c1, rfl, dA, dX, dC, hb5⟩)
      have HB5 : Hid (Below w4.heap.size w4 w5) := HBd.out.trans (hb5.mono HBd.out.size)
      have HD5 := Lib.hid (And.intro dA (And.intro dX dC))
      clear hb5 dA dX dC
      have HO5 := Lib.hid (HO4.out.below HB5.out HO4.out.lt)
      refine hK.out _ _ (⟨HE4.out.below HB5.out HE4.out.lt, HDG4.out.below HB5.out HDG4.out.lt⟩) (fun hS => ?_)
      clear hK K
      (try simp only [Act.put])
      have hst := HO5.out.store_sig rfl (sigV (n : Int) A1 32 a1 X1 32 b1 C1 PL c1) rfl (sig_one _ _ _ _ _ _ _ _ _ _)
      have HB7 := Lib.hid (HO5.out.cells_all (sigV (n : Int) A1 32 a1 X1 32 b1 C1 PL c1) rfl)
      have HG7 := Lib.hid (only_cells (g := w.heap.size + 1 + 1) (sigV (n : Int) A1 32 a1 X1 32 b1 C1 PL c1).toList 0 w5)
      refine wpAnyH_ready (rs := [11]) (by decide +kernel) (by simp) (AllReadyH.cons rfl (fun K hK => ?_) AllReadyH.nil)
      go_simp
      refine hK.out _ _ (⟨hS.1.grown HG7.out (fun e => by injection e with e; exact Box.apart hS.1 HO5.out (by decide) e), hS.2.grown HG7.out (fun e => by injection e with e; omega)⟩) (fun hS => ?_)
      clear hK K
      (try simp only [Act.put])
      refine wpAnyH_ready (rs := [12]) (by decide +kernel) (by simp) (AllReadyH.cons rfl (fun K hK => ?_) AllReadyH.nil)
      go_simp
      refine hK.out _ _ (hS) (fun hS => ?_)
      clear hK K
      (try simp only [Act.put])
      clear hst
      refine wpAnyH_done (by kernel_rfl) ?_ _
      clear hS
      have HF7 := Lib.hid ((HF9.out.trans (DFrame.of_below HB5.out)).new HG7.out (by omega))
      have HP7 := Lib.hid ((HP9.out.call HB5.out).other HG7.out HO5.out (by decide) (by decide) (by decide) (by decide) (by decide))
      have hnb := sig_nobyte 0 none 0 0 none 0 0 none 0 0
      have HD7 := Lib.hid (And.intro (HD5.out.1.aside HO5.out hnb HG7.out) (And.intro (HD5.out.2.1.aside HO5.out hnb HG7.out) (HD5.out.2.2.aside HO5.out hnb HG7.out)))
      clear hnb
      generalize w5.setCells (w.heap.size + 1 + 1) 0 (sigV (n : Int) A1 32 a1 X1 32 b1 C1 PL c1).toList = w7 at *
      go_wp2
      exact ret_sig_tmp (b := .int .i64 0) rfl rfl rfl rfl HB7.out (sig_size _ _ _ _ _ _ _ _ _ _) ⟨A1, X1, C1, a1, b1, c1, by rw [← HPL.out], HD7.out.1, HD7.out.2.1, HD7.out.2.2, ⟨_, _, _, HP7.out⟩, HF7.out⟩
end Go.Proofs.YtojgmdagamdcfaaGreatDoor

namespace Go.Proofs.YtojgmdagamdcfaaGreatDoor
open Go.RowKit Go.Maps

noncomputable def slPtr (v : Value) (lo hi mx : Option Value) : Sem Value := Instr.slice 28 v lo hi mx
set_option maxRecDepth 100000 in
theorem slPtr_def (v : Value) (lo hi mx : Option Value) : Instr.slice 28 v lo hi mx = slPtr v lo hi mx := rfl
noncomputable def bsPtr (n : Nat) (parts : Array (Nat × Value)) : Sem Value := Instr.buildSlice 28 n parts
set_option maxRecDepth 100000 in
theorem bsPtr_def (n : Nat) (parts : Array (Nat × Value)) : Instr.buildSlice 28 n parts = bsPtr n parts := rfl
set_option maxRecDepth 100000 in
theorem bsPtr_none (w : World) : (bsPtr 0 #[]).run Tryz.prog w = .ok (.slice (some ⟨w.heap.size, 0, none⟩) 0 0) (w.alloc (.cells #[] 70)) := by
  have hu : Tryz.prog.underlying 28 = some (.slice 70) := Tryz.underlying28
  have hs : (sizeOf 70).run Tryz.prog w = .ok 1 w := by kernel_rfl
  unfold bsPtr Instr.buildSlice
  simp [Sem.run_bind, run_underlying hu, hs, newRow, Instr.fill, Array.range_zero']
set_option maxRecDepth 100000 in
theorem slPtr_upto {A : Option Addr} {n c i : Nat} (hi : i ≤ c) (w : World) :
    (slPtr (.slice A n c) none (some (.int .i64 (i : Int))) none).run Tryz.prog w = .ok (.slice A i c) w := by
  have hu : Tryz.prog.underlying 28 = some (.slice (Tryz.prog.elem 28)) := by kernel_rfl
  have hs : (sizeOf (Tryz.prog.elem 28)).run Tryz.prog w = .ok 1 w := by kernel_rfl
  show (Instr.slice 28 (.slice A n c) none (some (.int .i64 (i : Int))) none).run Tryz.prog w = _
  rw [run_slice_h w 28 A n c hu .i64 (i : Int) (by omega) (by omega), hs]
  rcases A with _ | a
  · simp [sliced]
  · simp [sliced, Addr.add_zero']
set_option maxRecDepth 100000 in
theorem slPtr_from {A : Option Addr} {n c m : Nat} (hm : m ≤ n) (w : World) :
    (slPtr (.slice A n c) (some (.int .i64 (m : Int))) none none).run Tryz.prog w = .ok (.slice (if c = m then A else A.map (·.add m)) (n - m) (c - m)) w := by
  have hu : Tryz.prog.underlying 28 = some (.slice (Tryz.prog.elem 28)) := by kernel_rfl
  have hs : (sizeOf (Tryz.prog.elem 28)).run Tryz.prog w = .ok 1 w := by kernel_rfl
  show (Instr.slice 28 (.slice A n c) (some (.int .i64 (m : Int))) none none).run Tryz.prog w = _
  rw [run_slice_l w 28 A n c hu .i64 (m : Int) (by omega) (by omega), hs]
  simp [sliced]

set_option maxRecDepth 100000 in
/-- The list of entries is another one: what the ring is then. -/
theorem doc_relist {w5 : World} {B db : Nat} {cs : Array Value} (hr5 : Box w5 db 30 cs) (hsz : cs.size = 1) (hlow : B ≤ db) {es' : List Ent} {ps' : List Nat} {A' : Option Addr} {c' n' : Nat} (hn : n' = es'.length) (ho : w5.ownsRow B 70 1 (.slice A' n' c') n' (ps'.map ptrV))
    (hent : ∀ j (hj : j < es'.length), EntP (es'[j]'hj) ∧ ∃ a ca O co, DEnt w5 B (ps'.getD j 0) (es'[j]'hj) a ca O co) (hap : ps'.Nodup) (hlo : ∀ p ∈ ps', B ≤ p) :
    DocP (w5.setCell ⟨db, 0, none⟩ (.slice A' n' c')) B db es' A' c' ps' ∧ w5.grownBy (w5.setCell ⟨db, 0, none⟩ (.slice A' n' c')) (some db) ∧ docObj w5.heap[db]? = true ∧ (∃ v, w5.cell? ⟨db, 0, none⟩ = some v) ∧ w5.frozen? ⟨db, 0, none⟩ = false := by
  subst hn
  have hg := only_cell w5 db 0 (.slice A' es'.length c')
  have ne : ∀ {g' t' cs'}, Box w5 g' t' cs' → t' ≠ 30 → some g' ≠ some db := fun hb' ht e => by
    injection e with e
    exact Box.apart hb' hr5 ht e
  have own : ∀ {base size n : Nat} {t' : TypeId} {v : Value} {xs : List Value}, w5.ownsRow base t' size v n xs → t' ≠ 30 → (w5.setCell ⟨db, 0, none⟩ (.slice A' es'.length c')).ownsRow base t' size v n xs := fun ho ht =>
    own_at ho fun g' cs' _ hb' => hg.block g' hb'.lt (ne hb' ht)
  have hcs : cs.setIfInBounds 0 (.slice A' es'.length c') = #[.slice A' es'.length c'] := by
    obtain ⟨v, rfl⟩ : ∃ v, cs = #[v] := by
      obtain ⟨l⟩ := cs
      match l, hsz with
      | [v], _ => exact ⟨v, rfl⟩
    rfl
  have hp := hr5.put 0 (.slice A' es'.length c')
  rw [hcs] at hp
  refine ⟨⟨hp, own ho (by decide), fun j hj => ?_, hap, hlow, hlo⟩, hg, ?_, ⟨cs[0]'(by omega), ?_⟩, hr5.free 0⟩
  · obtain ⟨q, a, ca, O, co, hE⟩ := hent j hj
    exact ⟨q, a, ca, O, co, hE.box.grown hg (ne hE.box (by decide)), own hE.leaves (by decide), own hE.opens (by decide)⟩
  · unfold Box at hr5
    rw [hr5]
    rfl
  · rw [hr5.cell, Array.getElem?_eq_getElem (by omega)]
set_option maxRecDepth 100000 in
theorem DocP.relist {w w5 : World} {B db c : Nat} {es : List Ent} {A : Option Addr} {ps : List Nat} (h : DocP w B db es A c ps) (hb : Below w.heap.size w w5) {es' : List Ent} {ps' : List Nat} {A' : Option Addr} {c' n' : Nat} (hn : n' = es'.length) (ho : w5.ownsRow B 70 1 (.slice A' n' c') n' (ps'.map ptrV))
    (hent : ∀ j (hj : j < es'.length), EntP (es'[j]'hj) ∧ ∃ a ca O co, DEnt w5 B (ps'.getD j 0) (es'[j]'hj) a ca O co) (hap : ps'.Nodup) (hlo : ∀ p ∈ ps', B ≤ p) :
    DocP (w5.setCell ⟨db, 0, none⟩ (.slice A' n' c')) B db es' A' c' ps' ∧ w5.grownBy (w5.setCell ⟨db, 0, none⟩ (.slice A' n' c')) (some db) ∧ docObj w5.heap[db]? = true ∧ (∃ v, w5.cell? ⟨db, 0, none⟩ = some v) ∧ w5.frozen? ⟨db, 0, none⟩ = false :=
  doc_relist (h.ring.below hb h.ring.lt) rfl h.low.1 hn ho hent hap hlo
set_option maxRecDepth 100000 in
theorem erase_at {es : List Ent} {ps : List Nat} (hl : ps.length = es.length) {i j : Nat} (hj : j < (es.eraseIdx i).length) : ∃ q, ∃ hq : q < es.length, (es.eraseIdx i)[j]'hj = es[q]'hq ∧ (ps.eraseIdx i).getD j 0 = ps.getD q 0 := by
  have h1 := List.length_eraseIdx_le es i
  have h2 := List.length_eraseIdx (l := es) (i := i)
  have hg : ∀ k, (ps.eraseIdx i)[k]? = if k < i then ps[k]? else ps[k + 1]? := fun k => List.getElem?_eraseIdx
  by_cases hji : j < i
  · refine ⟨j, by omega, List.getElem_eraseIdx_of_lt hj hji, ?_⟩
    rw [List.getD_eq_getElem?_getD, List.getD_eq_getElem?_getD, hg, if_pos hji]
  · have hlt : j + 1 < es.length := by
      split at h2 <;> omega
    refine ⟨j + 1, hlt, List.getElem_eraseIdx_of_ge hj (by omega), ?_⟩
    rw [List.getD_eq_getElem?_getD, List.getD_eq_getElem?_getD, hg, if_neg hji]

attribute [local go_sem ↓] ldKey_def eqKey_def apAll_def slPtr_def bsPtr_def

set_option maxRecDepth 100000 in
set_option maxHeartbeats 2000000 in
theorem dretire_not {w : World} {B db : Nat} {es : List Ent} (hD : DocW w B db es) (r : List UInt8) (k : Int) (hr : r.length = 32) (hn : es.length ≤ 1000) (hk : ∀ j (hj : j < es.length), (es[j]'hj).is r k = false) :
    Calls Tryz.prog 18 #[.pointer (some ⟨db, 0, none⟩), .agg (keyV r k)] w fun e w' => e = .returned (.int .i64 7) ∧ Below w.heap.size w w' := by
  obtain ⟨h1, h2, h3⟩ := hD.boxed r k
  have HF := Lib.hid h2
  have lk := h3.load_key hr
  have HN := Lib.hid (dfind_any h1 r k hr hn)
  rw [fnd_no hk] at HN
  clear h1 h2 h3
  go_enter Tryz.func18, Tryz.ntmps18
  go_upto_region 1 with fail
  change Code.wp _ _ _ _ (w.alloc (.cells (keyV r k) 37))
  generalize w.alloc (.cells (keyV r k) 37) = w1 at *
  go_wp2_with (go_at_call 27; (with_reducible refine (HN.out).mono ?_); rintro e w2 ⟨rfl, hb⟩; have H2 := Lib.hid hb; clear hb)
  go_ret
  exact ⟨rfl, HF.out.trans (H2.out.mono HF.out.size)⟩

set_option maxRecDepth 100000 in
set_option maxHeartbeats 4000000 in
theorem dretire_any {w : World} {B db : Nat} {es : List Ent} (hD : DocW w B db es) (r : List UInt8) (k : Int) (hr : r.length = 32) (hn : es.length ≤ 1000) {i : Nat} (hi : i < es.length) (hf : fndI es r k = (i : Int)) (hB : B ≤ w.heap.size) :
    Calls Tryz.prog 18 #[.pointer (some ⟨db, 0, none⟩), .agg (keyV r k)] w fun e w' => e = .returned (.int .i64 0) ∧ DocW w' B db (es.eraseIdx i) ∧ DFrame B w w' := by
  obtain ⟨h1, h2, h3⟩ := hD.boxed r k
  have HF := Lib.hid h2
  have lk := h3.load_key hr
  have HN := Lib.hid (dfind_any h1 r k hr hn)
  rw [hf] at HN
  obtain ⟨A, c, ps, hP⟩ := h1
  have HP := Lib.hid hP
  have HBS := Lib.hid hB
  clear h2 h3 hf hP hB
  go_enter Tryz.func18, Tryz.ntmps18
  go_upto_region 1 with fail
  change Code.wp _ _ _ _ (w.alloc (.cells (keyV r k) 37))
  generalize w.alloc (.cells (keyV r k) 37) = w1 at *
  go_upto_region 4 with (go_at_call 27; (with_reducible refine (HN.out).mono ?_); rintro e w2 ⟨rfl, hb⟩; have H2 := Lib.hid hb; clear hb)
  have HP2 := Lib.hid (HP.out.call (H2.out.trans ((Below.refl _ _).drew)))
  have HB2 : Hid (Below w.heap.size w w2.drew) := Lib.hid ((HF.out.trans (H2.out.mono HF.out.size)).drew)
  have hlen := HP2.out.len
  obtain ⟨g, rfl, hgs, hgc, hcell⟩ := HP2.out.cells hi
  clear hcell hgs HP
  have c0 : w2.drew.cell? ⟨db, 0, none⟩ = some (.slice (some ⟨g, 0, none⟩) es.length c) := HP2.out.ring.cell 0
  have i1 : (i : Int) < (es.length : Int) := by omega
  have wk : IntKind.i64.wrap ((i : Int) + 1) = (i : Int) + 1 := by
    rw [IntKind.wrap_i64]
    omega
  obtain ⟨T, hT⟩ : ∃ T, T = (if c = i + 1 then some ⟨g, 0, none⟩ else (some (⟨g, 0, none⟩ : Addr)).map (·.add (i + 1))) := ⟨_, rfl⟩
  have HS1 := Lib.hid (fun w => slPtr_upto (A := some ⟨g, 0, none⟩) (n := es.length) (c := c) (i := i) (by omega) w)
  have HS2 : Hid (∀ w, (slPtr (.slice (some ⟨g, 0, none⟩) es.length c) (some (.int .i64 ((i : Int) + 1))) none none).run Tryz.prog w = .ok (.slice T (es.length - (i + 1)) (c - (i + 1))) w) := Lib.hid (fun w => by
    rw [hT]
    exact slPtr_from (m := i + 1) (by omega) w)
  have hs0 := Sees.of_own HP2.out.list
  have hb3 : Below w2.drew.heap.size w2.drew (w2.drew.alloc (.cells #[] 70)) := (Below.refl _ _).alloc (Nat.le_refl _) _
  have hbs := bsPtr_none w2.drew
  have own3 : (w2.drew.alloc (.cells #[] 70)).ownsRow w2.drew.heap.size 70 1 (.slice (some ⟨w2.drew.heap.size, 0, none⟩) 0 0) 0 ([] : List Value) := World.ownsRow_lit (base := w2.drew.heap.size) (size := 1) w2.drew (e := 70) #[] 0 (Nat.le_refl _) (by simp [maxLen]) (by simp)
  have s1 := (hs0.take i).below hb3
  rw [← List.map_take] at s1
  obtain ⟨v4, w4, hap4, own4, g4⟩ := append_cells (n := 0) (A := some ⟨g, 0, none⟩) (m := i) (c := c) (ys := (ps.take i).map ptrV) Tryz.underlying28 ptr_inf rfl (by omega) own3 (s1.more hb3.size) (by rw [List.length_map, List.length_take]; omega) (ptrs_one _) (by omega) hb3.size
  rw [Nat.zero_add, List.nil_append] at own4
  obtain ⟨A4, c4, rfl⟩ := own_slice_s own4
  have hb4 : Below w2.drew.heap.size w2.drew w4 := hb3.trans (below_own own3 g4 hb3.size)
  have s2 := (hs0.cut (k := i + 1) (cap := c) (by rw [List.length_map]; omega) (by rw [List.length_map]; omega)).below hb4
  rw [← hT, ← List.map_drop] at s2
  obtain ⟨v5, w5, hap5, own5, g5⟩ := append_cells (A := T) (m := es.length - (i + 1)) (c := c - (i + 1)) (ys := (ps.drop (i + 1)).map ptrV) Tryz.underlying28 ptr_inf rfl (by omega) own4 (s2.more hb4.size) (by rw [List.length_map, List.length_drop]; omega) (ptrs_one _) (by omega) hb4.size
  obtain ⟨A5, c5, rfl⟩ := own_slice_s own5
  have hb5 : Below w2.drew.heap.size w2.drew w5 := hb4.trans (below_own own4 g5 hb4.size)
  have hel : i + (es.length - (i + 1)) = (es.eraseIdx i).length := by
    rw [List.length_eraseIdx_of_lt hi]
    omega
  have ho5 : w5.ownsRow B 70 1 (.slice A5 (i + (es.length - (i + 1))) c5) (i + (es.length - (i + 1))) ((ps.eraseIdx i).map ptrV) := by
    rw [List.eraseIdx_eq_take_drop_succ, List.map_append]
    have hsz := Nat.le_trans HBS.out HB2.out.size
    rcases own5.2 with ⟨h1, h2⟩ | ⟨g', cap, cur, h1, h2, h3⟩
    · exact ⟨own5.1, .inl ⟨h1, h2⟩⟩
    · exact ⟨own5.1, .inr ⟨g', cap, cur, h1, Nat.le_trans hsz h2, h3⟩⟩
  have hsub : (ps.eraseIdx i).Sublist ps := List.eraseIdx_sublist ps i
  obtain ⟨h6, g6, d6, ⟨v6, hc6⟩, hf6⟩ := HP2.out.relist hb5 hel ho5 (fun j hj => by
    obtain ⟨q, hq, e1, e2⟩ := erase_at HP2.out.len hj
    rw [e1, e2]
    obtain ⟨q1, a, ca, O, co, hE⟩ := HP2.out.ents q hq
    exact ⟨q1, a, ca, O, co, hE.call hb5⟩) (List.Nodup.sublist hsub HP2.out.apart) (fun p hp => HP2.out.low.2 p (hsub.mem hp))
  have H6 := Lib.hid h6
  have HF6 : Hid (DFrame B w (w5.setCell ⟨db, 0, none⟩ (.slice A5 (i + (es.length - (i + 1))) c5))) := Lib.hid (((DFrame.of_below HB2.out).trans (DFrame.of_below hb5)).trans (DFrame.of_grown g6 (fun g e => by injection e with e; subst e; exact ⟨HP2.out.low.1, d6⟩)))
  have HC3 : Hid ((w2.drew.alloc (.cells #[] 70)).cell? ⟨db, 0, none⟩ = some (.slice (some ⟨g, 0, none⟩) es.length c)) := Lib.hid ((HP2.out.ring.below hb3 HP2.out.ring.lt).cell 0)
  have HC4 : Hid (w4.cell? ⟨db, 0, none⟩ = some (.slice (some ⟨g, 0, none⟩) es.length c)) := Lib.hid ((HP2.out.ring.below hb4 HP2.out.ring.lt).cell 0)
  have HC5 : Hid (w5.cell? ⟨db, 0, none⟩ = some (.slice (some ⟨g, 0, none⟩) es.length c)) := Lib.hid ((HP2.out.ring.below hb5 HP2.out.ring.lt).cell 0)
  have hz : w2.drew.heap.size = w2.heap.size := rfl
  rw [hz] at hbs hap4
  rw [show w2.drew.alloc (.cells #[] 70) = (w2.alloc (.cells #[] 70)).drew from rfl] at hap4
  clear own3 s1 own4 g4 hb4 s2 own5 g5 hb5 ho5 hel hsub h6 g6 d6 hs0 hT hb3 hc6 hz
  have HC0 := Lib.hid c0
  clear c0
  have HF5 := Lib.hid hf6
  clear hf6
  have hc0 := HC0.out
  have hc3 : (w2.alloc (.cells #[] 70)).drew.cell? ⟨db, 0, none⟩ = some (.slice (some ⟨g, 0, none⟩) es.length c) := HC3.out
  have hc4 := HC4.out
  have hc5 := HC5.out
  have hf5 := HF5.out
  refine wp_region_held_drew (S := fun _ => True) (by kernel_rfl) trivial (fun hS => ?_)
  (refine wpAnyH_take (i := 0) (v := .pointer (some ⟨db, 0, none⟩)) rfl (by kernel_rfl) (by kernel_rfl) (by kernel_rfl) (fun _ _ _ h => h) (Or.inl ⟨by kernel_rfl, fun w hSw => by go_simp⟩) hS ?_)
  (try simp only [Act.put])
  (refine wpAnyH_take (i := 2) (v := .pointer (some ⟨db, 0, none⟩)) rfl (by kernel_rfl) (by kernel_rfl) (by kernel_rfl) (fun _ _ _ h => h) (Or.inl ⟨by kernel_rfl, fun w hSw => by go_simp⟩) hS ?_)
  (try simp only [Act.put])
  (refine wpAnyH_take (i := 3) (v := .pointer (some ⟨db, 0, none⟩)) rfl (by kernel_rfl) (by kernel_rfl) (by kernel_rfl) (fun _ _ _ h => h) (Or.inl ⟨by kernel_rfl, fun w hSw => by go_simp⟩) hS ?_)
  (try simp only [Act.put])
  (refine wpAnyH_take (i := 4) (v := .pointer (some ⟨db, 0, none⟩)) rfl (by kernel_rfl) (by kernel_rfl) (by kernel_rfl) (fun _ _ _ h => h) (Or.inl ⟨by kernel_rfl, fun w hSw => by go_simp⟩) hS ?_)
  (try simp only [Act.put])
  (refine wpAnyH_take (i := 6) (v := .int .i64 (i : Int)) rfl (by kernel_rfl) (by kernel_rfl) (by kernel_rfl) (fun _ _ _ h => h) (Or.inl ⟨by kernel_rfl, fun w hSw => by go_simp⟩) hS ?_)
  (try simp only [Act.put])
  (refine wpAnyH_take (i := 9) (v := .pointer (some ⟨db, 0, none⟩)) rfl (by kernel_rfl) (by kernel_rfl) (by kernel_rfl) (fun _ _ _ h => h) (Or.inl ⟨by kernel_rfl, fun w hSw => by go_simp⟩) hS ?_)
  (try simp only [Act.put])
  (refine wpAnyH_take (i := 10) (v := .pointer (some ⟨db, 0, none⟩)) rfl (by kernel_rfl) (by kernel_rfl) (by kernel_rfl) (fun _ _ _ h => h) (Or.inl ⟨by kernel_rfl, fun w hSw => by go_simp⟩) hS ?_)
  (try simp only [Act.put])
  (refine wpAnyH_take (i := 11) (v := .pointer (some ⟨db, 0, none⟩)) rfl (by kernel_rfl) (by kernel_rfl) (by kernel_rfl) (fun _ _ _ h => h) (Or.inl ⟨by kernel_rfl, fun w hSw => by go_simp⟩) hS ?_)
  (try simp only [Act.put])
  (refine wpAnyH_take (i := 13) (v := .int .i64 (i : Int)) rfl (by kernel_rfl) (by kernel_rfl) (by kernel_rfl) (fun _ _ _ h => h) (Or.inl ⟨by kernel_rfl, fun w hSw => by go_simp⟩) hS ?_)
  (try simp only [Act.put])
  (refine wpAnyH_take (i := 14) (v := .int .i64 ((i : Int) + 1)) rfl (by kernel_rfl) (by kernel_rfl) (by kernel_rfl) (fun _ _ _ h => h) (Or.inl ⟨by kernel_rfl, fun w hSw => by go_simp⟩) hS ?_)
  (try simp only [Act.put])
  refine wpAnyH_ready (rs := [1, 5, 12]) (by decide +kernel) (by simp) (AllReadyH.cons rfl (fun K hK => ?_) (AllReadyH.cons rfl (fun K hK => ?_) (AllReadyH.cons rfl (fun K hK => ?_) AllReadyH.nil)))
  · go_simp
    refine hK.out _ _ (trivial) (fun hS => ?_)
    clear hK K
    (try simp only [Act.put])
    refine wpAnyH_ready (rs := [5, 12]) (by decide +kernel) (by simp) (AllReadyH.cons rfl (fun K hK => ?_) (AllReadyH.cons rfl (fun K hK => ?_) AllReadyH.nil))
    · go_simp
      refine hK.out _ _ (trivial) (fun hS => ?_)
      clear hK K
      (try simp only [Act.put])
      (refine wpAnyH_take (i := 7) (v := .slice (some ⟨g, 0, none⟩) i c) rfl (by kernel_rfl) (by kernel_rfl) (by kernel_rfl) (fun _ _ _ h => h) (Or.inl ⟨by kernel_rfl, fun w hSw => by have hc := HS1.out w; go_simp⟩) hS ?_)
      (try simp only [Act.put])
      refine wpAnyH_ready (rs := [8, 12]) (by decide +kernel) (by simp) (AllReadyH.cons rfl (fun K hK => ?_) (AllReadyH.cons rfl (fun K hK => ?_) AllReadyH.nil))
      · go_simp
        refine hK.out _ _ (trivial) (fun hS => ?_)
        clear hK K
        (try simp only [Act.put])
        refine wpAnyH_ready (rs := [12]) (by decide +kernel) (by simp) (AllReadyH.cons rfl (fun K hK => ?_) AllReadyH.nil)
        · go_simp
          refine hK.out _ _ (trivial) (fun hS => ?_)
          clear hK K
          (try simp only [Act.put])
          (refine wpAnyH_take (i := 15) (v := .slice T (es.length - (i + 1)) (c - (i + 1))) rfl (by kernel_rfl) (by kernel_rfl) (by kernel_rfl) (fun _ _ _ h => h) (Or.inl ⟨by kernel_rfl, fun w hSw => by have hc := HS2.out w; go_simp⟩) hS ?_)
          (try simp only [Act.put])
          refine wpAnyH_ready (rs := [16]) (by decide +kernel) (by simp) (AllReadyH.cons rfl (fun K hK => ?_) AllReadyH.nil)
          go_simp
          refine hK.out _ _ (trivial) (fun hS => ?_)
          clear hK K
          (try simp only [Act.put])
          (refine wpAnyH_take (i := 17) (v := .pointer (some ⟨db, 0, none⟩)) rfl (by kernel_rfl) (by kernel_rfl) (by kernel_rfl) (fun _ _ _ h => h) (Or.inl ⟨by kernel_rfl, fun w hSw => by go_simp⟩) hS ?_)
          (try simp only [Act.put])
          (refine wpAnyH_take (i := 18) (v := .pointer (some ⟨db, 0, none⟩)) rfl (by kernel_rfl) (by kernel_rfl) (by kernel_rfl) (fun _ _ _ h => h) (Or.inl ⟨by kernel_rfl, fun w hSw => by go_simp⟩) hS ?_)
          (try simp only [Act.put])
          refine wpAnyH_ready (rs := [19]) (by decide +kernel) (by simp) (AllReadyH.cons rfl (fun K hK => ?_) AllReadyH.nil)
          go_simp
          refine hK.out _ _ (trivial) (fun hS => ?_)
          clear hK K
          (try simp only [Act.put])
          refine wpAnyH_done (by kernel_rfl) ?_ _
          clear hS
          go_wp2
          go_ret
          exact ⟨rfl, ⟨_, _, _, H6.out⟩, HF6.out⟩
      · go_simp
        refine hK.out _ _ (trivial) (fun hS => ?_)
        clear hK K
        (try simp only [Act.put])
        (refine wpAnyH_take (i := 15) (v := .slice T (es.length - (i + 1)) (c - (i + 1))) rfl (by kernel_rfl) (by kernel_rfl) (by kernel_rfl) (fun _ _ _ h => h) (Or.inl ⟨by kernel_rfl, fun w hSw => by have hc := HS2.out w; go_simp⟩) hS ?_)
        (try simp only [Act.put])
        refine wpAnyH_ready (rs := [8]) (by decide +kernel) (by simp) (AllReadyH.cons rfl (fun K hK => ?_) AllReadyH.nil)
        · go_simp
          refine hK.out _ _ (trivial) (fun hS => ?_)
          clear hK K
          (try simp only [Act.put])
          refine wpAnyH_ready (rs := [16]) (by decide +kernel) (by simp) (AllReadyH.cons rfl (fun K hK => ?_) AllReadyH.nil)
          go_simp
          refine hK.out _ _ (trivial) (fun hS => ?_)
          clear hK K
          (try simp only [Act.put])
          (refine wpAnyH_take (i := 17) (v := .pointer (some ⟨db, 0, none⟩)) rfl (by kernel_rfl) (by kernel_rfl) (by kernel_rfl) (fun _ _ _ h => h) (Or.inl ⟨by kernel_rfl, fun w hSw => by go_simp⟩) hS ?_)
          (try simp only [Act.put])
          (refine wpAnyH_take (i := 18) (v := .pointer (some ⟨db, 0, none⟩)) rfl (by kernel_rfl) (by kernel_rfl) (by kernel_rfl) (fun _ _ _ h => h) (Or.inl ⟨by kernel_rfl, fun w hSw => by go_simp⟩) hS ?_)
          (try simp only [Act.put])
          refine wpAnyH_ready (rs := [19]) (by decide +kernel) (by simp) (AllReadyH.cons rfl (fun K hK => ?_) AllReadyH.nil)
          go_simp
          refine hK.out _ _ (trivial) (fun hS => ?_)
          clear hK K
          (try simp only [Act.put])
          refine wpAnyH_done (by kernel_rfl) ?_ _
          clear hS
          go_wp2
          go_ret
          exact ⟨rfl, ⟨_, _, _, H6.out⟩, HF6.out⟩
    · go_simp
      refine hK.out _ _ (trivial) (fun hS => ?_)
      clear hK K
      (try simp only [Act.put])
      (refine wpAnyH_take (i := 15) (v := .slice T (es.length - (i + 1)) (c - (i + 1))) rfl (by kernel_rfl) (by kernel_rfl) (by kernel_rfl) (fun _ _ _ h => h) (Or.inl ⟨by kernel_rfl, fun w hSw => by have hc := HS2.out w; go_simp⟩) hS ?_)
      (try simp only [Act.put])
      refine wpAnyH_ready (rs := [5]) (by decide +kernel) (by simp) (AllReadyH.cons rfl (fun K hK => ?_) AllReadyH.nil)
      · go_simp
        refine hK.out _ _ (trivial) (fun hS => ?_)
        clear hK K
        (try simp only [Act.put])
        (refine wpAnyH_take (i := 7) (v := .slice (some ⟨g, 0, none⟩) i c) rfl (by kernel_rfl) (by kernel_rfl) (by kernel_rfl) (fun _ _ _ h => h) (Or.inl ⟨by kernel_rfl, fun w hSw => by have hc := HS1.out w; go_simp⟩) hS ?_)
        (try simp only [Act.put])
        refine wpAnyH_ready (rs := [8]) (by decide +kernel) (by simp) (AllReadyH.cons rfl (fun K hK => ?_) AllReadyH.nil)
        · go_simp
          refine hK.out _ _ (trivial) (fun hS => ?_)
          clear hK K
          (try simp only [Act.put])
          refine wpAnyH_ready (rs := [16]) (by decide +kernel) (by simp) (AllReadyH.cons rfl (fun K hK => ?_) AllReadyH.nil)
          go_simp
          refine hK.out _ _ (trivial) (fun hS => ?_)
          clear hK K
          (try simp only [Act.put])
          (refine wpAnyH_take (i := 17) (v := .pointer (some ⟨db, 0, none⟩)) rfl (by kernel_rfl) (by kernel_rfl) (by kernel_rfl) (fun _ _ _ h => h) (Or.inl ⟨by kernel_rfl, fun w hSw => by go_simp⟩) hS ?_)
          (try simp only [Act.put])
          (refine wpAnyH_take (i := 18) (v := .pointer (some ⟨db, 0, none⟩)) rfl (by kernel_rfl) (by kernel_rfl) (by kernel_rfl) (fun _ _ _ h => h) (Or.inl ⟨by kernel_rfl, fun w hSw => by go_simp⟩) hS ?_)
          (try simp only [Act.put])
          refine wpAnyH_ready (rs := [19]) (by decide +kernel) (by simp) (AllReadyH.cons rfl (fun K hK => ?_) AllReadyH.nil)
          go_simp
          refine hK.out _ _ (trivial) (fun hS => ?_)
          clear hK K
          (try simp only [Act.put])
          refine wpAnyH_done (by kernel_rfl) ?_ _
          clear hS
          go_wp2
          go_ret
          exact ⟨rfl, ⟨_, _, _, H6.out⟩, HF6.out⟩
  · go_simp
    refine hK.out _ _ (trivial) (fun hS => ?_)
    clear hK K
    (try simp only [Act.put])
    (refine wpAnyH_take (i := 7) (v := .slice (some ⟨g, 0, none⟩) i c) rfl (by kernel_rfl) (by kernel_rfl) (by kernel_rfl) (fun _ _ _ h => h) (Or.inl ⟨by kernel_rfl, fun w hSw => by have hc := HS1.out w; go_simp⟩) hS ?_)
    (try simp only [Act.put])
    refine wpAnyH_ready (rs := [1, 12]) (by decide +kernel) (by simp) (AllReadyH.cons rfl (fun K hK => ?_) (AllReadyH.cons rfl (fun K hK => ?_) AllReadyH.nil))
    · go_simp
      refine hK.out _ _ (trivial) (fun hS => ?_)
      clear hK K
      (try simp only [Act.put])
      refine wpAnyH_ready (rs := [8, 12]) (by decide +kernel) (by simp) (AllReadyH.cons rfl (fun K hK => ?_) (AllReadyH.cons rfl (fun K hK => ?_) AllReadyH.nil))
      · go_simp
        refine hK.out _ _ (trivial) (fun hS => ?_)
        clear hK K
        (try simp only [Act.put])
        refine wpAnyH_ready (rs := [12]) (by decide +kernel) (by simp) (AllReadyH.cons rfl (fun K hK => ?_) AllReadyH.nil)
        · go_simp
          refine hK.out _ _ (trivial) (fun hS => ?_)
          clear hK K
          (try simp only [Act.put])
          (refine wpAnyH_take (i := 15) (v := .slice T (es.length - (i + 1)) (c - (i + 1))) rfl (by kernel_rfl) (by kernel_rfl) (by kernel_rfl) (fun _ _ _ h => h) (Or.inl ⟨by kernel_rfl, fun w hSw => by have hc := HS2.out w; go_simp⟩) hS ?_)
          (try simp only [Act.put])
          refine wpAnyH_ready (rs := [16]) (by decide +kernel) (by simp) (AllReadyH.cons rfl (fun K hK => ?_) AllReadyH.nil)
          go_simp
          refine hK.out _ _ (trivial) (fun hS => ?_)
          clear hK K
          (try simp only [Act.put])
          (refine wpAnyH_take (i := 17) (v := .pointer (some ⟨db, 0, none⟩)) rfl (by kernel_rfl) (by kernel_rfl) (by kernel_rfl) (fun _ _ _ h => h) (Or.inl ⟨by kernel_rfl, fun w hSw => by go_simp⟩) hS ?_)
          (try simp only [Act.put])
          (refine wpAnyH_take (i := 18) (v := .pointer (some ⟨db, 0, none⟩)) rfl (by kernel_rfl) (by kernel_rfl) (by kernel_rfl) (fun _ _ _ h => h) (Or.inl ⟨by kernel_rfl, fun w hSw => by go_simp⟩) hS ?_)
          (try simp only [Act.put])
          refine wpAnyH_ready (rs := [19]) (by decide +kernel) (by simp) (AllReadyH.cons rfl (fun K hK => ?_) AllReadyH.nil)
          go_simp
          refine hK.out _ _ (trivial) (fun hS => ?_)
          clear hK K
          (try simp only [Act.put])
          refine wpAnyH_done (by kernel_rfl) ?_ _
          clear hS
          go_wp2
          go_ret
          exact ⟨rfl, ⟨_, _, _, H6.out⟩, HF6.out⟩
      · go_simp
        refine hK.out _ _ (trivial) (fun hS => ?_)
        clear hK K
        (try simp only [Act.put])
        (refine wpAnyH_take (i := 15) (v := .slice T (es.length - (i + 1)) (c - (i + 1))) rfl (by kernel_rfl) (by kernel_rfl) (by kernel_rfl) (fun _ _ _ h => h) (Or.inl ⟨by kernel_rfl, fun w hSw => by have hc := HS2.out w; go_simp⟩) hS ?_)
        (try simp only [Act.put])
        refine wpAnyH_ready (rs := [8]) (by decide +kernel) (by simp) (AllReadyH.cons rfl (fun K hK => ?_) AllReadyH.nil)
        · go_simp
          refine hK.out _ _ (trivial) (fun hS => ?_)
          clear hK K
          (try simp only [Act.put])
          refine wpAnyH_ready (rs := [16]) (by decide +kernel) (by simp) (AllReadyH.cons rfl (fun K hK => ?_) AllReadyH.nil)
          go_simp
          refine hK.out _ _ (trivial) (fun hS => ?_)
          clear hK K
          (try simp only [Act.put])
          (refine wpAnyH_take (i := 17) (v := .pointer (some ⟨db, 0, none⟩)) rfl (by kernel_rfl) (by kernel_rfl) (by kernel_rfl) (fun _ _ _ h => h) (Or.inl ⟨by kernel_rfl, fun w hSw => by go_simp⟩) hS ?_)
          (try simp only [Act.put])
          (refine wpAnyH_take (i := 18) (v := .pointer (some ⟨db, 0, none⟩)) rfl (by kernel_rfl) (by kernel_rfl) (by kernel_rfl) (fun _ _ _ h => h) (Or.inl ⟨by kernel_rfl, fun w hSw => by go_simp⟩) hS ?_)
          (try simp only [Act.put])
          refine wpAnyH_ready (rs := [19]) (by decide +kernel) (by simp) (AllReadyH.cons rfl (fun K hK => ?_) AllReadyH.nil)
          go_simp
          refine hK.out _ _ (trivial) (fun hS => ?_)
          clear hK K
          (try simp only [Act.put])
          refine wpAnyH_done (by kernel_rfl) ?_ _
          clear hS
          go_wp2
          go_ret
          exact ⟨rfl, ⟨_, _, _, H6.out⟩, HF6.out⟩
    · go_simp
      refine hK.out _ _ (trivial) (fun hS => ?_)
      clear hK K
      (try simp only [Act.put])
      (refine wpAnyH_take (i := 15) (v := .slice T (es.length - (i + 1)) (c - (i + 1))) rfl (by kernel_rfl) (by kernel_rfl) (by kernel_rfl) (fun _ _ _ h => h) (Or.inl ⟨by kernel_rfl, fun w hSw => by have hc := HS2.out w; go_simp⟩) hS ?_)
      (try simp only [Act.put])
      refine wpAnyH_ready (rs := [1]) (by decide +kernel) (by simp) (AllReadyH.cons rfl (fun K hK => ?_) AllReadyH.nil)
      · go_simp
        refine hK.out _ _ (trivial) (fun hS => ?_)
        clear hK K
        (try simp only [Act.put])
        refine wpAnyH_ready (rs := [8]) (by decide +kernel) (by simp) (AllReadyH.cons rfl (fun K hK => ?_) AllReadyH.nil)
        · go_simp
          refine hK.out _ _ (trivial) (fun hS => ?_)
          clear hK K
          (try simp only [Act.put])
          refine wpAnyH_ready (rs := [16]) (by decide +kernel) (by simp) (AllReadyH.cons rfl (fun K hK => ?_) AllReadyH.nil)
          go_simp
          refine hK.out _ _ (trivial) (fun hS => ?_)
          clear hK K
          (try simp only [Act.put])
          (refine wpAnyH_take (i := 17) (v := .pointer (some ⟨db, 0, none⟩)) rfl (by kernel_rfl) (by kernel_rfl) (by kernel_rfl) (fun _ _ _ h => h) (Or.inl ⟨by kernel_rfl, fun w hSw => by go_simp⟩) hS ?_)
          (try simp only [Act.put])
          (refine wpAnyH_take (i := 18) (v := .pointer (some ⟨db, 0, none⟩)) rfl (by kernel_rfl) (by kernel_rfl) (by kernel_rfl) (fun _ _ _ h => h) (Or.inl ⟨by kernel_rfl, fun w hSw => by go_simp⟩) hS ?_)
          (try simp only [Act.put])
          refine wpAnyH_ready (rs := [19]) (by decide +kernel) (by simp) (AllReadyH.cons rfl (fun K hK => ?_) AllReadyH.nil)
          go_simp
          refine hK.out _ _ (trivial) (fun hS => ?_)
          clear hK K
          (try simp only [Act.put])
          refine wpAnyH_done (by kernel_rfl) ?_ _
          clear hS
          go_wp2
          go_ret
          exact ⟨rfl, ⟨_, _, _, H6.out⟩, HF6.out⟩
  · go_simp
    refine hK.out _ _ (trivial) (fun hS => ?_)
    clear hK K
    (try simp only [Act.put])
    (refine wpAnyH_take (i := 15) (v := .slice T (es.length - (i + 1)) (c - (i + 1))) rfl (by kernel_rfl) (by kernel_rfl) (by kernel_rfl) (fun _ _ _ h => h) (Or.inl ⟨by kernel_rfl, fun w hSw => by have hc := HS2.out w; go_simp⟩) hS ?_)
    (try simp only [Act.put])
    refine wpAnyH_ready (rs := [1, 5]) (by decide +kernel) (by simp) (AllReadyH.cons rfl (fun K hK => ?_) (AllReadyH.cons rfl (fun K hK => ?_) AllReadyH.nil))
    · go_simp
      refine hK.out _ _ (trivial) (fun hS => ?_)
      clear hK K
      (try simp only [Act.put])
      refine wpAnyH_ready (rs := [5]) (by decide +kernel) (by simp) (AllReadyH.cons rfl (fun K hK => ?_) AllReadyH.nil)
      · go_simp
        refine hK.out _ _ (trivial) (fun hS => ?_)
        clear hK K
        (try simp only [Act.put])
        (refine wpAnyH_take (i := 7) (v := .slice (some ⟨g, 0, none⟩) i c) rfl (by kernel_rfl) (by kernel_rfl) (by kernel_rfl) (fun _ _ _ h => h) (Or.inl ⟨by kernel_rfl, fun w hSw => by have hc := HS1.out w; go_simp⟩) hS ?_)
        (try simp only [Act.put])
        refine wpAnyH_ready (rs := [8]) (by decide +kernel) (by simp) (AllReadyH.cons rfl (fun K hK => ?_) AllReadyH.nil)
        · go_simp
          refine hK.out _ _ (trivial) (fun hS => ?_)
          clear hK K
          (try simp only [Act.put])
          refine wpAnyH_ready (rs := [16]) (by decide +kernel) (by simp) (AllReadyH.cons rfl (fun K hK => ?_) AllReadyH.nil)
          go_simp
          refine hK.out _ _ (trivial) (fun hS => ?_)
          clear hK K
          (try simp only [Act.put])
          (refine wpAnyH_take (i := 17) (v := .pointer (some ⟨db, 0, none⟩)) rfl (by kernel_rfl) (by kernel_rfl) (by kernel_rfl) (fun _ _ _ h => h) (Or.inl ⟨by kernel_rfl, fun w hSw => by go_simp⟩) hS ?_)
          (try simp only [Act.put])
          (refine wpAnyH_take (i := 18) (v := .pointer (some ⟨db, 0, none⟩)) rfl (by kernel_rfl) (by kernel_rfl) (by kernel_rfl) (fun _ _ _ h => h) (Or.inl ⟨by kernel_rfl, fun w hSw => by go_simp⟩) hS ?_)
          (try simp only [Act.put])
          refine wpAnyH_ready (rs := [19]) (by decide +kernel) (by simp) (AllReadyH.cons rfl (fun K hK => ?_) AllReadyH.nil)
          go_simp
          refine hK.out _ _ (trivial) (fun hS => ?_)
          clear hK K
          (try simp only [Act.put])
          refine wpAnyH_done (by kernel_rfl) ?_ _
          clear hS
          go_wp2
          go_ret
          exact ⟨rfl, ⟨_, _, _, H6.out⟩, HF6.out⟩
    · go_simp
      refine hK.out _ _ (trivial) (fun hS => ?_)
      clear hK K
      (try simp only [Act.put])
      (refine wpAnyH_take (i := 7) (v := .slice (some ⟨g, 0, none⟩) i c) rfl (by kernel_rfl) (by kernel_rfl) (by kernel_rfl) (fun _ _ _ h => h) (Or.inl ⟨by kernel_rfl, fun w hSw => by have hc := HS1.out w; go_simp⟩) hS ?_)
      (try simp only [Act.put])
      refine wpAnyH_ready (rs := [1]) (by decide +kernel) (by simp) (AllReadyH.cons rfl (fun K hK => ?_) AllReadyH.nil)
      · go_simp
        refine hK.out _ _ (trivial) (fun hS => ?_)
        clear hK K
        (try simp only [Act.put])
        refine wpAnyH_ready (rs := [8]) (by decide +kernel) (by simp) (AllReadyH.cons rfl (fun K hK => ?_) AllReadyH.nil)
        · go_simp
          refine hK.out _ _ (trivial) (fun hS => ?_)
          clear hK K
          (try simp only [Act.put])
          refine wpAnyH_ready (rs := [16]) (by decide +kernel) (by simp) (AllReadyH.cons rfl (fun K hK => ?_) AllReadyH.nil)
          go_simp
          refine hK.out _ _ (trivial) (fun hS => ?_)
          clear hK K
          (try simp only [Act.put])
          (refine wpAnyH_take (i := 17) (v := .pointer (some ⟨db, 0, none⟩)) rfl (by kernel_rfl) (by kernel_rfl) (by kernel_rfl) (fun _ _ _ h => h) (Or.inl ⟨by kernel_rfl, fun w hSw => by go_simp⟩) hS ?_)
          (try simp only [Act.put])
          (refine wpAnyH_take (i := 18) (v := .pointer (some ⟨db, 0, none⟩)) rfl (by kernel_rfl) (by kernel_rfl) (by kernel_rfl) (fun _ _ _ h => h) (Or.inl ⟨by kernel_rfl, fun w hSw => by go_simp⟩) hS ?_)
          (try simp only [Act.put])
          refine wpAnyH_ready (rs := [19]) (by decide +kernel) (by simp) (AllReadyH.cons rfl (fun K hK => ?_) AllReadyH.nil)
          go_simp
          refine hK.out _ _ (trivial) (fun hS => ?_)
          clear hK K
          (try simp only [Act.put])
          refine wpAnyH_done (by kernel_rfl) ?_ _
          clear hS
          go_wp2
          go_ret
          exact ⟨rfl, ⟨_, _, _, H6.out⟩, HF6.out⟩
end Go.Proofs.YtojgmdagamdcfaaGreatDoor

namespace Go.Proofs.YtojgmdagamdcfaaGreatDoor
open Go.RowKit

set_option maxRecDepth 100000 in
theorem own_low {w : World} {base base' size n : Nat} {e : TypeId} {v : Value} {xs : List Value} (h : w.ownsRow base e size v n xs) (hb : base' ≤ base) : w.ownsRow base' e size v n xs := by
  refine ⟨h.1, ?_⟩
  rcases h.2 with hn | ⟨g, cap, cur, hv, hbg, rest⟩
  · exact .inl hn
  · exact .inr ⟨g, cap, cur, hv, Nat.le_trans hb hbg, rest⟩
section
attribute [local go_sem ↓] ldDigest_def stDigest_def apAll_def bsAll_def

set_option maxRecDepth 100000 in
set_option maxHeartbeats 2000000 in
theorem rleaves_row (seed : List UInt8) (hs : seed.length = 32) (h : Nat) (hh : h ≤ 6) (w : World) :
    Calls Tryz.prog 28 #[.agg (seed.map bv).toArray, .int .i64 (h : Int)] w fun e w' => ∃ A c, e = .returned (.slice A (leavesT seed h).length c) ∧ w'.ownsRow w.heap.size 33 32 (.slice A (leavesT seed h).length c) (leavesT seed h).length ((leavesT seed h).flatten.map bv) ∧ Below w.heap.size w w' := by
  have HB : Hid (Box (w.alloc (.cells (seed.map bv).toArray 33)) w.heap.size 33 (seed.map bv).toArray) := Box.made _ _ _
  have HF : Hid (Below w.heap.size w (w.alloc (.cells (seed.map bv).toArray 33))) := (Below.refl _ _).alloc (Nat.le_refl _) _
  have HXA := Lib.hid (leaves_all seed h)
  have HXL : Hid ((leavesT seed h).length = 2 ^ h) := Lib.hid (leaves_len seed h)
  have HXP : Hid (∀ k, k < (leavesT seed h).length → (leavesT seed h).getD k [] = leafT (pubT seed (k : Int))) := Lib.hid (fun k hk => leaves_at seed h (by rw [← leaves_len seed h]; exact hk))
  have HSL := Lib.hid hs
  clear hs
  generalize leavesT seed h = X at *
  go_enter Tryz.func28, Tryz.ntmps28
  go_upto_region 1 with fail
  change Code.wp _ _ _ _ (w.alloc (.cells (seed.map bv).toArray 33))
  generalize w.alloc (.cells (seed.map bv).toArray 33) = w1 at *
  go_upto_region 4 with fail
  go_loopw [6, 7] (fun n i wr => ∃ k m : Nat, k ≤ h ∧ Hid (m = 2 ^ k) ∧ n = .int .i64 (m : Int) ∧ i = .int .i64 (k : Int) ∧ wr = w1) (fun _ i _ => h - (intOf i).toNat)
  case atStart => exact ⟨0, 1, Nat.zero_le _, by exact Lib.hid rfl, rfl, rfl, rfl⟩
  case round =>
    obtain ⟨k, m, hk, HM, rfl, rfl, rfl⟩ := hrel
    by_cases hlt : k < h
    · have hm : m ≤ 32 := by
        rw [HM.out]
        exact Nat.le_trans (Nat.pow_le_pow_right (by decide) (show k ≤ 5 by omega)) (by decide)
      have HM2 : Hid (2 * m = 2 ^ (k + 1)) := by
        show _ = _
        rw [HM.out, Nat.pow_succ, Nat.mul_comm]
      clear HM
      go_wp2
      go_roundw
      case rel => exact ⟨k + 1, 2 * m, hlt, HM2, by go_num, by go_num, trivial⟩
      case measure => simp [intOf]; omega
    · obtain rfl : k = h := by omega
      obtain rfl : m = X.length := by rw [HM.out, HXL.out]
      have hpow : X.length ≤ 64 := by
        rw [HXL.out]
        exact Nat.le_trans (Nat.pow_le_pow_right (by decide) hh) (by decide)
      have HW0 : Hid (PaW wr (.slice none 0 0) [] wr) := ⟨World.ownsRow_nil _ _ _ _, AllD.nil, Below.refl _ _⟩
      clear HM HXL hlt hk
      go_upto_region 8 with fail
      go_loopw [5, 8] (fun v i wx => ∃ (q : Nat) (Ap : Option Addr) (cp : Nat), q ≤ X.length ∧ i = .int .i64 (q : Int) ∧ v = .slice Ap q cp ∧ Hid (PaW wr (.slice Ap q cp) (X.take q) wx)) (fun _ i _ => X.length - (intOf i).toNat)
      case atStart => exact ⟨0, none, 0, Nat.zero_le _, rfl, rfl, HW0⟩
      case round =>
        clear HW0
        obtain ⟨q, Ap, cp, hq, rfl, rfl, HW⟩ := hrel
        by_cases hlt : q < X.length
        · have HPB : Hid (∀ w', Calls Tryz.prog 49 #[.agg (seed.map bv).toArray, .int .i64 (q : Int)] w' fun e w'' => e = .returned (.agg ((pubT seed (q : Int)).map bv).toArray) ∧ Below w'.heap.size w' w'') := fun w' => rpublic_any seed HSL.out q (by omega) (by omega) w'
          have HDG : Hid (∀ w', Calls Tryz.prog 48 #[.agg ((pubT seed (q : Int)).map bv).toArray] w' fun e w'' => e = .returned (str (pubT seed (q : Int))) ∧ Below w'.heap.size w' w'') := fun w' => digstr_any _ rfl w'
          have HLF : Hid (∀ w', Calls Tryz.prog 47 #[str (pubT seed (q : Int))] w' fun e w'' => e = .returned (.agg ((X.getD q []).map bv).toArray) ∧ Below w'.heap.size w' w'') := fun w' => by
            rw [HXP.out q hlt]
            exact rleaf_any _ (by rw [show (pubT seed (q : Int)).length = 32 from rfl]; decide) w'
          have HTS : Hid (X.take q ++ [X.getD q []] = X.take (q + 1)) := by
            show _ = _
            rw [List.take_succ_eq_append_getElem hlt, List.getD_eq_getElem?_getD, List.getElem?_eq_getElem hlt]
            rfl
          have HNL : Hid (q = (X.take q).length) := by
            show _ = _
            rw [List.length_take]
            omega
          have HRD := Lib.hid (HXA.out.get hlt [])
          have HBX := Lib.hid (HB.out.below HW.out.far HB.out.lt)
          have HLS := Lib.hid (dig_list seed HSL.out)
          have hbs := build_one (X.getD q []) HRD.out
          generalize X.getD q [] = r at *
          generalize pubT seed (q : Int) = p at *
          go_wp2_with (first
            | ((with_reducible show wpList _ _ _ ((⟨some 22, _, _, _, _, _⟩ : Oper) :: _) _ _); refine wpList_load_mid rfl 33 (.tmp 2) rfl w.heap.size 0 rfl (seed.map bv) _ HBX.out.range Tryz.underlying33 rfl HLS.out ?_)
            | (go_at_call 49; (with_reducible refine (HPB.out _).mono ?_); rintro e w2 ⟨rfl, hb⟩; have HW2 := Lib.hid (HW.out.call hb); clear hb)
            | (go_at_call 48; (with_reducible refine (HDG.out _).mono ?_); rintro e w3 ⟨rfl, hb⟩; have HW3 := Lib.hid (HW2.out.call hb); clear hb)
            | (go_at_call 47; (with_reducible refine (HLF.out _).mono ?_); rintro e w4 ⟨rfl, hb⟩; obtain ⟨A6, c6, w7, hap, hw7⟩ := push_dig HNL.out (HW3.out.call hb) (by omega) HRD.out; have HW7 := Lib.hid hw7; clear hb hw7))
          rw [HTS.out] at HW7
          clear hbs hap HW HPB HDG HLF
          go_roundw
          case rel => exact ⟨q + 1, A6, c6, hlt, by go_num, rfl, HW7⟩
          case measure => simp [intOf]; omega
        · obtain rfl : q = X.length := by omega
          have HW2 := HW.out
          rw [List.take_length] at HW2
          have HQ := Lib.hid (own_low HW2.own HF.out.size)
          have HFF := Lib.hid (HF.out.trans (HW2.far.mono HF.out.size))
          clear HW2
          go_wp2
          go_ret
          exact ⟨Ap, cp, rfl, HQ.out, HFF.out⟩
end

end Go.Proofs.YtojgmdagamdcfaaGreatDoor

namespace Go.Proofs.YtojgmdagamdcfaaGreatDoor
open Go.RowKit Go.Maps

noncomputable def bdEnt (parts : Array (Nat × Value)) : Sem Value := Instr.build 74 parts
set_option maxRecDepth 100000 in
theorem bdEnt_def (parts : Array (Nat × Value)) : Instr.build 74 parts = bdEnt parts := rfl
set_option maxRecDepth 100000 in
theorem built_ent {r s : List UInt8} (hr : r.length = 32) (hs : s.length = 32) (h : Int) (A : Option Addr) (n c : Nat) :
    Tryz.prog.built 74 [(0, .agg (keyV r h)), (1, .agg (s.map bv).toArray), (2, .slice A n c)] = some (keyL r h ++ (s.map bv ++ [Value.slice A n c, Value.int .i64 0, Value.slice none 0 0])).toArray := by
  have e : Tryz.prog.built 74 [(0, .agg (keyV r h)), (1, .agg (s.map bv).toArray), (2, .slice A n c)] = Instr.fill (#[(0, 33), (33, 32), (65, 1), (66, 1), (67, 1)][·]?) ([] ++ ((List.replicate 32 (Value.int .u8 0) ++ [Value.int .i64 0]) ++ (List.replicate 32 (Value.int .u8 0) ++ [Value.slice none 0 0, .int .i64 0, .slice none 0 0]))).toArray [(0, .agg (keyV r h)), (1, .agg (s.map bv).toArray), (2, .slice A n c)] := by kernel_rfl
  rw [e, fill_step (off := 0) (size := 33) (vs := keyL r h) rfl rfl (by simp) rfl (keyL_len hr h)]
  rw [List.nil_append, fill_step (off := 33) (size := 32) (vs := s.map bv) rfl (by simp [keyL_len hr]) (by simp) rfl (by simp [hs])]
  have e2 : (keyL r h ++ (s.map bv ++ [Value.slice none 0 0, .int .i64 0, .slice none 0 0]) : List Value) = (keyL r h ++ s.map bv) ++ ([.slice none 0 0] ++ [.int .i64 0, .slice none 0 0]) := by simp
  rw [e2, fill_step (off := 65) (size := 1) (vs := [.slice A n c]) rfl (by simp [hs, keyL_len hr]) rfl rfl rfl]
  unfold Instr.fill
  simp
set_option maxRecDepth 100000 in
theorem DEnt.list {w w' : World} {B p : Nat} {e : Ent} {A O : Option Addr} {ca co : Nat} (h : DEnt w B p e A ca O co) {row : Option Nat} (hg : w.grownBy w' row) (hr : ∀ g, row = some g → ∃ cs, Box w g 70 cs) : DEnt w' B p e A ca O co := by
  have ne : ∀ {g' t' cs'}, Box w g' t' cs' → t' ≠ 70 → some g' ≠ row := fun hb' ht e => by
    obtain ⟨cs, hb⟩ := hr _ e.symm
    exact Box.apart hb' hb ht rfl
  have own : ∀ {base size n : Nat} {t' : TypeId} {v : Value} {xs : List Value}, w.ownsRow base t' size v n xs → t' ≠ 70 → w'.ownsRow base t' size v n xs := fun ho ht =>
    own_at ho fun g' cs' _ hb' => hg.block g' hb'.lt (ne hb' ht)
  exact ⟨h.box.grown hg (ne h.box (by decide)), own h.leaves (by decide), own h.opens (by decide)⟩
set_option maxRecDepth 100000 in
theorem row_box {w : World} {base size n : Nat} {e : TypeId} {v : Value} {xs : List Value} (h : w.ownsRow base e size v n xs) {g : Nat} (hg : v.ownBlock = some g) : base ≤ g ∧ ∃ cs, Box w g e cs := by
  rcases h.2 with ⟨rfl, _⟩ | ⟨g', cap, cur, rfl, hb, hh, _⟩
  · cases hg
  · obtain rfl : g' = g := by simpa [Value.ownBlock] using hg
    exact ⟨hb, cur, hh⟩
set_option maxRecDepth 100000 in
/-- What comes in, and where the ring is then. -/
theorem DocP.add {w w5 : World} {B db c : Nat} {es : List Ent} {A : Option Addr} {ps : List Nat} (h : DocP w B db es A c ps) (hb : Below w.heap.size w w5) (hB : B ≤ w.heap.size) (few : es.length ≤ 1000) {e : Ent} (hp : EntP e) {X : Option Addr} {cx : Nat} (he0 : e.next = 0) (hl : w5.ownsRow w.heap.size 33 32 (.slice X (2 ^ e.h) cx) (2 ^ e.h) ((leavesT e.seed e.h).flatten.map bv)) :
    ∃ A9 c9 w8, (apAll #[28, 28] 28 #[.slice A es.length c, .slice (some ⟨w5.heap.size + 1, 0, none⟩) 1 1]).run Tryz.prog ((w5.alloc (.cells (rawL e (.slice X (2 ^ e.h) cx) (.int .i64 0) (.slice none 0 0)).toArray 74)).alloc (.cells #[.pointer (some ⟨w5.heap.size, 0, none⟩)] 70)) = .ok (.slice A9 (es.length + 1) c9) w8 ∧
      DocW (w8.setCell ⟨db, 0, none⟩ (.slice A9 (es.length + 1) c9)) B db (es ++ [e]) ∧ DFrame B w (w8.setCell ⟨db, 0, none⟩ (.slice A9 (es.length + 1) c9)) ∧ (∃ v, w8.cell? ⟨db, 0, none⟩ = some v) ∧ w8.frozen? ⟨db, 0, none⟩ = false ∧
      (∀ g t cs, Box w5 g t cs → t ≠ 30 → t ≠ 70 → Box (w8.setCell ⟨db, 0, none⟩ (.slice A9 (es.length + 1) c9)) g t cs ∧ Box w8 g t cs) := by
  obtain ⟨w6, hw6⟩ : ∃ w6, w6 = w5.alloc (.cells (rawL e (.slice X (2 ^ e.h) cx) (.int .i64 0) (.slice none 0 0)).toArray 74) := ⟨_, rfl⟩
  obtain ⟨w7, hw7⟩ : ∃ w7, w7 = w6.alloc (.cells #[.pointer (some ⟨w5.heap.size, 0, none⟩)] 70) := ⟨_, rfl⟩
  have b6 : Below w5.heap.size w5 w6 := by
    rw [hw6]
    exact (Below.refl _ _).alloc (Nat.le_refl _) _
  have b7 : Below w6.heap.size w6 w7 := by
    rw [hw7]
    exact (Below.refl _ _).alloc (Nat.le_refl _) _
  have z6 : w6.heap.size = w5.heap.size + 1 := by
    rw [hw6]
    simp
  have x6 : Box w6 w5.heap.size 74 (rawL e (.slice X (2 ^ e.h) cx) (.int .i64 0) (.slice none 0 0)).toArray := by
    rw [hw6]
    exact Box.made _ _ _
  have x7 : Box w7 w6.heap.size 70 #[.pointer (some ⟨w5.heap.size, 0, none⟩)] := by
    rw [hw7]
    exact Box.made _ _ _
  have b57 : Below w5.heap.size w5 w7 := b6.trans (b7.mono b6.size)
  have bw7 : Below w.heap.size w w7 := hb.trans (b57.mono hb.size)
  have h7 := h.call bw7
  rw [← hw6, ← hw7, ← z6]
  obtain ⟨v8, w8, hap, own8, g8⟩ := append_cells (A := some ⟨w6.heap.size, 0, none⟩) (m := 1) (c := 1) (ys := [.pointer (some ⟨w5.heap.size, 0, none⟩)]) Tryz.underlying28 ptr_inf rfl (by omega) h7.list (Sees.of_box x7 x7.lt) rfl (fun u hu => by obtain rfl := List.mem_singleton.1 hu; rfl) (by omega) (Nat.le_trans hB bw7.size)
  obtain ⟨A9, c9, rfl⟩ := own_slice_s own8
  have hrow : ∀ g, (Value.slice A es.length c).ownBlock = some g → B ≤ g ∧ ∃ cs, Box w7 g 70 cs := fun g hg => row_box h7.list hg
  have ne : ∀ {g' t' cs'}, Box w7 g' t' cs' → t' ≠ 70 → some g' ≠ (Value.slice A es.length c).ownBlock := fun hb' ht e => by
    obtain ⟨_, cs, hb2⟩ := hrow _ e.symm
    exact Box.apart hb' hb2 ht rfl
  have hr8 := h7.ring.grown g8 (ne h7.ring (by decide))
  have x8 := (x6.below b7 x6.lt).grown g8 (ne (x6.below b7 x6.lt) (by decide))
  have hE8 : DEnt w8 B w5.heap.size e X cx none 0 := by
    have ho : openN e = [] := by
      unfold openN
      rw [he0]
      rfl
    have ho2 : openL e = [] := by
      unfold openL
      rw [ho]
      rfl
    refine ⟨?_, ?_, ?_⟩
    · rw [entL_raw, ho2, he0]
      exact x8
    · have l7 := own_below hl b57
      have l8 : w8.ownsRow w.heap.size 33 32 (.slice X (2 ^ e.h) cx) (2 ^ e.h) ((leavesT e.seed e.h).flatten.map bv) := own_at l7 fun g' cs' _ hb' => g8.block g' hb'.lt (ne hb' (by decide))
      exact own_low l8 hB
    · rw [ho2]
      exact World.ownsRow_nil _ _ _ _
  have hlen := h.len
  have hps : ∀ p ∈ ps, p < w5.heap.size := fun p hp => by
    obtain ⟨j, hj, rfl⟩ := List.getElem_of_mem hp
    obtain ⟨_, a, ca, O, co, hE⟩ := h.ents j (by omega)
    have hlt := hE.box.lt
    rw [List.getD_eq_getElem?_getD, List.getElem?_eq_getElem hj] at hlt
    exact Nat.lt_of_lt_of_le hlt hb.size
  have own9 : w8.ownsRow B 70 1 (.slice A9 (es.length + 1) c9) (es.length + 1) ((ps ++ [w5.heap.size]).map ptrV) := by
    rw [List.map_append]
    exact own8
  have hnew := Nat.le_trans hB hb.size
  obtain ⟨h9, g9, d9, hc9, hf9⟩ := doc_relist hr8 rfl h.low.1 (es' := es ++ [e]) (ps' := ps ++ [w5.heap.size]) (by simp) own9 (fun j hj => by
    by_cases hje : j < es.length
    · rw [List.getElem_append_left hje]
      obtain ⟨q1, a, ca, O, co, hE⟩ := h7.ents j hje
      refine ⟨q1, a, ca, O, co, ?_⟩
      have e2 : (ps ++ [w5.heap.size]).getD j 0 = ps.getD j 0 := by
        rw [List.getD_eq_getElem?_getD, List.getD_eq_getElem?_getD, List.getElem?_append_left (by omega)]
      rw [e2]
      exact hE.list g8 (fun g hg => (hrow g hg).2)
    · have hj2 : j = es.length := by
        rw [List.length_append, List.length_singleton] at hj
        omega
      subst hj2
      rw [List.getElem_append_right (Nat.le_refl _)]
      have e2 : (ps ++ [w5.heap.size]).getD es.length 0 = w5.heap.size := by
        rw [List.getD_eq_getElem?_getD, List.getElem?_append_right (by omega), hlen, Nat.sub_self]
        rfl
      rw [e2]
      simp only [Nat.sub_self, List.getElem_cons_zero]
      exact ⟨hp, X, cx, none, 0, hE8⟩) (by
    rw [List.nodup_append]
    refine ⟨h.apart, by simp, fun a ha b hb2 => ?_⟩
    rw [List.mem_singleton] at hb2
    have := hps a ha
    omega) (fun p hp => by
    rcases List.mem_append.1 hp with hp | hp
    · exact h.low.2 p hp
    · rw [List.mem_singleton] at hp
      omega)
  refine ⟨A9, c9, w8, hap, ⟨_, _, _, h9⟩, ?_, hc9, hf9, fun g t cs hbx h1 h2 => ?_⟩
  · refine ((DFrame.of_below bw7).trans (DFrame.of_grown g8 (fun g hg => ?_))).trans (DFrame.of_grown g9 (fun g hg => by injection hg with hg; subst hg; exact ⟨h.low.1, d9⟩))
    obtain ⟨q1, cs, q2⟩ := hrow g hg
    refine ⟨q1, ?_⟩
    unfold Box at q2
    rw [q2]
    rfl
  · have hbx7 := hbx.below b57 hbx.lt
    have hbx8 := hbx7.grown g8 (ne hbx7 h2)
    exact ⟨hbx8.grown g9 (fun e => by injection e with e; exact Box.apart hbx8 hr8 h1 e), hbx8⟩

attribute [local go_sem ↓] ldKey_def eqKey_def apAll_def bdEnt_def ldDigest_def

set_option maxRecDepth 100000 in
set_option maxHeartbeats 2000000 in
theorem dadd_arg (seed : List UInt8) (h : Int) (hh : h < 0 ∨ 6 < h) (db : Nat) (w : World) : Calls Tryz.prog 9 #[.pointer (some ⟨db, 0, none⟩), .agg (seed.map bv).toArray, .int .i64 h] w fun e w' => e = .returned (.tuple #[.agg zkey, .int .i64 1]) ∧ Below w.heap.size w w' := by
  obtain ⟨w1, hw1⟩ : ∃ w1, w1 = (w.alloc (.cells (seed.map bv).toArray 33)).alloc (.cells zkey 37) := ⟨_, rfl⟩
  have HS : Hid (Box w1 w.heap.size 33 (seed.map bv).toArray) := by
    rw [hw1]
    exact (Box.made w _ _).alloc _
  have HO : Hid (Box w1 (w.heap.size + 1) 37 zkey) := by
    rw [hw1]
    exact Box.made_at (by simp) _ _
  have HF : Hid (Below w.heap.size w w1) := by
    rw [hw1]
    exact ((Below.refl _ _).alloc (Nat.le_refl _) _).alloc (by simp) _
  have HZ : Hid (w1.heap.size = w.heap.size + 1 + 1) := by
    rw [hw1]
    exact Lib.hid (by simp)
  by_cases h0 : h < 0
  · have d1 : decide (h < 0) = true := decide_eq_true h0
    clear h0 hh
    go_enter Tryz.func9, Tryz.ntmps9
    go_upto_region 1 with fail
    change Code.wp _ _ _ _ ((w.alloc (.cells (seed.map bv).toArray 33)).alloc (.cells zkey 37))
    rw [← hw1]
    clear hw1
    go_wp2_with (((with_reducible show wpList _ _ _ ((⟨none, Op.store _ (.tmp 6) (.tmp 15), _, _, _, _⟩ : Oper) :: _) _ _)); refine wpList_store_box rfl 37 (.tmp 6) (.tmp 15) rfl (w.heap.size + 1) zkey rfl rfl 37 zkey (HO.out) rfl (key_size (r := noneD) rfl 0) (keyL_one noneD 0) ?_; intro w7 hb7 hg7)
    exact ret_key_tmp rfl rfl rfl rfl hb7 (key_size (r := noneD) rfl 0) ⟨rfl, HF.out.trans (below_only hg7 (by omega) HF.out.size)⟩
  · have d1 : decide (h < 0) = false := decide_eq_false h0
    have d2 : decide (6 < h) = true := decide_eq_true (by omega)
    clear h0 hh
    go_enter Tryz.func9, Tryz.ntmps9
    go_upto_region 1 with fail
    change Code.wp _ _ _ _ ((w.alloc (.cells (seed.map bv).toArray 33)).alloc (.cells zkey 37))
    rw [← hw1]
    clear hw1
    go_wp2_with (((with_reducible show wpList _ _ _ ((⟨none, Op.store _ (.tmp 6) (.tmp 15), _, _, _, _⟩ : Oper) :: _) _ _)); refine wpList_store_box rfl 37 (.tmp 6) (.tmp 15) rfl (w.heap.size + 1) zkey rfl rfl 37 zkey (HO.out) rfl (key_size (r := noneD) rfl 0) (keyL_one noneD 0) ?_; intro w7 hb7 hg7)
    exact ret_key_tmp rfl rfl rfl rfl hb7 (key_size (r := noneD) rfl 0) ⟨rfl, HF.out.trans (below_only hg7 (by omega) HF.out.size)⟩

set_option maxRecDepth 100000 in
set_option maxHeartbeats 2000000 in
theorem dadd_other {w : World} {B db : Nat} {es : List Ent} (hD : DocW w B db es) (seed : List UInt8) (hs : seed.length = 32) (h : Nat) (hh : h ≤ 6) (hn : es.length ≤ 1000) {i : Nat} (hf : fndI es (keyT seed h) (h : Int) = (i : Int)) :
    Calls Tryz.prog 9 #[.pointer (some ⟨db, 0, none⟩), .agg (seed.map bv).toArray, .int .i64 (h : Int)] w fun e w' => e = .returned (.tuple #[.agg zkey, .int .i64 9]) ∧ Below w.heap.size w w' := by
  obtain ⟨w1, hw1⟩ : ∃ w1, w1 = (w.alloc (.cells (seed.map bv).toArray 33)).alloc (.cells zkey 37) := ⟨_, rfl⟩
  have HS : Hid (Box w1 w.heap.size 33 (seed.map bv).toArray) := by
    rw [hw1]
    exact (Box.made w _ _).alloc _
  have HO : Hid (Box w1 (w.heap.size + 1) 37 zkey) := by
    rw [hw1]
    exact Box.made_at (by simp) _ _
  have HF : Hid (Below w.heap.size w w1) := by
    rw [hw1]
    exact ((Below.refl _ _).alloc (Nat.le_refl _) _).alloc (by simp) _
  have HZ : Hid (w1.heap.size = w.heap.size + 1 + 1) := by
    rw [hw1]
    exact Lib.hid (by simp)
  have ls := HS.out.load_digest hs
  have HKY := Lib.hid (fun w' => rkey_any seed hs h hh w')
  have HD1 := Lib.hid (hD.call HF.out)
  have d1 : decide ((h : Int) < 0) = false := decide_eq_false (by omega)
  have d2 : decide ((6 : Int) < (h : Int)) = false := decide_eq_false (by omega)
  have HSL := Lib.hid hs
  have HHH := Lib.hid hh
  go_enter Tryz.func9, Tryz.ntmps9
  go_upto_region 1 with fail
  change Code.wp _ _ _ _ ((w.alloc (.cells (seed.map bv).toArray 33)).alloc (.cells zkey 37))
  rw [← hw1]
  clear hw1
  go_upto_region 4 with (first
    | (go_at_call 26; (with_reducible refine (HKY.out _).mono ?_); rintro e1 w3 ⟨rfl, hb⟩; have H3 := Lib.hid hb; clear hb)
    | (((with_reducible show wpList _ _ _ ((⟨none, Op.store _ (.tmp 8) (.tmp 18), _, _, _, _⟩ : Oper) :: _) _ _)); refine wpList_store_box rfl 37 (.tmp 8) (.tmp 18) rfl w3.heap.size (keyV (keyT seed h) (h : Int)) rfl rfl 37 zkey (Box.made w3 _ _) (key_same (keyT_len seed h) (s := noneD) rfl _ 0) (key_size (keyT_len seed h) _) (keyL_one _ _) ?_; intro w4 hb4 hg4; have H4 := Lib.hid (((Below.refl w3.heap.size w3).alloc (Nat.le_refl _) (.cells zkey 37)).trans (below_only hg4 (Nat.le_refl _) (by simp))); have HX4 := Lib.hid hb4; clear hb4 hg4))
  have H14 : Hid (Below w1.heap.size w1 w4) := Lib.hid (H3.out.trans (H4.out.mono H3.out.size))
  have lk : (ldKey (.pointer (some ⟨w3.heap.size, 0, none⟩))).run Tryz.prog w4 = .ok (.agg (keyV (keyT seed h) (h : Int))) w4 := HX4.out.load_key (keyT_len seed h)
  have HN := Lib.hid (dfind_any (HD1.out.call H14.out) (keyT seed h) (h : Int) (keyT_len seed h) hn)
  rw [hf] at HN
  have HO4 := Lib.hid (HO.out.below H14.out HO.out.lt)
  have HF4 : Hid (Below w.heap.size w w4) := Lib.hid (HF.out.trans (H14.out.mono HF.out.size))
  clear hD hs hh
  go_wp2_with (first
    | (go_at_call 27; (with_reducible refine (HN.out).mono ?_); rintro e w5 ⟨rfl, hb⟩; have H5 := Lib.hid hb; clear hb)
    | (((with_reducible show wpList _ _ _ ((⟨none, Op.store _ (.tmp 6) (.tmp 23), _, _, _, _⟩ : Oper) :: _) _ _)); refine wpList_store_box rfl 37 (.tmp 6) (.tmp 23) rfl (w.heap.size + 1) zkey rfl rfl 37 zkey (HO4.out.below H5.out HO4.out.lt) rfl (key_size (r := noneD) rfl 0) (keyL_one noneD 0) ?_; intro w7 hb7 hg7))
  exact ret_key_tmp rfl rfl rfl rfl hb7 (key_size (r := noneD) rfl 0) ⟨rfl, (HF4.out.trans (H5.out.mono HF4.out.size)).trans (below_only hg7 (by omega) (HF4.out.trans (H5.out.mono HF4.out.size)).size)⟩

set_option maxRecDepth 100000 in
set_option maxHeartbeats 4000000 in
theorem dadd_any {w : World} {B db : Nat} {es : List Ent} (hD : DocW w B db es) (seed : List UInt8) (hs : seed.length = 32) (h : Nat) (hh : h ≤ 6) (hn : es.length ≤ 1000) (hf : fndI es (keyT seed h) (h : Int) = -1) (hB : B ≤ w.heap.size) (sb ob tb gb : Nat) :
    Calls Tryz.prog 9 #[.pointer (some ⟨db, 0, none⟩), .agg (seed.map bv).toArray, .int .i64 (h : Int)] w fun e w' => e = .returned (.tuple #[.agg (keyV (keyT seed h) (h : Int)), .int .i64 0]) ∧ DocW w' B db (es ++ [Ent.fresh seed h sb ob tb gb]) ∧ DFrame B w w' := by
  obtain ⟨w1, hw1⟩ : ∃ w1, w1 = (w.alloc (.cells (seed.map bv).toArray 33)).alloc (.cells zkey 37) := ⟨_, rfl⟩
  have HS : Hid (Box w1 w.heap.size 33 (seed.map bv).toArray) := by
    rw [hw1]
    exact (Box.made w _ _).alloc _
  have HO : Hid (Box w1 (w.heap.size + 1) 37 zkey) := by
    rw [hw1]
    exact Box.made_at (by simp) _ _
  have HF : Hid (Below w.heap.size w w1) := by
    rw [hw1]
    exact ((Below.refl _ _).alloc (Nat.le_refl _) _).alloc (by simp) _
  have HZ : Hid (w1.heap.size = w.heap.size + 1 + 1) := by
    rw [hw1]
    exact Lib.hid (by simp)
  have ls := HS.out.load_digest hs
  have HKY := Lib.hid (fun w' => rkey_any seed hs h hh w')
  have HD1 := Lib.hid (hD.call HF.out)
  have d1 : decide ((h : Int) < 0) = false := decide_eq_false (by omega)
  have d2 : decide ((6 : Int) < (h : Int)) = false := decide_eq_false (by omega)
  have HSL := Lib.hid hs
  have HHH := Lib.hid hh
  go_enter Tryz.func9, Tryz.ntmps9
  go_upto_region 1 with fail
  change Code.wp _ _ _ _ ((w.alloc (.cells (seed.map bv).toArray 33)).alloc (.cells zkey 37))
  rw [← hw1]
  clear hw1
  go_upto_region 4 with (first
    | (go_at_call 26; (with_reducible refine (HKY.out _).mono ?_); rintro e1 w3 ⟨rfl, hb⟩; have H3 := Lib.hid hb; clear hb)
    | (((with_reducible show wpList _ _ _ ((⟨none, Op.store _ (.tmp 8) (.tmp 18), _, _, _, _⟩ : Oper) :: _) _ _)); refine wpList_store_box rfl 37 (.tmp 8) (.tmp 18) rfl w3.heap.size (keyV (keyT seed h) (h : Int)) rfl rfl 37 zkey (Box.made w3 _ _) (key_same (keyT_len seed h) (s := noneD) rfl _ 0) (key_size (keyT_len seed h) _) (keyL_one _ _) ?_; intro w4 hb4 hg4; have H4 := Lib.hid (((Below.refl w3.heap.size w3).alloc (Nat.le_refl _) (.cells zkey 37)).trans (below_only hg4 (Nat.le_refl _) (by simp))); have HX4 := Lib.hid hb4; clear hb4 hg4))
  have H14 : Hid (Below w1.heap.size w1 w4) := Lib.hid (H3.out.trans (H4.out.mono H3.out.size))
  have lk : (ldKey (.pointer (some ⟨w3.heap.size, 0, none⟩))).run Tryz.prog w4 = .ok (.agg (keyV (keyT seed h) (h : Int))) w4 := HX4.out.load_key (keyT_len seed h)
  have HN := Lib.hid (dfind_any (HD1.out.call H14.out) (keyT seed h) (h : Int) (keyT_len seed h) hn)
  rw [hf] at HN
  have HO4 := Lib.hid (HO.out.below H14.out HO.out.lt)
  have HS4 := Lib.hid (HS.out.below H14.out HS.out.lt)
  have HF4 : Hid (Below w.heap.size w w4) := Lib.hid (HF.out.trans (H14.out.mono HF.out.size))
  have HBS := Lib.hid hB
  have HZ3 : Hid (w1.heap.size ≤ w3.heap.size) := Lib.hid H3.out.size
  go_upto_region 6 with (go_at_call 27; (with_reducible refine (HN.out).mono ?_); rintro e w5 ⟨rfl, hb⟩; have H5 := Lib.hid hb; clear hb)
  have HO5 : Hid (Box w5.drew (w.heap.size + 1) 37 zkey) := Lib.hid (HO4.out.below H5.out.drew HO4.out.lt)
  have HS5 : Hid (Box w5.drew w.heap.size 33 (seed.map bv).toArray) := Lib.hid (HS4.out.below H5.out.drew HS4.out.lt)
  have HX5 : Hid (Box w5.drew w3.heap.size 37 (keyV (keyT seed h) (h : Int))) := Lib.hid (HX4.out.below H5.out.drew HX4.out.lt)
  have HF5 : Hid (Below w.heap.size w w5.drew) := Lib.hid (HF4.out.trans (H5.out.mono HF4.out.size)).drew
  have HD5 : Hid (DocW w5.drew B db es) := Lib.hid ((HD1.out.call H14.out).call H5.out.drew)
  obtain ⟨A, c, ps, hP⟩ := HD5.out
  have HP := Lib.hid hP
  have HLV := Lib.hid (fun w' => rleaves_row seed hs h hh w')
  clear hP hD hs hh lk ls HO HS HF HX4 HO4 HS4 HF4 HD1 HN hB H5 H4 H3 H14
  obtain ⟨tx, htx⟩ : ∃ tx, 2 ^ h = tx := ⟨_, rfl⟩
  have HTX := Lib.hid htx
  have HLV2 : Hid (∀ w', Calls Tryz.prog 28 #[.agg (seed.map bv).toArray, .int .i64 (h : Int)] w' fun e w'' => ∃ X c, e = .returned (.slice X tx c) ∧ w''.ownsRow w'.heap.size 33 32 (.slice X tx c) tx ((leavesT seed h).flatten.map bv) ∧ Below w'.heap.size w' w'') := Lib.hid (fun w' => by
    have hl := HLV.out w'
    rw [leaves_len, htx] at hl
    exact hl)
  clear HLV htx
  have HN6 := Lib.hid hn
  have hn1 := key_list (keyT_len seed h) (h : Int)
  have hundk := key_struct
  have hn2 := dig_list seed HSL.out
  have hund := Tryz.underlying33
  have HBT : Hid (∀ (X : Option Addr) (cx : Nat) w, (bdEnt #[(0, .agg (keyV (keyT seed h) (h : Int))), (1, .agg (seed.map bv).toArray), (2, .slice X tx cx)]).run Tryz.prog w = .ok (.agg (keyL (keyT seed h) (h : Int) ++ (seed.map bv ++ [Value.slice X tx cx, Value.int .i64 0, Value.slice none 0 0])).toArray) w) := Lib.hid (fun X cx w => run_build (P := Tryz.prog) w _ _ _ (built_ent (keyT_len seed h) HSL.out (h : Int) X tx cx))
  refine wp_region_held_drew (S := fun w' => Box w' w3.heap.size 37 (keyV (keyT seed h) (h : Int)) ∧ Box w' w.heap.size 33 (seed.map bv).toArray) (by kernel_rfl) ⟨HX5.out, HS5.out⟩ (fun hS => ?_)
  generalize w5.drew = w6 at *
  have hc6 : w6.cell? ⟨db, 0, none⟩ = some (.slice A es.length c) := HP.out.ring.cell 0
  (refine wpAnyH_take (i := 0) (v := .pointer (some ⟨db, 0, none⟩)) rfl (by kernel_rfl) (by kernel_rfl) (by kernel_rfl) (fun _ _ _ h => h) (Or.inl ⟨by kernel_rfl, fun w hSw => by go_simp⟩) hS ?_)
  (try simp only [Act.put])
  (refine wpAnyH_take (i := 1) (v := .pointer (some ⟨db, 0, none⟩)) rfl (by kernel_rfl) (by kernel_rfl) (by kernel_rfl) (fun _ _ _ h => h) (Or.inl ⟨by kernel_rfl, fun w hSw => by go_simp⟩) hS ?_)
  (try simp only [Act.put])
  (refine wpAnyH_take (i := 2) (v := .pointer (some ⟨db, 0, none⟩)) rfl (by kernel_rfl) (by kernel_rfl) (by kernel_rfl) (fun _ _ _ h => h) (Or.inl ⟨by kernel_rfl, fun w hSw => by go_simp⟩) hS ?_)
  (try simp only [Act.put])
  (refine wpAnyH_take (i := 3) (v := .pointer (some ⟨db, 0, none⟩)) rfl (by kernel_rfl) (by kernel_rfl) (by kernel_rfl) (fun _ _ _ h => h) (Or.inl ⟨by kernel_rfl, fun w hSw => by go_simp⟩) hS ?_)
  (try simp only [Act.put])
  (refine wpAnyH_take (i := 5) (v := .agg (keyV (keyT seed h) (h : Int))) rfl (by kernel_rfl) (by kernel_rfl) (by kernel_rfl) (fun _ _ _ h => h) (yieldsIf_load_mid (by kernel_rfl) 37 (.tmp 8) rfl w3.heap.size (0) (by kernel_rfl) (keyL (keyT seed h) (h : Int)) _ (fun w h => h.1.range) hundk rfl hn1) hS ?_)
  (try simp only [Act.put])
  (refine wpAnyH_take (i := 6) (v := .agg (seed.map bv).toArray) rfl (by kernel_rfl) (by kernel_rfl) (by kernel_rfl) (fun _ _ _ h => h) (yieldsIf_load_mid (by kernel_rfl) 33 (.tmp 4) rfl w.heap.size (0) (by kernel_rfl) (seed.map bv) _ (fun w h => h.2.range) hund rfl hn2) hS ?_)
  (try simp only [Act.put])
  (refine wpAnyH_take (i := 7) (v := .agg (seed.map bv).toArray) rfl (by kernel_rfl) (by kernel_rfl) (by kernel_rfl) (fun _ _ _ h => h) (yieldsIf_load_mid (by kernel_rfl) 33 (.tmp 4) rfl w.heap.size (0) (by kernel_rfl) (seed.map bv) _ (fun w h => h.2.range) hund rfl hn2) hS ?_)
  (try simp only [Act.put])
  (refine wpAnyH_take (i := 8) (v := .int .i64 (h : Int)) rfl (by kernel_rfl) (by kernel_rfl) (by kernel_rfl) (fun _ _ _ h => h) (Or.inl ⟨by kernel_rfl, fun w hSw => by go_simp⟩) hS ?_)
  (try simp only [Act.put])
  refine wpAnyH_ready (rs := [4, 9]) (by decide +kernel) (by simp) (AllReadyH.cons rfl (fun K hK => ?_) (AllReadyH.cons rfl (fun K hK => ?_) AllReadyH.nil))
  · go_simp
    refine hK.out _ _ (⟨HX5.out, HS5.out⟩) (fun hS => ?_)
    clear hK K
    (try simp only [Act.put])
    refine wpAnyH_ready (rs := [9]) (by decide +kernel) (by simp) (AllReadyH.cons rfl (fun K hK => ?_) AllReadyH.nil)
    · go_simp
      (go_at_call 28; (with_reducible refine (HLV2.out _).mono ?_); rintro e1 w7 ⟨X, cx, rfl, ho7, hb7⟩)
      have HB7 := Lib.hid hb7
      have hadd := HP.out.add HB7.out (Nat.le_trans HBS.out HF5.out.size) HN6.out (e := Ent.fresh seed h sb ob tb gb) (X := X) (cx := cx) ⟨HSL.out, HHH.out, by simp [Ent.fresh], Nat.zero_le _⟩ rfl (by
        show w7.ownsRow w6.heap.size 33 32 (.slice X (2 ^ h) cx) (2 ^ h) ((leavesT seed h).flatten.map bv)
        rw [HTX.out]
        exact ho7)
      rw [show rawL (Ent.fresh seed h sb ob tb gb) (.slice X (2 ^ (Ent.fresh seed h sb ob tb gb).h) cx) (.int .i64 0) (.slice none 0 0) = keyL (keyT seed h) (h : Int) ++ (seed.map bv ++ [Value.slice X tx cx, Value.int .i64 0, Value.slice none 0 0]) from by rw [← HTX.out]; rfl] at hadd
      obtain ⟨A9, c9, w8, hap, hD9, hF9, ⟨v9, hc9⟩, hf9, hbx⟩ := hadd
      have HD9 := Lib.hid hD9
      have HF9 := Lib.hid (((DFrame.of_below HF5.out)).trans hF9)
      have HC9 := Lib.hid (And.intro hc9 hf9)
      have HBX := Lib.hid hbx
      have HX7 := Lib.hid (HX5.out.below hb7 HX5.out.lt)
      have HS7 := Lib.hid (HS5.out.below hb7 HS5.out.lt)
      have HO7 := Lib.hid (HO5.out.below hb7 HO5.out.lt)
      have hcc7 : w7.cell? ⟨db, 0, none⟩ = some (.slice A es.length c) := (HP.out.ring.below hb7 HP.out.ring.lt).cell 0
      have hcc8 : (w7.alloc (.cells (keyL (keyT seed h) (h : Int) ++ (seed.map bv ++ [Value.slice X tx cx, Value.int .i64 0, Value.slice none 0 0])).toArray 74)).cell? ⟨db, 0, none⟩ = some (.slice A es.length c) := ((HP.out.ring.below hb7 HP.out.ring.lt).alloc _).cell 0
      have hccA : ((w7.alloc (.cells (keyL (keyT seed h) (h : Int) ++ (seed.map bv ++ [Value.slice X tx cx, Value.int .i64 0, Value.slice none 0 0])).toArray 74)).alloc (.cells #[.pointer (some ⟨w7.heap.size, 0, none⟩)] 70)).cell? ⟨db, 0, none⟩ = some (.slice A es.length c) := (((HP.out.ring.below hb7 HP.out.ring.lt).alloc _).alloc _).cell 0
      have hbt := HBT.out X cx
      clear hD9 hF9 hc9 hf9 hbx ho7 hb7
      refine hK.out _ _ (⟨HX7.out, HS7.out⟩) (fun hS => ?_)
      clear hK K
      (try simp only [Act.put])
      (refine wpAnyH_take (i := 10) (v := .agg (keyL (keyT seed h) (h : Int) ++ (seed.map bv ++ [Value.slice X tx cx, Value.int .i64 0, Value.slice none 0 0])).toArray) rfl (by kernel_rfl) (by kernel_rfl) (by kernel_rfl) (fun _ _ _ h => h) (Or.inl ⟨by kernel_rfl, fun w hSw => by have hc := hbt w; go_simp⟩) hS ?_)
      (try simp only [Act.put])
      clear hbt
      refine wpAnyH_ready (rs := [11]) (by decide +kernel) (by simp) (AllReadyH.cons rfl (fun K hK => ?_) AllReadyH.nil)
      · go_simp
        refine hK.out _ _ (⟨HX7.out.alloc _, HS7.out.alloc _⟩) (fun hS => ?_)
        clear hK K
        (try simp only [Act.put])
        refine wpAnyH_ready (rs := [12]) (by decide +kernel) (by simp) (AllReadyH.cons rfl (fun K hK => ?_) AllReadyH.nil)
        · go_simp
          refine hK.out _ _ (⟨(HX7.out.alloc _).alloc _, (HS7.out.alloc _).alloc _⟩) (fun hS => ?_)
          clear hK K
          (try simp only [Act.put])
          refine wpAnyH_ready (rs := [13]) (by decide +kernel) (by simp) (AllReadyH.cons rfl (fun K hK => ?_) AllReadyH.nil)
          go_simp
          refine hK.out _ _ (⟨(HBX.out _ _ _ HX7.out (by decide) (by decide)).2, (HBX.out _ _ _ HS7.out (by decide) (by decide)).2⟩) (fun hS => ?_)
          clear hK K
          (try simp only [Act.put])
          (refine wpAnyH_take (i := 14) (v := .pointer (some ⟨db, 0, none⟩)) rfl (by kernel_rfl) (by kernel_rfl) (by kernel_rfl) (fun _ _ _ h => h) (Or.inl ⟨by kernel_rfl, fun w hSw => by go_simp⟩) hS ?_)
          (try simp only [Act.put])
          (refine wpAnyH_take (i := 15) (v := .pointer (some ⟨db, 0, none⟩)) rfl (by kernel_rfl) (by kernel_rfl) (by kernel_rfl) (fun _ _ _ h => h) (Or.inl ⟨by kernel_rfl, fun w hSw => by go_simp⟩) hS ?_)
          (try simp only [Act.put])
          have hc9 := HC9.out.1
          have hf9 := HC9.out.2
          refine wpAnyH_ready (rs := [16]) (by decide +kernel) (by simp) (AllReadyH.cons rfl (fun K hK => ?_) AllReadyH.nil)
          go_simp
          refine hK.out _ _ (⟨(HBX.out _ _ _ HX7.out (by decide) (by decide)).1, (HBX.out _ _ _ HS7.out (by decide) (by decide)).1⟩) (fun hS => ?_)
          clear hK K
          (try simp only [Act.put])
          refine wpAnyH_done (by kernel_rfl) ?_ _
          clear hS hc9 hf9
          have HX9 := Lib.hid (HBX.out _ _ _ HX7.out (by decide) (by decide)).1
          have HO9 := Lib.hid (HBX.out _ _ _ HO7.out (by decide) (by decide)).1
          generalize w8.setCell ⟨db, 0, none⟩ (.slice A9 (es.length + 1) c9) = w9 at *
          have lk := Box.load_key HX9.out (keyT_len seed h)
          clear hap hcc7 hcc8 hccA
          go_wp2_with (((with_reducible show wpList _ _ _ ((⟨none, Op.store _ (.tmp 6) (.tmp 40), _, _, _, _⟩ : Oper) :: _) _ _)); refine wpList_store_box rfl 37 (.tmp 6) (.tmp 40) rfl (w.heap.size + 1) (keyV (keyT seed h) (h : Int)) rfl rfl 37 zkey HO9.out (key_same (keyT_len seed h) (s := noneD) rfl _ 0) (key_size (keyT_len seed h) _) (keyL_one _ _) ?_; intro wb hbb hgb)
          obtain ⟨A0, c0, ps0, hP0⟩ := HD9.out
          exact ret_key_tmp rfl rfl rfl rfl hbb (key_size (keyT_len seed h) _) ⟨rfl, ⟨_, _, _, hP0.other hgb HO9.out (by decide) (by decide) (by decide) (by decide) (by decide)⟩, HF9.out.new hgb (by omega)⟩
  · go_simp
    (go_at_call 28; (with_reducible refine (HLV2.out _).mono ?_); rintro e1 w7 ⟨X, cx, rfl, ho7, hb7⟩)
    have HB7 := Lib.hid hb7
    have hadd := HP.out.add HB7.out (Nat.le_trans HBS.out HF5.out.size) HN6.out (e := Ent.fresh seed h sb ob tb gb) (X := X) (cx := cx) ⟨HSL.out, HHH.out, by simp [Ent.fresh], Nat.zero_le _⟩ rfl (by
      show w7.ownsRow w6.heap.size 33 32 (.slice X (2 ^ h) cx) (2 ^ h) ((leavesT seed h).flatten.map bv)
      rw [HTX.out]
      exact ho7)
    rw [show rawL (Ent.fresh seed h sb ob tb gb) (.slice X (2 ^ (Ent.fresh seed h sb ob tb gb).h) cx) (.int .i64 0) (.slice none 0 0) = keyL (keyT seed h) (h : Int) ++ (seed.map bv ++ [Value.slice X tx cx, Value.int .i64 0, Value.slice none 0 0]) from by rw [← HTX.out]; rfl] at hadd
    obtain ⟨A9, c9, w8, hap, hD9, hF9, ⟨v9, hc9⟩, hf9, hbx⟩ := hadd
    have HD9 := Lib.hid hD9
    have HF9 := Lib.hid (((DFrame.of_below HF5.out)).trans hF9)
    have HC9 := Lib.hid (And.intro hc9 hf9)
    have HBX := Lib.hid hbx
    have HX7 := Lib.hid (HX5.out.below hb7 HX5.out.lt)
    have HS7 := Lib.hid (HS5.out.below hb7 HS5.out.lt)
    have HO7 := Lib.hid (HO5.out.below hb7 HO5.out.lt)
    have hcc7 : w7.cell? ⟨db, 0, none⟩ = some (.slice A es.length c) := (HP.out.ring.below hb7 HP.out.ring.lt).cell 0
    have hcc8 : (w7.alloc (.cells (keyL (keyT seed h) (h : Int) ++ (seed.map bv ++ [Value.slice X tx cx, Value.int .i64 0, Value.slice none 0 0])).toArray 74)).cell? ⟨db, 0, none⟩ = some (.slice A es.length c) := ((HP.out.ring.below hb7 HP.out.ring.lt).alloc _).cell 0
    have hccA : ((w7.alloc (.cells (keyL (keyT seed h) (h : Int) ++ (seed.map bv ++ [Value.slice X tx cx, Value.int .i64 0, Value.slice none 0 0])).toArray 74)).alloc (.cells #[.pointer (some ⟨w7.heap.size, 0, none⟩)] 70)).cell? ⟨db, 0, none⟩ = some (.slice A es.length c) := (((HP.out.ring.below hb7 HP.out.ring.lt).alloc _).alloc _).cell 0
    have hbt := HBT.out X cx
    clear hD9 hF9 hc9 hf9 hbx ho7 hb7
    refine hK.out _ _ (⟨HX7.out, HS7.out⟩) (fun hS => ?_)
    clear hK K
    (try simp only [Act.put])
    (refine wpAnyH_take (i := 10) (v := .agg (keyL (keyT seed h) (h : Int) ++ (seed.map bv ++ [Value.slice X tx cx, Value.int .i64 0, Value.slice none 0 0])).toArray) rfl (by kernel_rfl) (by kernel_rfl) (by kernel_rfl) (fun _ _ _ h => h) (Or.inl ⟨by kernel_rfl, fun w hSw => by have hc := hbt w; go_simp⟩) hS ?_)
    (try simp only [Act.put])
    clear hbt
    refine wpAnyH_ready (rs := [4, 11]) (by decide +kernel) (by simp) (AllReadyH.cons rfl (fun K hK => ?_) (AllReadyH.cons rfl (fun K hK => ?_) AllReadyH.nil))
    · go_simp
      refine hK.out _ _ (⟨HX7.out, HS7.out⟩) (fun hS => ?_)
      clear hK K
      (try simp only [Act.put])
      refine wpAnyH_ready (rs := [11]) (by decide +kernel) (by simp) (AllReadyH.cons rfl (fun K hK => ?_) AllReadyH.nil)
      · go_simp
        refine hK.out _ _ (⟨HX7.out.alloc _, HS7.out.alloc _⟩) (fun hS => ?_)
        clear hK K
        (try simp only [Act.put])
        refine wpAnyH_ready (rs := [12]) (by decide +kernel) (by simp) (AllReadyH.cons rfl (fun K hK => ?_) AllReadyH.nil)
        · go_simp
          refine hK.out _ _ (⟨(HX7.out.alloc _).alloc _, (HS7.out.alloc _).alloc _⟩) (fun hS => ?_)
          clear hK K
          (try simp only [Act.put])
          refine wpAnyH_ready (rs := [13]) (by decide +kernel) (by simp) (AllReadyH.cons rfl (fun K hK => ?_) AllReadyH.nil)
          go_simp
          refine hK.out _ _ (⟨(HBX.out _ _ _ HX7.out (by decide) (by decide)).2, (HBX.out _ _ _ HS7.out (by decide) (by decide)).2⟩) (fun hS => ?_)
          clear hK K
          (try simp only [Act.put])
          (refine wpAnyH_take (i := 14) (v := .pointer (some ⟨db, 0, none⟩)) rfl (by kernel_rfl) (by kernel_rfl) (by kernel_rfl) (fun _ _ _ h => h) (Or.inl ⟨by kernel_rfl, fun w hSw => by go_simp⟩) hS ?_)
          (try simp only [Act.put])
          (refine wpAnyH_take (i := 15) (v := .pointer (some ⟨db, 0, none⟩)) rfl (by kernel_rfl) (by kernel_rfl) (by kernel_rfl) (fun _ _ _ h => h) (Or.inl ⟨by kernel_rfl, fun w hSw => by go_simp⟩) hS ?_)
          (try simp only [Act.put])
          have hc9 := HC9.out.1
          have hf9 := HC9.out.2
          refine wpAnyH_ready (rs := [16]) (by decide +kernel) (by simp) (AllReadyH.cons rfl (fun K hK => ?_) AllReadyH.nil)
          go_simp
          refine hK.out _ _ (⟨(HBX.out _ _ _ HX7.out (by decide) (by decide)).1, (HBX.out _ _ _ HS7.out (by decide) (by decide)).1⟩) (fun hS => ?_)
          clear hK K
          (try simp only [Act.put])
          refine wpAnyH_done (by kernel_rfl) ?_ _
          clear hS hc9 hf9
          have HX9 := Lib.hid (HBX.out _ _ _ HX7.out (by decide) (by decide)).1
          have HO9 := Lib.hid (HBX.out _ _ _ HO7.out (by decide) (by decide)).1
          generalize w8.setCell ⟨db, 0, none⟩ (.slice A9 (es.length + 1) c9) = w9 at *
          have lk := Box.load_key HX9.out (keyT_len seed h)
          clear hap hcc7 hcc8 hccA
          go_wp2_with (((with_reducible show wpList _ _ _ ((⟨none, Op.store _ (.tmp 6) (.tmp 40), _, _, _, _⟩ : Oper) :: _) _ _)); refine wpList_store_box rfl 37 (.tmp 6) (.tmp 40) rfl (w.heap.size + 1) (keyV (keyT seed h) (h : Int)) rfl rfl 37 zkey HO9.out (key_same (keyT_len seed h) (s := noneD) rfl _ 0) (key_size (keyT_len seed h) _) (keyL_one _ _) ?_; intro wb hbb hgb)
          obtain ⟨A0, c0, ps0, hP0⟩ := HD9.out
          exact ret_key_tmp rfl rfl rfl rfl hbb (key_size (keyT_len seed h) _) ⟨rfl, ⟨_, _, _, hP0.other hgb HO9.out (by decide) (by decide) (by decide) (by decide) (by decide)⟩, HF9.out.new hgb (by omega)⟩
    · go_simp
      refine hK.out _ _ (⟨HX7.out.alloc _, HS7.out.alloc _⟩) (fun hS => ?_)
      clear hK K
      (try simp only [Act.put])
      refine wpAnyH_ready (rs := [4, 12]) (by decide +kernel) (by simp) (AllReadyH.cons rfl (fun K hK => ?_) (AllReadyH.cons rfl (fun K hK => ?_) AllReadyH.nil))
      · go_simp
        refine hK.out _ _ (⟨HX7.out.alloc _, HS7.out.alloc _⟩) (fun hS => ?_)
        clear hK K
        (try simp only [Act.put])
        refine wpAnyH_ready (rs := [12]) (by decide +kernel) (by simp) (AllReadyH.cons rfl (fun K hK => ?_) AllReadyH.nil)
        · go_simp
          refine hK.out _ _ (⟨(HX7.out.alloc _).alloc _, (HS7.out.alloc _).alloc _⟩) (fun hS => ?_)
          clear hK K
          (try simp only [Act.put])
          refine wpAnyH_ready (rs := [13]) (by decide +kernel) (by simp) (AllReadyH.cons rfl (fun K hK => ?_) AllReadyH.nil)
          go_simp
          refine hK.out _ _ (⟨(HBX.out _ _ _ HX7.out (by decide) (by decide)).2, (HBX.out _ _ _ HS7.out (by decide) (by decide)).2⟩) (fun hS => ?_)
          clear hK K
          (try simp only [Act.put])
          (refine wpAnyH_take (i := 14) (v := .pointer (some ⟨db, 0, none⟩)) rfl (by kernel_rfl) (by kernel_rfl) (by kernel_rfl) (fun _ _ _ h => h) (Or.inl ⟨by kernel_rfl, fun w hSw => by go_simp⟩) hS ?_)
          (try simp only [Act.put])
          (refine wpAnyH_take (i := 15) (v := .pointer (some ⟨db, 0, none⟩)) rfl (by kernel_rfl) (by kernel_rfl) (by kernel_rfl) (fun _ _ _ h => h) (Or.inl ⟨by kernel_rfl, fun w hSw => by go_simp⟩) hS ?_)
          (try simp only [Act.put])
          have hc9 := HC9.out.1
          have hf9 := HC9.out.2
          refine wpAnyH_ready (rs := [16]) (by decide +kernel) (by simp) (AllReadyH.cons rfl (fun K hK => ?_) AllReadyH.nil)
          go_simp
          refine hK.out _ _ (⟨(HBX.out _ _ _ HX7.out (by decide) (by decide)).1, (HBX.out _ _ _ HS7.out (by decide) (by decide)).1⟩) (fun hS => ?_)
          clear hK K
          (try simp only [Act.put])
          refine wpAnyH_done (by kernel_rfl) ?_ _
          clear hS hc9 hf9
          have HX9 := Lib.hid (HBX.out _ _ _ HX7.out (by decide) (by decide)).1
          have HO9 := Lib.hid (HBX.out _ _ _ HO7.out (by decide) (by decide)).1
          generalize w8.setCell ⟨db, 0, none⟩ (.slice A9 (es.length + 1) c9) = w9 at *
          have lk := Box.load_key HX9.out (keyT_len seed h)
          clear hap hcc7 hcc8 hccA
          go_wp2_with (((with_reducible show wpList _ _ _ ((⟨none, Op.store _ (.tmp 6) (.tmp 40), _, _, _, _⟩ : Oper) :: _) _ _)); refine wpList_store_box rfl 37 (.tmp 6) (.tmp 40) rfl (w.heap.size + 1) (keyV (keyT seed h) (h : Int)) rfl rfl 37 zkey HO9.out (key_same (keyT_len seed h) (s := noneD) rfl _ 0) (key_size (keyT_len seed h) _) (keyL_one _ _) ?_; intro wb hbb hgb)
          obtain ⟨A0, c0, ps0, hP0⟩ := HD9.out
          exact ret_key_tmp rfl rfl rfl rfl hbb (key_size (keyT_len seed h) _) ⟨rfl, ⟨_, _, _, hP0.other hgb HO9.out (by decide) (by decide) (by decide) (by decide) (by decide)⟩, HF9.out.new hgb (by omega)⟩
      · go_simp
        refine hK.out _ _ (⟨(HX7.out.alloc _).alloc _, (HS7.out.alloc _).alloc _⟩) (fun hS => ?_)
        clear hK K
        (try simp only [Act.put])
        refine wpAnyH_ready (rs := [4]) (by decide +kernel) (by simp) (AllReadyH.cons rfl (fun K hK => ?_) AllReadyH.nil)
        · go_simp
          refine hK.out _ _ (⟨(HX7.out.alloc _).alloc _, (HS7.out.alloc _).alloc _⟩) (fun hS => ?_)
          clear hK K
          (try simp only [Act.put])
          refine wpAnyH_ready (rs := [13]) (by decide +kernel) (by simp) (AllReadyH.cons rfl (fun K hK => ?_) AllReadyH.nil)
          go_simp
          refine hK.out _ _ (⟨(HBX.out _ _ _ HX7.out (by decide) (by decide)).2, (HBX.out _ _ _ HS7.out (by decide) (by decide)).2⟩) (fun hS => ?_)
          clear hK K
          (try simp only [Act.put])
          (refine wpAnyH_take (i := 14) (v := .pointer (some ⟨db, 0, none⟩)) rfl (by kernel_rfl) (by kernel_rfl) (by kernel_rfl) (fun _ _ _ h => h) (Or.inl ⟨by kernel_rfl, fun w hSw => by go_simp⟩) hS ?_)
          (try simp only [Act.put])
          (refine wpAnyH_take (i := 15) (v := .pointer (some ⟨db, 0, none⟩)) rfl (by kernel_rfl) (by kernel_rfl) (by kernel_rfl) (fun _ _ _ h => h) (Or.inl ⟨by kernel_rfl, fun w hSw => by go_simp⟩) hS ?_)
          (try simp only [Act.put])
          have hc9 := HC9.out.1
          have hf9 := HC9.out.2
          refine wpAnyH_ready (rs := [16]) (by decide +kernel) (by simp) (AllReadyH.cons rfl (fun K hK => ?_) AllReadyH.nil)
          go_simp
          refine hK.out _ _ (⟨(HBX.out _ _ _ HX7.out (by decide) (by decide)).1, (HBX.out _ _ _ HS7.out (by decide) (by decide)).1⟩) (fun hS => ?_)
          clear hK K
          (try simp only [Act.put])
          refine wpAnyH_done (by kernel_rfl) ?_ _
          clear hS hc9 hf9
          have HX9 := Lib.hid (HBX.out _ _ _ HX7.out (by decide) (by decide)).1
          have HO9 := Lib.hid (HBX.out _ _ _ HO7.out (by decide) (by decide)).1
          generalize w8.setCell ⟨db, 0, none⟩ (.slice A9 (es.length + 1) c9) = w9 at *
          have lk := Box.load_key HX9.out (keyT_len seed h)
          clear hap hcc7 hcc8 hccA
          go_wp2_with (((with_reducible show wpList _ _ _ ((⟨none, Op.store _ (.tmp 6) (.tmp 40), _, _, _, _⟩ : Oper) :: _) _ _)); refine wpList_store_box rfl 37 (.tmp 6) (.tmp 40) rfl (w.heap.size + 1) (keyV (keyT seed h) (h : Int)) rfl rfl 37 zkey HO9.out (key_same (keyT_len seed h) (s := noneD) rfl _ 0) (key_size (keyT_len seed h) _) (keyL_one _ _) ?_; intro wb hbb hgb)
          obtain ⟨A0, c0, ps0, hP0⟩ := HD9.out
          exact ret_key_tmp rfl rfl rfl rfl hbb (key_size (keyT_len seed h) _) ⟨rfl, ⟨_, _, _, hP0.other hgb HO9.out (by decide) (by decide) (by decide) (by decide) (by decide)⟩, HF9.out.new hgb (by omega)⟩
end Go.Proofs.YtojgmdagamdcfaaGreatDoor
