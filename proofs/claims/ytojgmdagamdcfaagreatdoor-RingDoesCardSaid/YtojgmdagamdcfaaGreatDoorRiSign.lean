/-
  A ring signs: (*ring.Ring).Sign; what it signed is right.
-/
import Derived.Test.YtojgmdagamdcfaaGreatDoorRiPut
import Derived.Deep.RegionHeld3
namespace Go.Proofs.YtojgmdagamdcfaaGreatDoor
open Go.RowKit Go.Maps

/-- A signature of a tree's n-th key, in memory. -/
def SigW (w : World) (cs : Array Value) (seed : List UInt8) (h n : Nat) (d : List UInt8) : Prop :=
  ∃ g1 g2 A c base, cs = sigV (n : Int) (some ⟨g1, 0, none⟩) 32 32 (some ⟨g2, 0, none⟩) 32 32 A (pathT (leavesT seed h) n).length c ∧ Box w g1 33 ((openT seed (n : Int) d).flatten.map bv).toArray ∧ Box w g2 33 ((shutT seed (n : Int) d).flatten.map bv).toArray ∧
    w.ownsRow base 33 32 (.slice A (pathT (leavesT seed h) n).length c) (pathT (leavesT seed h) n).length ((pathT (leavesT seed h) n).flatten.map bv) ∧ AllD (pathT (leavesT seed h) n)
set_option maxRecDepth 100000 in
theorem SigW.call {w w' : World} {cs : Array Value} {seed d : List UInt8} {h n : Nat} (s : SigW w cs seed h n d) (hb : Below w.heap.size w w') : SigW w' cs seed h n d := by
  obtain ⟨g1, g2, A, c, base, e, b1, b2, ho, ha⟩ := s
  exact ⟨g1, g2, A, c, base, e, b1.below hb b1.lt, b2.below hb b2.lt, World.ownsRow.kept ho (only_below hb none) (by cases (Value.slice A (pathT (leavesT seed h) n).length c).ownBlock <;> simp), ha⟩
set_option maxRecDepth 100000 in
theorem SigW.aside {w w' : World} {cs : Array Value} {seed d : List UInt8} {h n g : Nat} (s : SigW w cs seed h n d) (hg : w.grownBy w' (some g)) {t : TypeId} {vs : Array Value} (hb : Box w g t vs) (ht : t ≠ 33) : SigW w' cs seed h n d := by
  obtain ⟨g1, g2, A, c, base, e, b1, b2, ho, ha⟩ := s
  refine ⟨g1, g2, A, c, base, e, b1.grown hg (fun e => ?_), b2.grown hg (fun e => ?_), World.ownsRow.kept ho hg (.inr (Box.own_ne hb ho (Ne.symm ht))), ha⟩
  · injection e with e
    exact Box.apart b1 hb (Ne.symm ht) e
  · injection e with e
    exact Box.apart b2 hb (Ne.symm ht) e
set_option maxRecDepth 100000 in
theorem SigW.form {w : World} {cs : Array Value} {seed d : List UInt8} {h n : Nat} (s : SigW w cs seed h n d) : ∃ A a B b C z c, cs = sigV (n : Int) A 32 a B 32 b C z c := by
  obtain ⟨g1, g2, A, c, base, e, _⟩ := s
  exact ⟨_, _, _, _, _, _, _, e⟩
set_option maxRecDepth 100000 in
/-- What a tree signed is right under its key. -/
theorem SigW.right {w : World} {cs : Array Value} {seed d : List UInt8} (hd : d.length = 32) {h n : Nat} (hh : h ≤ 6) (hn : n < 2 ^ h) (s : SigW w cs seed h n d) (hR : Roots w) :
    Calls Tryz.prog 23 #[.agg (keyV (keyT seed h) (h : Int)), .agg (d.map bv).toArray, .agg cs] w fun e w' => e = .returned (.bool true) ∧ Below w.heap.size w w' := by
  obtain ⟨g1, g2, C, c, base, rfl, b1, b2, ho, ha⟩ := s
  obtain ⟨h1, h2⟩ := sign_lens seed (n : Int) d
  have hA : Digs w w.heap.size (some ⟨g1, 0, none⟩) (openT seed (n : Int) d) := ⟨open_all seed n d, Sees.of_box b1 b1.lt⟩
  have hB : Digs w w.heap.size (some ⟨g2, 0, none⟩) (shutT seed (n : Int) d) := ⟨shut_all seed n d, Sees.of_box b2 b2.lt⟩
  have hC : Digs w w.heap.size C (pathT (leavesT seed h) n) := OwnD.digs ho ha
  have hc := (OwnD.form ho).1
  have hk := kcheck_any (keyT seed h) d (keyT_len seed h) hd (h : Int) (n : Int) (openT seed (n : Int) d) (shutT seed (n : Int) d) (pathT (leavesT seed h) n) (some ⟨g1, 0, none⟩) (some ⟨g2, 0, none⟩) C 32 32 c hc w hA hB hC hR
  rw [goodK_own seed d h n hh hn, h1, h2] at hk
  exact hk

attribute [local go_sem ↓] ldKey_def lkStock_def ldDigest_def stSig_def

set_option maxRecDepth 100000 in
set_option maxHeartbeats 1000000 in
theorem sign_nil (r d : List UInt8) (k n : Int) (hr : r.length = 32) (w : World) : Calls Tryz.prog 12 #[.pointer none, .agg (keyV r k), .int .i64 n, .agg (d.map bv).toArray] w fun e w' => e = .returned (.tuple #[.agg zsig, .int .i64 2]) ∧ Below w.heap.size w w' := by
  obtain ⟨w1, hw1⟩ : ∃ w1, w1 = ((w.alloc (.cells (keyV r k) 37)).alloc (.cells (d.map bv).toArray 33)).alloc (.cells zsig 48) := ⟨_, rfl⟩
  have HD : Hid (Box w1 (w.heap.size + 1) 33 (d.map bv).toArray) := by
    rw [hw1]
    exact (Box.made_at (by simp) _ _).alloc _
  have HO : Hid (Box w1 (w.heap.size + 1 + 1) 48 zsig) := by
    rw [hw1]
    exact Box.made_at (by simp) _ _
  have HF : Hid (Below w.heap.size w w1) := by
    rw [hw1]
    exact (((Below.refl _ _).alloc (Nat.le_refl _) _).alloc (by simp) _).alloc (by simp; omega) _
  have HZ : Hid (w1.heap.size = w.heap.size + 1 + 1 + 1) := by
    rw [hw1]
    exact Lib.hid (by simp)
  have lk : (ldKey (.pointer (some ⟨w.heap.size, 0, none⟩))).run Tryz.prog w1 = .ok (.agg (keyV r k)) w1 := by
    rw [hw1]
    exact Box.load_key (((Box.made w 37 (keyV r k)).alloc _).alloc _) hr
  have HN := Lib.hid (find_nil r k w1)
  go_enter Tryz.func12, Tryz.ntmps12
  go_upto_region 1 with fail
  change Code.wp _ _ _ _ (((w.alloc (.cells (keyV r k) 37)).alloc (.cells (d.map bv).toArray 33)).alloc (.cells zsig 48))
  rw [← hw1]
  clear hw1
  go_wp2_with (first
    | (go_at_call 29; (with_reducible refine (HN.out).mono ?_); rintro e1 w2 ⟨rfl, hb⟩; have H2 := Lib.hid hb; clear hb)
    | (((with_reducible show wpList _ _ _ ((⟨none, Op.store _ (.tmp 8) (.tmp 20), _, _, _, _⟩ : Oper) :: _) _ _)); refine wpList_store_box rfl 48 (.tmp 8) (.tmp 20) rfl (w.heap.size + 1 + 1) zsig rfl rfl 48 zsig (HO.out.below H2.out HO.out.lt) rfl (sig_size 0 none 0 0 none 0 0 none 0 0) (sig_one 0 none 0 0 none 0 0 none 0 0) ?_; intro w7 hb7 hg7))
  exact ret_sig_tmp rfl rfl rfl rfl hb7 (sig_size 0 none 0 0 none 0 0 none 0 0) ⟨rfl, (HF.out.trans (H2.out.mono HF.out.size)).trans (below_only hg7 (by omega) (HF.out.trans (H2.out.mono HF.out.size)).size)⟩

set_option maxRecDepth 100000 in
set_option maxHeartbeats 1000000 in
theorem sign_not {w : World} {B rb mb m : Nat} {es : List Ent} (h : RingW w B rb mb m es) {r : List UInt8} {k : Int} (hr : r.length = 32) (hw : (Lit.int .i64 k).wf = true) (hk : ∀ e ∈ es, e.is r k = false) (n : Int) (d : List UInt8) :
    Calls Tryz.prog 12 #[.pointer (some ⟨rb, 0, none⟩), .agg (keyV r k), .int .i64 n, .agg (d.map bv).toArray] w fun e w' => e = .returned (.tuple #[.agg zsig, .int .i64 7]) ∧ Below w.heap.size w w' := by
  obtain ⟨w1, hw1⟩ : ∃ w1, w1 = ((w.alloc (.cells (keyV r k) 37)).alloc (.cells (d.map bv).toArray 33)).alloc (.cells zsig 48) := ⟨_, rfl⟩
  have HD : Hid (Box w1 (w.heap.size + 1) 33 (d.map bv).toArray) := by
    rw [hw1]
    exact (Box.made_at (by simp) _ _).alloc _
  have HO : Hid (Box w1 (w.heap.size + 1 + 1) 48 zsig) := by
    rw [hw1]
    exact Box.made_at (by simp) _ _
  have HF : Hid (Below w.heap.size w w1) := by
    rw [hw1]
    exact (((Below.refl _ _).alloc (Nat.le_refl _) _).alloc (by simp) _).alloc (by simp; omega) _
  have HZ : Hid (w1.heap.size = w.heap.size + 1 + 1 + 1) := by
    rw [hw1]
    exact Lib.hid (by simp)
  have lk : (ldKey (.pointer (some ⟨w.heap.size, 0, none⟩))).run Tryz.prog w1 = .ok (.agg (keyV r k)) w1 := by
    rw [hw1]
    exact Box.load_key (((Box.made w 37 (keyV r k)).alloc _).alloc _) hr
  have HN := Lib.hid (find_not (h.call HF.out) hr hw hk)
  go_enter Tryz.func12, Tryz.ntmps12
  go_upto_region 1 with fail
  change Code.wp _ _ _ _ (((w.alloc (.cells (keyV r k) 37)).alloc (.cells (d.map bv).toArray 33)).alloc (.cells zsig 48))
  rw [← hw1]
  clear hw1
  go_wp2_with (first
    | (go_at_call 29; (with_reducible refine (HN.out).mono ?_); rintro e1 w2 ⟨rfl, hb⟩; have H2 := Lib.hid hb; clear hb)
    | (((with_reducible show wpList _ _ _ ((⟨none, Op.store _ (.tmp 8) (.tmp 20), _, _, _, _⟩ : Oper) :: _) _ _)); refine wpList_store_box rfl 48 (.tmp 8) (.tmp 20) rfl (w.heap.size + 1 + 1) zsig rfl rfl 48 zsig (HO.out.below H2.out HO.out.lt) rfl (sig_size 0 none 0 0 none 0 0 none 0 0) (sig_one 0 none 0 0 none 0 0 none 0 0) ?_; intro w7 hb7 hg7))
  exact ret_sig_tmp rfl rfl rfl rfl hb7 (sig_size 0 none 0 0 none 0 0 none 0 0) ⟨rfl, (HF.out.trans (H2.out.mono HF.out.size)).trans (below_only hg7 (by omega) (HF.out.trans (H2.out.mono HF.out.size)).size)⟩

set_option maxRecDepth 100000 in
set_option maxHeartbeats 1000000 in
theorem sign_neg {w : World} {B rb mb m : Nat} {es : List Ent} (h : RingW w B rb mb m es) {e : Ent} (he : e ∈ es) {r : List UInt8} {k : Int} (hk : e.is r k = true) (n : Int) (hn : n < 0) (d : List UInt8) :
    Calls Tryz.prog 12 #[.pointer (some ⟨rb, 0, none⟩), .agg (keyV r k), .int .i64 n, .agg (d.map bv).toArray] w fun e1 w' => e1 = .returned (.tuple #[.agg zsig, .int .i64 9]) ∧ Below w.heap.size w w' := by
  have hr : r.length = 32 := by rw [← (Ent.is_iff.1 hk).1]; exact e.root_len
  have d1 : decide (n < 0) = true := by simpa using hn
  obtain ⟨w1, hw1⟩ : ∃ w1, w1 = ((w.alloc (.cells (keyV r k) 37)).alloc (.cells (d.map bv).toArray 33)).alloc (.cells zsig 48) := ⟨_, rfl⟩
  have HD : Hid (Box w1 (w.heap.size + 1) 33 (d.map bv).toArray) := by
    rw [hw1]
    exact (Box.made_at (by simp) _ _).alloc _
  have HO : Hid (Box w1 (w.heap.size + 1 + 1) 48 zsig) := by
    rw [hw1]
    exact Box.made_at (by simp) _ _
  have HF : Hid (Below w.heap.size w w1) := by
    rw [hw1]
    exact (((Below.refl _ _).alloc (Nat.le_refl _) _).alloc (by simp) _).alloc (by simp; omega) _
  have HZ : Hid (w1.heap.size = w.heap.size + 1 + 1 + 1) := by
    rw [hw1]
    exact Lib.hid (by simp)
  have lk : (ldKey (.pointer (some ⟨w.heap.size, 0, none⟩))).run Tryz.prog w1 = .ok (.agg (keyV r k)) w1 := by
    rw [hw1]
    exact Box.load_key (((Box.made w 37 (keyV r k)).alloc _).alloc _) hr
  have H1 := Lib.hid (h.call HF.out)
  have HN := Lib.hid (find_any H1.out he hk)
  go_enter Tryz.func12, Tryz.ntmps12
  go_upto_region 1 with fail
  change Code.wp _ _ _ _ (((w.alloc (.cells (keyV r k) 37)).alloc (.cells (d.map bv).toArray 33)).alloc (.cells zsig 48))
  rw [← hw1]
  clear hw1
  clear h
  go_upto_region 2 with (go_at_call 29; (with_reducible refine (HN.out).mono ?_); rintro e1 w2 ⟨rfl, hb⟩; have H2 := Lib.hid hb; clear hb)
  go_wp2_with (((with_reducible show wpList _ _ _ ((⟨none, Op.store _ (.tmp 8) (.tmp 42), _, _, _, _⟩ : Oper) :: _) _ _)); refine wpList_store_box rfl 48 (.tmp 8) (.tmp 42) rfl (w.heap.size + 1 + 1) zsig rfl rfl 48 zsig (HO.out.below H2.out HO.out.lt) rfl (sig_size 0 none 0 0 none 0 0 none 0 0) (sig_one 0 none 0 0 none 0 0 none 0 0) ?_; intro w7 hb7 hg7)
  exact ret_sig_tmp rfl rfl rfl rfl hb7 (sig_size 0 none 0 0 none 0 0 none 0 0) ⟨rfl, (HF.out.trans (H2.out.mono HF.out.size)).trans (below_only hg7 (by omega) (HF.out.trans (H2.out.mono HF.out.size)).size)⟩

set_option maxRecDepth 100000 in
set_option maxHeartbeats 1000000 in
theorem sign_past {w : World} {B rb mb m : Nat} {es : List Ent} (h : RingW w B rb mb m es) {e : Ent} (he : e ∈ es) {r : List UInt8} {k : Int} (hk : e.is r k = true) (n : Int) (h0 : 0 ≤ n) (hn : (e.next : Int) ≤ n) (d : List UInt8) :
    Calls Tryz.prog 12 #[.pointer (some ⟨rb, 0, none⟩), .agg (keyV r k), .int .i64 n, .agg (d.map bv).toArray] w fun e1 w' => e1 = .returned (.tuple #[.agg zsig, .int .i64 9]) ∧ Below w.heap.size w w' := by
  have hr : r.length = 32 := by rw [← (Ent.is_iff.1 hk).1]; exact e.root_len
  have d1 : decide (n < 0) = false := by
    rw [decide_eq_false_iff_not]
    omega
  have d2 : decide ((e.next : Int) ≤ n) = true := by simpa using hn
  have HC : Hid (∀ w', RingW w' B rb mb m es → w'.cell? ⟨e.sb, 1, none⟩ = some (.int .i64 (e.next : Int))) := fun w' h' => (h'.ents e he).c1
  obtain ⟨w1, hw1⟩ : ∃ w1, w1 = ((w.alloc (.cells (keyV r k) 37)).alloc (.cells (d.map bv).toArray 33)).alloc (.cells zsig 48) := ⟨_, rfl⟩
  have HD : Hid (Box w1 (w.heap.size + 1) 33 (d.map bv).toArray) := by
    rw [hw1]
    exact (Box.made_at (by simp) _ _).alloc _
  have HO : Hid (Box w1 (w.heap.size + 1 + 1) 48 zsig) := by
    rw [hw1]
    exact Box.made_at (by simp) _ _
  have HF : Hid (Below w.heap.size w w1) := by
    rw [hw1]
    exact (((Below.refl _ _).alloc (Nat.le_refl _) _).alloc (by simp) _).alloc (by simp; omega) _
  have HZ : Hid (w1.heap.size = w.heap.size + 1 + 1 + 1) := by
    rw [hw1]
    exact Lib.hid (by simp)
  have lk : (ldKey (.pointer (some ⟨w.heap.size, 0, none⟩))).run Tryz.prog w1 = .ok (.agg (keyV r k)) w1 := by
    rw [hw1]
    exact Box.load_key (((Box.made w 37 (keyV r k)).alloc _).alloc _) hr
  have H1 := Lib.hid (h.call HF.out)
  have HN := Lib.hid (find_any H1.out he hk)
  go_enter Tryz.func12, Tryz.ntmps12
  go_upto_region 1 with fail
  change Code.wp _ _ _ _ (((w.alloc (.cells (keyV r k) 37)).alloc (.cells (d.map bv).toArray 33)).alloc (.cells zsig 48))
  rw [← hw1]
  clear hw1
  clear h
  generalize e.next = x at *
  go_upto_region 2 with (go_at_call 29; (with_reducible refine (HN.out).mono ?_); rintro e1 w2 ⟨rfl, hb⟩; have H2 := Lib.hid hb; have c1 := HC.out _ (H1.out.call H2.out); clear hb)
  go_wp2_with (((with_reducible show wpList _ _ _ ((⟨none, Op.store _ (.tmp 8) (.tmp 42), _, _, _, _⟩ : Oper) :: _) _ _)); refine wpList_store_box rfl 48 (.tmp 8) (.tmp 42) rfl (w.heap.size + 1 + 1) zsig rfl rfl 48 zsig (HO.out.below H2.out HO.out.lt) rfl (sig_size 0 none 0 0 none 0 0 none 0 0) (sig_one 0 none 0 0 none 0 0 none 0 0) ?_; intro w7 hb7 hg7)
  exact ret_sig_tmp rfl rfl rfl rfl hb7 (sig_size 0 none 0 0 none 0 0 none 0 0) ⟨rfl, (HF.out.trans (H2.out.mono HF.out.size)).trans (below_only hg7 (by omega) (HF.out.trans (H2.out.mono HF.out.size)).size)⟩

set_option maxRecDepth 100000 in
set_option maxHeartbeats 1000000 in
theorem sign_used {w : World} {B rb mb m : Nat} {es : List Ent} (h : RingW w B rb mb m es) {e : Ent} (he : e ∈ es) {r : List UInt8} {k : Int} (hk : e.is r k = true) (n : Int) (h0 : 0 ≤ n) (hn : n < (e.next : Int)) (hf : e.opens.getD n.toNat false = false) (d : List UInt8) :
    Calls Tryz.prog 12 #[.pointer (some ⟨rb, 0, none⟩), .agg (keyV r k), .int .i64 n, .agg (d.map bv).toArray] w fun e1 w' => e1 = .returned (.tuple #[.agg zsig, .int .i64 9]) ∧ Below w.heap.size w w' := by
  have hr : r.length = 32 := by rw [← (Ent.is_iff.1 hk).1]; exact e.root_len
  have d1 : decide (n < 0) = false := by
    rw [decide_eq_false_iff_not]
    omega
  have d2 : decide ((e.next : Int) ≤ n) = false := by
    rw [decide_eq_false_iff_not]
    omega
  have d3 : n < ((2 ^ e.h : Nat) : Int) := by
    have := (h.ents e he).next
    omega
  have HC : Hid (∀ w', RingW w' B rb mb m es → w'.cell? ⟨e.sb, 1, none⟩ = some (.int .i64 (e.next : Int)) ∧ w'.cell? ⟨e.sb, 2, none⟩ = some (.slice (some ⟨e.ob, 0, none⟩) (2 ^ e.h) (2 ^ e.h)) ∧ w'.cell? ⟨e.ob, n.toNat, none⟩ = some (.bool false)) := fun w' h' => by
    have h3 := (h'.ents e he).co (i := n.toNat) (by omega)
    rw [hf] at h3
    exact ⟨(h'.ents e he).c1, (h'.ents e he).c2, h3⟩
  obtain ⟨w1, hw1⟩ : ∃ w1, w1 = ((w.alloc (.cells (keyV r k) 37)).alloc (.cells (d.map bv).toArray 33)).alloc (.cells zsig 48) := ⟨_, rfl⟩
  have HD : Hid (Box w1 (w.heap.size + 1) 33 (d.map bv).toArray) := by
    rw [hw1]
    exact (Box.made_at (by simp) _ _).alloc _
  have HO : Hid (Box w1 (w.heap.size + 1 + 1) 48 zsig) := by
    rw [hw1]
    exact Box.made_at (by simp) _ _
  have HF : Hid (Below w.heap.size w w1) := by
    rw [hw1]
    exact (((Below.refl _ _).alloc (Nat.le_refl _) _).alloc (by simp) _).alloc (by simp; omega) _
  have HZ : Hid (w1.heap.size = w.heap.size + 1 + 1 + 1) := by
    rw [hw1]
    exact Lib.hid (by simp)
  have lk : (ldKey (.pointer (some ⟨w.heap.size, 0, none⟩))).run Tryz.prog w1 = .ok (.agg (keyV r k)) w1 := by
    rw [hw1]
    exact Box.load_key (((Box.made w 37 (keyV r k)).alloc _).alloc _) hr
  have H1 := Lib.hid (h.call HF.out)
  have HN := Lib.hid (find_any H1.out he hk)
  go_enter Tryz.func12, Tryz.ntmps12
  go_upto_region 1 with fail
  change Code.wp _ _ _ _ (((w.alloc (.cells (keyV r k) 37)).alloc (.cells (d.map bv).toArray 33)).alloc (.cells zsig 48))
  rw [← hw1]
  clear hw1
  clear h
  generalize 2 ^ e.h = q at *
  generalize e.next = x at *
  go_upto_region 2 with (go_at_call 29; (with_reducible refine (HN.out).mono ?_); rintro e1 w2 ⟨rfl, hb⟩; have H2 := Lib.hid hb; obtain ⟨c1, c2, c3⟩ := HC.out _ (H1.out.call H2.out); clear hb)
  go_wp2_with (((with_reducible show wpList _ _ _ ((⟨none, Op.store _ (.tmp 8) (.tmp 42), _, _, _, _⟩ : Oper) :: _) _ _)); refine wpList_store_box rfl 48 (.tmp 8) (.tmp 42) rfl (w.heap.size + 1 + 1) zsig rfl rfl 48 zsig (HO.out.below H2.out HO.out.lt) rfl (sig_size 0 none 0 0 none 0 0 none 0 0) (sig_one 0 none 0 0 none 0 0 none 0 0) ?_; intro w7 hb7 hg7)
  exact ret_sig_tmp rfl rfl rfl rfl hb7 (sig_size 0 none 0 0 none 0 0 none 0 0) ⟨rfl, (HF.out.trans (H2.out.mono HF.out.size)).trans (below_only hg7 (by omega) (HF.out.trans (H2.out.mono HF.out.size)).size)⟩

/-- What Sign answers where n is open. -/
def RingSignIs (w : World) (B rb mb m : Nat) (es : List Ent) (seed : List UInt8) (h n : Nat) (d : List UInt8) (x : Ending) (w' : World) : Prop :=
  ∃ cs, x = .returned (.tuple #[.agg cs, .int .i64 0]) ∧ SigW w' cs seed h n d ∧ RingW w' B rb mb m es ∧ RFrame B w w'

set_option maxRecDepth 100000 in
set_option maxHeartbeats 2000000 in
theorem rsign_ok {w : World} {B rb mb m : Nat} {es : List Ent} (h : RingW w B rb mb m es) {e : Ent} (he : e ∈ es) {r : List UInt8} {k : Int} (hk : e.is r k = true) (n : Nat) (hn : n < e.next) (ht : e.opens.getD n false = true) (d : List UInt8) (hd : d.length = 32) (hR : Roots w) (hB : B ≤ w.heap.size) (hBl : 1 < B) :
    Calls Tryz.prog 12 #[.pointer (some ⟨rb, 0, none⟩), .agg (keyV r k), .int .i64 (n : Int), .agg (d.map bv).toArray] w (RingSignIs w B rb mb m (upd es (e.opened n false)) e.seed e.h n d) := by
  have hr : r.length = 32 := by rw [← (Ent.is_iff.1 hk).1]; exact e.root_len
  have d1 : decide ((n : Int) < 0) = false := by
    rw [decide_eq_false_iff_not]
    omega
  have d2 : decide ((e.next : Int) ≤ (n : Int)) = false := by
    rw [decide_eq_false_iff_not]
    omega
  have d2' : decide (e.next ≤ n) = false := by
    rw [decide_eq_false_iff_not]
    omega
  have hq := (h.ents e he).next
  have d0 : (0 : Int) ≤ (n : Int) := by omega
  have d3 : (n : Int) < ((2 ^ e.h : Nat) : Int) := by omega
  have HQ : Hid (n < 2 ^ e.h) := Lib.hid (by omega)
  have HH := Lib.hid (h.ents e he).high
  have HSD := Lib.hid (h.ents e he).seed
  have HDL := Lib.hid hd
  have HC : Hid (∀ w', RingW w' B rb mb m es → w'.cell? ⟨e.sb, 1, none⟩ = some (.int .i64 (e.next : Int)) ∧ w'.cell? ⟨e.sb, 2, none⟩ = some (.slice (some ⟨e.ob, 0, none⟩) (2 ^ e.h) (2 ^ e.h)) ∧ w'.cell? ⟨e.ob, n, none⟩ = some (.bool true) ∧ w'.frozen? ⟨e.ob, n, none⟩ = false) := fun w' h' => by
    have h3 := (h'.ents e he).co (i := n) (by omega)
    rw [ht] at h3
    exact ⟨(h'.ents e he).c1, (h'.ents e he).c2, h3, (h'.ents e he).opens.free _⟩
  have HT : Hid (∀ w', RingW w' B rb mb m es → RingW (w'.setCell ⟨e.ob, n, none⟩ (.bool false)) B rb mb m (upd es (e.opened n false)) ∧ RFrame B w' (w'.setCell ⟨e.ob, n, none⟩ (.bool false)) ∧ (∀ g t cs, Box w' g t cs → t ≠ 4 → Box (w'.setCell ⟨e.ob, n, none⟩ (.bool false)) g t cs)) := fun w' h' =>
    ⟨h'.put_open he _ _, h'.frame_open he _ _, fun g t cs hb ht => hb.aside (fun e1 => Box.apart hb (h'.ents e he).opens ht e1) _⟩
  have HR0 := Lib.hid hR
  have HB := Lib.hid hB
  have HBL := Lib.hid hBl
  clear hBl
  clear hq
  obtain ⟨w1, hw1⟩ : ∃ w1, w1 = ((w.alloc (.cells (keyV r k) 37)).alloc (.cells (d.map bv).toArray 33)).alloc (.cells zsig 48) := ⟨_, rfl⟩
  have HD : Hid (Box w1 (w.heap.size + 1) 33 (d.map bv).toArray) := by
    rw [hw1]
    exact (Box.made_at (by simp) _ _).alloc _
  have HO : Hid (Box w1 (w.heap.size + 1 + 1) 48 zsig) := by
    rw [hw1]
    exact Box.made_at (by simp) _ _
  have HF : Hid (Below w.heap.size w w1) := by
    rw [hw1]
    exact (((Below.refl _ _).alloc (Nat.le_refl _) _).alloc (by simp) _).alloc (by simp; omega) _
  have HZ : Hid (w1.heap.size = w.heap.size + 1 + 1 + 1) := by
    rw [hw1]
    exact Lib.hid (by simp)
  have lk : (ldKey (.pointer (some ⟨w.heap.size, 0, none⟩))).run Tryz.prog w1 = .ok (.agg (keyV r k)) w1 := by
    rw [hw1]
    exact Box.load_key (((Box.made w 37 (keyV r k)).alloc _).alloc _) hr
  have H1 := Lib.hid (h.call HF.out)
  have HN := Lib.hid (find_any H1.out he hk)
  go_enter Tryz.func12, Tryz.ntmps12
  go_upto_region 1 with fail
  change Code.wp _ _ _ _ (((w.alloc (.cells (keyV r k) 37)).alloc (.cells (d.map bv).toArray 33)).alloc (.cells zsig 48))
  rw [← hw1]
  clear hw1
  clear h hR hB hn ht
  have HEM := Lib.hid (opened_mem he n false)
  obtain ⟨q, hqe⟩ : ∃ q, q = 2 ^ e.h := ⟨_, rfl⟩
  rw [← hqe] at HC d3
  have HQE := Lib.hid hqe
  clear hqe
  obtain ⟨x, hxe⟩ : ∃ x, x = e.next := ⟨_, rfl⟩
  rw [← hxe] at HC d2 d2'
  clear hxe
  go_upto_region 2 with (go_at_call 29; (with_reducible refine (HN.out).mono ?_); rintro e1 w2 ⟨rfl, hb⟩; have H2 := Lib.hid hb; have H3 := Lib.hid (H1.out.call hb); have F2 : Hid (RFrame B w w2) := (RFrame.of_below HF.out).trans (RFrame.of_below hb); obtain ⟨c1, c2, c3, c4⟩ := HC.out _ H3.out; clear hb)
  go_upto_region 7 with fail
  clear c1 c2 c3 c4
  obtain ⟨T1, T2, T3⟩ := HT.out _ H3.out
  have H4 := Lib.hid T1
  have F4 := Lib.hid (F2.out.trans T2)
  have HD4 := Lib.hid (T3 _ _ _ (HD.out.below H2.out HD.out.lt) (by decide))
  have HO4 := Lib.hid (T3 _ _ _ (HO.out.below H2.out HO.out.lt) (by decide))
  clear T1 T2 T3
  have HZ4 : Hid (w.heap.size ≤ (w2.setCell ⟨e.ob, n, none⟩ (.bool false)).heap.size) := Lib.hid F4.out.size
  generalize w2.setCell ⟨e.ob, n, none⟩ (.bool false) = w4 at *
  have HE4 := Lib.hid (H4.out.ents _ HEM.out)
  have HR4 := Lib.hid (HR0.out.of_below' F4.out HB.out HBL.out)
  have HSG : Hid (∀ w', Below w4.heap.size w4 w' → Calls Tryz.prog 31 #[.pointer (some ⟨e.tb, 0, none⟩), .int .i64 (n : Int), .agg (d.map bv).toArray] w' (TSignIs w' n (openT e.seed n d) (shutT e.seed n d) (pathT (leavesT e.seed e.h) n))) := fun w' hb =>
    tsign_any e.tb e.gb e.seed HSD.out e.h n HH.out HQ.out d HDL.out w' (HE4.out.tree.call hb) (HR4.out.of_below hb)
  have hn2 := dig_list d HDL.out
  have hund := Tryz.underlying33
  have HDd := Lib.hid HD4.out.drew
  have HCd : Hid (w4.drew.cell? ⟨e.sb, 0, none⟩ = some (.pointer (some ⟨e.tb, 0, none⟩))) := Lib.hid HE4.out.c0
  have HBd : Hid (Below w4.heap.size w4 w4.drew) := Lib.hid (Below.refl _ _).drew
  refine wp_region_held_drew (S := fun w' => w'.cell? ⟨e.sb, 0, none⟩ = some (.pointer (some ⟨e.tb, 0, none⟩)) ∧ Box w' (w.heap.size + 1) 33 (d.map bv).toArray) (by kernel_rfl) ⟨HCd.out, HDd.out⟩ (fun hS => ?_)
  (refine wpAnyH_take (i := 0) (v := .pointer (some ⟨e.sb, 0, none⟩)) rfl (by kernel_rfl) (by kernel_rfl) (by kernel_rfl) (fun _ _ _ h => h) (Or.inl ⟨by kernel_rfl, fun w hSw => by go_simp⟩) hS ?_)
  (try simp only [Act.put])
  (refine wpAnyH_take (i := 1) (v := .pointer (some ⟨e.sb, 0, none⟩)) rfl (by kernel_rfl) (by kernel_rfl) (by kernel_rfl) (fun _ _ _ h => h) (Or.inl ⟨by kernel_rfl, fun w hSw => by go_simp⟩) hS ?_)
  (try simp only [Act.put])
  (refine wpAnyH_take (i := 2) (v := .pointer (some ⟨e.sb, 0, none⟩)) rfl (by kernel_rfl) (by kernel_rfl) (by kernel_rfl) (fun _ _ _ h => h) (Or.inl ⟨by kernel_rfl, fun w hSw => by go_simp⟩) hS ?_)
  (try simp only [Act.put])
  (refine wpAnyH_take (i := 3) (v := .pointer (some ⟨e.tb, 0, none⟩)) rfl (by kernel_rfl) (by kernel_rfl) (by kernel_rfl) (fun _ _ _ h => h) (Or.inl ⟨by kernel_rfl, fun w hSw => by have hc := hSw.1; go_simp⟩) hS ?_)
  (try simp only [Act.put])
  (refine wpAnyH_take (i := 4) (v := .int .i64 (n : Int)) rfl (by kernel_rfl) (by kernel_rfl) (by kernel_rfl) (fun _ _ _ h => h) (Or.inl ⟨by kernel_rfl, fun w hSw => by go_simp⟩) hS ?_)
  (try simp only [Act.put])
  (refine wpAnyH_take (i := 5) (v := .agg (d.map bv).toArray) rfl (by kernel_rfl) (by kernel_rfl) (by kernel_rfl) (fun _ _ _ h => h) (yieldsIf_load_mid (by kernel_rfl) 33 (.tmp 7) rfl (w.heap.size + 1) (0) (by kernel_rfl) (d.map bv) _ (fun w h => h.2.range) hund rfl hn2) hS ?_)
  (try simp only [Act.put])
  refine wpAnyH_ready (rs := [6]) (by decide +kernel) (by simp) (AllReadyH.cons rfl (fun K hK => ?_) AllReadyH.nil)
  go_simp
  (go_at_call 31; (with_reducible refine (HSG.out _ HBd.out).mono ?_); rintro e1 w5 ⟨g1, g2, A, c, rfl, b1, b2, hP, hg1, hg2⟩)
  have HB5 : Hid (Below w4.heap.size w4 w5) := HBd.out.trans hP.far
  have HX5 := Lib.hid (And.intro b1 b2)
  have HP5 := Lib.hid hP
  clear b1 b2 hP hg1 hg2
  have HO5 := Lib.hid ((HO4.out.below HB5.out HO4.out.lt))
  have H5 := Lib.hid (H4.out.call HB5.out)
  have F5 := Lib.hid (F4.out.trans (RFrame.of_below HB5.out))
  refine hK.out _ _ (⟨(HB5.out.cell (p := ⟨e.sb, 0, none⟩) HE4.out.stock.lt).trans HE4.out.c0, HD4.out.below HB5.out HD4.out.lt⟩) (fun hS => ?_)
  clear hK K
  (try simp only [Act.put])
  (refine wpAnyH_take (i := 7) (v := .agg (sigV (n : Int) (some ⟨g1, 0, none⟩) 32 32 (some ⟨g2, 0, none⟩) 32 32 A (pathT (leavesT e.seed e.h) n).length c)) rfl (by kernel_rfl) (by kernel_rfl) (by kernel_rfl) (fun _ _ _ h => h) (Or.inl ⟨by kernel_rfl, fun w hSw => by go_simp⟩) hS ?_)
  (try simp only [Act.put])
  (refine wpAnyH_take (i := 8) (v := .int .i64 0) rfl (by kernel_rfl) (by kernel_rfl) (by kernel_rfl) (fun _ _ _ h => h) (Or.inl ⟨by kernel_rfl, fun w hSw => by go_simp⟩) hS ?_)
  (try simp only [Act.put])
  have hst := HO5.out.store_sig rfl (sigV (n : Int) (some ⟨g1, 0, none⟩) 32 32 (some ⟨g2, 0, none⟩) 32 32 A (pathT (leavesT e.seed e.h) n).length c) rfl (sig_one _ _ _ _ _ _ _ _ _ _)
  have HB7 := Lib.hid (HO5.out.cells_all (sigV (n : Int) (some ⟨g1, 0, none⟩) 32 32 (some ⟨g2, 0, none⟩) 32 32 A (pathT (leavesT e.seed e.h) n).length c) rfl)
  have HG7 := Lib.hid (only_cells (g := w.heap.size + 1 + 1) (sigV (n : Int) (some ⟨g1, 0, none⟩) 32 32 (some ⟨g2, 0, none⟩) 32 32 A (pathT (leavesT e.seed e.h) n).length c).toList 0 w5)
  have HC7 := Lib.hid (((H5.out.aside HG7.out HO5.out (by decide) (by decide) (by decide) (by decide) (by decide)).ents _ HEM.out).c0)
  refine wpAnyH_ready (rs := [9]) (by decide +kernel) (by simp) (AllReadyH.cons rfl (fun K hK => ?_) AllReadyH.nil)
  go_simp
  refine hK.out _ _ (⟨HC7.out, hS.2.grown HG7.out (fun e => by injection e with e; omega)⟩) (fun hS => ?_)
  clear hK K
  (try simp only [Act.put])
  have H7 := Lib.hid (H5.out.aside HG7.out HO5.out (by decide) (by decide) (by decide) (by decide) (by decide))
  have F7 := Lib.hid (F5.out.new HG7.out (by omega))
  have HS5 : Hid (SigW w5 (sigV (n : Int) (some ⟨g1, 0, none⟩) 32 32 (some ⟨g2, 0, none⟩) 32 32 A (pathT (leavesT e.seed e.h) n).length c) e.seed e.h n d) := ⟨g1, g2, A, c, _, rfl, HX5.out.1, HX5.out.2, HP5.out.own, HP5.out.all⟩
  have HS7 := Lib.hid (HS5.out.aside HG7.out HO5.out (by decide))
  clear hst HS5 HX5 HP5 HC7
  generalize w5.setCells (w.heap.size + 1 + 1) 0 (sigV (n : Int) (some ⟨g1, 0, none⟩) 32 32 (some ⟨g2, 0, none⟩) 32 32 A (pathT (leavesT e.seed e.h) n).length c).toList = w7 at *
  refine wpAnyH_ready (rs := [10]) (by decide +kernel) (by simp) (AllReadyH.cons rfl (fun K hK => ?_) AllReadyH.nil)
  go_simp
  refine hK.out _ _ (hS) (fun hS => ?_)
  clear hK K
  (try simp only [Act.put])
  refine wpAnyH_done (by kernel_rfl) ?_ _
  clear hS
  go_wp2
  exact ret_sig_tmp rfl rfl rfl rfl HB7.out (sig_size _ _ _ _ _ _ _ _ _ _) ⟨_, rfl, HS7.out, H7.out, F7.out⟩
end Go.Proofs.YtojgmdagamdcfaaGreatDoor
