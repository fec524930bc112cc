/-
  A ring is made; the next number is taken; how many are left.
-/
import Derived.Test.YtojgmdagamdcfaaGreatDoorRiPut
namespace Go.Proofs.YtojgmdagamdcfaaGreatDoor
open Go.RowKit Go.Maps

attribute [local go_sem ↓] ldKey_def lkStock_def

set_option maxRecDepth 100000 in
theorem ring_new (w : World) : Calls Tryz.prog 6 #[] w fun e w' => ∃ rb mb, e = .returned (.pointer (some ⟨rb, 0, none⟩)) ∧ RingW w' w.heap.size rb mb 0 [] ∧ Below w.heap.size w w' := by
  have hmm := @run_makeMap Tryz.prog
  have HG : Hid (RingW ((w.alloc (.map #[] 0)).alloc (.cells #[.map (some w.heap.size)] 59)) w.heap.size (w.heap.size + 1) w.heap.size 0 []) := by
    refine ⟨Box.made_at (by simp) _ _, ⟨.map [], (World.ownsMap_made _ _ _ _).alloc _, ⟨fun e he => (by cases he), fun kl hk => (by cases hk)⟩⟩, fun e he => (by cases he), List.Pairwise.nil, List.Pairwise.nil, Nat.le_refl _, fun e he => (by cases he)⟩
  have HF : Hid (Below w.heap.size w ((w.alloc (.map #[] 0)).alloc (.cells #[.map (some w.heap.size)] 59))) := ((Below.refl _ _).alloc (Nat.le_refl _) _).alloc (by simp) _
  go_enter Tryz.func6, Tryz.ntmps6
  go_wp2
  go_ret
  exact ⟨_, _, rfl, HG.out, HF.out⟩

/-- What Take leaves of an entry. -/
def Ent.taken (e : Ent) : Ent := (e.opened e.next true).nexted (e.next + 1)

set_option maxRecDepth 100000 in
theorem take_nil (r : List UInt8) (k : Int) (hr : r.length = 32) (w : World) : Calls Tryz.prog 10 #[.pointer none, .agg (keyV r k)] w fun e w' => e = .returned (.tuple #[.int .i64 0, .int .i64 2]) ∧ Below w.heap.size w w' := by
  have HF : Hid (Below w.heap.size w (w.alloc (.cells (keyV r k) 37))) := (Below.refl _ _).alloc (Nat.le_refl _) _
  have lk := Box.load_key (Box.made w 37 (keyV r k)) hr
  go_enter Tryz.func10, Tryz.ntmps10
  go_upto_region 1 with fail
  change Code.wp _ _ _ _ (w.alloc (.cells (keyV r k) 37))
  generalize w.alloc (.cells (keyV r k) 37) = w1 at *
  have HN := Lib.hid (find_nil r k w1)
  go_wp2_with (go_at_call 29; (with_reducible refine (HN.out).mono ?_); rintro e w2 ⟨rfl, hb⟩; have H2 := Lib.hid hb; clear hb)
  go_ret2
  exact ⟨rfl, HF.out.trans (H2.out.mono HF.out.size)⟩

set_option maxRecDepth 100000 in
theorem take_not {w : World} {B rb mb n : Nat} {es : List Ent} (h : RingW w B rb mb n es) {r : List UInt8} {k : Int} (hr : r.length = 32) (hw : (Lit.int .i64 k).wf = true) (hk : ∀ e ∈ es, e.is r k = false) :
    Calls Tryz.prog 10 #[.pointer (some ⟨rb, 0, none⟩), .agg (keyV r k)] w fun e w' => e = .returned (.tuple #[.int .i64 0, .int .i64 7]) ∧ Below w.heap.size w w' := by
  have HF : Hid (Below w.heap.size w (w.alloc (.cells (keyV r k) 37))) := (Below.refl _ _).alloc (Nat.le_refl _) _
  have lk := Box.load_key (Box.made w 37 (keyV r k)) hr
  have HN := Lib.hid (find_not (h.call HF.out) hr hw hk)
  go_enter Tryz.func10, Tryz.ntmps10
  go_upto_region 1 with fail
  change Code.wp _ _ _ _ (w.alloc (.cells (keyV r k) 37))
  generalize w.alloc (.cells (keyV r k) 37) = w1 at *
  go_wp2_with (go_at_call 29; (with_reducible refine (HN.out).mono ?_); rintro e w2 ⟨rfl, hb⟩; have H2 := Lib.hid hb; clear hb)
  go_ret2
  exact ⟨rfl, HF.out.trans (H2.out.mono HF.out.size)⟩

set_option maxRecDepth 100000 in
theorem take_spent {w : World} {B rb mb n : Nat} {es : List Ent} (h : RingW w B rb mb n es) {e : Ent} (he : e ∈ es) {r : List UInt8} {k : Int} (hk : e.is r k = true) (hn : e.next = 2 ^ e.h) :
    Calls Tryz.prog 10 #[.pointer (some ⟨rb, 0, none⟩), .agg (keyV r k)] w fun e' w' => e' = .returned (.tuple #[.int .i64 0, .int .i64 6]) ∧ Below w.heap.size w w' := by
  have hr : r.length = 32 := by rw [← (Ent.is_iff.1 hk).1]; exact e.root_len
  have HF : Hid (Below w.heap.size w (w.alloc (.cells (keyV r k) 37))) := (Below.refl _ _).alloc (Nat.le_refl _) _
  have lk := Box.load_key (Box.made w 37 (keyV r k)) hr
  have H1 := Lib.hid (h.call HF.out)
  have HN := Lib.hid (find_any H1.out he hk)
  have HP := Lib.hid (h.ents e he).pow
  have HL : Hid (∀ w', RingW w' B rb mb n es → Calls Tryz.prog 30 #[.pointer (some ⟨e.sb, 0, none⟩)] w' fun e w'' => e = .returned (.int .i64 0) ∧ Below w'.heap.size w' w'') := fun w' h' => by
    have hl := left_any e.sb e.tb e.ob (2 ^ e.h) e.next (h'.ents e he).next HP.out w' (h'.ents e he).stock
    rw [hn, Nat.sub_self] at hl
    exact hl
  clear hn h
  go_enter Tryz.func10, Tryz.ntmps10
  go_upto_region 1 with fail
  change Code.wp _ _ _ _ (w.alloc (.cells (keyV r k) 37))
  generalize w.alloc (.cells (keyV r k) 37) = w1 at *
  go_wp2_with (first
    | (go_at_call 29; (with_reducible refine (HN.out).mono ?_); rintro e' w2 ⟨rfl, hb⟩; have H2 := Lib.hid hb; clear hb)
    | (go_at_call 30; (with_reducible refine (HL.out _ (H1.out.call H2.out)).mono ?_); rintro e' w3 ⟨rfl, hb⟩; have H3 := Lib.hid hb; clear hb))
  go_ret2
  exact ⟨rfl, (HF.out.trans (H2.out.mono HF.out.size)).trans (H3.out.mono (HF.out.trans (H2.out.mono HF.out.size)).size)⟩

set_option maxRecDepth 100000 in
set_option maxHeartbeats 1000000 in
theorem take_any {w : World} {B rb mb n : Nat} {es : List Ent} (h : RingW w B rb mb n es) {e : Ent} (he : e ∈ es) {r : List UInt8} {k : Int} (hk : e.is r k = true) (hn : e.next < 2 ^ e.h) :
    Calls Tryz.prog 10 #[.pointer (some ⟨rb, 0, none⟩), .agg (keyV r k)] w fun e' w' => e' = .returned (.tuple #[.int .i64 (e.next : Int), .int .i64 0]) ∧ RingW w' B rb mb n (upd es e.taken) ∧ RFrame B w w' := by
  have hr : r.length = 32 := by rw [← (Ent.is_iff.1 hk).1]; exact e.root_len
  have HF : Hid (Below w.heap.size w (w.alloc (.cells (keyV r k) 37))) := (Below.refl _ _).alloc (Nat.le_refl _) _
  have lk := Box.load_key (Box.made w 37 (keyV r k)) hr
  have H1 := Lib.hid (h.call HF.out)
  have HN := Lib.hid (find_any H1.out he hk)
  have HP := Lib.hid (h.ents e he).pow
  have HL : Hid (∀ w', RingW w' B rb mb n es → Calls Tryz.prog 30 #[.pointer (some ⟨e.sb, 0, none⟩)] w' fun e1 w'' => e1 = .returned (.int .i64 ((2 ^ e.h - e.next : Nat) : Int)) ∧ Below w'.heap.size w' w'') := fun w' h' =>
    left_any e.sb e.tb e.ob (2 ^ e.h) e.next (h'.ents e he).next HP.out w' (h'.ents e he).stock
  have hz : ((((2 ^ e.h - e.next : Nat) : Int)) == 0) = false := by
    rw [beq_eq_false_iff_ne]
    omega
  have HC : Hid (∀ w', RingW w' B rb mb n es → w'.cell? ⟨e.sb, 1, none⟩ = some (.int .i64 (e.next : Int)) ∧ w'.cell? ⟨e.sb, 2, none⟩ = some (.slice (some ⟨e.ob, 0, none⟩) (2 ^ e.h) (2 ^ e.h)) ∧ w'.cell? ⟨e.ob, e.next, none⟩ = some (.bool (e.opens.getD e.next false)) ∧ w'.frozen? ⟨e.ob, e.next, none⟩ = false) := fun w' h' =>
    ⟨(h'.ents e he).c1, (h'.ents e he).c2, (h'.ents e he).co hn, (h'.ents e he).opens.free _⟩
  have HT : Hid (∀ w', RingW w' B rb mb n es → RingW (w'.setCell ⟨e.ob, e.next, none⟩ (.bool true)) B rb mb n (upd es (e.opened e.next true)) ∧ RFrame B w' (w'.setCell ⟨e.ob, e.next, none⟩ (.bool true))) := fun w' h' => ⟨h'.put_open he _ _, h'.frame_open he _ _⟩
  have HU : Hid (∀ w', RingW w' B rb mb n (upd es (e.opened e.next true)) → RingW (w'.setCell ⟨e.sb, 1, none⟩ (.int .i64 ((e.next : Int) + 1))) B rb mb n (upd es e.taken) ∧ RFrame B w' (w'.setCell ⟨e.sb, 1, none⟩ (.int .i64 ((e.next : Int) + 1)))) := fun w' h' => by
    have h1 := h'.put_next (opened_mem he e.next true) (e.next + 1) hn
    rw [upd_upd es (e.opened e.next true) ((e.opened e.next true).nexted (e.next + 1)) rfl] at h1
    have h2 := h'.frame_next (opened_mem he e.next true) 1 (.int .i64 (((e.next + 1 : Nat)) : Int))
    rw [Int.natCast_add] at h1 h2
    exact ⟨h1, h2⟩
  have HD : Hid (∀ w', RingW w' B rb mb n (upd es (e.opened e.next true)) → w'.cell? ⟨e.sb, 1, none⟩ = some (.int .i64 (e.next : Int)) ∧ w'.frozen? ⟨e.sb, 1, none⟩ = false) := fun w' h' =>
    ⟨(h'.ents _ (opened_mem he e.next true)).c1, (h'.ents _ (opened_mem he e.next true)).stock.free _⟩
  have b0 : (0 : Int) ≤ (e.next : Int) := by omega
  have b1 : (e.next : Int) < ((2 ^ e.h : Nat) : Int) := by omega
  have HP2 := HP.out
  have wr : IntKind.i64.wrap ((e.next : Int) + 1) = (e.next : Int) + 1 := by
    rw [IntKind.wrap_i64]
    omega
  clear hn h HP HP2
  go_enter Tryz.func10, Tryz.ntmps10
  go_upto_region 1 with fail
  change Code.wp _ _ _ _ (w.alloc (.cells (keyV r k) 37))
  generalize w.alloc (.cells (keyV r k) 37) = w1 at *
  generalize 2 ^ e.h = m at *
  go_upto_region 8 with (first
    | (go_at_call 29; (with_reducible refine (HN.out).mono ?_); rintro e' w2 ⟨rfl, hb⟩; have H2 := Lib.hid (H1.out.call hb); have F2 : Hid (RFrame B w w2) := (RFrame.of_below HF.out).trans (RFrame.of_below hb); clear hb)
    | (go_at_call 30; (with_reducible refine (HL.out _ H2.out).mono ?_); rintro e' w3 ⟨rfl, hb⟩; have H3 := Lib.hid (H2.out.call hb); have F3 : Hid (RFrame B w w3) := F2.out.trans (RFrame.of_below hb); clear hb; obtain ⟨c1, c2, c3, c4⟩ := HC.out _ H3.out))
  have HT3 := HT.out _ H3.out
  have H4 := Lib.hid HT3.1
  have F4 := Lib.hid (F3.out.trans HT3.2)
  clear HT3 c1 c2 c3 c4
  generalize w3.setCell ⟨e.ob, e.next, none⟩ (.bool true) = w4 at *
  obtain ⟨c1, c2⟩ := HD.out _ H4.out
  go_wp2
  have HU4 := HU.out _ H4.out
  go_ret2
  exact ⟨rfl, HU4.1, F4.out.trans HU4.2⟩

set_option maxRecDepth 100000 in
theorem rleft_nil (r : List UInt8) (k : Int) (hr : r.length = 32) (w : World) : Calls Tryz.prog 21 #[.pointer none, .agg (keyV r k)] w fun e w' => e = .returned (.int .i64 0) ∧ Below w.heap.size w w' := by
  have HF : Hid (Below w.heap.size w (w.alloc (.cells (keyV r k) 37))) := (Below.refl _ _).alloc (Nat.le_refl _) _
  have lk := Box.load_key (Box.made w 37 (keyV r k)) hr
  go_enter Tryz.func21, Tryz.ntmps21
  go_upto_region 1 with fail
  change Code.wp _ _ _ _ (w.alloc (.cells (keyV r k) 37))
  generalize w.alloc (.cells (keyV r k) 37) = w1 at *
  have HN := Lib.hid (find_nil r k w1)
  go_wp2_with (go_at_call 29; (with_reducible refine (HN.out).mono ?_); rintro e w2 ⟨rfl, hb⟩; have H2 := Lib.hid hb; clear hb)
  go_ret
  exact ⟨rfl, HF.out.trans (H2.out.mono HF.out.size)⟩
set_option maxRecDepth 100000 in
theorem rleft_not {w : World} {B rb mb n : Nat} {es : List Ent} (h : RingW w B rb mb n es) {r : List UInt8} {k : Int} (hr : r.length = 32) (hw : (Lit.int .i64 k).wf = true) (hk : ∀ e ∈ es, e.is r k = false) :
    Calls Tryz.prog 21 #[.pointer (some ⟨rb, 0, none⟩), .agg (keyV r k)] w fun e w' => e = .returned (.int .i64 0) ∧ Below w.heap.size w w' := by
  have HF : Hid (Below w.heap.size w (w.alloc (.cells (keyV r k) 37))) := (Below.refl _ _).alloc (Nat.le_refl _) _
  have lk := Box.load_key (Box.made w 37 (keyV r k)) hr
  have HN := Lib.hid (find_not (h.call HF.out) hr hw hk)
  go_enter Tryz.func21, Tryz.ntmps21
  go_upto_region 1 with fail
  change Code.wp _ _ _ _ (w.alloc (.cells (keyV r k) 37))
  generalize w.alloc (.cells (keyV r k) 37) = w1 at *
  go_wp2_with (go_at_call 29; (with_reducible refine (HN.out).mono ?_); rintro e w2 ⟨rfl, hb⟩; have H2 := Lib.hid hb; clear hb)
  go_ret
  exact ⟨rfl, HF.out.trans (H2.out.mono HF.out.size)⟩
set_option maxRecDepth 100000 in
theorem rleft_any {w : World} {B rb mb n : Nat} {es : List Ent} (h : RingW w B rb mb n es) {e : Ent} (he : e ∈ es) {r : List UInt8} {k : Int} (hk : e.is r k = true) :
    Calls Tryz.prog 21 #[.pointer (some ⟨rb, 0, none⟩), .agg (keyV r k)] w fun e' w' => e' = .returned (.int .i64 ((2 ^ e.h - e.next : Nat) : Int)) ∧ Below w.heap.size w w' := by
  have hr : r.length = 32 := by rw [← (Ent.is_iff.1 hk).1]; exact e.root_len
  have HF : Hid (Below w.heap.size w (w.alloc (.cells (keyV r k) 37))) := (Below.refl _ _).alloc (Nat.le_refl _) _
  have lk := Box.load_key (Box.made w 37 (keyV r k)) hr
  have H1 := Lib.hid (h.call HF.out)
  have HN := Lib.hid (find_any H1.out he hk)
  have HP := Lib.hid (h.ents e he).pow
  have HL : Hid (∀ w', RingW w' B rb mb n es → Calls Tryz.prog 30 #[.pointer (some ⟨e.sb, 0, none⟩)] w' fun e1 w'' => e1 = .returned (.int .i64 ((2 ^ e.h - e.next : Nat) : Int)) ∧ Below w'.heap.size w' w'') := fun w' h' =>
    left_any e.sb e.tb e.ob (2 ^ e.h) e.next (h'.ents e he).next HP.out w' (h'.ents e he).stock
  clear h
  go_enter Tryz.func21, Tryz.ntmps21
  go_upto_region 1 with fail
  change Code.wp _ _ _ _ (w.alloc (.cells (keyV r k) 37))
  generalize w.alloc (.cells (keyV r k) 37) = w1 at *
  go_wp2_with (first
    | (go_at_call 29; (with_reducible refine (HN.out).mono ?_); rintro e' w2 ⟨rfl, hb⟩; have H2 := Lib.hid hb; clear hb)
    | (go_at_call 30; (with_reducible refine (HL.out _ (H1.out.call H2.out)).mono ?_); rintro e' w3 ⟨rfl, hb⟩; have H3 := Lib.hid hb; clear hb))
  go_ret
  exact ⟨rfl, (HF.out.trans (H2.out.mono HF.out.size)).trans (H3.out.mono (HF.out.trans (H2.out.mono HF.out.size)).size)⟩
end Go.Proofs.YtojgmdagamdcfaaGreatDoor
