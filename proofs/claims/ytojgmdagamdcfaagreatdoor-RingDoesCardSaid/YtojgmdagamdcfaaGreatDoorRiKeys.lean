/-
  A ring's keys, in order: (*ring.Ring).Keys.
-/
import Derived.Test.YtojgmdagamdcfaaGreatDoorRiSort
import Derived.RangeFuncNested
import Derived.RangeFuncBound
import Derived.RangeFuncCalls
import Derived.RangeFuncLeaves
import Derived.RangeFuncBox
import Derived.Maps.AppendAt
namespace Go.Proofs.YtojgmdagamdcfaaGreatDoor
open Go.RowKit Go.Maps Go.Shelf

set_option maxRecDepth 100000 in
theorem apart_le {α : Type} : ∀ {l m : List α}, l.Pairwise (fun a b => a ≠ b) → (∀ x ∈ l, x ∈ m) → l.length ≤ m.length
  | [], _, _, _ => Nat.zero_le _
  | x :: r, m, h, hs => by
    obtain ⟨h1, h2⟩ := List.pairwise_cons.1 h
    obtain ⟨a, b, rfl⟩ := List.append_of_mem (hs x (List.mem_cons_self ..))
    have := apart_le (m := a ++ b) h2 (fun y hy => by
      have h3 := hs y (List.mem_cons_of_mem _ hy)
      have h4 : y ≠ x := fun e => h1 y hy e.symm
      simp only [List.mem_append, List.mem_cons] at h3 ⊢
      rcases h3 with h3 | h3 | h3
      · exact .inl h3
      · exact absurd h3 h4
      · exact .inr h3)
    simp only [List.length_append, List.length_cons] at this ⊢
    omega

/-- The keys of the entries, in order, each once. -/
structure KeysAre (es : List Ent) (xs : List KeyX) : Prop where
  order : xs.Pairwise fun a b => ¬ b.cmp a < 0
  apart : xs.Pairwise fun a b => a.lit ≠ b.lit
  mem : ∀ kl, (∃ x ∈ xs, x.lit = kl) ↔ ∃ e ∈ es, e.lit = kl
set_option maxRecDepth 100000 in
theorem KeysAre.length {es : List Ent} {xs : List KeyX} (h : KeysAre es xs) (hk : es.Pairwise fun a b => a.lit ≠ b.lit) : xs.length = es.length := by
  have h1 : (xs.map KeyX.lit).length ≤ (es.map Ent.lit).length := apart_le (List.pairwise_map.2 h.apart) (fun l hl => by
    obtain ⟨x, hx, rfl⟩ := List.mem_map.1 hl
    obtain ⟨e, he, e1⟩ := (h.mem x.lit).1 ⟨x, hx, rfl⟩
    exact List.mem_map.2 ⟨e, he, e1⟩)
  have h2 : (es.map Ent.lit).length ≤ (xs.map KeyX.lit).length := apart_le (List.pairwise_map.2 hk) (fun l hl => by
    obtain ⟨e, he, rfl⟩ := List.mem_map.1 hl
    obtain ⟨x, hx, e1⟩ := (h.mem e.lit).2 ⟨e, he, rfl⟩
    exact List.mem_map.2 ⟨x, hx, e1⟩)
  simp only [List.length_map] at h1 h2
  omega

set_option maxRecDepth 100000 in
theorem Coll.le {D : DataW Value} {es : List Ent} (hr : Reads D es) {xs : List KeyX} (h : Coll D (fun _ => false) xs) : xs.length ≤ es.length := by
  have h1 : (xs.map KeyX.lit).length ≤ (es.map Ent.lit).length := apart_le (List.pairwise_map.2 h.1) (fun l hl => by
    obtain ⟨x, hx, rfl⟩ := List.mem_map.1 hl
    obtain ⟨e, he, e1⟩ := hr.has _ ((h.2 x.lit).1 ⟨x, hx, rfl⟩).1
    exact List.mem_map.2 ⟨e, he, e1⟩)
  simpa using h1
set_option maxRecDepth 100000 in
theorem Coll.keys {D : DataW Value} {es : List Ent} (hr : Reads D es) {xs ys : List KeyX} (h : Coll D (fun _ => false) xs) (hp : ys.Perm xs) (ho : ys.Pairwise fun a b => ¬ b.cmp a < 0) : KeysAre es ys := by
  refine ⟨ho, (hp.pairwise_iff (fun h => Ne.symm h)).2 h.1, fun kl => ?_⟩
  constructor
  · rintro ⟨x, hx, rfl⟩
    exact hr.has _ ((h.2 x.lit).1 ⟨x, hp.mem_iff.1 hx, rfl⟩).1
  · rintro ⟨e, he, rfl⟩
    obtain ⟨x, hx, hl⟩ := (h.2 e.lit).2 ⟨has_true_of_atKey (fun z => hr.at_ e he z), rfl⟩
    exact ⟨x, hp.mem_iff.2 hx, hl⟩
set_option maxRecDepth 100000 in
theorem reads_size {w : World} {mb n : Nat} {D : DataW Value} {es : List Ent} (hD : w.ownsMap Tryz.prog 37 anyElem mb n D) (hr : Reads D es) : Maps.size D ≤ es.length := by
  obtain ⟨ds, rfl, h1, h2⟩ := hD.entries keyed
  have h3 : (ds.map (·.1)).length ≤ (es.map Ent.lit).length := apart_le (List.pairwise_map.2 h1) (fun l hl => by
    obtain ⟨p, hp, rfl⟩ := List.mem_map.1 hl
    obtain ⟨e, he, e1⟩ := hr.has p.1 (by
      rw [has_eq, List.any_eq_true]
      exact ⟨p, hp, WideAt.sameKey_self (h2 p hp)⟩)
    exact List.mem_map.2 ⟨e, he, e1⟩)
  rw [size_eq]
  simpa using h3

set_option maxRecDepth 100000 in
theorem rkeys_nil (w : World) : Calls Tryz.prog 19 #[.pointer none] w fun e w' => e = .returned (.slice none 0 0) ∧ Below w.heap.size w w' := by
  go_enter Tryz.func19, Tryz.ntmps19
  go_wp2
  go_ret
  exact ⟨rfl, Below.refl _ _⟩

set_option maxRecDepth 100000 in
theorem key_info3 : (Tryz.prog.info? 37).map (fun i => (i.zero, i.size, i.bytes)) = some (some (.agg zkey), 33, 40) := by kernel_rfl
noncomputable def bsKeys (n : Nat) (parts : Array (Nat × Value)) : Sem Value := Instr.buildSlice 31 n parts
set_option maxRecDepth 100000 in
theorem bsKeys_def (n : Nat) (parts : Array (Nat × Value)) : Instr.buildSlice 31 n parts = bsKeys n parts := rfl
set_option maxRecDepth 100000 in
/-- A slice literal of one key. -/
theorem build_one_key {r : List UInt8} (hr : r.length = 32) (k : Int) (w : World) :
    (bsKeys 1 #[(0, .agg (keyV r k))]).run Tryz.prog w = .ok (.slice (some ⟨w.heap.size, 0, none⟩) 1 1) (w.alloc (.cells (keyV r k) 37)) := by
  have hu : Tryz.prog.underlying 31 = some (.slice 37) := Tryz.underlying31
  have hs : (sizeOf 37).run Tryz.prog w = .ok 33 w := by kernel_rfl
  have hz : (zeroValue 37).run Tryz.prog w = .ok (.agg zkey) w := by kernel_rfl
  have hcl : (Value.agg zkey).cells = zkey := rfl
  have hzer : ((Array.range (1 * 33)).map fun x => zkey[x % zkey.size]!) = ([] ++ (zkey.toList ++ [])).toArray := by kernel_rfl
  have hfill : Instr.fill (fun i => some (i * 33, 33)) ([] ++ (zkey.toList ++ [])).toArray [(0, .agg (keyV r k))] = some (keyV r k) := by
    rw [fill_step (off := 0) (size := 33) (vs := keyL r k) rfl rfl rfl rfl (keyL_len hr k)]
    unfold Instr.fill keyV
    simp
  unfold bsKeys Instr.buildSlice
  simp only [Sem.run_bind, run_underlying hu, Result.andThen_ok, hs, if_false, hz, hcl, Sem.run_pure, show (2 : Nat) ^ 24 = 16777216 from rfl, gt_iff_lt, show ¬ 16777216 < 1 * 33 by decide, show ¬ (1 * 33 = 0) by decide]
  rw [hzer, hfill]
  simp [newRow]

attribute [local go_sem] Oper.semAt_some
attribute [local go_sem ↓] ldKey_def stKey_def bsKeys_def

set_option maxRecDepth 100000 in
set_option maxHeartbeats 2000000 in
theorem rkeys_any {w : World} {B rb mb n : Nat} {es : List Ent} (h : RingW w B rb mb n es) (hlen : es.length < 1048576) :
    Calls Tryz.prog 19 #[.pointer (some ⟨rb, 0, none⟩)] w fun e w' => ∃ xs v, e = .returned v ∧ KeysAre es xs ∧ w'.ownsRow w.heap.size 37 33 v xs.length (xs.flatMap KeyX.cells) ∧ Below w.heap.size w w' := by
  obtain ⟨D, hD, hr⟩ := h.map
  have c0 : (w.alloc (.cells #[.slice none 0 0] 31)).cell? ⟨rb, 0, none⟩ = some (.map (some mb)) := (h.ring.alloc _).cell 0
  refine (callsIn_wide (n := 3)).1 ?_
  refine callsIn_of_wp_marks Tryz.func19 rfl trivial ?_ rfl
  simp only [Tryz.ntmps19, List.size_toArray, List.length_cons, List.length_nil, Nat.reduceAdd, Nat.reduceSub, Array.replicate_succ, Array.replicate_zero, List.push_toArray, List.append_toArray, List.nil_append, List.cons_append]
  gi_wp2_with (refine ⟨trivial, ?_⟩; gi_at_call 35; refine (callsIn_wide.2 (mapkeys_any _ _)).mono ?_; rintro e w' ⟨rfl, rfl⟩)
  have bO := (Boxed.new w 31 (.slice none 0 0)).alloc (.cells #[.map (some mb)] 57)
  have bM := Boxed.new (w.alloc (.cells #[.slice none 0 0] 31)) 57 (.map (some mb))
  rw [World.size_alloc] at bM
  have hB0 : Below w.heap.size w ((w.alloc (.cells #[.slice none 0 0] 31)).alloc (.cells #[.map (some mb)] 57)) := ((Below.refl _ w).alloc (Nat.le_refl _) _).alloc (by simp) _
  have hD0 := (hD.alloc (.cells #[.slice none 0 0] 31)).alloc (.cells #[.map (some mb)] 57)
  have hsz : ((w.alloc (.cells #[.slice none 0 0] 31)).alloc (.cells #[.map (some mb)] 57)).heap.size = w.heap.size + 2 := by simp
  obtain ⟨i0, hi, hz0, hz1, hz2⟩ := info_parts key_info3
  obtain ⟨W0, hW0⟩ : ∃ W0, (w.alloc (.cells #[.slice none 0 0] 31)).alloc (.cells #[.map (some mb)] 57) = W0 := ⟨_, rfl⟩
  rw [hW0] at bO bM hB0 hD0 hsz ⊢
  clear hW0 c0
  have hN := reads_size hD hr
  refine wpIn_rangeFunc_ownH (α := KeyX) (encs := fun x => #[KeyX.enc x]) (Kp := KeepsWalks) rfl (by decide) (gf := 54) (lb := #[.pointer (some ⟨w.heap.size + 1, 0, none⟩)]) rfl trivial (enters_of Tryz.func54 (by kernel_rfl) rfl)
    (iter_stops Fence.wide (3 - 1) trivial rfl (by decide) (w.heap.size + 1) mb n D W0 (by omega) bM.cell hD0) walksK_t walksK_b (Below.refl _ _) (fun _ => rfl)
    (fun (pre : List KeyX) W => (∃ v, Boxed W w.heap.size 31 v ∧ W.ownsRow w.heap.size 37 33 v pre.length (pre.flatMap KeyX.cells) ∧ True) ∧ Below w.heap.size w W)
    (fun _ _ _ => False)
    (OwnFrom.and (Own.from (holdsRow_own w.heap.size w.heap.size 31 37 33 (fun (pre : List KeyX) => pre.length) (fun (pre : List KeyX) => pre.flatMap KeyX.cells) (fun _ _ => True)) _) (ownFrom_below (Nat.le_refl _) (by omega)))
    (fun _ _ _ _ _ hs _ _ => hs)
    ⟨⟨_, bO, World.ownsRow_nil _ _ _ _, trivial⟩, hB0⟩
    (fun x a' W => ∃ Bx, w.heap.size < Bx ∧ Box W Bx 37 (keyV x.root x.high) ∧ a' = { tmps := #[.pointer (some ⟨rb, 0, none⟩), undef, .slice none 0 0, .pointer (some ⟨w.heap.size, 0, none⟩), .pointer (some ⟨Bx, 0, none⟩), .pointer (some ⟨rb, 0, none⟩), .bool false, .pointer (some ⟨rb, 0, none⟩), .pointer (some ⟨rb, 0, none⟩), .pointer (some ⟨rb, 0, none⟩), .map (some mb), .func (.func 54) #[] #[.pointer (some ⟨w.heap.size + 1, 0, none⟩)], x.enc, undef, undef, undef, undef, undef, undef, undef], defers := [] })
    (fun x a' _ X Y row hs hg hr => by
      obtain ⟨Bx, h1, h2, h3⟩ := hs
      refine ⟨Bx, h1, h2.grown hg (fun e => ?_), h3⟩
      obtain ⟨_, o, ho, hc⟩ := hr _ e.symm
      unfold Box at h2
      rw [h2] at ho
      cases ho
      cases hc)
    ?assign ?body ?done ?stop
  case assign =>
    rintro l pre x W K ⟨⟨v, bv1, hrow, _⟩, hB1⟩ hK
    obtain ⟨w3, hst0, hb3, hg3⟩ := laid_key W x.len x.high
    have hst : (stKey (.pointer (some ⟨W.heap.size, 0, none⟩)) x.enc).run Tryz.prog (W.alloc (.cells #[.int .u8 0, .int .u8 0, .int .u8 0, .int .u8 0, .int .u8 0, .int .u8 0, .int .u8 0, .int .u8 0, .int .u8 0, .int .u8 0, .int .u8 0, .int .u8 0, .int .u8 0, .int .u8 0, .int .u8 0, .int .u8 0, .int .u8 0, .int .u8 0, .int .u8 0, .int .u8 0, .int .u8 0, .int .u8 0, .int .u8 0, .int .u8 0, .int .u8 0, .int .u8 0, .int .u8 0, .int .u8 0, .int .u8 0, .int .u8 0, .int .u8 0, .int .u8 0, .int .i64 0] 37)) = .ok () w3 := hst0
    gi_wp2
    exact hK _ _ ((KeepsOthers.of_grownBy hg3 (fun j o e => by cases e)).from _) ⟨hg3.size, fun k o hk _ => (hg3.block k (Array.getElem?_eq_some_iff.1 hk).1 (by simp)).trans hk⟩ ⟨⟨v, bv1.kept hg3 (by simp), hrow.kept hg3 (by cases v.ownBlock <;> simp), trivial⟩, hB1.grown hg3 hB1.size (fun k e => by cases e)⟩ ⟨W.heap.size, by have := bv1.lt; omega, hb3, rfl⟩
  case body =>
    rintro l pre x a' W hl ⟨r, hr1⟩ ⟨⟨v, bv1, hrow, _⟩, hB1⟩ ⟨Bx, hBx, bX, rfl⟩ hlt
    have hc := bv1.cell
    have lk : (ldKey (.pointer (some ⟨Bx, 0, none⟩))).run Tryz.prog W = .ok x.enc W := bX.load_key x.len
    have hbs : (bsKeys 1 #[(0, x.enc)]).run Tryz.prog W = .ok (.slice (some ⟨W.heap.size, 0, none⟩) 1 1) (W.alloc (.cells x.cells.toArray 37)) := build_one_key x.len x.high W
    have HN1 : Hid (pre.length < 1048576) := Lib.hid (by omega)
    have HB1 := Lib.hid hB1
    have HROW := Lib.hid hrow
    have HBV := Lib.hid bv1
    clear hB1 hrow hlen hr hD hD0 bX hlt hr1
    gi_wp2_with (gi_at_builtin; refine wpListIn_append_own _ rfl _ _ 31 rfl w.heap.size 37 i0 (.agg zkey) 33 40 Tryz.underlying31 hi hz0 hz1 hz2 rfl (by decide) _ _ _ rfl (HROW.out.alloc _) ⟨W.heap.size, 0, none⟩ 1 1 x.cells rfl (by rw [x.cells_len]) (fun j u hu => by rw [plain_add, Nat.zero_add, (Box.made W 37 x.cells.toArray).cell, List.getElem?_toArray]; exact hu) (keyL_one x.root x.high) (by have := HN1.out; unfold maxLen; omega) (by have := HN1.out; omega) (by have := HB1.out.size; simp; omega) ?_; intro v' w1 hown' hgrow _; obtain ⟨g', cap', rfl⟩ := ownsRow_succ hown'; obtain ⟨hv1, hv2, hr2, hk2, hb2⟩ := HBV.out.appended (by decide) HROW.out HB1.out.size (Nat.le_refl _) hown' hgrow; have hc1 := hv1.cell; have hf1 := hv1.frozen)
    exact ⟨hk2.from _, ⟨hk2.size, fun k o hk ho => hk2.same k o hk (by cases o <;> first | rfl | cases ho)⟩, ⟨_, hv2, by simpa using hr2, trivial⟩, HB1.out.trans hb2⟩
  case done =>
    rintro D1 ys W hD1 hcoll ⟨⟨v, bv1, hrow, _⟩, hB1⟩ hK
    have hc := bv1.cell
    have HW := Lib.hid (hcoll.le hr)
    have HSRT := Lib.hid (sort_keys ys w.heap.size v W hrow (by have := HW.out; omega))
    have HROW := Lib.hid hrow
    have HB1 := Lib.hid hB1
    have HBV := Lib.hid bv1
    have HCL := Lib.hid (And.intro hcoll hr)
    have HKK := Lib.hid hK
    have HD1 : Hid (w.heap.size ≤ D1) := Lib.hid (by omega)
    have HOB : Hid (∀ k, v.ownBlock = some k → w.heap.size ≤ k ∧ k ≠ D1) := Lib.hid (fun k e => by
      rcases HROW.out.2 with ⟨rfl, _⟩ | ⟨g, cap, cur, rfl, hb, hg, _⟩
      · cases e
      · obtain rfl : g = k := by simpa [Value.ownBlock] using e
        refine ⟨hb, fun e1 => ?_⟩
        rw [e1, HKK.out] at hg
        cases hg)
    clear hcoll hr hrow hB1 hK hD1 hN hD hD0 hlen
    gi_wp2_with (refine ⟨trivial, ?_⟩; gi_at_call 36; refine (callsIn_wide.2 HSRT.out).mono ?_; rintro e w4 ⟨rfl, zs, hp, hs, ho, hg⟩; have HP := Lib.hid (HCL.out.1.keys HCL.out.2 hp hs); have HO := Lib.hid ho; have HG := Lib.hid hg; have hc4 := (HBV.out.kept hg (HBV.out.not_row (by decide) HROW.out)).cell; clear hp hs ho hg)
    have hK4 : w4.heap[D1]? = some (.deferred (some [])) := (HG.out.block D1 (Array.getElem?_eq_some_iff.1 HKK.out).1 (fun e => (HOB.out D1 e.symm).2 rfl)).trans HKK.out
    have hB4 : Below w.heap.size w w4 := HB1.out.grown HG.out HB1.out.size (fun k e => (HOB.out k e).1)
    refine ⟨by simp, .inl ⟨_, _, rfl, run_takeDeferred hK4, ?_⟩⟩
    exact ⟨_, results_tmp rfl _ _ _, zs, v, rfl, HP.out, ownsRow_putObj HO.out _ hK4 rfl, hB4.trans (belowK_b (w := w) (Nat.le_refl _) w4 D1 _ _ HD1.out hK4 rfl rfl)⟩
  case stop =>
    rintro D c pre W _ _ h _
    exact h.elim
end Go.Proofs.YtojgmdagamdcfaaGreatDoor
