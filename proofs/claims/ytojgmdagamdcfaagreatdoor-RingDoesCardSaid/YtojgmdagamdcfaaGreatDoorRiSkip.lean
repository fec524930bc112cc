/-
  Numbers are skipped; a tree is retired.
-/
import Derived.Test.YtojgmdagamdcfaaGreatDoorRiPut
import Derived.Lib.SliceRun
import Derived.Deep.RegionHeld3
namespace Go.Proofs.YtojgmdagamdcfaaGreatDoor
open Go.RowKit Go.Maps

/-- What Skip leaves of an entry: c of its bools are cleared. -/
def Ent.cleared (e : Ent) (c : Nat) : Ent := { e with opens := List.replicate c false ++ e.opens.drop c }
def Ent.skipped (e : Ent) (c : Nat) : Ent := (e.cleared c).nexted (max e.next c)
set_option maxRecDepth 100000 in
theorem like_cleared (e : Ent) (c : Nat) : Like e (e.cleared c) := ⟨rfl, rfl, rfl, rfl, rfl, rfl⟩

noncomputable def clBools (ts : Array TypeId) (ty : TypeId) (vs : Array Value) : Sem Value := Builtin.clear_ ts ty vs
set_option maxRecDepth 100000 in
theorem clBools_def (ts : Array TypeId) (ty : TypeId) (vs : Array Value) : Builtin.clear_ ts ty vs = clBools ts ty vs := rfl
set_option maxRecDepth 100000 in
theorem clear_bools {w : World} {g : Nat} {t : TypeId} {l : List Bool} (hb : Box w g t (boolsV l)) {c : Nat} (hc : c ≤ l.length) (m : Nat) (ty : TypeId) :
    (clBools #[66] ty #[.slice (some ⟨g, 0, none⟩) c m]).run Tryz.prog w = .ok (.tuple #[]) (w.setCells g 0 (List.replicate c (.bool false))) := by
  have hz : ∀ w, (zeroValue 4).run Tryz.prog w = .ok (.bool false) w := fun w => by kernel_rfl
  rcases Nat.eq_zero_or_pos c with rfl | h0
  · unfold clBools
    simp [Builtin.clear_, World.setCells]
  · exact Lib.run_clear_slice (P := Tryz.prog) w 66 4 ty (.bool false) Tryz.underlying66 hz rfl rfl g 0 c m h0 (fun j hj => by
      rw [Nat.zero_add, hb.cell]
      unfold boolsV
      rw [List.getElem?_toArray, List.getElem?_map, List.getElem?_eq_getElem (by omega)]
      rfl) (fun j hj => by rw [Nat.zero_add]; exact hb.free j)
set_option maxRecDepth 100000 in
theorem Box.clear {w : World} {g : Nat} {t : TypeId} {l : List Bool} (hb : Box w g t (boolsV l)) {c : Nat} (hc : c ≤ l.length) : Box (w.setCells g 0 (List.replicate c (.bool false))) g t (boolsV (List.replicate c false ++ l.drop c)) := by
  have e : boolsV l = ([] ++ ((l.take c).map Value.bool ++ (l.drop c).map Value.bool)).toArray := by
    unfold boolsV
    rw [List.nil_append, ← List.map_append, List.take_append_drop]
  rw [e] at hb
  have h := hb.put_mid (o := 0) (vs := List.replicate c (.bool false)) rfl (by simp; omega)
  unfold boolsV
  simpa using h
set_option maxRecDepth 100000 in
theorem RingW.put_clear {w : World} {B rb mb n : Nat} {es : List Ent} (h : RingW w B rb mb n es) {e : Ent} (he : e ∈ es) {c : Nat} (hc : c ≤ 2 ^ e.h) : RingW (w.setCells e.ob 0 (List.replicate c (.bool false))) B rb mb n (upd es (e.cleared c)) ∧ RFrame B w (w.setCells e.ob 0 (List.replicate c (.bool false))) := by
  have k := h.ents e he
  have hg := only_cells (g := e.ob) (List.replicate c (.bool false)) 0 w
  have hl : c ≤ e.opens.length := by rw [k.many]; exact hc
  refine ⟨h.turn he (like_cleared e c) hg (.inr rfl) ⟨k.seed, k.high, ?_, k.next, k.stock.grown hg (fun e1 => ?_), k.opens.clear hl, k.tree.tree.grown hg (fun e1 => ?_), k.tree.leaves.grown hg (fun e1 => ?_)⟩, RFrame.of_grown hg (h.low.2 e he).2 (bools_obj k.opens)⟩
  · have := k.many
    simp only [Ent.cleared, List.length_append, List.length_replicate, List.length_drop]
    omega
  · injection e1 with e1
    exact Box.apart k.stock k.opens (by decide) e1
  · injection e1 with e1
    exact Box.apart k.tree.tree k.opens (by decide) e1
  · injection e1 with e1
    exact Box.apart k.tree.leaves k.opens (by decide) e1

attribute [local go_sem ↓] ldKey_def lkStock_def clBools_def

set_option maxRecDepth 100000 in
theorem skip_nil (r : List UInt8) (k : Int) (m : Int) (hr : r.length = 32) (w : World) : Calls Tryz.prog 15 #[.pointer none, .agg (keyV r k), .int .i64 m] w fun e w' => e = .returned (.int .i64 2) ∧ Below w.heap.size w w' := by
  have HF : Hid (Below w.heap.size w (w.alloc (.cells (keyV r k) 37))) := (Below.refl _ _).alloc (Nat.le_refl _) _
  have lk := Box.load_key (Box.made w 37 (keyV r k)) hr
  go_enter Tryz.func15, Tryz.ntmps15
  go_upto_region 1 with fail
  change Code.wp _ _ _ _ (w.alloc (.cells (keyV r k) 37))
  generalize w.alloc (.cells (keyV r k) 37) = w1 at *
  have HN := Lib.hid (find_nil r k w1)
  go_wp2_with (go_at_call 29; (with_reducible refine (HN.out).mono ?_); rintro e w2 ⟨rfl, hb⟩; have H2 := Lib.hid hb; clear hb)
  go_ret
  exact ⟨rfl, HF.out.trans (H2.out.mono HF.out.size)⟩
set_option maxRecDepth 100000 in
theorem skip_not {w : World} {B rb mb n : Nat} {es : List Ent} (h : RingW w B rb mb n es) {r : List UInt8} {k : Int} (hr : r.length = 32) (hw : (Lit.int .i64 k).wf = true) (hk : ∀ e ∈ es, e.is r k = false) (m : Int) :
    Calls Tryz.prog 15 #[.pointer (some ⟨rb, 0, none⟩), .agg (keyV r k), .int .i64 m] w fun e w' => e = .returned (.int .i64 7) ∧ Below w.heap.size w w' := by
  have HF : Hid (Below w.heap.size w (w.alloc (.cells (keyV r k) 37))) := (Below.refl _ _).alloc (Nat.le_refl _) _
  have lk := Box.load_key (Box.made w 37 (keyV r k)) hr
  have HN := Lib.hid (find_not (h.call HF.out) hr hw hk)
  go_enter Tryz.func15, Tryz.ntmps15
  go_upto_region 1 with fail
  change Code.wp _ _ _ _ (w.alloc (.cells (keyV r k) 37))
  generalize w.alloc (.cells (keyV r k) 37) = w1 at *
  go_wp2_with (go_at_call 29; (with_reducible refine (HN.out).mono ?_); rintro e w2 ⟨rfl, hb⟩; have H2 := Lib.hid hb; clear hb)
  go_ret
  exact ⟨rfl, HF.out.trans (H2.out.mono HF.out.size)⟩

set_option maxRecDepth 100000 in
set_option maxHeartbeats 1000000 in
theorem skip_any {w : World} {B rb mb n : Nat} {es : List Ent} (h : RingW w B rb mb n es) {e : Ent} (he : e ∈ es) {r : List UInt8} {k : Int} (hk : e.is r k = true) (m : Int) (c : Nat) (hc : (c : Int) = max 0 (min m ((2 ^ e.h : Nat) : Int))) :
    Calls Tryz.prog 15 #[.pointer (some ⟨rb, 0, none⟩), .agg (keyV r k), .int .i64 m] w fun e' w' => e' = .returned (.int .i64 0) ∧ RingW w' B rb mb n (upd es (e.skipped c)) ∧ RFrame B w w' := by
  have hr : r.length = 32 := by rw [← (Ent.is_iff.1 hk).1]; exact e.root_len
  have HF : Hid (Below w.heap.size w (w.alloc (.cells (keyV r k) 37))) := (Below.refl _ _).alloc (Nat.le_refl _) _
  have lk := Box.load_key (Box.made w 37 (keyV r k)) hr
  have H1 := Lib.hid (h.call HF.out)
  have HN := Lib.hid (find_any H1.out he hk)
  have hcm : c ≤ 2 ^ e.h := by
    generalize 2 ^ e.h = q at hc ⊢
    omega
  have hmin : (if ((2 ^ e.h : Nat) : Int) < m then ((2 ^ e.h : Nat) : Int) else m) = min m ((2 ^ e.h : Nat) : Int) := by
    split <;> omega
  have hmax : (if 0 < min m ((2 ^ e.h : Nat) : Int) then min m ((2 ^ e.h : Nat) : Int) else 0) = (c : Int) := by
    split <;> omega
  have hmx : (if (e.next : Int) < (c : Int) then (c : Int) else (e.next : Int)) = ((max e.next c : Nat) : Int) := by
    split <;> omega
  have hmy : (if e.next < c then (c : Int) else (e.next : Int)) = ((max e.next c : Nat) : Int) := by
    split <;> omega
  have HC : Hid (∀ w', RingW w' B rb mb n es → w'.cell? ⟨e.sb, 2, none⟩ = some (.slice (some ⟨e.ob, 0, none⟩) (2 ^ e.h) (2 ^ e.h)) ∧ (∀ ty, (clBools #[66] ty #[.slice (some ⟨e.ob, 0, none⟩) c (2 ^ e.h)]).run Tryz.prog w' = .ok (.tuple #[]) (w'.setCells e.ob 0 (List.replicate c (.bool false))))) := fun w' h' =>
    ⟨(h'.ents e he).c2, fun ty => clear_bools (h'.ents e he).opens (by rw [(h'.ents e he).many]; exact hcm) _ ty⟩
  have HT : Hid (∀ w', RingW w' B rb mb n es → RingW (w'.setCells e.ob 0 (List.replicate c (.bool false))) B rb mb n (upd es (e.cleared c)) ∧ RFrame B w' (w'.setCells e.ob 0 (List.replicate c (.bool false)))) := fun w' h' => h'.put_clear he hcm
  have hmem : e.cleared c ∈ upd es (e.cleared c) := upd_mem he rfl
  have hx := (h.ents e he).next
  have HU : Hid (∀ w', RingW w' B rb mb n (upd es (e.cleared c)) → RingW (w'.setCell ⟨e.sb, 1, none⟩ (.int .i64 ((max e.next c : Nat) : Int))) B rb mb n (upd es (e.skipped c)) ∧ RFrame B w' (w'.setCell ⟨e.sb, 1, none⟩ (.int .i64 ((max e.next c : Nat) : Int)))) := fun w' h' => by
    have h1 := h'.put_next hmem (max e.next c) (show max e.next c ≤ 2 ^ e.h by omega)
    rw [upd_upd es (e.cleared c) ((e.cleared c).nexted (max e.next c)) rfl] at h1
    exact ⟨h1, h'.frame_next hmem 1 _⟩
  have HD : Hid (∀ w', RingW w' B rb mb n (upd es (e.cleared c)) → w'.cell? ⟨e.sb, 1, none⟩ = some (.int .i64 (e.next : Int)) ∧ w'.frozen? ⟨e.sb, 1, none⟩ = false) := fun w' h' =>
    ⟨(h'.ents _ hmem).c1, (h'.ents _ hmem).stock.free _⟩
  have b0 : (0 : Int) ≤ (c : Int) := by omega
  have b1 : (c : Int) ≤ ((2 ^ e.h : Nat) : Int) := by omega
  clear h hx hc hcm hmem
  obtain ⟨t, ht⟩ : ∃ t, t = min m ((2 ^ e.h : Nat) : Int) := ⟨_, rfl⟩
  rw [← ht] at hmin hmax
  clear ht
  obtain ⟨q, hq⟩ : ∃ q, q = 2 ^ e.h := ⟨_, rfl⟩
  rw [← hq] at hmin b1 HC
  clear hq
  obtain ⟨y, hy⟩ : ∃ y, y = max e.next c := ⟨_, rfl⟩
  rw [← hy] at hmx hmy HU
  clear hy
  obtain ⟨x, hx⟩ : ∃ x, x = e.next := ⟨_, rfl⟩
  rw [← hx] at hmx hmy HD
  clear hx
  go_enter Tryz.func15, Tryz.ntmps15
  go_upto_region 1 with fail
  change Code.wp _ _ _ _ (w.alloc (.cells (keyV r k) 37))
  generalize w.alloc (.cells (keyV r k) 37) = w1 at *
  go_upto_region 4 with (go_at_call 29; (with_reducible refine (HN.out).mono ?_); rintro e' w2 ⟨rfl, hb⟩; have H2 := Lib.hid (H1.out.call hb); have F2 : Hid (RFrame B w w2) := (RFrame.of_below HF.out).trans (RFrame.of_below hb); clear hb; obtain ⟨c1, c2⟩ := HC.out _ H2.out)
  go_upto_region 6 with fail
  have HT2 := HT.out _ H2.out
  have H3 := Lib.hid HT2.1
  have F3 := Lib.hid (F2.out.trans HT2.2)
  clear HT2 c1 c2 hmin hmax
  generalize w2.setCells e.ob 0 (List.replicate c (.bool false)) = w3 at *
  obtain ⟨c1, c2⟩ := HD.out _ H3.out
  go_wp2
  have HU4 := HU.out _ H3.out
  go_ret
  exact ⟨rfl, HU4.1, F3.out.trans HU4.2⟩

/-! ### A tree is retired -/
set_option maxRecDepth 100000 in
theorem RingW.drop {w w' : World} {B rb mb n : Nat} {es : List Ent} (h : RingW w B rb mb n es) (D : DataW Value) (hr : Reads D es) {r : List UInt8} {k : Int} (hl : r.length = 32) (hw : (Lit.int .i64 k).wf = true) (ho : w'.ownsMap Tryz.prog 37 anyElem mb n (D.del (klit r k))) (hg : w.grownBy w' (some mb)) :
    RingW w' B rb mb n (es.filter fun x => !x.is r k) := by
  obtain ⟨_, ⟨es', clock, hh, _⟩, _⟩ := h.map
  have hne : ∀ {g t cs}, Box w g t cs → some g ≠ some mb := fun hb e => by
    injection e with e
    subst e
    unfold Box at hb
    rw [hb] at hh
    cases hh
  have hlit : ∀ e ∈ es, e.lit = klit r k → e.is r k = true := fun e he hle => Ent.is_iff.2 (klit_inj e.root_len hl (h.ents e he).wf hw hle)
  refine ⟨h.ring.grown hg (hne h.ring), ⟨D.del (klit r k), ho, fun e he z => ?_, fun kl hk => ?_⟩, fun e he => ?_, h.apart.filter _, h.keys.filter _, h.low.1, fun e he => h.low.2 e (List.mem_filter.1 he).1⟩
  · obtain ⟨he, hn⟩ := List.mem_filter.1 he
    rw [atKey_del_other (fun e1 => by rw [hlit e he e1] at hn; cases hn)]
    exact hr.at_ e he z
  · by_cases he : kl = klit r k
    · rw [he, has_del_same] at hk
      cases hk
    · rw [has_del_other he] at hk
      obtain ⟨e, hm, rfl⟩ := hr.has kl hk
      refine ⟨e, List.mem_filter.2 ⟨hm, ?_⟩, rfl⟩
      cases hi : e.is r k
      · rfl
      · obtain ⟨rfl, rfl⟩ := Ent.is_iff.1 hi
        exact absurd rfl he
  · have k := h.ents e (List.mem_filter.1 he).1
    exact k.kept (hg.block _ k.stock.lt (hne k.stock)) (hg.block _ k.opens.lt (hne k.opens)) ⟨k.tree.tree.grown hg (hne k.tree.tree), k.tree.leaves.grown hg (hne k.tree.leaves)⟩

noncomputable def dlStock (ts : Array TypeId) (ty : TypeId) (vs : Array Value) : Sem Value := Builtin.delete_ ts ty vs
set_option maxRecDepth 100000 in
theorem dlStock_def (ts : Array TypeId) (ty : TypeId) (vs : Array Value) : Builtin.delete_ ts ty vs = dlStock ts ty vs := rfl
attribute [local go_sem ↓] dlStock_def
set_option maxRecDepth 100000 in
theorem RingW.drop_run {w : World} {B rb mb n : Nat} {es : List Ent} (h : RingW w B rb mb n es) {r : List UInt8} {k : Int} (hl : r.length = 32) (hw : (Lit.int .i64 k).wf = true) (ty : TypeId) :
    ∃ w', (dlStock #[57, 37] ty #[.map (some mb), .agg (keyV r k)]).run Tryz.prog w = .ok (.tuple #[]) w' ∧ RingW w' B rb mb n (es.filter fun x => !x.is r k) ∧ w.grownBy w' (some mb) ∧ RFrame B w w' := by
  obtain ⟨D, hD, hr⟩ := h.map
  obtain ⟨es', clock, hh, _⟩ := id hD
  obtain ⟨w', h1, h2, h3⟩ := hD.drop keyed Tryz.underlying57 (klit_is hl hw) ty
  exact ⟨w', h1, h.drop D hr hl hw h2 h3.grown, h3.grown, RFrame.of_grown h3.grown h.low.1 (map_obj hh)⟩
set_option maxRecDepth 100000 in
theorem retire_nil (r : List UInt8) (k : Int) (hr : r.length = 32) (w : World) : Calls Tryz.prog 17 #[.pointer none, .agg (keyV r k)] w fun e w' => e = .returned (.int .i64 2) ∧ Below w.heap.size w w' := by
  have HF : Hid (Below w.heap.size w (w.alloc (.cells (keyV r k) 37))) := (Below.refl _ _).alloc (Nat.le_refl _) _
  have lk := Box.load_key (Box.made w 37 (keyV r k)) hr
  go_enter Tryz.func17, Tryz.ntmps17
  go_upto_region 1 with fail
  change Code.wp _ _ _ _ (w.alloc (.cells (keyV r k) 37))
  generalize w.alloc (.cells (keyV r k) 37) = w1 at *
  have HN := Lib.hid (find_nil r k w1)
  go_wp2_with (go_at_call 29; (with_reducible refine (HN.out).mono ?_); rintro e w2 ⟨rfl, hb⟩; have H2 := Lib.hid hb; clear hb)
  go_ret
  exact ⟨rfl, HF.out.trans (H2.out.mono HF.out.size)⟩
set_option maxRecDepth 100000 in
theorem retire_not {w : World} {B rb mb n : Nat} {es : List Ent} (h : RingW w B rb mb n es) {r : List UInt8} {k : Int} (hr : r.length = 32) (hw : (Lit.int .i64 k).wf = true) (hk : ∀ e ∈ es, e.is r k = false) :
    Calls Tryz.prog 17 #[.pointer (some ⟨rb, 0, none⟩), .agg (keyV r k)] w fun e w' => e = .returned (.int .i64 7) ∧ Below w.heap.size w w' := by
  have HF : Hid (Below w.heap.size w (w.alloc (.cells (keyV r k) 37))) := (Below.refl _ _).alloc (Nat.le_refl _) _
  have lk := Box.load_key (Box.made w 37 (keyV r k)) hr
  have HN := Lib.hid (find_not (h.call HF.out) hr hw hk)
  go_enter Tryz.func17, Tryz.ntmps17
  go_upto_region 1 with fail
  change Code.wp _ _ _ _ (w.alloc (.cells (keyV r k) 37))
  generalize w.alloc (.cells (keyV r k) 37) = w1 at *
  go_wp2_with (go_at_call 29; (with_reducible refine (HN.out).mono ?_); rintro e w2 ⟨rfl, hb⟩; have H2 := Lib.hid hb; clear hb)
  go_ret
  exact ⟨rfl, HF.out.trans (H2.out.mono HF.out.size)⟩

set_option maxRecDepth 100000 in
set_option maxHeartbeats 1000000 in
theorem retire_any {w : World} {B rb mb n : Nat} {es : List Ent} (h : RingW w B rb mb n es) {e : Ent} (he : e ∈ es) {r : List UInt8} {k : Int} (hk : e.is r k = true) :
    Calls Tryz.prog 17 #[.pointer (some ⟨rb, 0, none⟩), .agg (keyV r k)] w fun e' w' => e' = .returned (.int .i64 0) ∧ RingW w' B rb mb n (es.filter fun x => !x.is r k) ∧ RFrame B w w' := by
  have hr : r.length = 32 := by rw [← (Ent.is_iff.1 hk).1]; exact e.root_len
  have hw : (Lit.int .i64 k).wf = true := by rw [← (Ent.is_iff.1 hk).2]; exact (h.ents e he).wf
  have HF : Hid (Below w.heap.size w (w.alloc (.cells (keyV r k) 37))) := (Below.refl _ _).alloc (Nat.le_refl _) _
  have HK : Hid (Box (w.alloc (.cells (keyV r k) 37)) w.heap.size 37 (keyV r k)) := Box.made _ _ _
  have lk := Box.load_key HK.out hr
  have H1 := Lib.hid (h.call HF.out)
  have HN := Lib.hid (find_any H1.out he hk)
  have HRL := Lib.hid hr
  have HW := Lib.hid hw
  have hn1 := key_list hr k
  have hund := key_struct
  clear h hr hw
  go_enter Tryz.func17, Tryz.ntmps17
  go_upto_region 1 with fail
  change Code.wp _ _ _ _ (w.alloc (.cells (keyV r k) 37))
  generalize w.alloc (.cells (keyV r k) 37) = w1 at *
  go_upto_region 4 with (go_at_call 29; (with_reducible refine (HN.out).mono ?_); rintro e' w2 ⟨rfl, hb⟩; have H2 := Lib.hid (H1.out.call hb).drew; have F2 : Hid (RFrame B w w2.drew) := ((RFrame.of_below HF.out).trans (RFrame.of_below hb)).drew; have HK2 := Lib.hid (HK.out.below hb HK.out.lt).drew; clear hb)
  have HC2 : Hid (w2.drew.cell? ⟨rb, 0, none⟩ = some (.map (some mb))) := Lib.hid (H2.out.ring.cell 0)
  refine wp_region_held_drew (S := fun w' => w'.cell? ⟨rb, 0, none⟩ = some (.map (some mb)) ∧ Box w' w.heap.size 37 (keyV r k)) (by kernel_rfl) ⟨HC2.out, HK2.out⟩ (fun hS => ?_)
  (refine wpAnyH_take (i := 0) (v := .pointer (some ⟨rb, 0, none⟩)) rfl (by kernel_rfl) (by kernel_rfl) (by kernel_rfl) (fun _ _ _ h => h) (Or.inl ⟨by kernel_rfl, fun w hSw => by go_simp⟩) hS ?_)
  (try simp only [Act.put])
  (refine wpAnyH_take (i := 1) (v := .pointer (some ⟨rb, 0, none⟩)) rfl (by kernel_rfl) (by kernel_rfl) (by kernel_rfl) (fun _ _ _ h => h) (Or.inl ⟨by kernel_rfl, fun w hSw => by go_simp⟩) hS ?_)
  (try simp only [Act.put])
  (refine wpAnyH_take (i := 2) (v := .pointer (some ⟨rb, 0, none⟩)) rfl (by kernel_rfl) (by kernel_rfl) (by kernel_rfl) (fun _ _ _ h => h) (Or.inl ⟨by kernel_rfl, fun w hSw => by go_simp⟩) hS ?_)
  (try simp only [Act.put])
  (refine wpAnyH_take (i := 3) (v := .map (some mb)) rfl (by kernel_rfl) (by kernel_rfl) (by kernel_rfl) (fun _ _ _ h => h) (Or.inl ⟨by kernel_rfl, fun w hSw => by have hc := hSw.1; go_simp⟩) hS ?_)
  (try simp only [Act.put])
  (refine wpAnyH_take (i := 4) (v := .agg (keyV r k)) rfl (by kernel_rfl) (by kernel_rfl) (by kernel_rfl) (fun _ _ _ h => h) (yieldsIf_load_mid (by kernel_rfl) 37 (.tmp 3) rfl w.heap.size (0) (by kernel_rfl) (keyL r k) _ (fun w h => h.2.range) hund rfl hn1) hS ?_)
  (try simp only [Act.put])
  obtain ⟨w5, h51, h52, h53, h54⟩ := H2.out.drop_run HRL.out HW.out 0
  have H5 := Lib.hid h52
  have F5 := Lib.hid (F2.out.trans h54)
  have G5 := Lib.hid h53
  clear h52 h53 h54
  have HNE : Hid (some w.heap.size ≠ some mb) := Lib.hid (fun e1 => by
    injection e1 with e1
    obtain ⟨_, ⟨es', clock, hh, _⟩, _⟩ := H2.out.map
    have hb := HK2.out
    unfold Box at hb
    rw [e1, hh] at hb
    cases hb)
  refine wpAnyH_ready (rs := [5]) (by decide +kernel) (by simp) (AllReadyH.cons rfl (fun K hK => ?_) AllReadyH.nil)
  go_simp
  refine hK.out _ _ (⟨H5.out.ring.cell 0, HK2.out.grown G5.out HNE.out⟩) (fun hS => ?_)
  clear hK K
  (try simp only [Act.put])
  refine wpAnyH_done (by kernel_rfl) ?_ _
  clear hS
  go_wp2
  go_ret
  exact ⟨rfl, H5.out, F5.out⟩
end Go.Proofs.YtojgmdagamdcfaaGreatDoor
