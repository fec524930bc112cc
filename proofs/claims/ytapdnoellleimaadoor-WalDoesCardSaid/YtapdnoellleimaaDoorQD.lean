/-
  wapentakeref16.Disk, of one file at most: its small calls.
  wapentakeref16.Disk, of one file at most: Size, Place, get, put.
  wapentakeref16.Disk, of one file at most: put, Lose.
  wapentakeref16.Disk, of one file at most: Append, Sync, Install, Read.
  wapentakeref17.Open, over the document's disk of one file at most.
  What WalDoes carries: both disks at once, the log, the call's box; how far both may grow.
-/
import Derived.Test.YtapdnoellleimaaDoorWaRsplit
namespace Go.Proofs.YtapdnoellleimaaDoor
open Go.RowKit Go.Maps

/-- The document's file as cells. -/
def fxCells (f : FX) : List Value := [str f.name, str f.data, .int .i64 (f.safe : Int)]
noncomputable def RFK : EK FX where
  e := 75
  sl := 29
  k := 3
  bys := 40
  z := .agg #[.string ⟨#[]⟩, .string ⟨#[]⟩, .int .i64 0]
  enc := fxCells
  hk := by decide
  und := Tryd.underlying29
  els := by kernel_rfl
  info := by kernel_rfl
  hzs := rfl
  zone := by
    intro v hv
    simp only [Value.cells, List.mem_cons, List.not_mem_nil, or_false] at hv
    rcases hv with rfl | rfl | rfl <;> rfl
  len := fun _ => rfl
  one := by
    intro x v hv
    simp only [fxCells, List.mem_cons, List.not_mem_nil, or_false] at hv
    rcases hv with rfl | rfl | rfl <;> rfl
  hby := by decide
noncomputable def ldFx (v : Value) : Sem Value := Instr.loadAt 75 v
set_option maxRecDepth 100000 in
theorem ldFx_def (v : Value) : Instr.loadAt 75 v = ldFx v := rfl
noncomputable def stFx (p v : Value) : Sem Unit := Instr.storeAt 75 p v
set_option maxRecDepth 100000 in
theorem stFx_def (p v : Value) : Instr.storeAt 75 p v = stFx p v := rfl
set_option maxRecDepth 100000 in
theorem fx_size (x : FX) : (Tryd.prog.info? 75).map (·.size) = some (fxCells x).toArray.size := by
  show _ = some 3
  kernel_rfl
set_option maxRecDepth 100000 in
theorem fx_list (x : FX) : (Tryd.prog.info? 75).map (·.size) = some (fxCells x).toArray.toList.length := by
  show _ = some 3
  kernel_rfl
set_option maxRecDepth 100000 in
theorem fx_one (x : FX) : ∀ v ∈ fxCells x, v.oneCell' = true := RFK.one x
set_option maxRecDepth 100000 in
theorem range_fx {w : World} {g o : Nat} {x : FX} (h : w.rangeAt g o (fxCells x)) : (ldFx (.pointer (some ⟨g, o, none⟩))).run Tryd.prog w = .ok (.agg (fxCells x).toArray) w :=
  run_loadAt_mid (P := Tryd.prog) w g o 75 (fxCells x).toArray.toList _ h Tryd.underlying75 rfl (fx_list x)
set_option maxRecDepth 100000 in
theorem Box.l_fx {w : World} {g : Nat} {t : TypeId} {x : FX} (h : Box w g t (fxCells x).toArray) : (ldFx (.pointer (some ⟨g, 0, none⟩))).run Tryd.prog w = .ok (.agg (fxCells x).toArray) w := range_fx (Box.range h)
set_option maxRecDepth 100000 in
theorem Box.s_fx {w : World} {g : Nat} {t : TypeId} {cs : Array Value} (h : Box w g t cs) (hs : cs.size = 3) (x : FX) :
    ∃ w', (stFx (.pointer (some ⟨g, 0, none⟩)) (.agg (fxCells x).toArray)).run Tryd.prog w = .ok () w' ∧ Box w' g t (fxCells x).toArray ∧ w.grownBy w' (some g) := by
  refine ⟨w.setCells g 0 (fxCells x).toArray.toList, ?_, h.cells_all (fxCells x).toArray (by rw [hs]; rfl), only_cells (g := g) _ 0 _⟩
  exact run_storeAt_mid (P := Tryd.prog) _ g 0 75 (fxCells x).toArray (fun j hj => by
    have hj4 : j < 3 := hj
    rw [h.cell, h.free, Array.getElem?_eq_getElem (by omega)]
    exact ⟨rfl, rfl⟩) (fx_size x) (by have := all_oneCell_toArray (fx_one x); simpa using this)
set_option maxRecDepth 100000 in
theorem laid_fx (w : World) (zs : Array Value) (hz : zs.size = 3) (x : FX) : ∃ w', (stFx (.pointer (some ⟨w.heap.size, 0, none⟩)) (.agg (fxCells x).toArray)).run Tryd.prog (w.alloc (.cells zs 75)) = .ok () w' ∧ Box w' w.heap.size 75 (fxCells x).toArray ∧ Below w.heap.size w w' := by
  obtain ⟨w', h1, h2, h3⟩ := (Box.made w 75 zs).s_fx hz x
  exact ⟨w', h1, h2, ((Below.refl _ _).alloc (Nat.le_refl _) _).trans (below_only h3 (Nat.le_refl _) (by simp))⟩
set_option maxRecDepth 100000 in
theorem RFK_at {w : World} {B : Nat} {A : Option Addr} {xs : List FX} (h : RFK.See w B A xs) {i : Nat} (hi : i < xs.length) : ∃ g o, A = some ⟨g, o, none⟩ ∧ w.rangeAt g (o + i * 3) (fxCells xs[i]) := by
  obtain ⟨g, o, rfl, _, hc⟩ := EK.See.range (K := RFK) h hi
  exact ⟨g, o, rfl, hc i hi⟩

/-- Calls of the document's disk: what has turned are blocks of disks and of files of its kind. -/
inductive RmF (base : Nat) : World → World → Prop
  | call {w w' : World} : Below w.heap.size w w' → base ≤ w.heap.size → RmF base w w'
  | box {w w' : World} {g : Nat} {t : TypeId} {cs : Array Value} : Box w g t cs → (t = 31 ∨ t = 75) → base ≤ g → w.grownBy w' (some g) → RmF base w w'
  | trans {w w' w2 : World} : RmF base w w' → RmF base w' w2 → RmF base w w2
set_option maxRecDepth 100000 in
theorem RmF.lo {base : Nat} {w w' : World} (h : RmF base w w') : Below base w w' := by
  induction h with
  | call h hb => exact h.mono hb
  | box hb _ hg h => exact below_only h hg (by have := hb.lt; omega)
  | trans _ _ h1 h2 => exact h1.trans h2
set_option maxRecDepth 100000 in
theorem RmF.size {base : Nat} {w w' : World} (h : RmF base w w') : w.heap.size ≤ w'.heap.size := h.lo.size
set_option maxRecDepth 100000 in
/-- A block of another type stays. -/
theorem RmF.keep {base : Nat} {w w' : World} (h : RmF base w w') {g : Nat} {t : TypeId} {cs : Array Value} {fr : Nat × Nat} (hb : w.heap[g]? = some (.cells cs t fr)) (h1 : t ≠ 31) (h2 : t ≠ 75) : w'.heap[g]? = some (.cells cs t fr) := by
  induction h with
  | call h _ => exact (h.block g (row_lt hb)).trans hb
  | box hx ht _ hg =>
    refine (hg.block g (row_lt hb) (fun e => ?_)).trans hb
    injection e with e
    have hx2 := hx
    unfold Box at hx2
    rw [← e, hb] at hx2
    injection hx2 with hx2
    injection hx2 with _ e2 _
    rcases ht with ht | ht
    · exact h1 (e2.trans ht)
    · exact h2 (e2.trans ht)
  | trans _ _ k1 k2 => exact k2 (k1 hb)
set_option maxRecDepth 100000 in
theorem RmF.kbox {base : Nat} {w w' : World} (h : RmF base w w') {g : Nat} {t : TypeId} {cs : Array Value} (hb : Box w g t cs) (h1 : t ≠ 31) (h2 : t ≠ 75) : Box w' g t cs := h.keep hb h1 h2
set_option maxRecDepth 100000 in
theorem DkIs.rt {base base' p : Nat} {w w' : World} {X : DX} (h : DkIs w base' p X) (hr : RmF base w w') : DkIs w' base' p X := by
  induction hr with
  | call hb _ => exact h.call hb
  | box hx ht _ hg =>
    obtain ⟨mb, ms, h⟩ := h
    have h1 : ∀ t : TypeId, t = 31 ∨ t = 75 → t ≠ 73 ∧ t ≠ 5 ∧ 68 ≠ t := by
      rintro t (rfl | rfl) <;> exact ⟨by decide, by decide, by decide⟩
    obtain ⟨h1, h2, h3⟩ := h1 _ ht
    exact ⟨mb, ms, h.box.grown hg (fun e => Box.apart h.box hx h3 (by injection e)), h.fs.box hx h1 h2 hg, h.eq, h.tot, h.fuse, h.keep, h.low⟩
  | trans _ _ k1 k2 => exact k2 (k1 h)
set_option maxRecDepth 100000 in
theorem RowB.rt {base B : Nat} {w w' : World} {t : TX} (h : RowB w B t) (hr : RmF base w w') : RowB w' B t := by
  obtain ⟨g, cs, fr, h1, h2, h3, h4⟩ := h
  exact ⟨g, cs, fr, h1, h2, hr.keep h3 (by decide) (by decide), h4⟩
set_option maxRecDepth 100000 in
theorem RecsW.rt {base B : Nat} {w w' : World} {v : Value} {ts : List TX} (h : RecsW w B v ts) (hr : RmF base w w') : RecsW w' B v ts := by
  refine ⟨⟨h.own.1, ?_⟩, fun t ht => (h.rows t ht).rt hr⟩
  rcases h.own.2 with h1 | ⟨g, cap, cur, h1, h2, h3, h4⟩
  · exact .inl h1
  · exact .inr ⟨g, cap, cur, h1, h2, hr.keep h3 (by decide) (by decide), h4⟩
set_option maxRecDepth 100000 in
theorem LogW.rt {base : Nat} {w w' : World} {q p : Nat} {s : List UInt8} (h : LogW w q p s) (hr : RmF base w w') : LogW w' q p s := hr.kbox h (by decide) (by decide)
set_option maxRecDepth 100000 in
theorem SKOwn_rt {base B : Nat} {w w' : World} {v : Value} {ss : List ByteArray} (h : SK.Own w B v ss) (hr : RmF base w w') : SK.Own w' B v ss := by
  refine ⟨h.1, ?_⟩
  rcases h.2 with h1 | ⟨g, cap, cur, h1, h2, h3, h4⟩
  · exact .inl h1
  · exact .inr ⟨g, cap, cur, h1, h2, hr.keep h3 (by decide) (by decide), h4⟩

/-- The document's disk in memory: its blocks lie from base on; it has the file LG alone, or none. -/
structure RmIs (w : World) (base m : Nat) (X : DX) : Prop where
  box : ∃ v, Box w m 31 #[v, .bool X.down, .int .i64 X.acts, .int .i64 X.fuse, .int .i64 X.keep] ∧ RFK.Own w base v X.fs
  one : X.fs = [] ∨ ∃ d s, X.fs = [⟨LG, d, s⟩] ∧ s ≤ d.length ∧ d.length ≤ 1000000
  low : base ≤ m
  acts : 0 ≤ X.acts ∧ X.acts < 1000000
  fuse : 0 ≤ X.fuse ∧ X.fuse < 9223372036854775808
  keep : -9223372036854775808 ≤ X.keep ∧ X.keep < 9223372036854775808
set_option maxRecDepth 100000 in
theorem RmIs.len {w : World} {base m : Nat} {X : DX} (h : RmIs w base m X) : X.fs.length ≤ 1 := by
  rcases h.one with e | ⟨d, s, e, _⟩ <;> rw [e] <;> simp
set_option maxRecDepth 100000 in
theorem RmIs.bt {u : Bool} {B : Nat} {w w' : World} {base m : Nat} {X : DX} (h : RmIs w base m X) (hb : Bt u B w w') : RmIs w' base m X := by
  obtain ⟨v, hx, ho⟩ := h.box
  refine ⟨⟨v, hb.box hx (by decide) (by decide) (fun _ => by decide), ⟨ho.1, ?_⟩⟩, h.one, h.low, h.acts, h.fuse, h.keep⟩
  rcases ho.2 with h1 | ⟨g, cap, cur, h1, h2, h3, h4⟩
  · exact .inl h1
  · exact .inr ⟨g, cap, cur, h1, h2, hb.kept g _ cur _ h3 (by decide) (by decide) (fun _ => by decide), h4⟩
set_option maxRecDepth 100000 in
theorem RmIs.tot {w : World} {base m : Nat} {X : DX} (h : RmIs w base m X) : totF X.fs ≤ 1000000 := by
  rcases h.one with e | ⟨d, s, e, _, hd⟩ <;> rw [e] <;> unfold totF <;> simp
  exact hd
set_option maxRecDepth 100000 in
theorem RmIs.size {w : World} {base m : Nat} {X : DX} (h : RmIs w base m X) : base ≤ w.heap.size := by
  obtain ⟨v, hx, _⟩ := h.box
  have := hx.lt
  have := h.low
  omega
set_option maxRecDepth 100000 in
theorem RmIs.call {w w' : World} {base m : Nat} {X : DX} (h : RmIs w base m X) (hb : Below w.heap.size w w') : RmIs w' base m X := by
  obtain ⟨v, hx, ho⟩ := h.box
  exact ⟨⟨v, hx.below hb hx.lt, ho.keep hb⟩, h.one, h.low, h.acts, h.fuse, h.keep⟩

set_option maxRecDepth 100000 in
theorem hX1 {w : World} {m : Nat} {v : Value} {X : DX} (h : Box w m 31 #[v, .bool X.down, .int .i64 X.acts, .int .i64 X.fuse, .int .i64 X.keep]) (a : Int) :
    (w.setCell ⟨m, 2, none⟩ (.int .i64 (a + 1))).cell? ⟨m, 3, none⟩ = some (.int .i64 X.fuse) ∧ (w.setCell ⟨m, 2, none⟩ (.int .i64 (a + 1))).frozen? ⟨m, 3, none⟩ = false ∧ True := by
  have hp := h.put 2 (.int .i64 (a + 1))
  exact ⟨hp.cell 3, hp.free 3, trivial⟩
set_option maxRecDepth 100000 in
theorem rm_act (base m : Nat) (X : DX) (w : World) (h : RmIs w base m X) (ha : X.acts + 1 < 1000000) :
    Calls Tryd.prog 38 #[.pointer (some ⟨m, 0, none⟩)] w fun e w' => e = .returned (.bool X.burns) ∧ RmIs w' base m X.tick ∧ RmF base w w' := by
  obtain ⟨v, hx, ho⟩ := h.box
  have c2 : w.cell? ⟨m, 2, none⟩ = some (.int .i64 X.acts) := hx.cell 2
  have c3 : w.cell? ⟨m, 3, none⟩ = some (.int .i64 X.fuse) := hx.cell 3
  have f2 := hx.free 2
  have f3 := hx.free 3
  have ha1 := h.acts
  have hfu := h.fuse
  have hne : 75 ≠ 31 := by decide
  have HP1 : Hid (∀ w', w.grownBy w' (some m) → RFK.Own w' base v X.fs ∧ RmF base w w') := Lib.hid (fun w' hg => ⟨World.ownsRow.kept ho hg (.inr (hx.own_ne ho hne)), .box hx (.inl rfl) h.low hg⟩)
  have HX := Lib.hid hx
  have HH := Lib.hid h
  have hb0 : X.burns = decide (X.fuse = 1) := rfl
  have HA := Lib.hid ha
  have hai : X.acts < 1000000 := h.acts.2
  have hai0 : 0 ≤ X.acts := h.acts.1
  clear hx ho h ha
  by_cases h0 : X.fuse = 0
  · have hb1 : X.burns = false := by rw [hb0, h0]; rfl
    rw [hb1]
    rw [h0] at c3
    clear hb0 hb1
    go_enter Tryd.func38, Tryd.ntmps38
    go_wp2
    go_ret
    obtain ⟨h1, h2⟩ := HP1.out _ (only_put (only_refl w _) 2 (.int .i64 (X.acts + 1)))
    refine ⟨rfl, ⟨⟨v, ?_, h1⟩, HH.out.one, HH.out.low, ⟨by show 0 ≤ X.acts + 1; omega, HA.out⟩, ?_, HH.out.keep⟩, h2⟩
    · have hp := HX.out.put 2 (.int .i64 (X.acts + 1))
      show Box _ m _ #[v, .bool X.down, .int .i64 (X.acts + 1), .int .i64 (if X.fuse = 0 then 0 else X.fuse - 1), .int .i64 X.keep]
      rw [if_pos h0]
      rw [h0] at hp
      exact hp
    · show 0 ≤ (if X.fuse = 0 then 0 else X.fuse - 1) ∧ (if X.fuse = 0 then 0 else X.fuse - 1) < _
      rw [if_pos h0]
      decide
  · have hb1 : X.burns = (X.fuse - 1 == 0) := by
      rw [hb0]
      by_cases h1 : X.fuse = 1
      · rw [h1]; rfl
      · rw [decide_eq_false h1, eq_comm, beq_eq_false_iff_ne]
        omega
    rw [hb1]
    have hn0 : (X.fuse == 0) = false := by simpa using h0
    have hf3 : (w.setCell ⟨m, 2, none⟩ (.int .i64 (X.acts + 1))).frozen? ⟨m, 3, none⟩ = false := (hX1 HX.out X.acts).2.1
    have hc3 : (w.setCell ⟨m, 2, none⟩ (.int .i64 (X.acts + 1))).cell? ⟨m, 3, none⟩ = some (.int .i64 X.fuse) := (hX1 HX.out X.acts).1
    clear hb0 hb1
    go_enter Tryd.func38, Tryd.ntmps38
    go_wp2
    go_ret
    obtain ⟨h1, h2⟩ := HP1.out _ (only_put (only_put (only_refl w _) 2 (.int .i64 (X.acts + 1))) 3 (.int .i64 (X.fuse - 1)))
    refine ⟨rfl, ⟨⟨v, ?_, h1⟩, HH.out.one, HH.out.low, ⟨by show 0 ≤ X.acts + 1; omega, HA.out⟩, ?_, HH.out.keep⟩, h2⟩
    · have hp := (HX.out.put 2 (.int .i64 (X.acts + 1))).put 3 (.int .i64 (X.fuse - 1))
      show Box _ m _ #[v, .bool X.down, .int .i64 (X.acts + 1), .int .i64 (if X.fuse = 0 then 0 else X.fuse - 1), .int .i64 X.keep]
      rw [if_neg h0]
      exact hp
    · show 0 ≤ (if X.fuse = 0 then 0 else X.fuse - 1) ∧ (if X.fuse = 0 then 0 else X.fuse - 1) < _
      rw [if_neg h0]
      omega
set_option maxRecDepth 100000 in
theorem RmIs.turn {w w' : World} {base m : Nat} {X Y : DX} (h : RmIs w base m X) (hg : w.grownBy w' (some m)) (hb : ∀ v, Box w m 31 #[v, .bool X.down, .int .i64 X.acts, .int .i64 X.fuse, .int .i64 X.keep] → Box w' m 31 #[v, .bool Y.down, .int .i64 Y.acts, .int .i64 Y.fuse, .int .i64 Y.keep]) (he : Y.fs = X.fs)
    (ha : 0 ≤ Y.acts ∧ Y.acts < 1000000) (hf : 0 ≤ Y.fuse ∧ Y.fuse < 9223372036854775808) (hk : -9223372036854775808 ≤ Y.keep ∧ Y.keep < 9223372036854775808) : RmIs w' base m Y ∧ RmF base w w' := by
  obtain ⟨v, hx, ho⟩ := h.box
  have hne : 75 ≠ 31 := by decide
  have ho2 : RFK.Own w' base v X.fs := World.ownsRow.kept ho hg (.inr (hx.own_ne ho hne))
  exact ⟨⟨⟨v, hb v hx, by rw [he]; exact ho2⟩, by rw [he]; exact h.one, h.low, ha, hf, hk⟩, .box hx (.inl rfl) h.low hg⟩
set_option maxRecDepth 100000 in
theorem rm_arm (base m : Nat) (X : DX) (n k : Int) (hn : -9223372036854775808 ≤ n ∧ n < 9223372036854775808) (hk : -9223372036854775808 ≤ k ∧ k < 9223372036854775808) (w : World) (h : RmIs w base m X) :
    Calls Tryd.prog 27 #[.pointer (some ⟨m, 0, none⟩), .int .i64 n, .int .i64 k] w fun e w' => e = .returned (.tuple #[]) ∧ RmIs w' base m (X.arm n k) ∧ RmF base w w' := by
  obtain ⟨v, hx, _⟩ := h.box
  have f3 := hx.free 3
  have f4 := hx.free 4
  have c3 : w.cell? ⟨m, 3, none⟩ = some (.int .i64 X.fuse) := hx.cell 3
  have c4 : w.cell? ⟨m, 4, none⟩ = some (.int .i64 X.keep) := hx.cell 4
  have HH := Lib.hid h
  have HN := Lib.hid hn
  have HK := Lib.hid hk
  clear hx h
  by_cases h0 : n ≤ 0
  · go_enter Tryd.func27, Tryd.ntmps27
    go_wp2
    all_goals first | go_end0 | go_ret
    refine ⟨rfl, ?_⟩
    refine HH.out.turn (only_put (only_put (only_refl w _) 3 (.int .i64 0)) 4 (.int .i64 k)) (fun v hx => ?_) rfl HH.out.acts (by show 0 ≤ max 0 n ∧ max 0 n < _; have := HN.out; omega) HK.out
    have hp := (hx.put 3 (.int .i64 0)).put 4 (.int .i64 k)
    show Box _ m _ #[v, .bool X.down, .int .i64 X.acts, .int .i64 (max 0 n), .int .i64 k]
    rw [show max 0 n = 0 by omega]
    exact hp
  · have h0' : 0 < n := by omega
    have f33 : (w.setCell ⟨m, 3, none⟩ (.int .i64 0)).frozen? ⟨m, 3, none⟩ = false := by
      obtain ⟨v, hx, _⟩ := HH.out.box
      exact (hx.put 3 (.int .i64 0)).free 3
    have f34 : ((w.setCell ⟨m, 3, none⟩ (.int .i64 0)).setCell ⟨m, 3, none⟩ (.int .i64 n)).frozen? ⟨m, 4, none⟩ = false := by
      obtain ⟨v, hx, _⟩ := HH.out.box
      exact ((hx.put 3 (.int .i64 0)).put 3 (.int .i64 n)).free 4
    go_enter Tryd.func27, Tryd.ntmps27
    go_wp2
    all_goals first | go_end0 | go_ret
    refine ⟨rfl, ?_⟩
    refine HH.out.turn (only_put (only_put (only_put (only_refl w _) 3 (.int .i64 0)) 3 (.int .i64 n)) 4 (.int .i64 k)) (fun v hx => ?_) rfl HH.out.acts (by show 0 ≤ max 0 n ∧ max 0 n < _; have := HN.out; omega) HK.out
    have hp := ((hx.put 3 (.int .i64 0)).put 3 (.int .i64 n)).put 4 (.int .i64 k)
    show Box _ m _ #[v, .bool X.down, .int .i64 X.acts, .int .i64 (max 0 n), .int .i64 k]
    rw [show max 0 n = n by omega]
    exact hp
end Go.Proofs.YtapdnoellleimaaDoor

namespace Go.Proofs.YtapdnoellleimaaDoor
open Go.RowKit Go.Maps

abbrev zfx : Array Value := #[.string ⟨#[]⟩, .string ⟨#[]⟩, .int .i64 0]
set_option maxRecDepth 100000 in
theorem totF_succ (fs : List FX) (k : Nat) (h : k < fs.length) : totF (fs.take (k + 1)) = totF (fs.take k) + fs[k].data.length := by
  unfold totF
  rw [List.take_succ_eq_append_getElem h, List.map_append, List.sum_append]
  simp
set_option maxRecDepth 100000 in
theorem RmIs.mem {w : World} {base m : Nat} {X : DX} (h : RmIs w base m X) : ∀ f ∈ X.fs, f.name = LG ∧ f.safe ≤ f.data.length ∧ f.data.length ≤ 1000000 := by
  intro f hf
  rcases h.one with e | ⟨d, s, e, h1, h2⟩ <;> rw [e] at hf
  · cases hf
  · rw [List.mem_singleton.1 hf]
    exact ⟨rfl, h1, h2⟩
section
attribute [local go_sem ↓] ldFx_def stFx_def
set_option maxRecDepth 100000 in
set_option maxHeartbeats 1000000 in
theorem rm_size (base m : Nat) (X : DX) (w : World) (h : RmIs w base m X) :
    Calls Tryd.prog 37 #[.pointer (some ⟨m, 0, none⟩)] w fun e w' => e = .returned (.int .i64 (totF X.fs : Int)) ∧ Below w.heap.size w w' := by
  obtain ⟨v, hx, ho⟩ := h.box
  obtain ⟨A, c, rfl⟩ := ho.slice
  have c0 : w.cell? ⟨m, 0, none⟩ = some (.slice A X.fs.length c) := hx.cell 0
  have HO := Lib.hid ho.see
  have hln : (X.fs.length : Int) ≤ 1 := by have := h.len; omega
  have HM := Lib.hid h.mem
  have HT := Lib.hid h.tot
  obtain ⟨fs, hfs⟩ : ∃ fs, fs = X.fs := ⟨_, rfl⟩
  rw [← hfs] at c0 HO hln HM HT ⊢
  clear hx ho h hfs
  go_enter Tryd.func37, Tryd.ntmps37
  go_wp2
  go_loopw [3, 11] (fun s i wr => ∃ k : Nat, k ≤ fs.length ∧ i = .int .i64 (k : Int) ∧ s = .int .i64 ((totF (fs.take k) : Nat) : Int) ∧ Hid (Below w.heap.size w wr)) (fun _ i _ => fs.length - (intOf i).toNat)
  case atStart => exact ⟨0, Nat.zero_le _, rfl, rfl, Below.refl _ _⟩
  case round =>
    obtain ⟨k, hk, rfl, rfl, HB⟩ := hrel
    by_cases hlt : k < fs.length
    · obtain ⟨g, o, rfl, hrg⟩ := RFK_at (EK.See.far HO.out HB.out) hlt
      have hld := range_fx hrg
      have HSU := Lib.hid (totF_succ fs k hlt)
      have hmm := HM.out _ (List.getElem_mem hlt)
      have htk : ((totF (fs.take k) : Nat) : Int) ≤ 0 := by
        have hk0 : k = 0 := by omega
        rw [hk0]
        show ((0 : Nat) : Int) ≤ 0
        omega
      obtain ⟨f, hf⟩ : ∃ f, f = fs[k] := ⟨_, rfl⟩
      rw [← hf] at hld HSU hmm
      have hfl : (f.data.length : Int) ≤ 1000000 := by have := hmm.2.2; omega
      obtain ⟨w2, hst, hbx, hbl⟩ := laid_fx wr zfx rfl f
      have c1 : w2.cell? ⟨wr.heap.size, 1, none⟩ = some (str f.data) := hbx.cell 1
      have HB2 := Lib.hid (HB.out.trans (hbl.mono HB.out.size))
      clear hrg hmm hbx hbl hf
      go_wp2
      go_roundw
      case rel => exact ⟨k + 1, by omega, by go_num, by rw [HSU.out, Int.natCast_add], HB2⟩
      case measure => simp [intOf]; omega
    · have hkl : k = fs.length := by omega
      subst hkl
      rw [List.take_length]
      clear hlt hk
      go_wp2
      go_ret
      exact ⟨rfl, HB.out⟩
set_option maxRecDepth 100000 in
set_option maxHeartbeats 1000000 in
theorem rm_place (base m : Nat) (X : DX) (w : World) (h : RmIs w base m X) :
    Calls Tryd.prog 48 #[.pointer (some ⟨m, 0, none⟩), str LG] w fun e w' => e = .returned (.int .i64 ((X.fs.length : Int) - 1)) ∧ Below w.heap.size w w' := by
  obtain ⟨v, hx, ho⟩ := h.box
  obtain ⟨A, c, rfl⟩ := ho.slice
  have c0 : w.cell? ⟨m, 0, none⟩ = some (.slice A X.fs.length c) := hx.cell 0
  have HO := Lib.hid ho.see
  have hln : (X.fs.length : Int) ≤ 1 := by have := h.len; omega
  have HM := Lib.hid h.mem
  obtain ⟨fs, hfs⟩ : ∃ fs, fs = X.fs := ⟨_, rfl⟩
  rw [← hfs] at c0 HO hln HM ⊢
  clear hx ho h hfs
  go_enter Tryd.func48, Tryd.ntmps48
  go_wp2
  go_loopw [12] (fun i wr => i = .int .i64 0 ∧ Hid (Below w.heap.size w wr)) (fun _ _ => 0)
  case atStart => exact ⟨rfl, Below.refl _ _⟩
  case round =>
    obtain ⟨rfl, HB⟩ := hrel
    by_cases hlt : 0 < fs.length
    · obtain ⟨g, o, rfl, hrg⟩ := RFK_at (EK.See.far HO.out HB.out) hlt
      rw [Nat.zero_mul, Nat.add_zero] at hrg
      have hld := range_fx hrg
      have hmm := (HM.out _ (List.getElem_mem hlt)).1
      have hl1 : fs.length = 1 := by omega
      obtain ⟨f, hf⟩ : ∃ f, f = fs[0] := ⟨_, rfl⟩
      rw [← hf] at hld hmm
      obtain ⟨w2, hst, hbx, hbl⟩ := laid_fx wr zfx rfl f
      have c1 : w2.cell? ⟨wr.heap.size, 0, none⟩ = some (str LG) := by
        rw [← hmm]
        exact hbx.cell 0
      have HB2 := Lib.hid (HB.out.trans (hbl.mono HB.out.size))
      rw [hl1] at c0 ⊢
      clear hrg hmm hbx hbl hf hln hlt
      go_wp2
      go_ret
      exact ⟨by rw [hl1]; rfl, HB2.out⟩
    · have hl0 : fs.length = 0 := by omega
      rw [hl0] at c0 ⊢
      clear hlt hln
      go_wp2
      go_ret
      exact ⟨by rw [hl0]; rfl, HB.out⟩
set_option maxRecDepth 100000 in
theorem ret_fx {fn : Func} {q : Tmp} (hf : fn.results = #[.cell q 75]) {a : Act} {w : World} {g : Nat} (hq : a.tmps.getD q undef = .pointer (some ⟨g, 0, none⟩)) (hdf : a.defers = []) {x : FX} (hb : Box w g 75 (fxCells x).toArray)
    {R : Ending → World → Prop} (hR : R (.returned (.agg (fxCells x).toArray)) w) : bodyPost Tryd.prog fn R .ret a w :=
  bodyPost_ret (results_cell_row hf _ w g _ _ (0, 0) _ hq hb Tryd.underlying75 rfl (fx_size x)) hdf hR
def getX (fs : List FX) : FX := match fs with
  | [] => ⟨LG, [], 0⟩
  | f :: _ => f
set_option maxRecDepth 100000 in
set_option maxHeartbeats 1000000 in
theorem rm_get (base m : Nat) (X : DX) (w : World) (h : RmIs w base m X) :
    Calls Tryd.prog 39 #[.pointer (some ⟨m, 0, none⟩), str LG] w fun e w' => e = .returned (.agg (fxCells (getX X.fs)).toArray) ∧ Below w.heap.size w w' := by
  have hb1 : Below w.heap.size w (w.alloc (.cells zfx 75)) := (Below.refl _ _).alloc (Nat.le_refl _) _
  have HC := rm_place base m X _ (h.call hb1)
  have HH := Lib.hid h
  have hx1 := Box.made w 75 zfx
  obtain ⟨W1, hW1⟩ : ∃ W, W = w.alloc (.cells zfx 75) := ⟨_, rfl⟩
  rw [← hW1] at hb1 hx1 HC
  have HX1 := Lib.hid hx1
  have HB1 := Lib.hid hb1
  have HW1 := Lib.hid hW1
  have HV : Hid (∀ w2, Below W1.heap.size W1 w2 → ∃ A c, w2.cell? ⟨m, 0, none⟩ = some (.slice A X.fs.length c) ∧ RFK.See w2 w2.heap.size A X.fs ∧ Box w2 w.heap.size 75 zfx ∧ Below w.heap.size w w2) := Lib.hid (fun w2 hb2 => by
    have hbb := HB1.out.trans (hb2.mono HB1.out.size)
    obtain ⟨v, hx, ho⟩ := (HH.out.call hbb).box
    obtain ⟨A, c, rfl⟩ := ho.slice
    exact ⟨A, c, hx.cell 0, ho.see, HX1.out.below hb2 HX1.out.lt, hbb⟩)
  clear hb1 hx1 hW1
  rcases h.one with hf | ⟨d, s, hf, _⟩
  · rw [hf] at HC HV ⊢
    have HC := Lib.hid HC
    clear hf h
    go_enter Tryd.func39, Tryd.ntmps39
    go_upto_region 2 with (rw [← HW1.out]; go_at_call 48; (with_reducible refine (HC.out).mono ?_); rintro e w2 ⟨rfl, hb2⟩; have HB2 := Lib.hid hb2; clear hb2)
    obtain ⟨A, c, c0, _, hx2, hbb⟩ := HV.out w2 HB2.out
    obtain ⟨w3, hst, hx3, hg3⟩ := hx2.s_fx rfl ⟨LG, [], 0⟩
    have hst' : (stFx (.pointer (some ⟨w.heap.size, 0, none⟩)) (.agg #[str LG, .string ⟨#[]⟩, .int .i64 0])).run Tryd.prog w2 = .ok () w3 := hst
    have HX3 := Lib.hid hx3
    have HG3 := Lib.hid (hbb.trans (below_only hg3 (Nat.le_refl _) hbb.size))
    clear hst hx3 hg3 hx2 c0 hbb
    go_wp2
    exact ret_fx rfl rfl rfl HX3.out ⟨rfl, HG3.out⟩
  · rw [hf] at HC HV ⊢
    have HC := Lib.hid HC
    clear hf h
    obtain ⟨f, hf⟩ : ∃ f : FX, f = ⟨LG, d, s⟩ := ⟨_, rfl⟩
    rw [← hf] at HV ⊢
    clear hf
    go_enter Tryd.func39, Tryd.ntmps39
    go_upto_region 2 with (rw [← HW1.out]; go_at_call 48; (with_reducible refine (HC.out).mono ?_); rintro e w2 ⟨rfl, hb2⟩; have HB2 := Lib.hid hb2; clear hb2)
    obtain ⟨A, c, c0, hs, hx2, hbb⟩ := HV.out w2 HB2.out
    obtain ⟨g, o, rfl, hrg⟩ := RFK_at hs (by simp : 0 < [f].length)
    rw [Nat.zero_mul, Nat.add_zero] at hrg
    have hlf := range_fx hrg
    have hgf : [f][0] = f := rfl
    have hlen : [f].length = 1 := rfl
    rw [hgf] at hlf
    rw [hlen] at c0
    obtain ⟨w3, hst, hx3, hg3⟩ := hx2.s_fx rfl f
    have HX3 := Lib.hid hx3
    have HG3 := Lib.hid (hbb.trans (below_only hg3 (Nat.le_refl _) hbb.size))
    clear hrg hx3 hg3 hx2 hgf hlen hs hbb
    go_wp2
    exact ret_fx rfl rfl rfl HX3.out ⟨rfl, HG3.out⟩
end
end Go.Proofs.YtapdnoellleimaaDoor

namespace Go.Proofs.YtapdnoellleimaaDoor
open Go.RowKit Go.Maps
section
attribute [local go_sem ↓] ldFx_def stFx_def bsT_def apAll_def
set_option maxRecDepth 100000 in
set_option maxHeartbeats 2000000 in
theorem rm_put (base m : Nat) (X : DX) (x : FX) (hxx : x.name = LG ∧ x.safe ≤ x.data.length ∧ x.data.length ≤ 1000000) (w : World) (h : RmIs w base m X) :
    Calls Tryd.prog 40 #[.pointer (some ⟨m, 0, none⟩), .agg (fxCells x).toArray] w fun e w' => e = .returned (.tuple #[]) ∧ RmIs w' base m { X with fs := [x] } ∧ RmF base w w' := by
  have HXX := Lib.hid hxx
  have HBS := Lib.hid h.size
  have hb1 : Below w.heap.size w (w.alloc (.cells (fxCells x).toArray 75)) := (Below.refl _ _).alloc (Nat.le_refl _) _
  have hx1 := Box.made w 75 (fxCells x).toArray
  obtain ⟨W1, hW1⟩ : ∃ W, W = w.alloc (.cells (fxCells x).toArray 75) := ⟨_, rfl⟩
  rw [← hW1] at hb1 hx1
  have HX1 := Lib.hid hx1
  have HB1 := Lib.hid hb1
  have HW1 := Lib.hid hW1
  have HH := Lib.hid h
  have HM := Lib.hid h.mem
  have hln : (X.fs.length : Int) ≤ 1 := by have := h.len; omega
  obtain ⟨v0, hxm, hom⟩ := h.box
  obtain ⟨A, c, rfl⟩ := hom.slice
  have hxm1 := hxm.below hb1 hxm.lt
  have c0 : W1.cell? ⟨m, 0, none⟩ = some (.slice A X.fs.length c) := hxm1.cell 0
  have HXM := Lib.hid hxm
  have HO := Lib.hid hom.see
  -- what is appended
  have HAP : Hid (∀ wr, base ≤ wr.heap.size → ∃ w2 v3 w3, (bsT 29 1 #[(0, .agg (fxCells x).toArray)]).run Tryd.prog wr = .ok (.slice (some ⟨wr.heap.size, 0, none⟩) 1 1) w2 ∧ (apAll #[29, 29] 29 #[.slice none 0 0, .slice (some ⟨wr.heap.size, 0, none⟩) 1 1]).run Tryd.prog w2 = .ok v3 w3 ∧ RFK.Own w3 base v3 [x] ∧ Below wr.heap.size wr w2 ∧ Below wr.heap.size wr w3) := Lib.hid (fun wr hB => by
    have hbs : (bsT 29 1 #[(0, .agg (fxCells x).toArray)]).run Tryd.prog wr = .ok (.slice (some ⟨wr.heap.size, 0, none⟩) 1 1) (wr.alloc (.cells (RFK.enc x).toArray RFK.e)) := EK.build1 RFK x (.agg (fxCells x).toArray) rfl (by decide) wr
    have hb2 : Below wr.heap.size wr (wr.alloc (.cells (RFK.enc x).toArray RFK.e)) := (Below.refl _ _).alloc (Nat.le_refl _) _
    have hs2 := EK.see_one RFK wr x
    obtain ⟨v3, w3, hap, ho3, hg3⟩ := EK.append RFK (EK.own_nil RFK (wr.alloc (.cells (RFK.enc x).toArray RFK.e)) base) (m := 1) (c := 1) (es := [x]) rfl hs2 (by simp) (by show (0 + 1) * 40 ≤ _; omega) (Nat.le_trans hB hb2.size)
    exact ⟨_, v3, w3, hbs, hap, ho3, hb2, hb2.trans (below_own (EK.own_nil RFK _ wr.heap.size) hg3 hb2.size)⟩)
  -- the end
  have HE : Hid (∀ v3 w3, RFK.Own w3 base v3 [x] → Below w.heap.size w w3 → w3.frozen? ⟨m, 0, none⟩ = false ∧ (∃ u, w3.cell? ⟨m, 0, none⟩ = some u) ∧ RmIs (w3.setCell ⟨m, 0, none⟩ v3) base m { X with fs := [x] } ∧ RmF base w (w3.setCell ⟨m, 0, none⟩ v3)) := Lib.hid (fun v3 w3 ho hb => by
    have hx3 := HXM.out.below hb HXM.out.lt
    have hg := only_put (only_refl w3 (some m)) 0 v3
    refine ⟨hx3.free 0, ⟨_, hx3.cell 0⟩, ⟨⟨v3, hx3.put 0 v3, World.ownsRow.kept ho hg (.inr (hx3.own_ne ho (by decide)))⟩, .inr ⟨x.data, x.safe, ?_, HXX.out.2.1, HXX.out.2.2⟩, HH.out.low, HH.out.acts, HH.out.fuse, HH.out.keep⟩, .trans (.call hb HBS.out) (.box hx3 (.inl rfl) HH.out.low hg)⟩
    show [x] = _
    rw [← HXX.out.1])
  obtain ⟨fs, hfs⟩ : ∃ fs, fs = X.fs := ⟨_, rfl⟩
  rw [← hfs] at c0 HO hln HM
  clear hb1 hx1 hW1 h hxm hom hxm1 hfs hxx
  go_enter Tryd.func40, Tryd.ntmps40
  go_upto_region 3 with fail
  rw [← HW1.out]
  go_wp2
  go_loopw [4, 5, 13] (fun v dn i wr => Hid (Below W1.heap.size W1 wr) ∧ ((i = .int .i64 0 ∧ v = .slice none 0 0 ∧ dn = .bool false) ∨ (i = .int .i64 1 ∧ fs.length = 1 ∧ dn = .bool true ∧ Hid (RFK.Own wr base v [x])))) (fun _ _ i _ => fs.length - (intOf i).toNat)
  case atStart => exact ⟨Below.refl _ _, .inl ⟨rfl, rfl, rfl⟩⟩
  case round =>
    obtain ⟨HB, ⟨rfl, rfl, rfl⟩ | ⟨rfl, hl1, rfl, HV⟩⟩ := hrel
    · by_cases hlt : 0 < fs.length
      · obtain ⟨g, o, rfl, hrg⟩ := RFK_at (EK.See.far HO.out (HB1.out.trans (HB.out.mono HB1.out.size))) hlt
        rw [Nat.zero_mul, Nat.add_zero] at hrg
        have hld := range_fx hrg
        have hmm := (HM.out _ (List.getElem_mem hlt)).1
        have hl1 : fs.length = 1 := by omega
        obtain ⟨f, hf⟩ : ∃ f, f = fs[0] := ⟨_, rfl⟩
        rw [← hf] at hld hmm
        obtain ⟨w2, hst, hbx, hbl⟩ := laid_fx wr zfx rfl f
        have c1 : w2.cell? ⟨wr.heap.size, 0, none⟩ = some (str LG) := by
          rw [← hmm]
          exact hbx.cell 0
        have hb2 := HB.out.trans (hbl.mono HB.out.size)
        have hx2 := HX1.out.below hb2 HX1.out.lt
        have c2 : w2.cell? ⟨w.heap.size, 0, none⟩ = some (str LG) := by
          rw [← HXX.out.1]
          exact hx2.cell 0
        have hldx := hx2.l_fx
        obtain ⟨w3, v4, w4, hbs, hap, ho, hb3, hb4⟩ := HAP.out w2 (Nat.le_trans HBS.out (Nat.le_trans HB1.out.size hb2.size))
        have hbx3 := hbx.below hb3 hbx.lt
        have hbx4 := hbx.below hb4 hbx.lt
        have hx4 := hx2.below hb4 hx2.lt
        have d1 : w4.cell? ⟨wr.heap.size, 0, none⟩ = some (str LG) := by
          rw [← hmm]
          exact hbx4.cell 0
        have d2 : w4.cell? ⟨w.heap.size, 0, none⟩ = some (str LG) := by
          rw [← HXX.out.1]
          exact hx4.cell 0
        have HB4 := Lib.hid (hb2.trans (hb4.mono hb2.size))
        have HO4 := Lib.hid ho
        clear hrg hmm hbx hbl hf hb2 hx2 hb3 hb4 hbx3 hbx4 hx4 ho hln
        go_wp2
        go_roundw
        case rel => exact ⟨HB4, .inr ⟨rfl, hl1, rfl, HO4⟩⟩
        case measure => simp [intOf]; omega
      · have hx2 := HX1.out.below HB.out HX1.out.lt
        have hldx := hx2.l_fx
        obtain ⟨w3, v4, w4, hbs, hap, ho, hb3, hb4⟩ := HAP.out wr (Nat.le_trans HBS.out (Nat.le_trans HB1.out.size HB.out.size))
        obtain ⟨A4, k4, rfl⟩ := ho.slice
        obtain ⟨f0, ⟨u, c4⟩, hR, hF⟩ := HE.out _ w4 ho (HB1.out.trans ((HB.out.trans (hb4.mono HB.out.size)).mono HB1.out.size))
        have HR := Lib.hid hR
        have HF := Lib.hid hF
        clear hx2 ho hb3 hb4 hR hF
        go_wp2
        all_goals first | go_end0 | go_ret
        exact ⟨rfl, HR.out, HF.out⟩
    · obtain ⟨A4, k4, rfl⟩ := HV.out.slice
      obtain ⟨f0, ⟨u, c4⟩, hR, hF⟩ := HE.out _ wr HV.out (HB1.out.trans (HB.out.mono HB1.out.size))
      have HR := Lib.hid hR
      have HF := Lib.hid hF
      clear hR hF
      go_wp2
      all_goals first | go_end0 | go_ret
      exact ⟨rfl, HR.out, HF.out⟩
end
section
attribute [local go_sem ↓] ldFx_def stFx_def slH17_def
set_option maxRecDepth 100000 in
theorem rm_down {w : World} {base m : Nat} {Y : DX} (h : RmIs w base m Y) : w.frozen? ⟨m, 1, none⟩ = false ∧ w.cell? ⟨m, 1, none⟩ = some (.bool Y.down) ∧ (w.setCell ⟨m, 1, none⟩ (.bool true)).frozen? ⟨m, 3, none⟩ = false ∧ (w.setCell ⟨m, 1, none⟩ (.bool true)).cell? ⟨m, 3, none⟩ = some (.int .i64 Y.fuse) ∧
    RmIs ((w.setCell ⟨m, 1, none⟩ (.bool true)).setCell ⟨m, 3, none⟩ (.int .i64 0)) base m { Y with down := true, fuse := 0 } ∧ RmF base w ((w.setCell ⟨m, 1, none⟩ (.bool true)).setCell ⟨m, 3, none⟩ (.int .i64 0)) := by
  obtain ⟨v, hx, _⟩ := h.box
  have hx2 := hx.put 1 (.bool true)
  refine ⟨hx.free 1, hx.cell 1, hx2.free 3, hx2.cell 3, ?_⟩
  exact h.turn (only_put (only_put (only_refl w _) 1 (.bool true)) 3 (.int .i64 0)) (fun v hx => (hx.put 1 (.bool true)).put 3 (.int .i64 0)) rfl h.acts (by show (0 : Int) ≤ 0 ∧ (0 : Int) < _; decide) h.keep
set_option maxRecDepth 100000 in
set_option maxHeartbeats 2000000 in
theorem rm_lose (base m : Nat) (X : DX) (k : Int) (hk : -9223372036854775808 ≤ k ∧ k < 9223372036854775808) (w : World) (h : RmIs w base m X) :
    Calls Tryd.prog 24 #[.pointer (some ⟨m, 0, none⟩), .int .i64 k] w fun e w' => e = .returned (.tuple #[]) ∧ RmIs w' base m (X.off k) ∧ RmF base w w' := by
  have HBS := Lib.hid h.size
  have HH := Lib.hid h
  obtain ⟨v0, hxm, hom⟩ := h.box
  obtain ⟨A, c, rfl⟩ := hom.slice
  have HXM := Lib.hid hxm
  have c0 : w.cell? ⟨m, 0, none⟩ = some (.slice A X.fs.length c) := hxm.cell 0
  have c1 : w.cell? ⟨m, 1, none⟩ = some (.bool X.down) := hxm.cell 1
  obtain ⟨d, hd⟩ : ∃ d, d = X.down := ⟨_, rfl⟩
  rw [← hd] at c1
  cases d with
  | true =>
    have HD : Hid (X.off k = X) := Lib.hid (by unfold DX.off; rw [← hd, if_pos rfl])
    clear hxm hom h hd
    go_enter Tryd.func24, Tryd.ntmps24
    go_wp2
    refine bodyPost_ret (results_none rfl _ _ _) rfl ?_
    exact ⟨rfl, by rw [HD.out]; exact HH.out, .call (Below.refl _ _) HBS.out⟩
  | false =>
    have HD : Hid (X.off k = { X with down := true, fuse := 0, fs := X.fs.map (loseF k) }) := Lib.hid (by unfold DX.off; rw [← hd, if_neg (by simp)])
    rcases h.one with hf | ⟨dt, sf, hf, hsl, hdl⟩
    · have hn0 : X.fs.length = 0 := by rw [hf]; rfl
      rw [hn0] at c0
      have f1 := hxm.free 1
      have HE := Lib.hid (rm_down h)
      have f3 := HE.out.2.2.1
      have c3 := HE.out.2.2.2.1
      have HOF : Hid (X.off k = { X with down := true, fuse := 0 }) := Lib.hid (by rw [HD.out, hf]; rfl)
      clear hxm hom h hd hf hn0
      go_enter Tryd.func24, Tryd.ntmps24
      go_wp2
      go_loopw [16] (fun i wr => i = .int .i64 0 ∧ wr = w) (fun _ _ => 0)
      case atStart => exact ⟨rfl, rfl⟩
      case round =>
        obtain ⟨rfl, rfl⟩ := hrel
        go_wp2
        all_goals first | go_end0 | (refine bodyPost_ret (results_none rfl _ _ _) rfl ?_)
        exact ⟨rfl, by rw [HOF.out]; exact HE.out.2.2.2.2.1, HE.out.2.2.2.2.2⟩
    · have ho1 : RFK.Own w base (.slice A X.fs.length c) [⟨LG, dt, sf⟩] := by rw [← hf]; exact hom
      obtain ⟨_, _, _, hA⟩ := ho1.bounds
      obtain ⟨g, rfl, hbg, hgl⟩ := hA (by simp)
      obtain ⟨post, hbg2, hpost, hcl, hcm, _, hn1⟩ := ho1.row
      have hn1 : X.fs.length = 1 := hn1
      rw [hn1] at c0
      have hflat : RFK.flat [⟨LG, dt, sf⟩] = fxCells ⟨LG, dt, sf⟩ := EK.flat_one' RFK _
      rw [hflat] at hbg2
      obtain ⟨n0, K, h0, hn0, hcase⟩ : ∃ (n0 : Int) (K : Nat), (0 ≤ n0 ∧ (sf : Int) + n0 = (K : Int) ∧ (K : Int) ≤ (dt.length : Int)) ∧ K = keptF k ⟨LG, dt, sf⟩ ∧ ((k < 0 ∧ n0 = 0) ∨ (0 ≤ k ∧ k < (dt.length : Int) - (sf : Int) ∧ n0 = k) ∨ (0 ≤ k ∧ (dt.length : Int) - (sf : Int) ≤ k ∧ n0 = (dt.length : Int) - (sf : Int))) := by
        refine ⟨min (max 0 k) ((dt.length : Int) - sf), keptF k ⟨LG, dt, sf⟩, ?_, rfl, ?_⟩
        · unfold keptF
          simp only
          omega
        · omega
      have hge : g ≠ m := by
        intro e
        rw [e] at hbg2
        exact Box.apart hbg2 hxm (by decide) rfl
      have hld : (ldFx (.pointer (some ⟨g, 0, none⟩))).run Tryd.prog w = .ok (.agg (fxCells ⟨LG, dt, sf⟩).toArray) w := range_fx (x := ⟨LG, dt, sf⟩) (by
        have h1 := RFK_at ho1.see (by simp : 0 < [(⟨LG, dt, sf⟩ : FX)].length)
        obtain ⟨g', o', e, hr⟩ := h1
        injection e with e
        injection e with e1 e2
        rw [Nat.zero_mul, Nat.add_zero, ← e1, ← e2] at hr
        exact hr)
      obtain ⟨w2, hst, hbx, hbl⟩ := laid_fx w zfx rfl ⟨LG, dt, sf⟩
      have d1 : w2.cell? ⟨w.heap.size, 1, none⟩ = some (str dt) := hbx.cell 1
      have d2 : w2.cell? ⟨w.heap.size, 2, none⟩ = some (.int .i64 (sf : Int)) := hbx.cell 2
      have hbg3 := hbg2.below hbl hbg2.lt
      have hxm3 := hxm.below hbl hxm.lt
      have e0 : w2.cell? ⟨m, 0, none⟩ = some (.slice (some ⟨g, 0, none⟩) 1 c) := by rw [← hn1]; exact hxm3.cell 0
      have e1 : w2.cell? ⟨g, 1, none⟩ = some (str dt) := hbg3.cell 1
      have e2 := hbg3.free 1
      have hcut := fun wX => str_upto17 dt K (by omega) wX
      obtain ⟨h01, h02, h03⟩ := h0
      have hdl' : (dt.length : Int) ≤ 1000000 := by omega
      have hsl' : (sf : Int) ≤ (dt.length : Int) := by omega
      have hgs : g < w.heap.size := hgl
      have hK := h02
      obtain ⟨w3, hw3⟩ : ∃ w3, w3 = (w2.setCell ⟨g, 1, none⟩ (str (dt.take K))).drew := ⟨_, rfl⟩
      have hg13 : w2.grownBy w3 (some g) := by rw [hw3]; exact only_drew (only_put (only_refl w2 _) 1 _)
      have hgw3 : Box w3 g 75 (fxCells ⟨LG, dt.take K, sf⟩ ++ post).toArray := by
        have hp := hbg3.put 1 (str (dt.take K))
        rw [List.setIfInBounds_toArray] at hp
        rw [hw3]
        exact hp
      have hbx3 := hbx.grown hg13 (fun e => by injection e with e; omega)
      have hxm4 := hxm3.grown hg13 (fun e => hge (by injection e with e; exact e.symm))
      have p0 : w3.cell? ⟨m, 0, none⟩ = some (.slice (some ⟨g, 0, none⟩) 1 c) := by rw [← hn1]; exact hxm4.cell 0
      have p2 : w3.cell? ⟨w.heap.size, 2, none⟩ = some (.int .i64 (sf : Int)) := hbx3.cell 2
      have q2 : w3.cell? ⟨g, 2, none⟩ = some (.int .i64 (sf : Int)) := hgw3.cell 2
      have q3 := hgw3.free 2
      obtain ⟨w4, hw4⟩ : ∃ w4, w4 = (w3.setCell ⟨g, 2, none⟩ (.int .i64 (K : Int))).drew := ⟨_, rfl⟩
      have hg34 : w3.grownBy w4 (some g) := by rw [hw4]; exact only_drew (only_put (only_refl w3 _) 2 _)
      have hgw4 : Box w4 g 75 (fxCells ⟨LG, dt.take K, K⟩ ++ post).toArray := by
        have hp := hgw3.put 2 (.int .i64 (K : Int))
        rw [List.setIfInBounds_toArray] at hp
        rw [hw4]
        exact hp
      have hxm5 := hxm4.grown hg34 (fun e => hge (by injection e with e; exact e.symm))
      have HLO : Hid (loseF k ⟨LG, dt, sf⟩ = ⟨LG, dt.take K, K⟩) := Lib.hid (by rw [hn0]; rfl)
      have HY : Hid (RmIs w4 base m { X with fs := [⟨LG, dt.take K, K⟩] }) := Lib.hid ⟨⟨.slice (some ⟨g, 0, none⟩) X.fs.length c, hxm5, by
        rw [hn1]
        refine EK.own_row RFK (L := [⟨LG, dt.take K, K⟩]) (post := post) ?_ hpost hcl hcm hbg
        rw [EK.flat_one' RFK]
        exact hgw4⟩, .inr ⟨dt.take K, K, rfl, by rw [List.length_take]; omega, by rw [List.length_take]; omega⟩, h.low, h.acts, h.fuse, h.keep⟩
      have HF : Hid (RmF base w w4) := Lib.hid (.trans (.call hbl HBS.out) (.trans (.box hbg3 (.inr rfl) hbg hg13) (.box hgw3 (.inr rfl) hbg hg34)))
      have HE := Lib.hid (rm_down HY.out)
      have HW3 := Lib.hid hw3
      have HW4 := Lib.hid hw4
      have r1 := HE.out.1
      have r2 := HE.out.2.1
      have r3 := HE.out.2.2.1
      have r4 := HE.out.2.2.2.1
      clear hw3 hg13 hgw3 hbx3 hxm4 hw4 hg34 hgw4 hxm5 hgs hK
      have HFS := Lib.hid hf
      clear hbx hbl hbg3 hxm3 hbg2 hxm hpost hn0 hom h hd ho1 hf hflat hn1 hsl hdl hcl hcm hA
      go_enter Tryd.func24, Tryd.ntmps24
      go_wp2
      go_loopw [16] (fun i wr => (i = .int .i64 0 ∧ wr = w) ∨ (i = .int .i64 1 ∧ wr = w4)) (fun i _ => 1 - (intOf i).toNat)
      case atStart => exact .inl ⟨rfl, rfl⟩
      case round =>
        obtain ⟨rfl, rfl⟩ | ⟨rfl, rfl⟩ := hrel
        · rcases hcase with ⟨h1, rfl⟩ | ⟨h1, h2, rfl⟩ | ⟨h1, h2, hnn⟩
          · obtain rfl : K = sf := by omega
            go_upto_region 9 with fail
            go_region
            rw [← HW3.out]
            go_upto_region 10 with fail
            go_region
            rw [← HW4.out]
            go_wp2
            go_roundw
            case rel => exact .inr ⟨rfl, trivial⟩
            case measure => simp [intOf]
          · go_upto_region 9 with fail
            go_region
            rw [← HW3.out]
            go_upto_region 10 with fail
            go_region
            rw [← HW4.out]
            go_wp2
            go_roundw
            case rel => exact .inr ⟨rfl, trivial⟩
            case measure => simp [intOf]
          · go_upto_region 9 with fail
            rw [← hnn]
            clear hnn
            go_region
            rw [← HW3.out]
            go_upto_region 10 with fail
            go_region
            rw [← HW4.out]
            go_wp2
            go_roundw
            case rel => exact .inr ⟨rfl, trivial⟩
            case measure => simp [intOf]
        · go_wp2
          all_goals first | go_end0 | (refine bodyPost_ret (results_none rfl _ _ _) rfl ?_)
          refine ⟨rfl, ?_, HF.out.trans HE.out.2.2.2.2.2⟩
          rw [HD.out, HFS.out, List.map_cons, HLO.out]
          exact HE.out.2.2.2.2.1
end
end Go.Proofs.YtapdnoellleimaaDoor

namespace Go.Proofs.YtapdnoellleimaaDoor
open Go.RowKit Go.Maps

set_option maxRecDepth 100000 in
theorem putX17 {fs : List FX} (h : fs = [] ∨ ∃ d s, fs = [⟨LG, d, s⟩] ∧ s ≤ d.length ∧ d.length ≤ 1000000) (g : FX → FX) : putF fs LG g = [g (getX fs)] := by
  rcases h with rfl | ⟨d, s, rfl, _⟩
  · rfl
  · exact one_put d s g
set_option maxRecDepth 100000 in
theorem getX_ok {fs : List FX} (h : fs = [] ∨ ∃ d s, fs = [⟨LG, d, s⟩] ∧ s ≤ d.length ∧ d.length ≤ 1000000) : (getX fs).name = LG ∧ (getX fs).safe ≤ (getX fs).data.length ∧ (getX fs).data.length = totF fs ∧ sizeF fs LG = totF fs := by
  rcases h with rfl | ⟨d, s, rfl, h, _⟩
  · exact ⟨rfl, Nat.le_refl _, rfl, rfl⟩
  · exact ⟨rfl, h, by simp [getX, totF], by simp [sizeF, lookF, totF]⟩
set_option maxRecDepth 100000 in
theorem RmIs.cells {w : World} {base m : Nat} {X : DX} (h : RmIs w base m X) : w.cell? ⟨m, 1, none⟩ = some (.bool X.down) ∧ w.cell? ⟨m, 4, none⟩ = some (.int .i64 X.keep) := by
  obtain ⟨v, hx, _⟩ := h.box
  exact ⟨hx.cell 1, hx.cell 4⟩
def DX.file (X : DX) (x : FX) : DX := ⟨[x], X.down, X.acts, X.fuse, X.keep⟩
abbrev OneF (fs : List FX) : Prop := fs = [] ∨ ∃ d s, fs = [⟨LG, d, s⟩] ∧ s ≤ d.length ∧ d.length ≤ 1000000
set_option maxRecDepth 100000 in
theorem pl_append {X : DX} (h : OneF X.fs) (hd : X.down = false) (l : List UInt8) (hl : totF X.fs + l.length ≤ 1000000) :
    X.append LG l = if X.burns then (21, (X.tick.file ⟨(getX X.fs).name, (getX X.fs).data ++ l, (getX X.fs).safe⟩).off X.keep) else (0, X.tick.file ⟨(getX X.fs).name, (getX X.fs).data ++ l, (getX X.fs).safe⟩) := by
  have ht : X.takes (l.length : Int) = 0 := takes_no17 hd (by omega)
  have hput : (X.put LG fun f => ⟨f.name, f.data ++ l, f.safe⟩).tick = X.tick.file ⟨(getX X.fs).name, (getX X.fs).data ++ l, (getX X.fs).safe⟩ := by
    unfold DX.put DX.tick DX.file
    simp only
    rw [putX17 h]
  have h1 : X.append LG l = if X.takes l.length ≠ 0 then (X.takes l.length, X) else if X.burns then (21, ((X.put LG fun f => ⟨f.name, f.data ++ l, f.safe⟩).tick).off X.keep) else (0, (X.put LG fun f => ⟨f.name, f.data ++ l, f.safe⟩).tick) := rfl
  rw [h1, if_neg (by rw [ht]; simp), hput]
set_option maxRecDepth 100000 in
theorem pl_sync {X : DX} (h : OneF X.fs) (hd : X.down = false) (hl : totF X.fs ≤ 1000000) :
    X.sync LG = if X.burns then (21, X.tick.off X.keep) else (0, X.tick.file ⟨(getX X.fs).name, (getX X.fs).data, (getX X.fs).data.length⟩) := by
  have ht : X.takes 0 = 0 := takes_no17 hd (by omega)
  have hput : (X.tick.put LG fun f => ⟨f.name, f.data, f.data.length⟩) = X.tick.file ⟨(getX X.fs).name, (getX X.fs).data, (getX X.fs).data.length⟩ := by
    unfold DX.put DX.tick DX.file
    simp only
    rw [putX17 h]
  have h1 : X.sync LG = if X.takes 0 ≠ 0 then (X.takes 0, X) else if X.burns then (21, X.tick.off X.keep) else (0, X.tick.put LG fun f => ⟨f.name, f.data, f.data.length⟩) := rfl
  rw [h1, if_neg (by rw [ht]; simp), hput]
set_option maxRecDepth 100000 in
theorem pl_install {X : DX} (h : OneF X.fs) (hd : X.down = false) (l : List UInt8) (hl : totF X.fs + l.length ≤ 1000000) :
    X.install LG l = if X.burns then (21, X.tick.off X.keep) else (0, X.tick.file ⟨LG, l, l.length⟩) := by
  have ht : X.takes ((l.length : Int) - (sizeF X.fs LG : Int)) = 0 := takes_no17 hd (by omega)
  have hput : (X.tick.put LG fun _ => ⟨LG, l, l.length⟩) = X.tick.file ⟨LG, l, l.length⟩ := by
    unfold DX.put DX.tick DX.file
    simp only
    rw [putX17 h]
  have h1 : X.install LG l = if X.takes (l.length - sizeF X.fs LG) ≠ 0 then (X.takes (l.length - sizeF X.fs LG), X) else if X.burns then (21, X.tick.off X.keep) else (0, X.tick.put LG fun _ => ⟨LG, l, l.length⟩) := rfl
  rw [h1, if_neg (by rw [ht]; simp), hput]
set_option maxRecDepth 100000 in
theorem pl_down {X : DX} (hd : X.down = true) (l : List UInt8) : X.append LG l = (21, X) ∧ X.sync LG = (21, X) ∧ X.install LG l = (21, X) ∧ X.read LG = ([], 21) := by
  have ht : ∀ n, X.takes n = 21 := fun n => by unfold DX.takes; rw [hd, if_pos rfl]
  refine ⟨?_, ?_, ?_, ?_⟩
  · unfold DX.append; rw [if_pos (by rw [ht]; simp), ht]
  · unfold DX.sync; rw [if_pos (by rw [ht]; simp), ht]
  · unfold DX.install; rw [if_pos (by rw [ht]; simp), ht]
  · unfold DX.read; rw [hd, if_pos rfl]
section
attribute [local go_sem ↓] ldFx_def stFx_def adS17_def
set_option maxRecDepth 100000 in
set_option maxHeartbeats 2000000 in
theorem rm_append (base m : Nat) (X : DX) (l : List UInt8) (w : World) (h : RmIs w base m X) (hl : totF X.fs + l.length ≤ 1000000) (ha : X.acts + 1 < 1000000) (e0 : Int) (Y : DX) (hZ : X.append LG l = (e0, Y)) :
    Calls Tryd.prog 12 #[.pointer (some ⟨m, 0, none⟩), str LG, str l] w fun e w' => e = .returned (.int .i64 e0) ∧ RmIs w' base m Y ∧ RmF base w w' := by
  have HBS := Lib.hid h.size
  have HH := Lib.hid h
  have c1 := h.cells.1
  obtain ⟨d, hd⟩ : ∃ d, d = X.down := ⟨_, rfl⟩
  rw [← hd] at c1
  cases d with
  | true =>
    have HD : Hid (e0 = 21 ∧ Y = X) := Lib.hid (by
      rw [(pl_down hd.symm l).1] at hZ
      injection hZ with h1 h2
      exact ⟨h1.symm, h2.symm⟩)
    clear h hd hZ
    go_enter Tryd.func12, Tryd.ntmps12
    go_wp2
    go_ret
    exact ⟨by rw [HD.out.1]; rfl, by rw [HD.out.2]; exact HH.out, .call (Below.refl _ _) HBS.out⟩
  | false =>
    obtain ⟨gx1, gx2, gx3, _⟩ := getX_ok h.one
    rw [pl_append h.one hd.symm l hl] at hZ
    obtain ⟨f, hf⟩ : ∃ f, f = getX X.fs := ⟨_, rfl⟩
    have HFX : Hid (getX X.tick.fs = f) := Lib.hid hf.symm
    rw [← hf] at gx1 gx2 gx3 hZ
    obtain ⟨f', hf'⟩ : ∃ f' : FX, f' = ⟨f.name, f.data ++ l, f.safe⟩ := ⟨_, rfl⟩
    rw [← hf'] at hZ
    have HS := Lib.hid (rm_size base m X w h)
    have hfl : (f.data ++ l).length ≤ 1000000 := by rw [List.length_append, gx3]; exact hl
    have HF' : Hid (f'.name = LG ∧ f'.safe ≤ f'.data.length ∧ f'.data.length ≤ 1000000) := Lib.hid (by rw [hf']; exact ⟨gx1, by simp only [List.length_append]; omega, hfl⟩)
    have htl : (totF X.fs : Int) + (l.length : Int) ≤ 1000000 := by omega
    have hadd : ∀ w, (adS17 (str f.data) (str l)).run Tryd.prog w = .ok (str (f.data ++ l)) w := fun w => str_add16 f.data l (by omega) w
    have HZ := Lib.hid hZ
    have HFE := Lib.hid hf'
    have HA := Lib.hid ha
    obtain ⟨b, hb⟩ : ∃ b, b = X.burns := ⟨_, rfl⟩
    rw [← hb] at HZ
    have HB := Lib.hid hb
    clear h hd hZ hf hf' gx1 gx2 gx3 hfl hl ha hb
    cases b
    all_goals
      go_enter Tryd.func12, Tryd.ntmps12
      go_upto_region 5 with (go_at_call 37; (with_reducible refine (HS.out).mono ?_); rintro e w1 ⟨rfl, hb1⟩; have HC1 := Lib.hid (rm_act base m X w1 (HH.out.call hb1) HA.out); have HF1 := Lib.hid (RmF.call hb1 HBS.out); clear hb1)
      rw [← HB.out] at HC1
      go_upto_region 6 with (go_at_call 38; (with_reducible refine (HC1.out).mono ?_); rintro e w2 ⟨rfl, hr2, hf2⟩; have hc2 := rm_get base m X.tick w2 hr2; rw [HFX.out] at hc2; have HC2 := Lib.hid hc2; have HR2 := Lib.hid hr2; have HF2 := Lib.hid (HF1.out.trans hf2); clear hr2 hf2 hc2)
      go_upto_region 8 with (go_at_call 39; (with_reducible refine (HC2.out).mono ?_); rintro e w3 ⟨rfl, hb3⟩; obtain ⟨w4, hst, hbx, hbl⟩ := laid_fx w3 zfx rfl f; have d1 : w4.cell? ⟨w3.heap.size, 1, none⟩ = some (str f.data) := hbx.cell 1; have d2 := hbx.free 1; have HBX := Lib.hid hbx; have HB3 := Lib.hid hb3; have HBL := Lib.hid hbl; clear hb3 hbl hbx)
      rw [show (Value.string ⟨(f.data ++ l).toArray⟩) = str (f.data ++ l) from rfl]
      obtain ⟨w5, hw5⟩ : ∃ w5, w5 = w4.setCell ⟨w3.heap.size, 1, none⟩ (str (f.data ++ l)) := ⟨_, rfl⟩
      have hld : (ldFx (.pointer (some ⟨w3.heap.size, 0, none⟩))).run Tryd.prog w5 = .ok (.agg (fxCells f').toArray) w5 := by
        have hp := HBX.out.put 1 (str (f.data ++ l))
        rw [← hw5] at hp
        have he : (fxCells f).toArray.setIfInBounds 1 (str (f.data ++ l)) = (fxCells f').toArray := by rw [HFE.out]; rfl
        rw [he] at hp
        exact hp.l_fx
      have hb5 : Below w2.heap.size w2 w5 := by
        have hb4 := HB3.out.trans (HBL.out.mono HB3.out.size)
        rw [hw5]
        exact hb4.trans (below_only (only_put (only_refl w4 (some w3.heap.size)) 1 _) HB3.out.size hb4.size)
      have HP := Lib.hid (rm_put base m X.tick f' HF'.out w5 (HR2.out.call hb5))
      have HF5 := Lib.hid (HF2.out.trans (.call hb5 HR2.out.size))
      rw [← hw5]
      clear hw5 hst d1 d2 hb5
      go_upto_region 9 with (go_at_call 40; (with_reducible refine (HP.out).mono ?_); rintro e w6 ⟨rfl, hr6, hf6⟩; have c4 : w6.cell? ⟨m, 4, none⟩ = some (.int .i64 X.keep) := hr6.cells.2; have HR6 := Lib.hid hr6; have HF6 := Lib.hid (HF5.out.trans hf6); clear hr6 hf6)
    · go_wp2
      go_ret
      have hz := HZ.out
      rw [if_neg (by simp)] at hz
      injection hz with h1 h2
      exact ⟨by rw [← h1]; rfl, by rw [← h2]; exact HR6.out, HF6.out⟩
    · have hk : (-9223372036854775808 ≤ X.keep ∧ X.keep < 9223372036854775808) := HH.out.keep
      have HL := Lib.hid (rm_lose base m (X.tick.file f') X.keep hk w6 HR6.out)
      go_wp2_with (go_at_call 24; (with_reducible refine (HL.out).mono ?_); rintro e w7 ⟨rfl, hr7, hf7⟩; have HR7 := Lib.hid hr7; have HF7 := Lib.hid (HF6.out.trans hf7); clear hr7 hf7)
      go_ret
      have hz := HZ.out
      rw [if_pos trivial] at hz
      injection hz with h1 h2
      exact ⟨by rw [← h1]; rfl, by rw [← h2]; exact HR7.out, HF7.out⟩
set_option maxRecDepth 100000 in
set_option maxHeartbeats 2000000 in
theorem rm_sync (base m : Nat) (X : DX) (w : World) (h : RmIs w base m X) (ha : X.acts + 1 < 1000000) (e0 : Int) (Y : DX) (hZ : X.sync LG = (e0, Y)) :
    Calls Tryd.prog 20 #[.pointer (some ⟨m, 0, none⟩), str LG] w fun e w' => e = .returned (.int .i64 e0) ∧ RmIs w' base m Y ∧ RmF base w w' := by
  have HBS := Lib.hid h.size
  have HH := Lib.hid h
  have c1 := h.cells.1
  obtain ⟨d, hd⟩ : ∃ d, d = X.down := ⟨_, rfl⟩
  rw [← hd] at c1
  cases d with
  | true =>
    have HD : Hid (e0 = 21 ∧ Y = X) := Lib.hid (by
      rw [(pl_down hd.symm []).2.1] at hZ
      injection hZ with h1 h2
      exact ⟨h1.symm, h2.symm⟩)
    clear h hd hZ
    go_enter Tryd.func20, Tryd.ntmps20
    go_wp2
    go_ret
    exact ⟨by rw [HD.out.1]; rfl, by rw [HD.out.2]; exact HH.out, .call (Below.refl _ _) HBS.out⟩
  | false =>
    obtain ⟨gx1, gx2, gx3, _⟩ := getX_ok h.one
    rw [pl_sync h.one hd.symm h.tot] at hZ
    have hk : (-9223372036854775808 ≤ X.keep ∧ X.keep < 9223372036854775808) := h.keep
    have htot := h.tot
    obtain ⟨f, hf⟩ : ∃ f, f = getX X.fs := ⟨_, rfl⟩
    have HFX : Hid (getX X.tick.fs = f) := Lib.hid hf.symm
    rw [← hf] at gx1 gx2 gx3 hZ
    obtain ⟨f', hf'⟩ : ∃ f' : FX, f' = ⟨f.name, f.data, f.data.length⟩ := ⟨_, rfl⟩
    rw [← hf'] at hZ
    have HF' : Hid (f'.name = LG ∧ f'.safe ≤ f'.data.length ∧ f'.data.length ≤ 1000000) := Lib.hid (by rw [hf']; exact ⟨gx1, Nat.le_refl _, by rw [gx3]; exact htot⟩)
    have hfl : (f.data.length : Int) ≤ 1000000 := by omega
    have HZ := Lib.hid hZ
    have HFE := Lib.hid hf'
    obtain ⟨b, hb⟩ : ∃ b, b = X.burns := ⟨_, rfl⟩
    rw [← hb] at HZ
    have hc1 := rm_act base m X w h ha
    rw [← hb] at hc1
    have HC1 := Lib.hid hc1
    clear h hd hZ hf hf' gx1 gx2 gx3 ha hb htot hc1
    cases b
    · go_enter Tryd.func20, Tryd.ntmps20
      go_upto_region 6 with (go_at_call 38; (with_reducible refine (HC1.out).mono ?_); rintro e w2 ⟨rfl, hr2, hf2⟩; have hc2 := rm_get base m X.tick w2 hr2; rw [HFX.out] at hc2; have HC2 := Lib.hid hc2; have HR2 := Lib.hid hr2; have HF2 := Lib.hid hf2; clear hr2 hf2 hc2)
      go_upto_region 8 with (go_at_call 39; (with_reducible refine (HC2.out).mono ?_); rintro e w3 ⟨rfl, hb3⟩; obtain ⟨w4, hst, hbx, hbl⟩ := laid_fx w3 zfx rfl f; have d1 : w4.cell? ⟨w3.heap.size, 1, none⟩ = some (str f.data) := hbx.cell 1; have d2 := hbx.free 2; have d3 : w4.cell? ⟨w3.heap.size, 2, none⟩ = some (.int .i64 (f.safe : Int)) := hbx.cell 2; have HBX := Lib.hid hbx; have HB3 := Lib.hid hb3; have HBL := Lib.hid hbl; clear hb3 hbl hbx)
      obtain ⟨w5, hw5⟩ : ∃ w5, w5 = w4.setCell ⟨w3.heap.size, 2, none⟩ (.int .i64 (f.data.length : Int)) := ⟨_, rfl⟩
      have hld : (ldFx (.pointer (some ⟨w3.heap.size, 0, none⟩))).run Tryd.prog w5 = .ok (.agg (fxCells f').toArray) w5 := by
        have hp := HBX.out.put 2 (.int .i64 (f.data.length : Int))
        rw [← hw5] at hp
        have he : (fxCells f).toArray.setIfInBounds 2 (.int .i64 (f.data.length : Int)) = (fxCells f').toArray := by rw [HFE.out]; rfl
        rw [he] at hp
        exact hp.l_fx
      have hb5 : Below w2.heap.size w2 w5 := by
        have hb4 := HB3.out.trans (HBL.out.mono HB3.out.size)
        rw [hw5]
        exact hb4.trans (below_only (only_put (only_refl w4 (some w3.heap.size)) 2 _) HB3.out.size hb4.size)
      have HP := Lib.hid (rm_put base m X.tick f' HF'.out w5 (HR2.out.call hb5))
      have HF5 := Lib.hid (HF2.out.trans (.call hb5 HR2.out.size))
      rw [← hw5]
      clear hw5 hst d1 d2 d3 hb5
      go_wp2_with (go_at_call 40; (with_reducible refine (HP.out).mono ?_); rintro e w6 ⟨rfl, hr6, hf6⟩; have HR6 := Lib.hid hr6; have HF6 := Lib.hid (HF5.out.trans hf6); clear hr6 hf6)
      go_ret
      have hz := HZ.out
      rw [if_neg (by simp)] at hz
      injection hz with h1 h2
      exact ⟨by rw [← h1]; rfl, by rw [← h2]; exact HR6.out, HF6.out⟩
    · go_enter Tryd.func20, Tryd.ntmps20
      go_upto_region 4 with (go_at_call 38; (with_reducible refine (HC1.out).mono ?_); rintro e w6 ⟨rfl, hr2, hf2⟩; have c4 : w6.cell? ⟨m, 4, none⟩ = some (.int .i64 X.keep) := hr2.cells.2; have HL := Lib.hid (rm_lose base m X.tick X.keep hk w6 hr2); have HF6 := Lib.hid hf2; clear hr2 hf2)
      go_wp2_with (go_at_call 24; (with_reducible refine (HL.out).mono ?_); rintro e w7 ⟨rfl, hr7, hf7⟩; have HR7 := Lib.hid hr7; have HF7 := Lib.hid (HF6.out.trans hf7); clear hr7 hf7)
      go_ret
      have hz := HZ.out
      first | rw [if_pos trivial] at hz | rw [if_pos rfl] at hz
      injection hz with h1 h2
      exact ⟨by rw [← h1]; rfl, by rw [← h2]; exact HR7.out, HF7.out⟩
set_option maxRecDepth 100000 in
set_option maxHeartbeats 2000000 in
theorem rm_install (base m : Nat) (X : DX) (l : List UInt8) (w : World) (h : RmIs w base m X) (hl : totF X.fs + l.length ≤ 1000000) (ha : X.acts + 1 < 1000000) (e0 : Int) (Y : DX) (hZ : X.install LG l = (e0, Y)) :
    Calls Tryd.prog 22 #[.pointer (some ⟨m, 0, none⟩), str LG, str l] w fun e w' => e = .returned (.int .i64 e0) ∧ RmIs w' base m Y ∧ RmF base w w' := by
  have HBS := Lib.hid h.size
  have HH := Lib.hid h
  have c1 := h.cells.1
  obtain ⟨d, hd⟩ : ∃ d, d = X.down := ⟨_, rfl⟩
  rw [← hd] at c1
  cases d with
  | true =>
    have HD : Hid (e0 = 21 ∧ Y = X) := Lib.hid (by
      rw [(pl_down hd.symm l).2.2.1] at hZ
      injection hZ with h1 h2
      exact ⟨h1.symm, h2.symm⟩)
    clear h hd hZ
    go_enter Tryd.func22, Tryd.ntmps22
    go_wp2
    go_ret
    exact ⟨by rw [HD.out.1]; rfl, by rw [HD.out.2]; exact HH.out, .call (Below.refl _ _) HBS.out⟩
  | false =>
    rw [pl_install h.one hd.symm l hl] at hZ
    have hk : (-9223372036854775808 ≤ X.keep ∧ X.keep < 9223372036854775808) := h.keep
    have HS := Lib.hid (rm_size base m X w h)
    have htl : (totF X.fs : Int) + (l.length : Int) ≤ 1000000 := by omega
    have HLL : Hid (l.length ≤ 1000000) := Lib.hid (by omega)
    have HZ := Lib.hid hZ
    have HA := Lib.hid ha
    obtain ⟨b, hb⟩ : ∃ b, b = X.burns := ⟨_, rfl⟩
    rw [← hb] at HZ
    have HB := Lib.hid hb
    clear h hd hZ hl ha hb
    cases b
    · go_enter Tryd.func22, Tryd.ntmps22
      go_upto_region 5 with (go_at_call 37; (with_reducible refine (HS.out).mono ?_); rintro e w1 ⟨rfl, hb1⟩; have hc1 := rm_act base m X w1 (HH.out.call hb1) HA.out; rw [← HB.out] at hc1; have HC1 := Lib.hid hc1; have HF1 := Lib.hid (RmF.call hb1 HBS.out); clear hb1 hc1)
      go_upto_region 8 with (go_at_call 38; (with_reducible refine (HC1.out).mono ?_); rintro e w2 ⟨rfl, hr2, hf2⟩; have hp : Calls Tryd.prog 40 #[.pointer (some ⟨m, 0, none⟩), .agg #[str LG, str l, .int .i64 (l.length : Int)]] w2 fun e w' => e = .returned (.tuple #[]) ∧ RmIs w' base m (X.tick.file ⟨LG, l, l.length⟩) ∧ RmF base w2 w' := rm_put base m X.tick ⟨LG, l, l.length⟩ ⟨rfl, Nat.le_refl _, HLL.out⟩ w2 hr2; have HP := Lib.hid hp; have HF2 := Lib.hid (HF1.out.trans hf2); clear hr2 hf2 hp)
      go_wp2_with (go_at_call 40; (with_reducible refine (HP.out).mono ?_); rintro e w6 ⟨rfl, hr6, hf6⟩; have HR6 := Lib.hid hr6; have HF6 := Lib.hid (HF2.out.trans hf6); clear hr6 hf6)
      go_ret
      have hz := HZ.out
      rw [if_neg (by simp)] at hz
      injection hz with h1 h2
      exact ⟨by rw [← h1]; rfl, by rw [← h2]; exact HR6.out, HF6.out⟩
    · go_enter Tryd.func22, Tryd.ntmps22
      go_upto_region 5 with (go_at_call 37; (with_reducible refine (HS.out).mono ?_); rintro e w1 ⟨rfl, hb1⟩; have hc1 := rm_act base m X w1 (HH.out.call hb1) HA.out; rw [← HB.out] at hc1; have HC1 := Lib.hid hc1; have HF1 := Lib.hid (RmF.call hb1 HBS.out); clear hb1 hc1)
      go_upto_region 6 with (go_at_call 38; (with_reducible refine (HC1.out).mono ?_); rintro e w6 ⟨rfl, hr2, hf2⟩; have c4 : w6.cell? ⟨m, 4, none⟩ = some (.int .i64 X.keep) := hr2.cells.2; have HL := Lib.hid (rm_lose base m X.tick X.keep hk w6 hr2); have HF6 := Lib.hid (HF1.out.trans hf2); clear hr2 hf2)
      go_wp2_with (go_at_call 24; (with_reducible refine (HL.out).mono ?_); rintro e w7 ⟨rfl, hr7, hf7⟩; have HR7 := Lib.hid hr7; have HF7 := Lib.hid (HF6.out.trans hf7); clear hr7 hf7)
      go_ret
      have hz := HZ.out
      first | rw [if_pos trivial] at hz | rw [if_pos rfl] at hz
      injection hz with h1 h2
      exact ⟨by rw [← h1]; rfl, by rw [← h2]; exact HR7.out, HF7.out⟩
set_option maxRecDepth 100000 in
set_option maxHeartbeats 2000000 in
theorem rm_read (base m : Nat) (X : DX) (w : World) (h : RmIs w base m X) (l : List UInt8) (e0 : Int) (hZ : X.read LG = (l, e0)) :
    Calls Tryd.prog 29 #[.pointer (some ⟨m, 0, none⟩), str LG] w fun e w' => e = .returned (.tuple #[str l, .int .i64 e0]) ∧ Below w.heap.size w w' := by
  have HH := Lib.hid h
  have c1 := h.cells.1
  obtain ⟨d, hd⟩ : ∃ d, d = X.down := ⟨_, rfl⟩
  rw [← hd] at c1
  cases d with
  | true =>
    have HD : Hid (l = [] ∧ e0 = 21) := Lib.hid (by
      rw [(pl_down hd.symm []).2.2.2] at hZ
      injection hZ with h1 h2
      exact ⟨h1.symm, h2.symm⟩)
    clear h hd hZ
    go_enter Tryd.func29, Tryd.ntmps29
    go_wp2
    go_ret2
    exact ⟨by rw [HD.out.1, HD.out.2]; rfl, Below.refl _ _⟩
  | false =>
    have hc := rm_place base m X w h
    have hrd : X.read LG = match lookF X.fs LG with | some f => (f.data, 0) | none => ([], 7) := by
      unfold DX.read
      rw [← hd, if_neg (by simp)]
      cases lookF X.fs LG <;> rfl
    rw [hrd] at hZ
    rcases h.one with hf | ⟨dt, sf, hf, _⟩
    · rw [hf] at hc hZ
      have HC := Lib.hid hc
      have HD : Hid (l = [] ∧ e0 = 7) := Lib.hid (by
        injection hZ with h1 h2
        exact ⟨h1.symm, h2.symm⟩)
      clear h hd hZ hc hrd hf
      go_enter Tryd.func29, Tryd.ntmps29
      go_wp2_with (go_at_call 48; (with_reducible refine (HC.out).mono ?_); rintro e w2 ⟨rfl, hb2⟩; have HB2 := Lib.hid hb2; clear hb2)
      go_ret2
      exact ⟨by rw [HD.out.1, HD.out.2]; rfl, HB2.out⟩
    · have HD : Hid (l = dt ∧ e0 = 0) := Lib.hid (by
        rw [hf] at hZ
        injection hZ with h1 h2
        exact ⟨h1.symm, h2.symm⟩)
      have hlen : X.fs.length = 1 := by rw [hf]; rfl
      rw [hlen] at hc
      have HC := Lib.hid hc
      have HFF := Lib.hid hf
      clear h hd hZ hc hrd hf
      go_enter Tryd.func29, Tryd.ntmps29
      go_upto_region 6 with (go_at_call 48; (with_reducible refine (HC.out).mono ?_); rintro e w2 ⟨rfl, hb2⟩; have HB2 := Lib.hid hb2; clear hb2)
      obtain ⟨v, hx, ho⟩ := (HH.out.call HB2.out).box
      obtain ⟨A, c, rfl⟩ := ho.slice
      have c0 : w2.cell? ⟨m, 0, none⟩ = some (.slice A X.fs.length c) := hx.cell 0
      rw [hlen] at c0
      have hs := ho.see
      rw [HFF.out] at hs
      obtain ⟨g, o, rfl, hrg⟩ := RFK_at hs (by simp : 0 < [(⟨LG, dt, sf⟩ : FX)].length)
      rw [Nat.zero_mul, Nat.add_zero] at hrg
      have c5 : w2.cell? ⟨g, o + 1, none⟩ = some (str dt) := hrg 1 (str dt) rfl
      clear hx ho hs hrg hlen
      go_wp2
      go_ret2
      exact ⟨by rw [HD.out.1, HD.out.2]; rfl, HB2.out⟩
end
end Go.Proofs.YtapdnoellleimaaDoor

namespace Go.Proofs.YtapdnoellleimaaDoor
open Go.RowKit Go.Maps

set_option maxRecDepth 100000 in
theorem pl_answers {X : DX} (h : OneF X.fs) (l : List UInt8) (hl : totF X.fs + l.length ≤ 1000000) : ((X.install LG l).1 = 0 ∨ (X.install LG l).1 = 21) ∧ ((X.sync LG).1 = 0 ∨ (X.sync LG).1 = 21) := by
  cases hd : X.down with
  | true => rw [(pl_down hd l).2.2.1, (pl_down hd l).2.1]; exact ⟨.inr rfl, .inr rfl⟩
  | false =>
    rw [pl_install h hd l hl, pl_sync h hd (by omega)]
    cases X.burns
    · exact ⟨.inl rfl, .inl rfl⟩
    · exact ⟨.inr rfl, .inr rfl⟩
set_option maxRecDepth 100000 in
theorem pl_wopen {X : DX} {d : List UInt8} (hr : X.read LG = (d, 0)) : X.wopen LG =
    let I : Int × DX := if (framesB (splitB d)).length < d.length then X.install LG (framesB (splitB d)) else (0, X)
    if I.1 ≠ 0 then (I.1, [], I.2) else if (I.2.sync LG).1 ≠ 0 then ((I.2.sync LG).1, [], (I.2.sync LG).2) else (0, splitB d, (I.2.sync LG).2) := by
  unfold DX.wopen
  rw [hr]
  simp only
  rw [if_neg (by decide), if_neg (by simp)]
set_option maxRecDepth 100000 in
theorem RmIs.reads {w : World} {base m : Nat} {X : DX} (h : RmIs w base m X) : X.read LG = ([], 21) ∨ X.read LG = ([], 7) ∨ ∃ d, X.read LG = (d, 0) ∧ d.length = totF X.fs := by
  cases hd : X.down with
  | true => exact .inl (pl_down hd []).2.2.2
  | false =>
    rcases h.one with e | ⟨d, s, e, _⟩
    · refine .inr (.inl ?_)
      unfold DX.read
      rw [hd, e]
      rfl
    · refine .inr (.inr ⟨d, ?_, by rw [e]; simp [totF]⟩)
      unfold DX.read
      rw [hd, e]
      rfl
/-- What Open answers. -/
def ROpenIs (base m : Nat) (w : World) (e0 : Int) (L : List (List UInt8)) (Y : DX) (e : Ending) (w' : World) : Prop :=
  ∃ v, e = .returned (.tuple #[v, .int .i64 e0]) ∧ SK.Own w' w.heap.size v (strL L) ∧ RmIs w' base m Y ∧ RmF base w w'
set_option maxRecDepth 100000 in
set_option maxHeartbeats 4000000 in
theorem ropen_any (base m : Nat) (X : DX) (w : World) (h : RmIs w base m X) (ht : totF X.fs ≤ 100000) (ha : X.Room 2) (e0 : Int) (L : List (List UInt8)) (Y : DX) (hZ : X.wopen LG = (e0, L, Y)) :
    Calls Tryd.prog 14 #[.pointer (some ⟨m, 0, none⟩), str LG] w (ROpenIs base m w e0 L Y) := by
  have HBS := Lib.hid h.size
  have HH := Lib.hid h
  have HR := Lib.hid ha
  rcases h.reads with hr | hr | ⟨d, hr, hdl⟩
  · have HD : Hid (e0 = 21 ∧ L = [] ∧ Y = X) := Lib.hid (by
      unfold DX.wopen at hZ
      rw [hr] at hZ
      simp at hZ
      exact ⟨hZ.1.symm, hZ.2.1, hZ.2.2.symm⟩)
    have HC := Lib.hid (rm_read base m X w h _ _ hr)
    clear h hZ hr ha
    go_enter Tryd.func14, Tryd.ntmps14
    go_wp2_with (go_at_call 29; (with_reducible refine (HC.out).mono ?_); rintro e w2 ⟨rfl, hb2⟩; have HB2 := Lib.hid hb2; clear hb2)
    go_ret2
    exact ⟨_, by rw [HD.out.1]; rfl, by rw [HD.out.2.1]; exact EK.own_nil _ _ _, by rw [HD.out.2.2]; exact HH.out.call HB2.out, .call HB2.out HBS.out⟩
  · have HD : Hid (e0 = 0 ∧ L = [] ∧ Y = X) := Lib.hid (by
      unfold DX.wopen at hZ
      rw [hr] at hZ
      simp at hZ
      exact ⟨hZ.1.symm, hZ.2.1, hZ.2.2.symm⟩)
    have HC := Lib.hid (rm_read base m X w h _ _ hr)
    clear h hZ hr ha
    go_enter Tryd.func14, Tryd.ntmps14
    go_wp2_with (go_at_call 29; (with_reducible refine (HC.out).mono ?_); rintro e w2 ⟨rfl, hb2⟩; have HB2 := Lib.hid hb2; clear hb2)
    go_ret2
    exact ⟨_, by rw [HD.out.1]; rfl, by rw [HD.out.2.1]; exact EK.own_nil _ _ _, by rw [HD.out.2.2]; exact HH.out.call HB2.out, .call HB2.out HBS.out⟩
  · rw [pl_wopen hr] at hZ
    have HC := Lib.hid (rm_read base m X w h _ _ hr)
    have HSP := Lib.hid (fun w => rsplit_any d (by omega) w)
    have hGl := splitB_len d
    obtain ⟨G, hG⟩ : ∃ G, G = framesB (splitB d) := ⟨_, rfl⟩
    have HG := Lib.hid hG
    rw [← hG] at hZ hGl
    have HGL : Hid (G.length ≤ 100000 ∧ totF X.fs + G.length ≤ 1000000) := Lib.hid (by omega)
    have HZ := Lib.hid hZ
    have HDL : Hid (d.length ≤ 100000) := Lib.hid (by omega)
    clear h hZ hr ha hG hGl hdl ht
    go_enter Tryd.func14, Tryd.ntmps14
    go_upto_region 6 with (go_at_call 29; (with_reducible refine (HC.out).mono ?_); rintro e w2 ⟨rfl, hb2⟩; have HB2 := Lib.hid hb2; clear hb2)
    go_upto_region 7 with (go_at_call 32; (with_reducible refine (HSP.out w2).mono ?_); rintro e w3 ⟨v, rest, rfl, ho3, hd3, hb3⟩; have HO3 := Lib.hid ho3; have HD3 := Lib.hid hd3; have HB3 := Lib.hid (HB2.out.trans (hb3.mono HB2.out.size)); have HL3 := Lib.hid HB2.out.size; clear ho3 hd3 hb3)
    obtain ⟨A, c, rfl⟩ := HO3.out.slice
    have HO3b : Hid (SK.Own w3 w.heap.size (.slice A (strL (splitB d)).length c) (strL (splitB d))) := Lib.hid (HO3.out.base HL3.out)
    have HR3 := Lib.hid (HH.out.call HB3.out)
    have HF3 := Lib.hid (RmF.call HB3.out HBS.out)
    cases rest with
    | nil =>
      have hz := HZ.out
      have hgd : ¬ G.length < d.length := by
        have := HD3.out
        rw [← HG.out, List.append_nil] at this
        rw [this]
        omega
      rw [if_neg hgd] at hz
      simp only at hz
      rw [if_neg (by simp)] at hz
      obtain ⟨j, Y2, hj⟩ : ∃ j Y2, X.sync LG = (j, Y2) := ⟨_, _, rfl⟩
      have hjj := (pl_answers HH.out.one [] (by have := HH.out.tot; simpa using this)).2
      rw [hj] at hz hjj
      have HC4 := Lib.hid (rm_sync base m X w3 HR3.out (by have := HR.out.acts.2; omega) j Y2 hj)
      clear hgd hj
      simp only at hz hjj
      rcases hjj with rfl | rfl
      · rw [if_neg (by simp)] at hz
        go_wp2_with (go_at_call 20; (with_reducible refine (HC4.out).mono ?_); rintro e w6 ⟨rfl, hr6, hf6⟩; have HR6 := Lib.hid hr6; have HO6 := Lib.hid (SKOwn_rt HO3b.out hf6); have HF6 := Lib.hid (HF3.out.trans hf6); clear hr6 hf6)
        go_ret2
        simp only [Prod.mk.injEq] at hz
        obtain ⟨h1, h2, h3⟩ := hz
        exact ⟨_, by rw [← h1]; rfl, by rw [← h2]; exact HO6.out, by rw [← h3]; exact HR6.out, HF6.out⟩
      · rw [if_pos (by decide)] at hz
        go_wp2_with (go_at_call 20; (with_reducible refine (HC4.out).mono ?_); rintro e w6 ⟨rfl, hr6, hf6⟩; have HR6 := Lib.hid hr6; have HF6 := Lib.hid (HF3.out.trans hf6); clear hr6 hf6)
        go_ret2
        simp only [Prod.mk.injEq] at hz
        obtain ⟨h1, h2, h3⟩ := hz
        exact ⟨_, by rw [← h1]; rfl, by rw [← h2]; exact EK.own_nil _ _ _, by rw [← h3]; exact HR6.out, HF6.out⟩
    | cons a r =>
      have hz := HZ.out
      have hgd : G.length < d.length := by
        have := HD3.out
        rw [← HG.out] at this
        rw [this, List.length_append, List.length_cons]
        omega
      rw [if_pos hgd] at hz
      obtain ⟨i, X1, hi⟩ : ∃ i X1, X.install LG G = (i, X1) := ⟨_, _, rfl⟩
      have hii := (pl_answers HH.out.one G HGL.out.2).1
      have hr1 : X1.Room 1 := by
        have := HR.out.install LG G
        rw [hi] at this
        exact this
      rw [hi] at hz hii
      simp only at hz hii
      have HRF := Lib.hid (rframes_any (splitB d) (strL (splitB d)) rfl A c (by rw [← HG.out]; have := HGL.out.1; omega) w3 HO3.out.see)
      rw [← HG.out] at HRF
      have HIN : Hid (∀ w4, Below w3.heap.size w3 w4 → Calls Tryd.prog 22 #[.pointer (some ⟨m, 0, none⟩), str LG, str G] w4 fun e w' => e = .returned (.int .i64 i) ∧ RmIs w' base m X1 ∧ RmF base w4 w') := Lib.hid (fun w4 hb4 => rm_install base m X G w4 (HR3.out.call hb4) HGL.out.2 (by have := HR.out.acts.2; omega) i X1 hi)
      have HR1 := Lib.hid hr1
      clear hgd hi hr1
      rcases hii with rfl | rfl
      · rw [if_neg (by simp)] at hz
        obtain ⟨j, Y2, hj⟩ : ∃ j Y2, X1.sync LG = (j, Y2) := ⟨_, _, rfl⟩
        rw [hj] at hz
        simp only at hz
        have HJ := Lib.hid hj
        clear hj
        go_upto_region 9 with (first
          | (go_at_call 17; (with_reducible refine (HRF.out).mono ?_); rintro e w4 ⟨rfl, hb4⟩; have HI4 := Lib.hid (HIN.out w4 hb4); have HO4 := Lib.hid (HO3b.out.keep hb4); have HF4 := Lib.hid (HF3.out.trans (.call hb4 HR3.out.size)); clear hb4)
          | (go_at_call 22; (with_reducible refine (HI4.out).mono ?_); rintro e w5 ⟨rfl, hr5, hf5⟩; have HR5 := Lib.hid hr5; have HO5 := Lib.hid (SKOwn_rt HO4.out hf5); have HF5 := Lib.hid (HF4.out.trans hf5); clear hr5 hf5))
        have hjj := (pl_answers HR5.out.one [] (by have := HR5.out.tot; simpa using this)).2
        rw [HJ.out] at hjj
        simp only at hjj
        have HC4 := Lib.hid (rm_sync base m X1 w5 HR5.out (by have := HR1.out.acts.2; omega) j Y2 HJ.out)
        rcases hjj with rfl | rfl
        · rw [if_neg (by simp)] at hz
          go_wp2_with (go_at_call 20; (with_reducible refine (HC4.out).mono ?_); rintro e w6 ⟨rfl, hr6, hf6⟩; have HR6 := Lib.hid hr6; have HO6 := Lib.hid (SKOwn_rt HO5.out hf6); have HF6 := Lib.hid (HF5.out.trans hf6); clear hr6 hf6)
          go_ret2
          simp only [Prod.mk.injEq] at hz
          obtain ⟨h1, h2, h3⟩ := hz
          exact ⟨_, by rw [← h1]; rfl, by rw [← h2]; exact HO6.out, by rw [← h3]; exact HR6.out, HF6.out⟩
        · rw [if_pos (by decide)] at hz
          go_wp2_with (go_at_call 20; (with_reducible refine (HC4.out).mono ?_); rintro e w6 ⟨rfl, hr6, hf6⟩; have HR6 := Lib.hid hr6; have HF6 := Lib.hid (HF5.out.trans hf6); clear hr6 hf6)
          go_ret2
          simp only [Prod.mk.injEq] at hz
          obtain ⟨h1, h2, h3⟩ := hz
          exact ⟨_, by rw [← h1]; rfl, by rw [← h2]; exact EK.own_nil _ _ _, by rw [← h3]; exact HR6.out, HF6.out⟩
      · rw [if_pos (by decide)] at hz
        go_wp2_with (first
          | (go_at_call 17; (with_reducible refine (HRF.out).mono ?_); rintro e w4 ⟨rfl, hb4⟩; have HI4 := Lib.hid (HIN.out w4 hb4); have HF4 := Lib.hid (HF3.out.trans (.call hb4 HR3.out.size)); clear hb4)
          | (go_at_call 22; (with_reducible refine (HI4.out).mono ?_); rintro e w5 ⟨rfl, hr5, hf5⟩; have HR5 := Lib.hid hr5; have HF5 := Lib.hid (HF4.out.trans hf5); clear hr5 hf5))
        go_ret2
        simp only [Prod.mk.injEq] at hz
        obtain ⟨h1, h2, h3⟩ := hz
        exact ⟨_, by rw [← h1]; rfl, by rw [← h2]; exact EK.own_nil _ _ _, by rw [← h3]; exact HR5.out, HF5.out⟩
end Go.Proofs.YtapdnoellleimaaDoor

namespace Go.Proofs.YtapdnoellleimaaDoor
open Go.RowKit Go.Maps

/-- A log, or none. -/
def LvW (w : World) (p : Nat) (lv : Value) : Prop := lv = .pointer none ∨ ∃ q, lv = .pointer (some ⟨q, 0, none⟩) ∧ LogW w q p LG
/-- Both disks (X the program's, Z the document's), the log, the box of the call that is made. -/
structure WlW (w0 w : World) (base p m cb : Nat) (x : CaX) (lv : Value) (X Z : DX) : Prop where
  dk : DkC w0 w base p X
  rm : RmIs w base m Z
  lg : LvW w p lv
  cx : Box w cb 44 x.cells.toArray
section
variable {w0 w w' : World} {base p m cb : Nat} {x : CaX} {lv : Value} {X Z : DX}
set_option maxRecDepth 100000 in
theorem LvW.call (h : LvW w p lv) (hb : Below w.heap.size w w') : LvW w' p lv := by
  rcases h with h | ⟨q, h1, h2⟩
  · exact .inl h
  · exact .inr ⟨q, h1, h2.call hb⟩
set_option maxRecDepth 100000 in
theorem LvW.bt {u : Bool} (h : LvW w p lv) (hb : Bt u base w w') : LvW w' p lv := by
  rcases h with h | ⟨q, h1, h2⟩
  · exact .inl h
  · exact .inr ⟨q, h1, h2.bt hb⟩
set_option maxRecDepth 100000 in
theorem LvW.rt (h : LvW w p lv) (hb : RmF base w w') : LvW w' p lv := by
  rcases h with h | ⟨q, h1, h2⟩
  · exact .inl h
  · exact .inr ⟨q, h1, h2.rt hb⟩
set_option maxRecDepth 100000 in
theorem WlW.call (h : WlW w0 w base p m cb x lv X Z) (hb : Below w.heap.size w w') : WlW w0 w' base p m cb x lv X Z := ⟨h.dk.call hb, h.rm.call hb, h.lg.call hb, h.cx.below hb h.cx.lt⟩
set_option maxRecDepth 100000 in
theorem WlW.bt {u : Bool} (h : WlW w0 w base p m cb x lv X Z) (hb : Bt u base w w') {Y : DX} (hd : DkC w0 w' base p Y) : WlW w0 w' base p m cb x lv Y Z :=
  ⟨hd, h.rm.bt hb, h.lg.bt hb, hb.box h.cx (by decide) (by decide) (fun _ => by decide)⟩
set_option maxRecDepth 100000 in
theorem DkC.rt (h : DkC w0 w base p X) (hb : RmF base w w') : DkC w0 w' base p X := h.next (h.is_.rt hb) hb.lo
set_option maxRecDepth 100000 in
theorem WlW.rt (h : WlW w0 w base p m cb x lv X Z) (hb : RmF base w w') {Y : DX} (hr : RmIs w' base m Y) : WlW w0 w' base p m cb x lv X Y :=
  ⟨h.dk.rt hb, hr, h.lg.rt hb, hb.kbox h.cx (by decide) (by decide)⟩
set_option maxRecDepth 100000 in
theorem WlW.cells (h : WlW w0 w base p m cb x lv X Z) : w.cell? ⟨cb, 0, none⟩ = some (.int .i64 x.kind) ∧ w.cell? ⟨cb, 1, none⟩ = some (.slice x.A x.ts.length x.c) ∧ w.cell? ⟨cb, 2, none⟩ = some (.int .i64 x.n) ∧ w.cell? ⟨cb, 3, none⟩ = some (.int .i64 x.k) ∧ w.cell? ⟨cb, 4, none⟩ = some (.slice x.b.A x.b.l.length x.b.c) :=
  ⟨h.cx.cell 0, h.cx.cell 1, h.cx.cell 2, h.cx.cell 3, h.cx.cell 4⟩
end

set_option maxRecDepth 100000 in
theorem rm_on {w : World} {base m : Nat} {X : DX} (h : RmIs w base m X) : w.frozen? ⟨m, 1, none⟩ = false ∧ w.cell? ⟨m, 1, none⟩ = some (.bool X.down) ∧ RmIs (w.setCell ⟨m, 1, none⟩ (.bool false)) base m X.on ∧ RmF base w (w.setCell ⟨m, 1, none⟩ (.bool false)) := by
  obtain ⟨v, hx, _⟩ := h.box
  exact ⟨hx.free 1, hx.cell 1, h.turn (only_put (only_refl w _) 1 (.bool false)) (fun v hx => hx.put 1 (.bool false)) rfl h.acts h.fuse h.keep⟩
set_option maxRecDepth 100000 in
theorem rm_new {w : World} {base m : Nat} (hb : base ≤ m) (h : Box w m 31 #[.slice none 0 0, .bool false, .int .i64 0, .int .i64 0, .int .i64 0]) : RmIs w base m newX :=
  ⟨⟨.slice none 0 0, h, EK.own_nil _ _ _⟩, .inl rfl, hb, by decide, by decide, by decide⟩
set_option maxRecDepth 100000 in
theorem RmIs.actc {w : World} {base m : Nat} {X : DX} (h : RmIs w base m X) : w.cell? ⟨m, 2, none⟩ = some (.int .i64 X.acts) := by
  obtain ⟨v, hx, _⟩ := h.box
  exact hx.cell 2
set_option maxRecDepth 100000 in
theorem lgopen_both {w0 w : World} {base p : Nat} {X : DX} (h : DkC w0 w base p X) (hb : base = w0.heap.size) (hR : Roots w0) (hf : X.Room 2) (e0 : Int) (L : List (List UInt8)) (Y : DX) (hZ : X.wopen LG = (e0, L, Y)) :
    Calls Tryd.prog 13 #[.pointer (some ⟨p, 0, none⟩), str LG] w fun e w' => ∃ lv A c ts, e = .returned (.tuple #[lv, .slice A ts.length c, .int .i64 e0]) ∧ LvW w' p lv ∧ RecsW w' w.heap.size (.slice A ts.length c) ts ∧ ts.map TX.l = L ∧ DkC w0 w' base p Y ∧ Bt false base w w' := by
  refine (walopen_any base p X LG LG_small hf w h.is_ (h.roots hb hR)).mono ?_
  rw [hZ]
  rintro e w' ⟨q, v, ts, he, _, hq, hr, hl, hd, hbt⟩
  obtain ⟨A, c, rfl⟩ := hr.own.slice
  refine ⟨_, A, c, ts, he, ?_, hr, hl, h.next hd hbt.lo, hbt⟩
  by_cases h0 : e0 = 0
  · exact .inr ⟨q, by show (if e0 = 0 then _ else _) = _; rw [if_pos h0], hq⟩
  · exact .inl (by show (if e0 = 0 then _ else _) = _; rw [if_neg h0])

set_option maxRecDepth 100000 in
theorem dkappend_cb {w0 w : World} {base p : Nat} {X : DX} (h : DkC w0 w base p X) (l : List UInt8) (A : Option Addr) (n c : Nat) (hn : n = l.length) (hf : X.Few) (hS : Sees w w.heap.size A (l.map bv)) (e0 : Int) (Y : DX) (hZ : X.append LG l = (e0, Y)) :
    Calls Tryd.prog 11 #[.pointer (some ⟨p, 0, none⟩), str LG, .slice A n c] w fun e w' => e = .returned (.int .i64 e0) ∧ DkC w0 w' base p Y ∧ Bt true base w w' := by
  subst hn
  refine (dkappend_bt base p X LG l A c LG_small hf w h.is_ hS).mono ?_
  rw [hZ]
  rintro e w' ⟨he, hd, hbl⟩
  exact ⟨he, h.next hd hbl.lo, hbl⟩
set_option maxRecDepth 100000 in
theorem RmIs.few {w : World} {base m : Nat} {X : DX} (h : RmIs w base m X) : X.Few := ⟨h.acts, by have := h.len; omega⟩
set_option maxRecDepth 100000 in
theorem RmIs.room {w : World} {base m : Nat} {X : DX} (h : RmIs w base m X) (ha : X.acts ≤ 1000) : X.Room 2 := ⟨⟨h.acts.1, by omega⟩, by have := h.len; omega⟩

/-! ### How far a disk grows -/
set_option maxRecDepth 100000 in
theorem tot_file (X : DX) (f : FX) : totF (X.file f).fs = f.data.length := by simp [DX.file, totF]
set_option maxRecDepth 100000 in
theorem tot_off (X : DX) (k : Int) : totF (X.off k).fs ≤ totF X.fs ∧ (X.off k).acts = X.acts := by
  unfold DX.off
  split
  · exact ⟨Nat.le_refl _, rfl⟩
  · refine ⟨?_, rfl⟩
    unfold totF
    show ((X.fs.map (loseF k)).map fun f => f.data.length).sum ≤ _
    generalize X.fs = fs
    induction fs with
    | nil => exact Nat.le_refl _
    | cons f r ih =>
      simp only [List.map_cons, List.sum_cons]
      have : (loseF k f).data.length ≤ f.data.length := by show (f.data.take _).length ≤ _; rw [List.length_take]; omega
      omega
set_option maxRecDepth 100000 in
theorem tick_acts (X : DX) : X.tick.acts = X.acts + 1 := rfl
/-- At most t bytes more, at most a acts more. -/
def Gr (X Y : DX) (t a : Nat) : Prop := totF Y.fs ≤ totF X.fs + t ∧ X.acts ≤ Y.acts ∧ Y.acts ≤ X.acts + a
set_option maxRecDepth 100000 in
theorem Gr.refl (X : DX) (t a : Nat) : Gr X X t a := ⟨by omega, by omega, by omega⟩
set_option maxRecDepth 100000 in
theorem gr_append {X : DX} (h : OneF X.fs) (l : List UInt8) (hl : totF X.fs + l.length ≤ 1000000) : Gr X (X.append LG l).2 l.length 1 := by
  cases hd : X.down with
  | true => rw [(pl_down hd l).1]; exact Gr.refl _ _ _
  | false =>
    rw [pl_append h hd l hl]
    obtain ⟨_, _, h3, _⟩ := getX_ok h
    have ht : totF (X.tick.file ⟨(getX X.fs).name, (getX X.fs).data ++ l, (getX X.fs).safe⟩).fs = totF X.fs + l.length := by rw [tot_file, List.length_append, h3]
    have ha : (X.tick.file ⟨(getX X.fs).name, (getX X.fs).data ++ l, (getX X.fs).safe⟩).acts = X.acts + 1 := rfl
    have ho := tot_off (X.tick.file ⟨(getX X.fs).name, (getX X.fs).data ++ l, (getX X.fs).safe⟩) X.keep
    split
    · show Gr X (DX.off (X.tick.file ⟨(getX X.fs).name, (getX X.fs).data ++ l, (getX X.fs).safe⟩) X.keep) l.length 1
      exact ⟨by omega, by omega, by omega⟩
    · show Gr X (X.tick.file ⟨(getX X.fs).name, (getX X.fs).data ++ l, (getX X.fs).safe⟩) l.length 1
      exact ⟨by omega, by omega, by omega⟩
set_option maxRecDepth 100000 in
theorem gr_sync {X : DX} (h : OneF X.fs) (hl : totF X.fs ≤ 1000000) : Gr X (X.sync LG).2 0 1 := by
  cases hd : X.down with
  | true => rw [(pl_down hd []).2.1]; exact Gr.refl _ _ _
  | false =>
    rw [pl_sync h hd hl]
    obtain ⟨_, _, h3, _⟩ := getX_ok h
    have ht : totF (X.tick.file ⟨(getX X.fs).name, (getX X.fs).data, (getX X.fs).data.length⟩).fs = totF X.fs := by rw [tot_file, h3]
    have ha : (X.tick.file ⟨(getX X.fs).name, (getX X.fs).data, (getX X.fs).data.length⟩).acts = X.acts + 1 := rfl
    have ho := tot_off X.tick X.keep
    have h5 : totF X.tick.fs = totF X.fs := rfl
    have h6 := tick_acts X
    split
    · show Gr X (X.tick.off X.keep) 0 1
      exact ⟨by omega, by omega, by omega⟩
    · show Gr X (X.tick.file ⟨(getX X.fs).name, (getX X.fs).data, (getX X.fs).data.length⟩) 0 1
      exact ⟨by omega, by omega, by omega⟩
set_option maxRecDepth 100000 in
theorem gr_install {X : DX} (h : OneF X.fs) (l : List UInt8) (hl : totF X.fs + l.length ≤ 1000000) : Gr X (X.install LG l).2 l.length 1 := by
  cases hd : X.down with
  | true => rw [(pl_down hd l).2.2.1]; exact Gr.refl _ _ _
  | false =>
    rw [pl_install h hd l hl]
    have ht : totF (X.tick.file ⟨LG, l, l.length⟩).fs = l.length := tot_file _ _
    have ha : (X.tick.file ⟨LG, l, l.length⟩).acts = X.acts + 1 := rfl
    have ho := tot_off X.tick X.keep
    have h5 : totF X.tick.fs = totF X.fs := rfl
    have h6 := tick_acts X
    split
    · show Gr X (X.tick.off X.keep) l.length 1
      exact ⟨by omega, by omega, by omega⟩
    · show Gr X (X.tick.file ⟨LG, l, l.length⟩) l.length 1
      exact ⟨by omega, by omega, by omega⟩
set_option maxRecDepth 100000 in
/-- Behind Open: at most two acts more, no byte more; its records are few. -/
theorem one_install_tot {X : DX} (h : OneF X.fs) {d : List UInt8} (hr : X.read LG = (d, 0)) (ht : totF X.fs ≤ 100000) (hd : d.length = totF X.fs) : totF (X.install LG (framesB (splitB d))).2.fs ≤ totF X.fs := by
  have hl := splitB_len d
  cases hdn : X.down with
  | true =>
    rw [(pl_down hdn []).2.2.2] at hr
    injection hr with _ h2
    cases h2
  | false =>
    rw [pl_install h hdn _ (by omega)]
    have h1 : totF (X.tick.file ⟨LG, framesB (splitB d), (framesB (splitB d)).length⟩).fs = (framesB (splitB d)).length := tot_file _ _
    have ho := tot_off X.tick X.keep
    have h5 : totF X.tick.fs = totF X.fs := rfl
    split
    · show totF (X.tick.off X.keep).fs ≤ _
      omega
    · show totF (X.tick.file _).fs ≤ _
      omega
set_option maxRecDepth 100000 in
theorem oneF_off {X : DX} (h : OneF X.fs) (k : Int) : OneF (X.off k).fs := by
  unfold DX.off
  split
  · exact h
  · rcases h with e | ⟨d, s, e, h1, h2⟩
    · exact .inl (by show X.fs.map _ = []; rw [e]; rfl)
    · have hk := keptF_le (k := k) (f := ⟨LG, d, s⟩) h1
      refine .inr ⟨d.take (keptF k ⟨LG, d, s⟩), keptF k ⟨LG, d, s⟩, by show X.fs.map _ = _; rw [e]; rfl, ?_, ?_⟩
      · rw [List.length_take]
        have : (⟨LG, d, s⟩ : FX).data.length = d.length := rfl
        omega
      · rw [List.length_take]; omega
set_option maxRecDepth 100000 in
theorem oneF_install {X : DX} (h : OneF X.fs) (l : List UInt8) (hl : totF X.fs + l.length ≤ 1000000) : OneF (X.install LG l).2.fs := by
  cases hd : X.down with
  | true => rw [(pl_down hd l).2.2.1]; exact h
  | false =>
    rw [pl_install h hd l hl]
    split
    · exact oneF_off (X := X.tick) h X.keep
    · exact .inr ⟨l, l.length, rfl, Nat.le_refl _, by omega⟩
set_option maxRecDepth 100000 in
theorem reads_plain {X : DX} (h : OneF X.fs) : X.read LG = ([], 21) ∨ X.read LG = ([], 7) ∨ ∃ d, X.read LG = (d, 0) ∧ d.length = totF X.fs := by
  cases hd : X.down with
  | true => exact .inl (pl_down hd []).2.2.2
  | false =>
    rcases h with e | ⟨d, s, e, _⟩
    · refine .inr (.inl ?_)
      unfold DX.read
      rw [hd, e]
      rfl
    · refine .inr (.inr ⟨d, ?_, by rw [e]; simp [totF]⟩)
      unfold DX.read
      rw [hd, e]
      rfl
set_option maxRecDepth 100000 in
theorem gr_wopen {X : DX} (h : OneF X.fs) (ht : totF X.fs ≤ 100000) : Gr X (X.wopen LG).2.2 0 2 ∧ (X.wopen LG).2.1.length ≤ 100000 := by
  rcases reads_plain h with hr | hr | ⟨d, hr, hd⟩
  · have e : X.wopen LG = (21, [], X) := by
      unfold DX.wopen
      rw [hr]
      simp only
      rw [if_neg (by decide), if_pos (by decide)]
    rw [e]
    exact ⟨Gr.refl _ _ _, Nat.zero_le _⟩
  · have e : X.wopen LG = (0, [], X) := by
      unfold DX.wopen
      rw [hr]
      simp only
      rw [if_pos trivial]
    rw [e]
    exact ⟨Gr.refl _ _ _, Nat.zero_le _⟩
  · rw [pl_wopen hr]
    have hsp := splitB_len d
    have hcn := framesB_count (splitB d)
    have hI : ∃ I : Int × DX, I = (if (framesB (splitB d)).length < d.length then X.install LG (framesB (splitB d)) else (0, X)) ∧ totF I.2.fs ≤ totF X.fs ∧ X.acts ≤ I.2.acts ∧ I.2.acts ≤ X.acts + 1 ∧ OneF I.2.fs := by
      refine ⟨_, rfl, ?_⟩
      split
      · have h1 := gr_install h (framesB (splitB d)) (by omega)
        exact ⟨one_install_tot h hr ht hd, h1.2.1, h1.2.2, oneF_install h _ (by omega)⟩
      · exact ⟨Nat.le_refl _, Int.le_refl _, by show X.acts ≤ X.acts + 1; omega, h⟩
    obtain ⟨I, hIe, h1, h2, h3, h4⟩ := hI
    show Gr X (if (if (framesB (splitB d)).length < d.length then X.install LG (framesB (splitB d)) else (0, X)).1 ≠ 0 then ((if (framesB (splitB d)).length < d.length then X.install LG (framesB (splitB d)) else (0, X)).1, [], (if (framesB (splitB d)).length < d.length then X.install LG (framesB (splitB d)) else (0, X)).2) else if ((if (framesB (splitB d)).length < d.length then X.install LG (framesB (splitB d)) else (0, X)).2.sync LG).1 ≠ 0 then (((if (framesB (splitB d)).length < d.length then X.install LG (framesB (splitB d)) else (0, X)).2.sync LG).1, [], ((if (framesB (splitB d)).length < d.length then X.install LG (framesB (splitB d)) else (0, X)).2.sync LG).2) else (0, splitB d, ((if (framesB (splitB d)).length < d.length then X.install LG (framesB (splitB d)) else (0, X)).2.sync LG).2) : Int × List (List UInt8) × DX).2.2 0 2 ∧ (if (if (framesB (splitB d)).length < d.length then X.install LG (framesB (splitB d)) else (0, X)).1 ≠ 0 then ((if (framesB (splitB d)).length < d.length then X.install LG (framesB (splitB d)) else (0, X)).1, [], (if (framesB (splitB d)).length < d.length then X.install LG (framesB (splitB d)) else (0, X)).2) else if ((if (framesB (splitB d)).length < d.length then X.install LG (framesB (splitB d)) else (0, X)).2.sync LG).1 ≠ 0 then (((if (framesB (splitB d)).length < d.length then X.install LG (framesB (splitB d)) else (0, X)).2.sync LG).1, [], ((if (framesB (splitB d)).length < d.length then X.install LG (framesB (splitB d)) else (0, X)).2.sync LG).2) else (0, splitB d, ((if (framesB (splitB d)).length < d.length then X.install LG (framesB (splitB d)) else (0, X)).2.sync LG).2) : Int × List (List UInt8) × DX).2.1.length ≤ 100000
    rw [← hIe]
    have hs := gr_sync h4 (by omega)
    obtain ⟨s1, s2, s3⟩ := hs
    split
    · exact ⟨⟨by show totF I.2.fs ≤ _; omega, h2, by show I.2.acts ≤ _; omega⟩, Nat.zero_le _⟩
    · split
      · exact ⟨⟨by show totF (I.2.sync LG).2.fs ≤ _; omega, by show _ ≤ (I.2.sync LG).2.acts; omega, by show (I.2.sync LG).2.acts ≤ _; omega⟩, Nat.zero_le _⟩
      · exact ⟨⟨by show totF (I.2.sync LG).2.fs ≤ _; omega, by show _ ≤ (I.2.sync LG).2.acts; omega, by show (I.2.sync LG).2.acts ≤ _; omega⟩, by show (splitB d).length ≤ _; omega⟩
end Go.Proofs.YtapdnoellleimaaDoor
