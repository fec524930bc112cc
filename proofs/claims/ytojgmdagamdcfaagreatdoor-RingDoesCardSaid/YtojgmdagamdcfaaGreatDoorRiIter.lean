/-
  maps.Keys of a ring's map, and what it hands back: the keys come, each once, in some order.
-/
import Derived.Test.YtojgmdagamdcfaaGreatDoorRiInv
import Derived.Test.YtojgmdagamdcfaaGreatDoorRiFind
import Derived.WalkKit
import Derived.RangeFuncSeq
import Derived.RangeFuncStops
import Derived.Sort.MapsRangeIn
import Derived.OwnWalkIn
import Derived.TacticsInMore
import Derived.RegionIn
import Derived.LoopNIn
import Derived.LoopIn
namespace Go.Proofs.YtojgmdagamdcfaaGreatDoor
open Go.RowKit Go.Maps

/-- A key that can be. -/
structure KeyX where
  root : List UInt8
  high : Int
  len : root.length = 32
  wf : (Lit.int .i64 high).wf = true
set_option maxRecDepth 100000 in
theorem KeyX.same {x y : KeyX} (h1 : x.root = y.root) (h2 : x.high = y.high) : x = y := by
  cases x
  cases y
  simp only at h1 h2
  subst h1
  subst h2
  rfl
def KeyX.cells (x : KeyX) : List Value := keyL x.root x.high
def KeyX.enc (x : KeyX) : Value := .agg (keyV x.root x.high)
noncomputable def KeyX.lit (x : KeyX) : Lit := klit x.root x.high
set_option maxRecDepth 100000 in
theorem KeyX.of (x : KeyX) : keyOf Tryz.prog 37 x.enc = some x.lit := klit_is x.len x.wf
set_option maxRecDepth 100000 in
theorem KeyX.lit_inj {x y : KeyX} (h : x.lit = y.lit) : x = y := by
  obtain ⟨h1, h2⟩ := klit_inj x.len y.len x.wf y.wf h
  exact KeyX.same h1 h2
set_option maxRecDepth 100000 in
theorem KeyX.key (x : KeyX) : WideAt.IsKeyLit x.lit := klit_key x.len x.wf

/-- The keys that have come. -/
def Coll (D : DataW Value) (left : Lit → Bool) (xs : List KeyX) : Prop := xs.Pairwise (fun a b => a.lit ≠ b.lit) ∧ ∀ kl, (∃ x ∈ xs, x.lit = kl) ↔ (Maps.has D kl = true ∧ left kl = false)
set_option maxRecDepth 100000 in
theorem Coll.start (D : DataW Value) : Coll D (Maps.has D) [] := ⟨List.Pairwise.nil, fun kl => ⟨fun ⟨x, hx, _⟩ => (by cases hx), fun ⟨h1, h2⟩ => by rw [h1] at h2; cases h2⟩⟩
set_option maxRecDepth 100000 in
theorem Coll.step {D : DataW Value} {left : Lit → Bool} {xs : List KeyX} (h : Coll D left xs) {x : KeyX} (hl : left x.lit = true) (hd : Maps.has D x.lit = true) : Coll D (fun z => left z && !z.sameKey x.lit) (xs ++ [x]) := by
  refine ⟨?_, fun kl => ?_⟩
  · rw [List.pairwise_append]
    refine ⟨h.1, List.pairwise_singleton _ _, fun a ha b hb e => ?_⟩
    obtain rfl := List.mem_singleton.1 hb
    have := ((h.2 a.lit).1 ⟨a, ha, rfl⟩).2
    rw [e, hl] at this
    cases this
  · constructor
    · rintro ⟨y, hy, rfl⟩
      rcases List.mem_append.1 hy with hy | hy
      · obtain ⟨h1, h2⟩ := (h.2 y.lit).1 ⟨y, hy, rfl⟩
        exact ⟨h1, by simp [h2]⟩
      · obtain rfl := List.mem_singleton.1 hy
        exact ⟨hd, by simp [WideAt.sameKey_self y.key]⟩
    · rintro ⟨h1, h2⟩
      by_cases e : kl = x.lit
      · exact ⟨x, by simp, e.symm⟩
      · simp only [sameKey_ne e] at h2
        obtain ⟨y, hy, hl'⟩ := (h.2 kl).2 ⟨h1, by simpa using h2⟩
        exact ⟨y, by simp [hy], hl'⟩
set_option maxRecDepth 100000 in
theorem key_inv' (key : Value) (kl : Lit) (h : keyOf Tryz.prog 37 key = some kl) : ∃ x : KeyX, key = x.enc := by
  obtain ⟨r, k, hr, hw, rfl⟩ := key_inv h
  exact ⟨⟨r, k, hr, hw⟩, rfl⟩

noncomputable def stKey (p v : Value) : Sem Unit := Instr.storeAt 37 p v
set_option maxRecDepth 100000 in
theorem stKey_def (p v : Value) : Instr.storeAt 37 p v = stKey p v := rfl
set_option maxRecDepth 100000 in
theorem Box.store_key {w : World} {g : Nat} {t : TypeId} {cs : Array Value} (h : Box w g t cs) (hs : cs.size = 33) {r : List UInt8} (hr : r.length = 32) (k : Int) :
    (stKey (.pointer (some ⟨g, 0, none⟩)) (.agg (keyV r k))).run Tryz.prog w = .ok () (w.setCells g 0 (keyV r k).toList) :=
  run_storeAt_mid (P := Tryz.prog) w g 0 37 (keyV r k) (fun j hj => by
    have hj' : j < 33 := by
      unfold keyV at hj
      rw [List.size_toArray, keyL_len hr] at hj
      exact hj
    rw [h.cell, h.free, Array.getElem?_eq_getElem (by omega)]
    exact ⟨rfl, rfl⟩) (key_size hr k) (by have := all_oneCell_toArray (keyL_one r k); simpa [keyV] using this)
set_option maxRecDepth 100000 in
theorem key_none_size : zkey.size = 33 := rfl

set_option maxRecDepth 100000 in
/-- A block is laid for a key, and the key is stored there. -/
theorem laid_key (w : World) {r : List UInt8} (hr : r.length = 32) (k : Int) : ∃ w', (stKey (.pointer (some ⟨w.heap.size, 0, none⟩)) (.agg (keyV r k))).run Tryz.prog (w.alloc (.cells zkey 37)) = .ok () w' ∧ Box w' w.heap.size 37 (keyV r k) ∧ w.grownBy w' none := by
  have hb := Box.made w 37 zkey
  exact ⟨_, hb.store_key key_none_size hr k, hb.cells_all (keyV r k) (by unfold keyV; rw [List.size_toArray, keyL_len hr]; rfl), only_new (World.grownBy_alloc w (.cells zkey 37) none) (only_cells (g := w.heap.size) (keyV r k).toList 0 _) (Nat.le_refl _)⟩

attribute [local go_sem ↓] ldKey_def stKey_def

set_option maxRecDepth 100000 in
set_option maxHeartbeats 2000000 in
theorem iter_in (F : Fence) (n : Nat) (hF : F.fn 54) (hro : F.round = none) (hn : 1 ≤ n) (l Bm b nn : Nat) (D0 : DataW Value) (J Jx : List KeyX → World → Prop)
    (hY : ∀ pre x W, J pre W → pre.length < Maps.size D0 → YieldAt F (n - 1) Tryz.prog l #[KeyX.enc x] W fun e W' =>
      (e = .returned (.bool true) ∧ J (pre ++ [x]) W' ∧ KeepsWalks W W') ∨ (e = .returned (.bool false) ∧ Jx (pre ++ [x]) W'))
    (W : World) (hJ : AbidesFrom W.heap.size J) (hm : W.cell? ⟨Bm, 0, none⟩ = some (.map (some b))) (hown : W.ownsMap Tryz.prog 37 anyElem b nn D0) (h0 : J [] W) :
    CallsIn F n Tryz.prog 54 #[.func (.yield l) #[] #[], .pointer (some ⟨Bm, 0, none⟩)] W fun e W' => (∃ v, e = .returned v) ∧ ((∃ xs, Coll D0 (fun _ => false) xs ∧ J xs W') ∨ (∃ pre : List KeyX, True ∧ Jx pre W')) := by
  refine callsIn_of_wp Tryz.func54 rfl hF ?_ hro
  simp only [Tryz.ntmps54, List.size_toArray, List.length_cons, List.length_nil, Nat.reduceAdd, Nat.reduceSub, Array.replicate_succ, Array.replicate_zero, List.push_toArray, List.append_toArray, List.nil_append, List.cons_append]
  gi_wp2_with (first
    | (gi_at_range; refine wpListIn_range_own _ rfl _ 57 rfl 37 64 keyed Tryz.underlying57 _ b nn _ rfl hown ?_; intro w0 hrg0 hg0 hs0)
    | gi_in)
  go_frame
  gi_loopw [3] (fun _ wr => ∃ (left : Lit → Bool) (cnt : Nat) (xs : List KeyX), wr.ranges Tryz.prog 37 anyElem b W.heap.size nn D0 left cnt ∧ xs.length + cnt ≤ Maps.size D0 ∧ Coll D0 left xs ∧ J xs wr)
    (fun _ wr => wr.rangeLeft b W.heap.size)
  case atStart =>
    exact ⟨_, _, [], hrg0, by simp, Coll.start D0, hJ [] W w0 none h0 hg0 (fun r e => by cases e)⟩
  case round =>
    obtain ⟨left, cnt, xs, hrg, hcs, hC, hJs⟩ := hrel
    gi_wp2_with (first
      | (gi_at_next; refine wpListIn_next_ranges _ rfl _ rfl 37 keyed anyElem KeyX.enc id key_inv' (fun v _ _ => ⟨v, rfl⟩) b W.heap.size nn _ _ _ rfl hrg ?_ ?_)
      | gi_in)
    · intro hc0 hl0
      gi_wp2
      go_end0
      exact ⟨⟨_, rfl⟩, .inl ⟨xs, by rw [show (fun _ : Lit => false) = left from funext fun z => (hl0 z).symm]; exact hC, hJs⟩⟩
    · intro x c kl yd yp w2 cnt2 hkey hlk hv hat hrg2 hlt hg2 hs2 hen
      obtain rfl : kl = x.lit := by
        have h1 := x.of
        rw [hkey] at h1
        injection h1
      have HD := Lib.hid (has_true_of_atKey hat)
      have HC2 := Lib.hid (hC.step hlk HD.out)
      have HJ2 : Hid (J xs w2) := hJ xs wr w2 (some W.heap.size) hJs hg2 (fun r e => by cases e; exact ⟨Nat.le_refl _, hrg.iter_walk⟩)
      obtain ⟨w3, hst0, hb3, hg3⟩ := laid_key w2 x.len x.high
      have hst : (stKey (.pointer (some ⟨w2.heap.size, 0, none⟩)) x.enc).run Tryz.prog (w2.alloc (.cells #[.int .u8 0, .int .u8 0, .int .u8 0, .int .u8 0, .int .u8 0, .int .u8 0, .int .u8 0, .int .u8 0, .int .u8 0, .int .u8 0, .int .u8 0, .int .u8 0, .int .u8 0, .int .u8 0, .int .u8 0, .int .u8 0, .int .u8 0, .int .u8 0, .int .u8 0, .int .u8 0, .int .u8 0, .int .u8 0, .int .u8 0, .int .u8 0, .int .u8 0, .int .u8 0, .int .u8 0, .int .u8 0, .int .u8 0, .int .u8 0, .int .u8 0, .int .u8 0, .int .i64 0] 37)) = .ok () w3 := hst0
      have lk : (ldKey (.pointer (some ⟨w2.heap.size, 0, none⟩))).run Tryz.prog w3 = .ok x.enc w3 := hb3.load_key x.len
      have HRG3 := Lib.hid (hrg2.kept hg3 (by simp) (by simp))
      have HJ3 : Hid (J xs w3) := hJ xs w2 w3 none HJ2.out hg3 (fun r e => by cases e)
      have HLE : Hid (xs.length < Maps.size D0) := Lib.hid (by omega)
      have HLT := Lib.hid hlt
      have HCS : Hid (xs.length + 1 + cnt2 ≤ Maps.size D0) := Lib.hid (by omega)
      have HLQ := Lib.hid hrg.left_eq
      obtain ⟨fn, tmps, assign, body, hy, hR⟩ := hY xs x w3 HJ3.out HLE.out
      have HRR := Lib.hid hR
      clear hs2 hst0 hb3 hg3 hg2 hrg2 hat hv hkey hlk hlt hR hrg hC hJs hcs
      gi_wp2
      refine HRR.out.mono ?_
      rintro e W3 (⟨rfl, hJ3, hk3⟩ | ⟨rfl, hJx3⟩)
      · have HK3 := Lib.hid hk3
        have HJ4 := Lib.hid hJ3
        clear hk3 hJ3 hst lk
        gi_wp2
        have hrg3 := HRG3.out.of_walks HK3.out
        go_roundw
        case rel => exact ⟨_, cnt2, xs ++ [x], hrg3, by have := HCS.out; simp; omega, HC2.out, HJ4.out⟩
        case measure => rw [hrg3.left_eq, HLQ.out]; exact HLT.out
      · gi_wp2
        refine bodyPost_ret (results_none rfl _ _ _) rfl ?_
        exact ⟨⟨_, rfl⟩, .inr ⟨xs ++ [x], trivial, hJx3⟩⟩

set_option maxRecDepth 100000 in
/-- What maps.Keys of a ring's map hands back. -/
theorem iter_stops (F : Fence) (n : Nat) (hF : F.fn 54) (hro : F.round = none) (hn : 1 ≤ n) (Bm b nn : Nat) (D0 : DataW Value) (w : World) (hBm : Bm < w.heap.size) (hm : w.cell? ⟨Bm, 0, none⟩ = some (.map (some b))) (hown : w.ownsMap Tryz.prog 37 anyElem b nn D0) :
    SeqStops F n Tryz.prog 54 #[.pointer (some ⟨Bm, 0, none⟩)] KeyX.enc (Coll D0 (fun _ => false)) (fun _ => True) (Maps.size D0) w := fun l J Jx W hW hJ _ hY h0 =>
  iter_in F n hF hro hn l Bm b nn D0 J Jx hY W hJ ((hW.cell (p := ⟨Bm, 0, none⟩) hBm).trans hm) (hown.kept (only_below hW none) (by simp)) h0
set_option maxRecDepth 100000 in
theorem mapkeys_any (mb : Option Nat) (w : World) : Calls Tryz.prog 35 #[.map mb] w fun e w' => e = .returned (.func (.func 54) #[] #[.pointer (some ⟨w.heap.size, 0, none⟩)]) ∧ w' = w.alloc (.cells #[.map mb] 57) := by
  go_enter Tryz.func35, Tryz.ntmps35
  go_wp2
  go_ret
  exact ⟨rfl, rfl⟩
end Go.Proofs.YtojgmdagamdcfaaGreatDoor
