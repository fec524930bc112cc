/-
  Package tree: Root, Leaf.
-/
import Derived.Test.YtkpekglpknbodaaDoorTAbove
namespace Go.Proofs.YtkpekglpknbodaaDoor
open Go.RowKit

attribute [local go_sem ↓] ldDigest_def stDigest_def

/-- The root of digests' rows. -/
def rootT (ds : List (List UInt8)) : List UInt8 := top pT (shaOf []) ds
theorem rootT_len : ∀ (N : Nat) (ds : List (List UInt8)), ds.length ≤ N → AllD ds → (rootT ds).length = 32
  | 0, ds, hN, _ => by
    unfold rootT
    rw [top_one pT _ (by omega), List.getD_eq_getElem?_getD, List.getElem?_eq_none (by omega)]
    rfl
  | N + 1, ds, hN, h => by
    unfold rootT
    by_cases hl : ds.length ≤ 1
    · rw [top_one pT _ hl]
      rcases Nat.lt_or_ge 0 ds.length with hp | hp
      · exact h.get hp _
      · rw [List.getD_eq_getElem?_getD, List.getElem?_eq_none hp]
        rfl
    · rw [top_up pT _ (by omega)]
      exact rootT_len N _ (by rw [up_length]; omega) h.up
theorem AllD.root {ds : List (List UInt8)} (h : AllD ds) : (rootT ds).length = 32 := rootT_len _ ds (Nat.le_refl _) h
theorem Box.cells_dig {w : World} {g : Nat} {t : TypeId} {cs : Array Value} (h : Box w g t cs) (hs : cs.size = 32) {d : List UInt8} (hd : d.length = 32) : Box (w.setCells g 0 (d.map bv)) g t (d.map bv).toArray :=
  h.cells_all (d.map bv).toArray (by rw [List.size_toArray, List.length_map, hd, hs])
/-- A digest is answered. -/
theorem ret_dig {fn : Func} {p : Tmp} (hf : fn.results = #[.cell p 29]) {a : Act} {w : World} {g : Nat} (hp : a.tmps.getD p undef = .pointer (some ⟨g, 0, none⟩)) (hdf : a.defers = []) {t : TypeId} {d : List UInt8} (hb : Box w g t (d.map bv).toArray) (hd : d.length = 32)
    {R : Ending → World → Prop} (hR : R (.returned (.agg (d.map bv).toArray)) w) : bodyPost Tryd.prog fn R .ret a w :=
  bodyPost_ret (results_cell_row hf _ w g t _ (0, 0) _ hp hb Tryd.underlying29 rfl (dig_size d hd)) hdf hR
def lenOfV : Value → Nat
  | .slice _ n _ => n
  | _ => 0

/-- What the walk of Root carries of memory. -/
structure RtW (w0 w : World) : Prop where
  out : Box w w0.heap.size 29 (zerosD 32).toArray
  far : Below w0.heap.size w0 w
theorem RtW.call {w0 w w' : World} (h : RtW w0 w) (hb : Below w.heap.size w w') : RtW w0 w' := ⟨h.out.below hb h.out.lt, h.far.trans (hb.mono h.far.size)⟩

set_option maxRecDepth 100000 in
set_option maxHeartbeats 1000000 in
theorem root_any (ds : List (List UInt8)) (A : Option Addr) (c : Nat) (w : World) (hD : Digs w w.heap.size A ds) (hn : ds.length ≤ 1099511627776) (hR : Roots w) :
    Calls Tryd.prog 14 #[.slice A ds.length c] w fun e w' => e = .returned (.agg ((rootT ds).map bv).toArray) ∧ Below w.heap.size w w' := by
  have hF0 : Below w.heap.size w (w.alloc (.cells (zerosD 32).toArray 29)) := (Below.refl _ _).alloc (Nat.le_refl _) _
  have HW0 : Hid (RtW w (w.alloc (.cells (zerosD 32).toArray 29))) := ⟨Box.made w _ _, hF0⟩
  have HD0 := Lib.hid (hD.far hF0)
  have HR0 := Lib.hid (hR.of_below hF0)
  have HR := Lib.hid hR
  go_enter Tryd.func14, Tryd.ntmps14
  go_upto_region 1 with fail
  change Code.wp _ _ _ _ (w.alloc (.cells (zerosD 32).toArray 29))
  generalize w.alloc (.cells (zerosD 32).toArray 29) = w1 at *
  clear hF0 hD
  by_cases h0 : ds.length = 0
  · have h0' : decide ((ds.length : Int) = 0) = true := decide_eq_true (by omega)
    have hof := of_any [] none 0 w1 ⟨[], rfl, .inl rfl, fun i hi => by simp at hi⟩ (by simp) (by decide) HR0.out
    have HOF := Lib.hid hof
    clear hof
    have hroot : Hid (rootT ds = shaOf ([] : List (List UInt8)).flatten) := by
      show _ = _
      unfold rootT
      rw [top_one pT _ (by omega), List.getD_eq_getElem?_getD, List.getElem?_eq_none (by omega)]
      rfl
    have hdl : (shaOf ([] : List (List UInt8)).flatten).length = 32 := rfl
    generalize shaOf ([] : List (List UInt8)).flatten = d at *
    go_wp2_with (go_at_call 24; refine (HOF.out).mono ?_; rintro e w2 ⟨rfl, hb2⟩; have HW2 := Lib.hid (HW0.out.call hb2); clear hb2; have hst := HW2.out.out.store_digest rfl d hdl)
    exact ret_dig rfl rfl rfl (HW2.out.out.cells_dig rfl hdl) hdl ⟨by rw [hroot.out], below_cells HW2.out.far (Nat.le_refl _) HW2.out.far.size _ _⟩
  · have h0' : ((ds.length : Int) == 0) = false := by
      rw [beq_eq_false_iff_ne]
      omega
    go_wp2_with fail
    go_loopw [3] (fun v wr => ∃ (es : List (List UInt8)) (A' : Option Addr) (c' : Nat), v = .slice A' es.length c' ∧ 0 < es.length ∧ es.length ≤ ds.length ∧ Hid (Digs wr wr.heap.size A' es) ∧ Hid (rootT es = rootT ds) ∧ Hid (RtW w wr)) (fun v _ => lenOfV v)
    case atStart => exact ⟨ds, A, c, rfl, by omega, Nat.le_refl _, HD0, rfl, HW0⟩
    case round =>
      clear HD0 HW0
      obtain ⟨es, A', c', rfl, hpos, hle, HD, HT, HW⟩ := hrel
      by_cases hl : 1 < es.length
      · have hl' : decide ((1 : Int) < (es.length : Int)) = true := decide_eq_true (by omega)
        have HA := Lib.hid (above_any es A' c' wr HD.out (by omega) (HR.out.of_below HW.out.far))
        go_wp2_with (go_at_call 21; refine (HA.out).mono ?_; rintro e w2 ⟨g, rfl, hd2, hb2, _⟩; have HD2 := Lib.hid hd2; have HW2 := Lib.hid (HW.out.call hb2); clear hd2 hb2)
        have hul : (up pT es).length = (es.length + 1) / 2 := up_length pT es
        have HT2 : Hid (rootT (up pT es) = rootT ds) := by
          rw [← HT.out]
          exact (top_up pT _ hl).symm
        go_roundw
        case rel => exact ⟨up pT es, some ⟨g, 0, none⟩, (es.length + 1) / 2, by rw [hul], by omega, by omega, HD2, HT2, HW2⟩
        case measure => simp [lenOfV]; omega
      · have hl' : decide ((1 : Int) < (es.length : Int)) = false := decide_eq_false (by omega)
        obtain ⟨g0, o0, rfl, hg0, _⟩ := HD.out.some_ hpos
        have lA := HD.out.load (k := 0) hpos
        have hd0 := HD.out.all.get hpos []
        have hdr : Hid (rootT ds = es.getD 0 []) := by
          rw [← HT.out]
          show top pT _ es = _
          rw [top_one pT _ (by omega), List.getD_eq_getElem?_getD, List.getD_eq_getElem?_getD, List.getElem?_eq_getElem hpos]
          rfl
        have i1 : (0 : Int) < (es.length : Int) := by omega
        rw [Nat.zero_mul, Nat.add_zero] at lA
        generalize es.getD 0 [] = d at *
        have hst := HW.out.out.store_digest rfl d hd0
        go_wp2
        exact ret_dig rfl rfl rfl (HW.out.out.cells_dig rfl hd0) hd0 ⟨by rw [hdr.out], below_cells HW.out.far (Nat.le_refl _) HW.out.far.size _ _⟩
end Go.Proofs.YtkpekglpknbodaaDoor
