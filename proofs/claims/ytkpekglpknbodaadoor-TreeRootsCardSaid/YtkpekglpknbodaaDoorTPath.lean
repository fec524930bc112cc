/-
  Package tree: Path.
-/
import Derived.Test.YtkpekglpknbodaaDoorTRoot
namespace Go.Proofs.YtkpekglpknbodaaDoor
open Go.RowKit

attribute [local go_sem ↓] ldDigest_def stDigest_def apAll_def

/-- The path of a leaf. -/
def pathT (ds : List (List UInt8)) (n : Nat) : List (List UInt8) := way pT (shaOf []) ds n
theorem pathT_all : ∀ (N : Nat) (ds : List (List UInt8)) (n : Nat), ds.length ≤ N → AllD ds → AllD (pathT ds n)
  | 0, ds, n, hN, _ => by
    unfold pathT
    rw [way_one pT _ (by omega)]
    exact AllD.nil
  | N + 1, ds, n, hN, h => by
    unfold pathT
    by_cases hl : ds.length ≤ 1
    · rw [way_one pT _ hl]
      exact AllD.nil
    · rw [way_up pT _ (by omega)]
      refine AllD.append ?_ (pathT_all N _ _ (by rw [up_length]; omega) h.up)
      split
      · rename_i hs
        exact AllD.one (h.get hs _)
      · exact AllD.nil
theorem AllD.path {ds : List (List UInt8)} (h : AllD ds) (n : Nat) : AllD (pathT ds n) := pathT_all _ ds n (Nat.le_refl _) h

theorem own_slice_s {w : World} {base n s : Nat} {e : TypeId} {v : Value} {xs : List Value} (h : w.ownsRow base e s v n xs) : ∃ A c, v = .slice A n c := by
  rcases h.2 with ⟨h1, h2⟩ | ⟨g, cap, cur, h1, _⟩
  · exact ⟨none, 0, by rw [h1, h2]⟩
  · exact ⟨_, _, h1⟩

/-- What the walk of Path carries of memory. -/
structure PaW (w0 : World) (v : Value) (ps : List (List UInt8)) (w : World) : Prop where
  own : w.ownsRow w0.heap.size 29 32 v ps.length (ps.flatten.map bv)
  all : AllD ps
  far : Below w0.heap.size w0 w

theorem path_not (x : Int) (n c : Nat) (A : Option Addr) (hx : (decide (0 ≤ x) && decide (x < (n : Int))) = false) (w : World) :
    Calls Tryd.prog 10 #[.int .i64 x, .slice A n c] w fun e w' => e = .returned (.tuple #[.slice none 0 0, .bool false]) ∧ w' = w := by
  have hp := placed_any x n w
  rw [hx] at hp
  have HPL := Lib.hid hp
  clear hp hx
  go_enter Tryd.func10, Tryd.ntmps10
  go_wp2_with (go_at_call 20; refine (HPL.out).mono ?_; rintro e w2 ⟨rfl, rfl⟩)
  go_ret2
  exact ⟨rfl, rfl⟩

/-- What Path answers for a leaf that is there. -/
def PathIs (w0 : World) (ps : List (List UInt8)) (e : Ending) (w : World) : Prop := ∃ A c, e = .returned (.tuple #[.slice A ps.length c, .bool true]) ∧ PaW w0 (.slice A ps.length c) ps w

set_option maxRecDepth 100000 in
set_option maxHeartbeats 2000000 in
theorem path_any (ds : List (List UInt8)) (A : Option Addr) (c n : Nat) (hnl : n < ds.length) (w : World) (hD : Digs w w.heap.size A ds) (hn : ds.length ≤ 1099511627776) (hR : Roots w) :
    Calls Tryd.prog 10 #[.int .i64 (n : Int), .slice A ds.length c] w (PathIs w (pathT ds n)) := by
  have HD := Lib.hid hD
  have HR := Lib.hid hR
  have hp := placed_any n ds.length w
  rw [show (decide (0 ≤ (n : Int)) && decide ((n : Int) < (ds.length : Int))) = true by simp; omega] at hp
  have HPL := Lib.hid hp
  have HW0 : Hid (PaW w (.slice none 0 0) [] w) := ⟨World.ownsRow_nil _ _ _ _, AllD.nil, Below.refl _ _⟩
  clear hp hD hR
  go_enter Tryd.func10, Tryd.ntmps10
  go_wp2_with (go_at_call 20; refine (HPL.out).mono ?_; rintro e w2 ⟨rfl, rfl⟩)
  go_loopw [0, 6, 7] (fun a p v wr => ∃ (k : Nat) (es : List (List UInt8)) (A' : Option Addr) (c' : Nat) (ps : List (List UInt8)) (Ap : Option Addr) (cp : Nat), a = .int .i64 k ∧ v = .slice A' es.length c' ∧ p = .slice Ap ps.length cp ∧ k < es.length ∧ ps.length + es.length ≤ ds.length ∧ Hid (Digs wr wr.heap.size A' es) ∧ Hid (ps ++ pathT es k = pathT ds n) ∧ Hid (PaW w2 (.slice Ap ps.length cp) ps wr) ∧ Hid (∀ g o, A' = some ⟨g, o, none⟩ → (Value.slice Ap ps.length cp).ownBlock ≠ some g)) (fun _ _ v _ => lenOfV v)
  case atStart => exact ⟨n, ds, A, c, [], none, 0, rfl, rfl, rfl, hnl, by simp, HD, by exact Lib.hid rfl, HW0, fun _ _ _ h => by cases h⟩
  case round =>
    clear HD HW0 HPL
    obtain ⟨k, es, A', c', ps, Ap, cp, rfl, rfl, rfl, hk, hle, HD, HT, HW, HAP⟩ := hrel
    by_cases hl : 1 < es.length
    · have hl' : decide ((1 : Int) < (es.length : Int)) = true := decide_eq_true (by omega)
      have HBS := Lib.hid (beside_any k (by omega) wr)
      have HS := Lib.hid (show sib k ≤ k + 1 by unfold sib; split <;> omega)
      have hpe : pathT es k = (if sib k < es.length then [es.getD (sib k) (shaOf [])] else []) ++ pathT (up pT es) (k / 2) := way_up pT _ hl k
      have hul : (up pT es).length = (es.length + 1) / 2 := up_length pT es
      by_cases hs : sib k < es.length
      · have hs' : decide (((sib k : Nat) : Int) < (es.length : Int)) = true := decide_eq_true (by omega)
        obtain ⟨g0, o0, rfl, hg0, _⟩ := HD.out.some_ (by omega)
        have lA := HD.out.load (k := sib k) hs
        have hd0 := HD.out.all.get hs []
        have i1 : ((sib k : Nat) : Int) < (es.length : Int) := by omega
        rw [if_pos hs, show es.getD (sib k) (shaOf []) = es.getD (sib k) [] by rw [List.getD_eq_getElem?_getD, List.getD_eq_getElem?_getD, List.getElem?_eq_getElem hs]; rfl] at hpe
        generalize es.getD (sib k) [] = d at *
        generalize sib k = q at *
        have hfo := fold_dig d hd0
        have hB5 : Below wr.heap.size wr (wr.alloc (.cells (d.map bv).toArray 29)) := (Below.refl _ _).alloc (Nat.le_refl _) _
        have hX5 : Box (wr.alloc (.cells (d.map bv).toArray 29)) wr.heap.size 29 (d.map bv).toArray := Box.made _ _ _
        have hd5 : Digs (wr.alloc (.cells (d.map bv).toArray 29)) (wr.alloc (.cells (d.map bv).toArray 29)).heap.size (some ⟨wr.heap.size, 0, none⟩) [d] := ⟨AllD.one hd0, by simpa using Sees.of_box hX5 hX5.lt⟩
        have hown5 := HW.out.own.alloc (.cells (d.map bv).toArray 29)
        have hsz5 := Nat.le_trans HW.out.far.size hB5.size
        obtain ⟨v6, w6, hap, hown6, hg6⟩ := append_digs rfl hown5 (A := some ⟨wr.heap.size, 0, none⟩) (m := 1) (c := 1) (es := [d]) rfl hd5 (by omega) hsz5
        obtain ⟨A6, c6, rfl⟩ := own_slice_s hown6
        have HD6 := Lib.hid ((HD.out.far hB5).apart hg6 HAP.out)
        have HT6 : Hid ((ps ++ [d]) ++ pathT (up pT es) (k / 2) = pathT ds n) := by
          rw [← HT.out, hpe, List.append_assoc]
          exact Lib.hid rfl
        have HW6 : Hid (PaW w2 (.slice A6 (ps ++ [d]).length c6) (ps ++ [d]) w6) := ⟨by rw [List.length_append]; exact hown6, HW.out.all.append (AllD.one hd0), (HW.out.far.trans (hB5.mono HW.out.far.size)).trans (below_own hown5 hg6 hsz5)⟩
        have HL6 : Hid ((ps ++ [d]).length = ps.length + 1) := by show _ = _; simp
        have HAB := Lib.hid (above_any es (some ⟨g0, o0, none⟩) c' w6 HD6.out (by omega) (HR.out.of_below HW6.out.far))
        clear hpe hown5 hsz5 hd5 hX5 hB5 hown6 hg6
        go_wp2_with (first | (go_at_call 22; refine (HBS.out).mono ?_; rintro e w3 ⟨rfl, rfl⟩) | (go_at_call 21; refine (HAB.out).mono ?_; rintro e w7 ⟨g7, rfl, hd7, hb7, hg7⟩; have HD7 := Lib.hid hd7; have HB7 := Lib.hid hb7; have HG7 := Lib.hid hg7; clear hd7 hb7 hg7))
        clear hfo hap lA
        have HW7 : Hid (PaW w2 (.slice A6 (ps ++ [d]).length c6) (ps ++ [d]) w7) := ⟨World.ownsRow.kept HW6.out.own (only_below HB7.out none) (by cases (Value.slice A6 (ps ++ [d]).length c6).ownBlock <;> simp), HW6.out.all, HW6.out.far.trans (HB7.out.mono HW6.out.far.size)⟩
        have HAP7 : Hid (∀ g o, some (⟨g7, 0, none⟩ : Addr) = some ⟨g, o, none⟩ → (Value.slice A6 (ps ++ [d]).length c6).ownBlock ≠ some g) := by
          intro g o e e2
          injection e with e
          injection e with e1 _
          subst e1
          have h1 := (HW6.out.own.lt g7 e2).2
          have h2 := HG7.out
          omega
        go_roundw
        case rel => exact ⟨k / 2, up pT es, some ⟨g7, 0, none⟩, (es.length + 1) / 2, ps ++ [d], A6, c6, by go_num, by rw [hul], by rw [HL6.out], by omega, by rw [HL6.out]; omega, HD7, HT6, HW7, HAP7⟩
        case measure => simp [lenOfV]; omega
      · have hs' : decide (((sib k : Nat) : Int) < (es.length : Int)) = false := decide_eq_false (by omega)
        rw [if_neg hs, List.nil_append] at hpe
        have HT6 : Hid (ps ++ pathT (up pT es) (k / 2) = pathT ds n) := by
          rw [← HT.out, hpe]
          exact Lib.hid rfl
        have HAB := Lib.hid (above_any es A' c' wr HD.out (by omega) (HR.out.of_below HW.out.far))
        clear hpe
        go_wp2_with (first | (go_at_call 22; refine (HBS.out).mono ?_; rintro e w3 ⟨rfl, rfl⟩) | (go_at_call 21; refine (HAB.out).mono ?_; rintro e w7 ⟨g7, rfl, hd7, hb7, hg7⟩; have HD7 := Lib.hid hd7; have HB7 := Lib.hid hb7; have HG7 := Lib.hid hg7; clear hd7 hb7 hg7))
        have HW7 : Hid (PaW w2 (.slice Ap ps.length cp) ps w7) := ⟨World.ownsRow.kept HW.out.own (only_below HB7.out none) (by cases (Value.slice Ap ps.length cp).ownBlock <;> simp), HW.out.all, HW.out.far.trans (HB7.out.mono HW.out.far.size)⟩
        have HAP7 : Hid (∀ g o, some (⟨g7, 0, none⟩ : Addr) = some ⟨g, o, none⟩ → (Value.slice Ap ps.length cp).ownBlock ≠ some g) := by
          intro g o e e2
          injection e with e
          injection e with e1 _
          subst e1
          have h1 := (HW.out.own.lt g7 e2).2
          have h2 := HG7.out
          omega
        go_roundw
        case rel => exact ⟨k / 2, up pT es, some ⟨g7, 0, none⟩, (es.length + 1) / 2, ps, Ap, cp, by go_num, by rw [hul], rfl, by omega, by omega, HD7, HT6, HW7, HAP7⟩
        case measure => simp [lenOfV]; omega
    · have hl' : decide ((1 : Int) < (es.length : Int)) = false := decide_eq_false (by omega)
      have hps : ps = pathT ds n := by
        rw [← HT.out, show pathT es k = [] from way_one pT _ (by omega) k, List.append_nil]
      subst hps
      go_wp2
      go_ret2
      exact ⟨Ap, cp, rfl, HW.out⟩
end Go.Proofs.YtkpekglpknbodaaDoor
