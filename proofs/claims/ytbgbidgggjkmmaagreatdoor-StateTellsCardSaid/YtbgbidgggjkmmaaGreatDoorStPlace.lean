/-
  The document's Place and Last.
-/
import Derived.Test.YtbgbidgggjkmmaaGreatDoorStLists
import Derived.Test.YtbgbidgggjkmmaaGreatDoorND
namespace Go.Proofs.YtbgbidgggjkmmaaGreatDoor
open Go.RowKit Go.Sort

attribute [local go_sem ↓] ldRp_def stRp_def ldSt_def stSt_def ldPr_def stPr_def

set_option maxRecDepth 100000 in
theorem look_first {α K : Type} [DecidableEq K] {key : α → K} {k : K} {l : List α} {i : Nat} (hi : i < l.length) (h : key (l[i]'hi) = k) (hb : ∀ j (hj : j < l.length), j < i → key (l[j]'hj) ≠ k) : lookK key k l = some (l[i]'hi) := by
  unfold lookK
  rw [List.find?_eq_some_iff_getElem]
  refine ⟨by simpa using h, i, hi, rfl, fun j hj => ?_⟩
  simpa using hb j (by omega) hj
set_option maxRecDepth 100000 in
theorem look_gone {α K : Type} [DecidableEq K] {key : α → K} {k : K} {l : List α} (hb : ∀ j (hj : j < l.length), j < l.length → key (l[j]'hj) ≠ k) : lookK key k l = none := look_none (fun x hx => by
  obtain ⟨j, hj, rfl⟩ := List.getElem_of_mem hx
  exact hb j hj hj)
def PlaceIs (l : List PairX) (k : ByteArray) (n : Int) : Prop := (∃ (i : Nat) (hi : i < l.length), n = (i : Int) ∧ pLook k l = some (l[i]'hi)) ∨ n = -1 ∧ pLook k l = none
def LastIs (l : List RepM) (c : Int) (n : Int) : Prop := (∃ (i : Nat) (hi : i < l.length), n = (i : Int) ∧ rLook c (l.map RepM.x) = some (l[i]'hi).x) ∨ n = -1 ∧ rLook c (l.map RepM.x) = none
def firstF {α K : Type} [DecidableEq K] (key : α → K) (l : List α) (k : K) : Int := match l.findIdx? (fun x => decide (key x = k)) with
  | some i => (i : Int)
  | none => -1
set_option maxRecDepth 100000 in
theorem firstF_at {α K : Type} [DecidableEq K] {key : α → K} {k : K} {l : List α} {i : Nat} (hi : i < l.length) (h : key (l[i]'hi) = k) (hb : ∀ j (hj : j < l.length), j < i → key (l[j]'hj) ≠ k) : firstF key l k = (i : Int) := by
  have e : l.findIdx? (fun x => decide (key x = k)) = some i := by
    rw [List.findIdx?_eq_some_iff_getElem]
    exact ⟨hi, by simpa using h, fun j hj => by simpa using hb j (by omega) hj⟩
  unfold firstF
  rw [e]
set_option maxRecDepth 100000 in
theorem firstF_none {α K : Type} [DecidableEq K] {key : α → K} {k : K} {l : List α} (hb : ∀ j (hj : j < l.length), j < l.length → key (l[j]'hj) ≠ k) : firstF key l k = -1 := by
  have e : l.findIdx? (fun x => decide (key x = k)) = none := by
    rw [List.findIdx?_eq_none_iff]
    intro x hx
    obtain ⟨j, hj, rfl⟩ := List.getElem_of_mem hx
    simpa using hb j hj hj
  unfold firstF
  rw [e]
abbrev placeF (l : List PairX) (k : ByteArray) : Int := firstF PairX.key l k
abbrev lastF (l : List RepM) (c : Int) : Int := firstF (fun r : RepM => r.x.client) l c

set_option maxRecDepth 100000 in
set_option maxHeartbeats 4000000 in
theorem place10_any (s : StM) (hn : s.ps.length ≤ 1000000) (key : ByteArray) (w : World) (hS : s.See w w.heap.size) :
    Calls Tryz.prog 9 #[.agg s.cells, .string key] w fun e w' => e = .returned (.int .i64 (placeF s.ps key)) ∧ PlaceIs s.ps key (placeF s.ps key) ∧ Below w.heap.size w w' := by
  obtain ⟨w1, hw1⟩ : ∃ w1, w1 = w.alloc (.cells s.cells 28) := ⟨_, rfl⟩
  have HX : Hid (Box w1 w.heap.size 28 s.cells) := by rw [hw1]; exact Box.made w _ _
  have HF : Hid (Below w.heap.size w w1) := by rw [hw1]; exact (Below.refl _ _).alloc (Nat.le_refl _) _
  have HS := Lib.hid (EK.See.far hS.ps HF.out)
  have HN := Lib.hid hn
  have c0 : w1.cell? ⟨w.heap.size, 0, none⟩ = some (.slice s.pA s.ps.length s.pc) := HX.out.cell 0
  clear hS hn HX
  go_enter Tryz.func9, Tryz.ntmps9
  go_upto_region 1 with fail
  change Code.wp _ _ _ _ (w.alloc (.cells s.cells 28))
  rw [← hw1]
  clear hw1
  go_wp2
  clear c0
  go_loopw [10] (fun i wr => ∃ k : Nat, k ≤ s.ps.length ∧ i = .int .i64 (k : Int) ∧ Hid (∀ j (hj : j < s.ps.length), j < k → (s.ps[j]'hj).key ≠ key) ∧ Hid (Below w1.heap.size w1 wr)) (fun i _ => s.ps.length - (intOf i).toNat)
  case atStart => exact ⟨0, Nat.zero_le _, rfl, Lib.hid (fun j _ h => absurd h (by omega)), Lib.hid (Below.refl _ _)⟩
  case round =>
    obtain ⟨k, hk, rfl, HQ, HW⟩ := hrel
    by_cases hlt : k < s.ps.length
    · obtain ⟨g, o, hA, _, hr⟩ := EK.See.range (EK.See.far HS.out HW.out) hlt
      have lk : (ldPr (.pointer (some ⟨g, o + k * 2, none⟩))).run Tryz.prog wr = .ok (.agg #[.string (s.ps[k]'hlt).key, .string (s.ps[k]'hlt).val]) wr := range_pr (w := wr) (ky := (s.ps[k]'hlt).key) (vl := (s.ps[k]'hlt).val) (hr k hlt)
      rw [hA]
      obtain ⟨w3, hst, hb3, hbl3, _⟩ := laid_pr wr #[.string ⟨#[]⟩, .string ⟨#[]⟩] rfl (s.ps[k]'hlt).key (s.ps[k]'hlt).val
      have HB3 := Lib.hid hb3
      have HW3 := Lib.hid (HW.out.trans (hbl3.mono HW.out.size))
      have HLT := Lib.hid hlt
      have i1 : (k : Int) < (s.ps.length : Int) := by omega
      have i0 : (0 : Int) ≤ (k : Int) := by omega
      have wk : IntKind.i64.wrap ((k : Int) + 1) = ((k + 1 : Nat) : Int) := by rw [IntKind.wrap_i64]; have := HN.out; omega
      have HYES : Hid ((s.ps[k]'hlt).key = key → placeF s.ps key = (k : Int) ∧ PlaceIs s.ps key (k : Int)) := Lib.hid (fun e => ⟨firstF_at hlt e HQ.out, .inl ⟨k, hlt, rfl, look_first hlt e HQ.out⟩⟩)
      have HNO : Hid ((s.ps[k]'hlt).key ≠ key → ∀ j (hj : j < s.ps.length), j < k + 1 → (s.ps[j]'hj).key ≠ key) := Lib.hid (fun e j hj hjk => by
        by_cases e2 : j = k
        · subst e2; exact e
        · exact HQ.out j hj (by omega))
      generalize (s.ps[k]'hlt).key = x at *
      generalize (s.ps[k]'hlt).val = y at *
      clear hr hb3 hbl3 hA
      go_upto_region 4 with fail
      clear hst lk
      have c0 : w3.cell? ⟨wr.heap.size, 0, none⟩ = some (.string x) := HB3.out.cell 0
      generalize wr.heap.size = m3 at *
      by_cases e : x = key
      · subst e
        have HP := Lib.hid (HYES.out rfl)
        clear HYES HNO HQ
        go_wp2
        go_ret
        rw [HP.out.1]
        exact ⟨rfl, HP.out.2, HF.out.trans (HW3.out.mono HF.out.size)⟩
      · have e1 : (x.toList == key.toList) = false := by
          rw [beq_eq_false_iff_ne]
          exact fun h => e (str_eq h)
        have HQ2 := Lib.hid (HNO.out e)
        clear HYES HNO HQ
        go_wp2
        go_roundw
        case rel => exact ⟨k + 1, HLT.out, by go_num, HQ2, HW3⟩
        case measure => have := HLT.out; simp [intOf]; omega
    · have i1 : ¬ (k : Int) < (s.ps.length : Int) := by omega
      have HP : Hid (placeF s.ps key = -1 ∧ PlaceIs s.ps key (-1)) := Lib.hid (And.intro (firstF_none (fun j hj _ => HQ.out j hj (by omega))) <| .inr ⟨rfl, look_gone (fun j hj _ => HQ.out j hj (by omega))⟩)
      clear HQ hlt hk
      go_wp2
      go_ret
      rw [HP.out.1]
      exact ⟨rfl, HP.out.2, HF.out.trans (HW.out.mono HF.out.size)⟩
set_option maxRecDepth 100000 in
set_option maxHeartbeats 4000000 in
theorem last10_any (s : StM) (hn : s.rs.length ≤ 1000000) (c : Int) (w : World) (hS : s.See w w.heap.size) :
    Calls Tryz.prog 10 #[.agg s.cells, .int .i64 c] w fun e w' => e = .returned (.int .i64 (lastF s.rs c)) ∧ LastIs s.rs c (lastF s.rs c) ∧ Below w.heap.size w w' := by
  obtain ⟨w1, hw1⟩ : ∃ w1, w1 = w.alloc (.cells s.cells 28) := ⟨_, rfl⟩
  have HX : Hid (Box w1 w.heap.size 28 s.cells) := by rw [hw1]; exact Box.made w _ _
  have HF : Hid (Below w.heap.size w w1) := by rw [hw1]; exact (Below.refl _ _).alloc (Nat.le_refl _) _
  have HS := Lib.hid (EK.See.far hS.rs HF.out)
  have HN := Lib.hid hn
  have c0 : w1.cell? ⟨w.heap.size, 1, none⟩ = some (.slice s.rA s.rs.length s.rc) := HX.out.cell 1
  clear hS hn HX
  go_enter Tryz.func10, Tryz.ntmps10
  go_upto_region 1 with fail
  change Code.wp _ _ _ _ (w.alloc (.cells s.cells 28))
  rw [← hw1]
  clear hw1
  go_wp2
  clear c0
  go_loopw [10] (fun i wr => ∃ k : Nat, k ≤ s.rs.length ∧ i = .int .i64 (k : Int) ∧ Hid (∀ j (hj : j < s.rs.length), j < k → (s.rs[j]'hj).x.client ≠ c) ∧ Hid (Below w1.heap.size w1 wr)) (fun i _ => s.rs.length - (intOf i).toNat)
  case atStart => exact ⟨0, Nat.zero_le _, rfl, Lib.hid (fun j _ h => absurd h (by omega)), Lib.hid (Below.refl _ _)⟩
  case round =>
    obtain ⟨k, hk, rfl, HQ, HW⟩ := hrel
    by_cases hlt : k < s.rs.length
    · obtain ⟨g, o, hA, _, hr⟩ := EK.See.range (EK.See.far HS.out HW.out) hlt
      have lk : (ldRp (.pointer (some ⟨g, o + k * 4, none⟩))).run Tryz.prog wr = .ok (.agg (repv (s.rs[k]'hlt).x.client (s.rs[k]'hlt).x.num (s.rs[k]'hlt).x.code (s.rs[k]'hlt).A (s.rs[k]'hlt).x.vals.length (s.rs[k]'hlt).z)) wr := range_rp (hr k hlt)
      rw [hA]
      obtain ⟨w3, hst, hb3, hbl3, _⟩ := laid_rp wr (repv 0 0 0 none 0 0) rfl (s.rs[k]'hlt).x.client (s.rs[k]'hlt).x.num (s.rs[k]'hlt).x.code (s.rs[k]'hlt).A (s.rs[k]'hlt).x.vals.length (s.rs[k]'hlt).z
      have HB3 := Lib.hid hb3
      have HW3 := Lib.hid (HW.out.trans (hbl3.mono HW.out.size))
      have HLT := Lib.hid hlt
      have i1 : (k : Int) < (s.rs.length : Int) := by omega
      have i0 : (0 : Int) ≤ (k : Int) := by omega
      have wk : IntKind.i64.wrap ((k : Int) + 1) = ((k + 1 : Nat) : Int) := by rw [IntKind.wrap_i64]; have := HN.out; omega
      have HYES : Hid ((s.rs[k]'hlt).x.client = c → lastF s.rs c = (k : Int) ∧ LastIs s.rs c (k : Int)) := Lib.hid (fun e => ⟨firstF_at hlt e HQ.out, .inl ⟨k, hlt, rfl, by
        have h : rLook c (s.rs.map RepM.x) = _ := look_map c s.rs
        rw [h, look_first (key := fun r : RepM => r.x.client) hlt e HQ.out]
        rfl⟩⟩)
      have HNO : Hid ((s.rs[k]'hlt).x.client ≠ c → ∀ j (hj : j < s.rs.length), j < k + 1 → (s.rs[j]'hj).x.client ≠ c) := Lib.hid (fun e j hj hjk => by
        by_cases e2 : j = k
        · subst e2; exact e
        · exact HQ.out j hj (by omega))
      generalize (s.rs[k]'hlt).x = x at *
      generalize (s.rs[k]'hlt).A = xA at *
      generalize (s.rs[k]'hlt).z = xz at *
      clear hr hb3 hbl3 hA
      go_upto_region 4 with fail
      clear hst lk
      have c0 : w3.cell? ⟨wr.heap.size, 0, none⟩ = some (.int .i64 x.client) := HB3.out.cell 0
      generalize wr.heap.size = m3 at *
      by_cases e : x.client = c
      · have HP := Lib.hid (HYES.out e)
        clear HYES HNO HQ
        go_wp2
        go_ret
        rw [HP.out.1]
        exact ⟨rfl, HP.out.2, HF.out.trans (HW3.out.mono HF.out.size)⟩
      · have e1 : (x.client == c) = false := by simpa using e
        have HQ2 := Lib.hid (HNO.out e)
        clear HYES HNO HQ
        go_wp2
        go_roundw
        case rel => exact ⟨k + 1, HLT.out, by go_num, HQ2, HW3⟩
        case measure => have := HLT.out; simp [intOf]; omega
    · have i1 : ¬ (k : Int) < (s.rs.length : Int) := by omega
      have HP : Hid (lastF s.rs c = -1 ∧ LastIs s.rs c (-1)) := Lib.hid (And.intro (firstF_none (fun j hj _ => HQ.out j hj (by omega))) <| .inr ⟨rfl, by
        have h : rLook c (s.rs.map RepM.x) = _ := look_map c s.rs
        rw [h, look_gone (key := fun r : RepM => r.x.client) (fun j hj _ => HQ.out j hj (by omega))]
        rfl⟩)
      clear HQ hlt hk
      go_wp2
      go_ret
      rw [HP.out.1]
      exact ⟨rfl, HP.out.2, HF.out.trans (HW.out.mono HF.out.size)⟩
set_option maxRecDepth 100000 in
theorem firstF_is {α K : Type} [DecidableEq K] (key : α → K) (l : List α) (k : K) : (∃ (i : Nat) (hi : i < l.length), firstF key l k = (i : Int) ∧ lookK key k l = some (l[i]'hi)) ∨ firstF key l k = -1 ∧ lookK key k l = none := by
  cases e : l.findIdx? (fun x => decide (key x = k)) with
  | some i =>
    obtain ⟨hi, h1, h2⟩ := List.findIdx?_eq_some_iff_getElem.1 e
    refine .inl ⟨i, hi, ?_, look_first hi (by simpa using h1) (fun j hj hji => by simpa using h2 j hji)⟩
    unfold firstF
    rw [e]
  | none =>
    rw [List.findIdx?_eq_none_iff] at e
    refine .inr ⟨?_, look_none (fun x hx => by simpa using e x hx)⟩
    unfold firstF
    rw [List.findIdx?_eq_none_iff.2 e]
set_option maxRecDepth 100000 in
theorem placeF_is (l : List PairX) (k : ByteArray) : PlaceIs l k (placeF l k) := firstF_is PairX.key l k
set_option maxRecDepth 100000 in
theorem lastF_is (l : List RepM) (c : Int) : LastIs l c (lastF l c) := by
  have h : rLook c (l.map RepM.x) = _ := look_map c l
  rcases firstF_is (fun r : RepM => r.x.client) l c with ⟨i, hi, h1, h2⟩ | ⟨h1, h2⟩
  · exact .inl ⟨i, hi, h1, by rw [h, h2]; rfl⟩
  · exact .inr ⟨h1, by rw [h, h2]; rfl⟩
end Go.Proofs.YtbgbidgggjkmmaaGreatDoor
