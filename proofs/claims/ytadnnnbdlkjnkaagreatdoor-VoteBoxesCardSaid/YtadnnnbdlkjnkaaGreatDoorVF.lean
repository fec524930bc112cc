/-
  The document's box in memory; (*wapentakeref13.Box).Add.
  (*wapentakeref13.Box).For. Written by gen_vorfor.py.
  (*wapentakeref13.Box).Voters, Reached.
  (*wapentakeref13.Box).Winner.
  wapentakeref13.Same of votes that read alike.
-/
import Derived.Test.YtadnnnbdlkjnkaaGreatDoorVE
import Derived.Test.YtadnnnbdlkjnkaaGreatDoorNC
import Derived.Test.YtadnnnbdlkjnkaaGreatDoorKSame
namespace Go.Proofs.YtadnnnbdlkjnkaaGreatDoor
open Go.RowKit Go.Maps

/-- The document's box: a row of votes that is seen. -/
structure RBox (w : World) (p : Nat) (us : List VtM) : Prop where
  ex : ∃ A c, Box w p 30 #[.slice A us.length c] ∧ VtK.See w w.heap.size A us
set_option maxRecDepth 100000 in
theorem RBox.call {w w' : World} {p : Nat} {us : List VtM} (h : RBox w p us) (hb : Below w.heap.size w w') : RBox w' p us := by
  obtain ⟨A, c, h1, h2⟩ := h.ex
  exact ⟨A, c, h1.below hb h1.lt, EK.See.far h2 hb⟩
/-- The same in a box whose slice is named. -/
structure RBoxA (w : World) (p : Nat) (us : List VtM) (A : Option Addr) (c : Nat) : Prop where
  box : Box w p 30 #[.slice A us.length c]
  see : VtK.See w w.heap.size A us
set_option maxRecDepth 100000 in
theorem RBoxA.call {w w' : World} {p c : Nat} {A : Option Addr} {us : List VtM} (h : RBoxA w p us A c) (hb : Below w.heap.size w w') : RBoxA w' p us A c := ⟨h.box.below hb h.box.lt, EK.See.far h.see hb⟩
def addM (us : List VtM) (m : VtM) : List VtM := if hasPl (us.map VtM.x) m.x then us else us ++ [m]
set_option maxRecDepth 100000 in
theorem addM_x (us : List VtM) (m : VtM) : (addM us m).map VtM.x = addX (us.map VtM.x) m.x := by
  unfold addM addX
  split <;> simp
set_option maxRecDepth 100000 in
theorem addM_len (us : List VtM) (m : VtM) : (addM us m).length ≤ us.length + 1 := by
  unfold addM
  split <;> simp
set_option maxRecDepth 100000 in
theorem mem_addM {us : List VtM} {m u : VtM} (h : u ∈ addM us m) : u ∈ us ∨ u = m := by
  unfold addM at h
  split at h
  · exact .inl h
  · rcases List.mem_append.1 h with h | h
    · exact .inl h
    · exact .inr (List.mem_singleton.1 h)
set_option maxRecDepth 100000 in
theorem hasPl_take {us : List VtM} {k : Nat} (h : k < us.length) (x : VtX) : hasPl ((us.take (k + 1)).map VtM.x) x = (hasPl ((us.take k).map VtM.x) x || samePl (us[k]'h).x x) := by
  unfold hasPl
  rw [List.take_succ_eq_append_getElem h, List.map_append, List.any_append]
  simp
set_option maxRecDepth 100000 in
/-- A vote taken out of a row into a block of its own. -/
theorem samePl_dec (a b : VtX) : samePl a b = (decide (a.kind = b.kind) && decide (a.round = b.round) && decide (a.frm = b.frm)) := rfl


/-! ### What the drawn region carries -/
structure W7 (w1 : World) (p : Nat) (us : List VtM) (A : Option Addr) (c q : Nat) (m : VtM) (fin : Bool) (v1 : Value) (xs1 : List VtM) (A8 : Option Addr) (e8 : List VtM) (w : World) : Prop where
  rb : RBoxA w p us A c
  vote : Box w q 37 m.cells.toArray
  own : VtK.Own w w1.heap.size v1 xs1
  see : VtK.See w w.heap.size A8 e8
  lt : ∀ a, A8 = some a → a.block < w.heap.size
  apart : fin = true ∨ ∀ a, A8 = some a → v1.ownBlock ≠ some a.block
  far : Below w1.heap.size w1 w
section
variable {w1 w : World} {p c q : Nat} {us xs1 e8 : List VtM} {A A8 : Option Addr} {m : VtM} {fin : Bool} {v1 : Value}
set_option maxRecDepth 100000 in
theorem W7.c0 (h : W7 w1 p us A c q m fin v1 xs1 A8 e8 w) : w.cell? ⟨p, 0, none⟩ = some (.slice A us.length c) := h.rb.box.cell 0
set_option maxRecDepth 100000 in
theorem own_lt13 {base n s : Nat} {e : TypeId} {v : Value} {xs : List Value} (h : w.ownsRow base e s v n xs) : ∀ g, v.ownBlock = some g → g < w.heap.size := by
  intro g hg
  rcases h.2 with ⟨rfl, _⟩ | ⟨g', cap, cur, rfl, _, hb, _⟩
  · simp [Value.ownBlock] at hg
  · simp [Value.ownBlock] at hg
    subst hg
    exact (Array.getElem?_eq_some_iff.1 hb).1
set_option maxRecDepth 100000 in
theorem W7.lit0 (h : W7 w1 p us A c q m fin (.slice none 0 0) [] A8 e8 w) : ∃ w' g, (bsT 22 0 #[]).run Tryz.prog w = .ok (.slice (some ⟨g, 0, none⟩) 0 0) w' ∧ W7 w1 p us A c q m fin (.slice (some ⟨g, 0, none⟩) 0 0) [] A8 e8 w' := by
  have hb : Below w.heap.size w (w.alloc (.cells #[] 37)) := (Below.refl _ _).alloc (Nat.le_refl _) _
  refine ⟨_, _, VtK.build0 w, ⟨h.rb.call hb, h.vote.below hb h.vote.lt, VtK.own0 w h.far.size, EK.See.far h.see hb, fun a ha => Nat.lt_of_lt_of_le (h.lt a ha) hb.size, .inr fun a ha e => ?_, h.far.trans (hb.mono h.far.size)⟩⟩
  have := h.lt a ha
  simp [Value.ownBlock] at e
  omega
set_option maxRecDepth 100000 in
theorem W7.lit8 (h : W7 w1 p us A c q m fin v1 xs1 none [] w) : ∃ w' g, (bsT 22 1 #[(0, .agg m.cells.toArray)]).run Tryz.prog w = .ok (.slice (some ⟨g, 0, none⟩) 1 1) w' ∧ W7 w1 p us A c q m fin v1 xs1 (some ⟨g, 0, none⟩) [m] w' := by
  have hb : Below w.heap.size w (w.alloc (.cells m.cells.toArray 37)) := (Below.refl _ _).alloc (Nat.le_refl _) _
  refine ⟨_, _, VtK.build1 m (.agg m.cells.toArray) rfl (by decide) w, ⟨h.rb.call hb, h.vote.below hb h.vote.lt, EK.Own.keep h.own hb, VtK.see_one w m, fun a ha => ?_, .inr fun a ha e => ?_, h.far.trans (hb.mono h.far.size)⟩⟩
  · injection ha with ha
    subst ha
    show _ < (w.alloc (.cells m.cells.toArray 37)).heap.size
    simp
  · injection ha with ha
    subst ha
    have := own_lt13 h.own _ e
    simp at this
set_option maxRecDepth 100000 in
theorem W7.app6 {g : Nat} (h : W7 w1 p us A c q m false (.slice (some ⟨g, 0, none⟩) 0 0) [] A8 e8 w) (hA : A8 = none ∧ e8 = [] ∨ ∃ g8, A8 = some ⟨g8, 0, none⟩) (hp : p < w1.heap.size) (hq : q < w1.heap.size) (hl : us.length < 1000000) (hAl : ∀ a, A = some a → us ≠ [] → a.block < w1.heap.size) :
    ∃ w' A6 c6, (apAll #[22, 22] 22 #[.slice (some ⟨g, 0, none⟩) 0 0, .slice A us.length c]).run Tryz.prog w = .ok (.slice A6 us.length c6) w' ∧ W7 w1 p us A c q m true (.slice A6 us.length c6) us A8 e8 w' := by
  have hl2 : us.length * 152 ≤ 152000000 := by omega
  obtain ⟨v6, w', hap, ho, hg⟩ := VtK.append h.own (A := A) (m := us.length) (c := c) (es := us) rfl h.rb.see (by simp; omega) (by show (([] : List VtM).length + us.length) * 152 ≤ _; simp; omega) h.far.size
  rw [List.nil_append] at ho
  obtain ⟨A6, c6, rfl⟩ := ho.slice
  have hgo : (Value.slice (some ⟨g, 0, none⟩) 0 0).ownBlock = some g := rfl
  have hge : w1.heap.size ≤ g := own_ge h.own g hgo
  have hbl : Below w1.heap.size w w' := below_own h.own hg h.far.size
  refine ⟨w', A6, c6, hap, ⟨⟨h.rb.box.grown hg (fun e => by rw [hgo] at e; injection e with e; omega), ?_⟩, h.vote.grown hg (fun e => by rw [hgo] at e; injection e with e; omega), ho, ?_, fun a ha => Nat.lt_of_lt_of_le (h.lt a ha) hg.size, .inl rfl, h.far.trans hbl⟩⟩
  · rcases h.rb.see with h0 | ⟨g', o', e, hlt, hc⟩
    · exact .inl h0
    · exact .inr ⟨g', o', e, Nat.lt_of_lt_of_le hlt hg.size, fun j u hu => hg.cell (hc j u hu) (fun e2 => by have h9 := hAl _ e (fun e0 => by rw [e0] at hu; cases hu); rw [hgo] at e2; injection e2 with e2; have e3 : g' = g := e2; simp at h9; omega)⟩
  · rcases hA with ⟨rfl, rfl⟩ | ⟨g8, rfl⟩
    · exact .inl rfl
    · have hne : (Value.slice (some ⟨g, 0, none⟩) 0 0).ownBlock ≠ some g8 := by
        rcases h.apart with h0 | h0
        · cases h0
        · exact h0 _ rfl
      rcases h.see with h0 | ⟨g', o', e, hlt, hc⟩
      · exact .inl h0
      · injection e with e
        injection e with e1 e2
        subst e1
        exact .inr ⟨g8, o', by rw [← e2], Nat.lt_of_lt_of_le hlt hg.size, fun j u hu => hg.cell (hc j u hu) (fun e => hne e.symm)⟩
set_option maxRecDepth 100000 in
theorem W7.app9 {A6 : Option Addr} {c6 g8 : Nat} (h : W7 w1 p us A c q m true (.slice A6 us.length c6) us (some ⟨g8, 0, none⟩) [m] w) (hp : p < w1.heap.size) (hq : q < w1.heap.size) (hl : us.length < 1000000) :
    ∃ w' A9 c9, (apAll #[22, 22] 22 #[.slice A6 us.length c6, .slice (some ⟨g8, 0, none⟩) 1 1]).run Tryz.prog w = .ok (.slice A9 (us.length + 1) c9) w' ∧ VtK.Own w' w1.heap.size (.slice A9 (us.length + 1) c9) (us ++ [m]) ∧ Box w' p 30 #[.slice A us.length c] ∧ Box w' q 37 m.cells.toArray ∧ Below w1.heap.size w1 w' := by
  obtain ⟨v9, w', hap, ho, hg⟩ := VtK.append h.own (A := some ⟨g8, 0, none⟩) (m := 1) (c := 1) (es := [m]) rfl h.see (by omega) (by show (us.length + 1) * 152 ≤ _; omega) h.far.size
  obtain ⟨A9, c9, e9⟩ := ho.slice
  have hn : (us ++ [m]).length = us.length + 1 := by simp
  rw [hn] at e9
  subst e9
  have hge := own_ge h.own
  refine ⟨w', A9, c9, hap, ho, h.rb.box.grown hg (fun e => by have := hge p e.symm; omega), h.vote.grown hg (fun e => by have := hge q e.symm; omega), h.far.trans (below_own h.own hg h.far.size)⟩
end

set_option maxRecDepth 100000 in
theorem see_lt {w : World} {us : List VtM} {A : Option Addr} (h : VtK.See w w.heap.size A us) : ∀ a, A = some a → us ≠ [] → a.block < w.heap.size := by
  rintro a rfl hne
  rcases h with h0 | ⟨g, o, e, hlt, _⟩
  · exfalso
    have hl := VtK.flat_len us
    rw [h0] at hl
    have h1 : us.length * 41 = 0 := hl.symm
    exact hne (List.eq_nil_of_length_eq_zero (by omega))
  · injection e with e
    subst e
    exact hlt
set_option maxRecDepth 100000 in
theorem radd_end {w w1 w9 : World} {p c c9 : Nat} {us : List VtM} {m : VtM} {A A9 : Option Addr} (hh : hasPl (us.map VtM.x) m.x = false) (hp : p < w.heap.size) (hF : Below w.heap.size w w1)
    (ho : VtK.Own w9 w1.heap.size (.slice A9 (us.length + 1) c9) (us ++ [m])) (hb : Box w9 p 30 #[.slice A us.length c]) (hf : Below w1.heap.size w1 w9) :
    RBox (w9.setCell ⟨p, 0, none⟩ (.slice A9 (us.length + 1) c9)) p (addM us m) ∧ w.grownBy (w9.setCell ⟨p, 0, none⟩ (.slice A9 (us.length + 1) c9)) (some p) := by
  have hg : w9.grownBy (w9.setCell ⟨p, 0, none⟩ (.slice A9 (us.length + 1) c9)) (some p) := only_put (only_refl _ _) 0 _
  have h1 := hb.put 0 (.slice A9 (us.length + 1) c9)
  have hsz := hF.size
  have ho2 : VtK.Own (w9.setCell ⟨p, 0, none⟩ (.slice A9 (us.length + 1) c9)) w1.heap.size (.slice A9 (us.length + 1) c9) (us ++ [m]) := World.ownsRow.kept ho hg (by
    cases A9 with
    | none => exact .inl rfl
    | some ad => exact .inr (fun e => by have := own_ge ho p e; omega))
  refine ⟨⟨⟨A9, c9, ?_, ?_⟩⟩, ?_⟩
  · unfold addM
    rw [hh]
    simpa using h1
  · unfold addM
    rw [hh]
    exact EK.Own.see ho2
  · exact (only_below (hF.trans (hf.mono hF.size)) none).but (some p) |>.andThen hg (fun j hj => .inr (by rw [hj]))

attribute [local go_sem ↓] ldVt_def stVt_def alVt_def bsT_def apAll_def
set_option maxRecDepth 100000 in
set_option maxHeartbeats 4000000 in
theorem radd_any (p : Nat) (us : List VtM) (m : VtM) (hl : us.length < 1000000) (w : World) (hB : RBox w p us) :
    Calls Tryz.prog 9 #[.pointer (some ⟨p, 0, none⟩), .agg m.cells.toArray] w fun e w' => e = .returned (.bool (!hasPl (us.map VtM.x) m.x)) ∧ RBox w' p (addM us m) ∧ w.grownBy w' (some p) := by
  obtain ⟨A, c, hbx, hse⟩ := hB.ex
  obtain ⟨w1, hw1⟩ : ∃ w1, w1 = w.alloc (.cells m.cells.toArray 37) := ⟨_, rfl⟩
  have HX : Hid (Box w1 w.heap.size 37 m.cells.toArray) := by rw [hw1]; exact Box.made w _ _
  have HF : Hid (Below w.heap.size w w1) := by rw [hw1]; exact (Below.refl _ _).alloc (Nat.le_refl _) _
  have HB : Hid (RBoxA w1 p us A c) := Lib.hid (RBoxA.call ⟨hbx, hse⟩ HF.out)
  have HL := Lib.hid hl
  have HPL : Hid (p < w.heap.size) := Lib.hid hbx.lt
  clear hbx hse hB hl
  have c0 : w1.cell? ⟨p, 0, none⟩ = some (.slice A us.length c) := HB.out.box.cell 0
  go_enter Tryz.func9, Tryz.ntmps9
  go_upto_region 1 with fail
  change Code.wp _ _ _ _ (w.alloc (.cells m.cells.toArray 37))
  rw [← hw1]
  clear hw1
  go_wp2
  clear c0
  go_loopw [12] (fun i wr => ∃ k : Nat, k ≤ us.length ∧ i = .int .i64 (k : Int) ∧ Hid (hasPl ((us.take k).map VtM.x) m.x = false) ∧ Hid (Below w1.heap.size w1 wr)) (fun i _ => us.length - (intOf i).toNat)
  case atStart => exact ⟨0, Nat.zero_le _, rfl, Lib.hid rfl, Lib.hid (Below.refl _ _)⟩
  case round =>
    obtain ⟨k, hk, rfl, HN, HW⟩ := hrel
    by_cases hlt : k < us.length
    · have HLT := Lib.hid hlt
      obtain ⟨g, o, rfl, _, hr⟩ := EK.See.range (HB.out.call HW.out).see hlt
      have lk : (ldVt (.pointer (some ⟨g, o + k * 41, none⟩))).run Tryz.prog wr = .ok (.agg (us[k]'hlt).cells.toArray) wr := range_vt (us[k]'hlt).x.len (hr k hlt)
      have HT := Lib.hid (hasPl_take hlt m.x)
      rw [HN.out, Bool.false_or] at HT
      have i1 : (k : Int) < (us.length : Int) := by omega
      have i0 : (0 : Int) ≤ (k : Int) := by omega
      have wk : IntKind.i64.wrap ((k : Int) + 1) = ((k + 1 : Nat) : Int) := by rw [IntKind.wrap_i64]; have := HL.out; omega
      have HMEM := Lib.hid (List.getElem_mem hlt)
      generalize us[k]'hlt = u at *
      obtain ⟨w5, hst5, hb5, hbl5⟩ := laid_vt wr u
      have hal := al_vt
      have HW5 := Lib.hid hb5
      have HF5 := Lib.hid (HW.out.trans (hbl5.mono HW.out.size))
      have HX5 := Lib.hid (HX.out.below HF5.out HX.out.lt)
      clear hr hb5 hbl5
      go_upto_region 4 with fail
      clear lk hst5 hal
      have u0 : w5.cell? ⟨wr.heap.size, 0, none⟩ = some (.int .i64 u.x.kind) := HW5.out.vt_0
      have u3 : w5.cell? ⟨wr.heap.size, 3, none⟩ = some (.int .i64 u.x.round) := HW5.out.vt_3
      have u5 : w5.cell? ⟨wr.heap.size, 36, none⟩ = some (.int .i64 u.x.frm) := HW5.out.vt_36 u.x.len
      have m0 : w5.cell? ⟨w.heap.size, 0, none⟩ = some (.int .i64 m.x.kind) := HX5.out.vt_0
      have m3 : w5.cell? ⟨w.heap.size, 3, none⟩ = some (.int .i64 m.x.round) := HX5.out.vt_3
      have m5 : w5.cell? ⟨w.heap.size, 36, none⟩ = some (.int .i64 m.x.frm) := HX5.out.vt_36 m.x.len
      by_cases h : samePl u.x m.x = true
      · obtain ⟨e1, e2, e3⟩ := samePl_iff.1 h
        have HH : Hid (hasPl (us.map VtM.x) m.x = true) := Lib.hid (by
          unfold hasPl
          rw [List.any_map, List.any_eq_true]
          exact ⟨u, HMEM.out, h⟩)
        rw [e1] at u0
        rw [e2] at u3
        rw [e3] at u5
        clear h e1 e2 e3
        go_wp2
        go_ret
        refine ⟨by rw [HH.out]; rfl, ?_, ?_⟩
        · unfold addM
          rw [HH.out]
          have h := HB.out.call HF5.out
          exact ⟨⟨_, _, h.box, h.see⟩⟩
        · exact (only_below (HF.out.trans (HF5.out.mono HF.out.size)) none).but _
      · have h' : samePl u.x m.x = false := by simpa using h
        have HT2 : Hid (hasPl ((us.take (k + 1)).map VtM.x) m.x = false) := Lib.hid (by rw [HT.out, h'])
        have h3 : ¬ (u.x.kind = m.x.kind ∧ u.x.round = m.x.round ∧ u.x.frm = m.x.frm) := fun e => h (samePl_iff.2 e)
        clear h h'
        by_cases e1 : u.x.kind = m.x.kind
        · by_cases e2 : u.x.round = m.x.round
          · have e3 : ¬ u.x.frm = m.x.frm := fun e3 => h3 ⟨e1, e2, e3⟩
            go_wp2
            go_roundw
            case rel => exact ⟨k + 1, HLT.out, by go_num, HT2, HF5⟩
            case measure => have := HLT.out; simp [intOf]; omega
          · clear h3
            go_wp2
            go_roundw
            case rel => exact ⟨k + 1, HLT.out, by go_num, HT2, HF5⟩
            case measure => have := HLT.out; simp [intOf]; omega
        · clear h3
          go_wp2
          go_roundw
          case rel => exact ⟨k + 1, HLT.out, by go_num, HT2, HF5⟩
          case measure => have := HLT.out; simp [intOf]; omega
    · have i1 : ¬ (k : Int) < (us.length : Int) := by omega
      have HH : Hid (hasPl (us.map VtM.x) m.x = false) := Lib.hid (by
        have h := HN.out
        rw [List.take_of_length_le (by omega)] at h
        exact h)
      clear HN
      go_upto_region 7 with fail
      obtain ⟨u7, hu7⟩ : ∃ u7, u7 = wr.drew := ⟨_, rfl⟩
      have hbd : Below w1.heap.size w1 u7 := by rw [hu7]; exact HW.out.drew
      have HS0 : Hid (W7 w1 p us A c w.heap.size m false (.slice none 0 0) [] none [] u7) := Lib.hid ⟨HB.out.call hbd, HX.out.below hbd HX.out.lt, EK.own_nil _ _ _, .inl rfl, (fun a ha => (by cases ha)), .inr (fun a ha => (by cases ha)), hbd⟩
      have HV7 : Hid (∀ w', Box w' w.heap.size 37 m.cells.toArray → (ldVt (.pointer (some ⟨w.heap.size, 0, none⟩))).run Tryz.prog w' = .ok (.agg m.cells.toArray) w') := Lib.hid (fun w' hw' => hw'.ld_vt)
      have HP1 : Hid (p < w1.heap.size) := Lib.hid HB.out.box.lt
      have HQ1 : Hid (w.heap.size < w1.heap.size) := Lib.hid HX.out.lt
      have HAL : Hid (∀ a, A = some a → us ≠ [] → a.block < w1.heap.size) := Lib.hid (fun a ha hne => see_lt HB.out.see a ha hne)
      clear hbd HB HX HW
      refine wp_region_held_drew (S := fun w' => Box w' w.heap.size 37 m.cells.toArray) (by kernel_rfl) (by rw [← hu7]; exact HS0.out.vote) (fun hS => ?_)
      rw [← hu7] at hS ⊢
      clear hu7
      (refine take_at8 (i := 0) (d := 36) (v := .pointer (some ⟨p, 0, none⟩)) rfl (by kernel_rfl) (by kernel_rfl) (by kernel_rfl) (fun _ _ _ h => h) rfl (Or.inl ⟨by kernel_rfl, fun w hSw => by go_simp⟩) hS ?_)
      (refine take_at8 (i := 2) (d := 38) (v := .pointer (some ⟨p, 0, none⟩)) rfl (by kernel_rfl) (by kernel_rfl) (by kernel_rfl) (fun _ _ _ h => h) rfl (Or.inl ⟨by kernel_rfl, fun w hSw => by go_simp⟩) hS ?_)
      (refine take_at8 (i := 3) (d := 39) (v := .pointer (some ⟨p, 0, none⟩)) rfl (by kernel_rfl) (by kernel_rfl) (by kernel_rfl) (fun _ _ _ h => h) rfl (Or.inl ⟨by kernel_rfl, fun w hSw => by go_simp⟩) hS ?_)
      (refine take_at8 (i := 4) (d := 40) (v := .pointer (some ⟨p, 0, none⟩)) rfl (by kernel_rfl) (by kernel_rfl) (by kernel_rfl) (fun _ _ _ h => h) rfl (Or.inl ⟨by kernel_rfl, fun w hSw => by go_simp⟩) hS ?_)
      (refine take_at8 (i := 7) (d := 43) (v := .agg m.cells.toArray) rfl (by kernel_rfl) (by kernel_rfl) (by kernel_rfl) (fun _ _ _ h => h) rfl (Or.inl ⟨by kernel_rfl, fun w hSw => by have hc := HV7.out w hSw; go_simp⟩) hS ?_)
      refine wpAnyH_ready (rs := [1, 5, 8]) (by decide +kernel) (by simp) (AllReadyH.cons rfl (fun K hK => ?_) (AllReadyH.cons rfl (fun K hK => ?_) (AllReadyH.cons rfl (fun K hK => ?_) AllReadyH.nil)))
      · obtain ⟨x0, g0, hr, hs⟩ := HS0.out.lit0
        go_simp
        refine hK.out _ _ hs.vote (fun hS => ?_)
        clear hK K hr
        (try simp only [Act.put])
        have HS1 := Lib.hid hs
        clear hs HS0
        refine wpAnyH_ready (rs := [5, 8]) (by decide +kernel) (by simp) (AllReadyH.cons rfl (fun K hK => ?_) (AllReadyH.cons rfl (fun K hK => ?_) AllReadyH.nil))
        · have c5 := HS1.out.c0
          go_simp
          refine hK.out _ _ hS (fun hS => ?_)
          clear hK K c5
          (try simp only [Act.put])
          have HS2 := HS1
          clear HS1
          refine wpAnyH_ready (rs := [6, 8]) (by decide +kernel) (by simp) (AllReadyH.cons rfl (fun K hK => ?_) (AllReadyH.cons rfl (fun K hK => ?_) AllReadyH.nil))
          · obtain ⟨x2, A6, c6, hr, hs⟩ := HS2.out.app6 (Or.inl ⟨rfl, rfl⟩) HP1.out HQ1.out HL.out HAL.out
            go_simp
            refine hK.out _ _ hs.vote (fun hS => ?_)
            clear hK K hr
            (try simp only [Act.put])
            have HS3 := Lib.hid hs
            clear hs HS2
            refine wpAnyH_ready (rs := [8]) (by decide +kernel) (by simp) (AllReadyH.cons rfl (fun K hK => ?_) AllReadyH.nil)
            obtain ⟨x3, g3, hr, hs⟩ := HS3.out.lit8
            go_simp
            refine hK.out _ _ hs.vote (fun hS => ?_)
            clear hK K hr
            (try simp only [Act.put])
            have HS4 := Lib.hid hs
            clear hs HS3
            obtain ⟨x9, A9, c9, hr9, ho9, hb9, hv9, hf9⟩ := HS4.out.app9 HP1.out HQ1.out HL.out
            refine wpAnyH_ready (rs := [9]) (by decide +kernel) (by simp) (AllReadyH.cons rfl (fun K hK => ?_) AllReadyH.nil)
            go_simp
            refine hK.out _ _ hv9 (fun hS => ?_)
            clear hK K
            (try simp only [Act.put])
            clear hr9 HS4
            (refine take_at8 (i := 10) (d := 46) (v := .pointer (some ⟨p, 0, none⟩)) rfl (by kernel_rfl) (by kernel_rfl) (by kernel_rfl) (fun _ _ _ h => h) rfl (Or.inl ⟨by kernel_rfl, fun w hSw => by go_simp⟩) hS ?_)
            (refine take_at8 (i := 11) (d := 47) (v := .pointer (some ⟨p, 0, none⟩)) rfl (by kernel_rfl) (by kernel_rfl) (by kernel_rfl) (fun _ _ _ h => h) rfl (Or.inl ⟨by kernel_rfl, fun w hSw => by go_simp⟩) hS ?_)
            have f9 := hb9.free 0
            have c9' := hb9.cell 0
            refine wpAnyH_ready (rs := [12]) (by decide +kernel) (by simp) (AllReadyH.cons rfl (fun K hK => ?_) AllReadyH.nil)
            go_simp
            refine hK.out _ _ (hv9.aside (p := ⟨p, 0, none⟩) (fun e => by have := HPL.out; have e' : w.heap.size = p := e; omega) _) (fun hS => ?_)
            clear hK K f9 c9'
            (try simp only [Act.put])
            refine wpAnyH_done (by kernel_rfl) ?_ _
            go_simp
            go_wp2
            go_ret
            exact ⟨by rw [HH.out]; rfl, radd_end HH.out HPL.out HF.out ho9 hb9 hf9⟩
          · obtain ⟨x2, g2, hr, hs⟩ := HS2.out.lit8
            go_simp
            refine hK.out _ _ hs.vote (fun hS => ?_)
            clear hK K hr
            (try simp only [Act.put])
            have HS3 := Lib.hid hs
            clear hs HS2
            refine wpAnyH_ready (rs := [6]) (by decide +kernel) (by simp) (AllReadyH.cons rfl (fun K hK => ?_) AllReadyH.nil)
            obtain ⟨x3, A6, c6, hr, hs⟩ := HS3.out.app6 (Or.inr ⟨_, rfl⟩) HP1.out HQ1.out HL.out HAL.out
            go_simp
            refine hK.out _ _ hs.vote (fun hS => ?_)
            clear hK K hr
            (try simp only [Act.put])
            have HS4 := Lib.hid hs
            clear hs HS3
            obtain ⟨x9, A9, c9, hr9, ho9, hb9, hv9, hf9⟩ := HS4.out.app9 HP1.out HQ1.out HL.out
            refine wpAnyH_ready (rs := [9]) (by decide +kernel) (by simp) (AllReadyH.cons rfl (fun K hK => ?_) AllReadyH.nil)
            go_simp
            refine hK.out _ _ hv9 (fun hS => ?_)
            clear hK K
            (try simp only [Act.put])
            clear hr9 HS4
            (refine take_at8 (i := 10) (d := 46) (v := .pointer (some ⟨p, 0, none⟩)) rfl (by kernel_rfl) (by kernel_rfl) (by kernel_rfl) (fun _ _ _ h => h) rfl (Or.inl ⟨by kernel_rfl, fun w hSw => by go_simp⟩) hS ?_)
            (refine take_at8 (i := 11) (d := 47) (v := .pointer (some ⟨p, 0, none⟩)) rfl (by kernel_rfl) (by kernel_rfl) (by kernel_rfl) (fun _ _ _ h => h) rfl (Or.inl ⟨by kernel_rfl, fun w hSw => by go_simp⟩) hS ?_)
            have f9 := hb9.free 0
            have c9' := hb9.cell 0
            refine wpAnyH_ready (rs := [12]) (by decide +kernel) (by simp) (AllReadyH.cons rfl (fun K hK => ?_) AllReadyH.nil)
            go_simp
            refine hK.out _ _ (hv9.aside (p := ⟨p, 0, none⟩) (fun e => by have := HPL.out; have e' : w.heap.size = p := e; omega) _) (fun hS => ?_)
            clear hK K f9 c9'
            (try simp only [Act.put])
            refine wpAnyH_done (by kernel_rfl) ?_ _
            go_simp
            go_wp2
            go_ret
            exact ⟨by rw [HH.out]; rfl, radd_end HH.out HPL.out HF.out ho9 hb9 hf9⟩
        · obtain ⟨x1, g1, hr, hs⟩ := HS1.out.lit8
          go_simp
          refine hK.out _ _ hs.vote (fun hS => ?_)
          clear hK K hr
          (try simp only [Act.put])
          have HS2 := Lib.hid hs
          clear hs HS1
          refine wpAnyH_ready (rs := [5]) (by decide +kernel) (by simp) (AllReadyH.cons rfl (fun K hK => ?_) AllReadyH.nil)
          have c5 := HS2.out.c0
          go_simp
          refine hK.out _ _ hS (fun hS => ?_)
          clear hK K c5
          (try simp only [Act.put])
          have HS3 := HS2
          clear HS2
          refine wpAnyH_ready (rs := [6]) (by decide +kernel) (by simp) (AllReadyH.cons rfl (fun K hK => ?_) AllReadyH.nil)
          obtain ⟨x3, A6, c6, hr, hs⟩ := HS3.out.app6 (Or.inr ⟨_, rfl⟩) HP1.out HQ1.out HL.out HAL.out
          go_simp
          refine hK.out _ _ hs.vote (fun hS => ?_)
          clear hK K hr
          (try simp only [Act.put])
          have HS4 := Lib.hid hs
          clear hs HS3
          obtain ⟨x9, A9, c9, hr9, ho9, hb9, hv9, hf9⟩ := HS4.out.app9 HP1.out HQ1.out HL.out
          refine wpAnyH_ready (rs := [9]) (by decide +kernel) (by simp) (AllReadyH.cons rfl (fun K hK => ?_) AllReadyH.nil)
          go_simp
          refine hK.out _ _ hv9 (fun hS => ?_)
          clear hK K
          (try simp only [Act.put])
          clear hr9 HS4
          (refine take_at8 (i := 10) (d := 46) (v := .pointer (some ⟨p, 0, none⟩)) rfl (by kernel_rfl) (by kernel_rfl) (by kernel_rfl) (fun _ _ _ h => h) rfl (Or.inl ⟨by kernel_rfl, fun w hSw => by go_simp⟩) hS ?_)
          (refine take_at8 (i := 11) (d := 47) (v := .pointer (some ⟨p, 0, none⟩)) rfl (by kernel_rfl) (by kernel_rfl) (by kernel_rfl) (fun _ _ _ h => h) rfl (Or.inl ⟨by kernel_rfl, fun w hSw => by go_simp⟩) hS ?_)
          have f9 := hb9.free 0
          have c9' := hb9.cell 0
          refine wpAnyH_ready (rs := [12]) (by decide +kernel) (by simp) (AllReadyH.cons rfl (fun K hK => ?_) AllReadyH.nil)
          go_simp
          refine hK.out _ _ (hv9.aside (p := ⟨p, 0, none⟩) (fun e => by have := HPL.out; have e' : w.heap.size = p := e; omega) _) (fun hS => ?_)
          clear hK K f9 c9'
          (try simp only [Act.put])
          refine wpAnyH_done (by kernel_rfl) ?_ _
          go_simp
          go_wp2
          go_ret
          exact ⟨by rw [HH.out]; rfl, radd_end HH.out HPL.out HF.out ho9 hb9 hf9⟩
      · have c5 := HS0.out.c0
        go_simp
        refine hK.out _ _ hS (fun hS => ?_)
        clear hK K c5
        (try simp only [Act.put])
        have HS1 := HS0
        clear HS0
        refine wpAnyH_ready (rs := [1, 8]) (by decide +kernel) (by simp) (AllReadyH.cons rfl (fun K hK => ?_) (AllReadyH.cons rfl (fun K hK => ?_) AllReadyH.nil))
        · obtain ⟨x1, g1, hr, hs⟩ := HS1.out.lit0
          go_simp
          refine hK.out _ _ hs.vote (fun hS => ?_)
          clear hK K hr
          (try simp only [Act.put])
          have HS2 := Lib.hid hs
          clear hs HS1
          refine wpAnyH_ready (rs := [6, 8]) (by decide +kernel) (by simp) (AllReadyH.cons rfl (fun K hK => ?_) (AllReadyH.cons rfl (fun K hK => ?_) AllReadyH.nil))
          · obtain ⟨x2, A6, c6, hr, hs⟩ := HS2.out.app6 (Or.inl ⟨rfl, rfl⟩) HP1.out HQ1.out HL.out HAL.out
            go_simp
            refine hK.out _ _ hs.vote (fun hS => ?_)
            clear hK K hr
            (try simp only [Act.put])
            have HS3 := Lib.hid hs
            clear hs HS2
            refine wpAnyH_ready (rs := [8]) (by decide +kernel) (by simp) (AllReadyH.cons rfl (fun K hK => ?_) AllReadyH.nil)
            obtain ⟨x3, g3, hr, hs⟩ := HS3.out.lit8
            go_simp
            refine hK.out _ _ hs.vote (fun hS => ?_)
            clear hK K hr
            (try simp only [Act.put])
            have HS4 := Lib.hid hs
            clear hs HS3
            obtain ⟨x9, A9, c9, hr9, ho9, hb9, hv9, hf9⟩ := HS4.out.app9 HP1.out HQ1.out HL.out
            refine wpAnyH_ready (rs := [9]) (by decide +kernel) (by simp) (AllReadyH.cons rfl (fun K hK => ?_) AllReadyH.nil)
            go_simp
            refine hK.out _ _ hv9 (fun hS => ?_)
            clear hK K
            (try simp only [Act.put])
            clear hr9 HS4
            (refine take_at8 (i := 10) (d := 46) (v := .pointer (some ⟨p, 0, none⟩)) rfl (by kernel_rfl) (by kernel_rfl) (by kernel_rfl) (fun _ _ _ h => h) rfl (Or.inl ⟨by kernel_rfl, fun w hSw => by go_simp⟩) hS ?_)
            (refine take_at8 (i := 11) (d := 47) (v := .pointer (some ⟨p, 0, none⟩)) rfl (by kernel_rfl) (by kernel_rfl) (by kernel_rfl) (fun _ _ _ h => h) rfl (Or.inl ⟨by kernel_rfl, fun w hSw => by go_simp⟩) hS ?_)
            have f9 := hb9.free 0
            have c9' := hb9.cell 0
            refine wpAnyH_ready (rs := [12]) (by decide +kernel) (by simp) (AllReadyH.cons rfl (fun K hK => ?_) AllReadyH.nil)
            go_simp
            refine hK.out _ _ (hv9.aside (p := ⟨p, 0, none⟩) (fun e => by have := HPL.out; have e' : w.heap.size = p := e; omega) _) (fun hS => ?_)
            clear hK K f9 c9'
            (try simp only [Act.put])
            refine wpAnyH_done (by kernel_rfl) ?_ _
            go_simp
            go_wp2
            go_ret
            exact ⟨by rw [HH.out]; rfl, radd_end HH.out HPL.out HF.out ho9 hb9 hf9⟩
          · obtain ⟨x2, g2, hr, hs⟩ := HS2.out.lit8
            go_simp
            refine hK.out _ _ hs.vote (fun hS => ?_)
            clear hK K hr
            (try simp only [Act.put])
            have HS3 := Lib.hid hs
            clear hs HS2
            refine wpAnyH_ready (rs := [6]) (by decide +kernel) (by simp) (AllReadyH.cons rfl (fun K hK => ?_) AllReadyH.nil)
            obtain ⟨x3, A6, c6, hr, hs⟩ := HS3.out.app6 (Or.inr ⟨_, rfl⟩) HP1.out HQ1.out HL.out HAL.out
            go_simp
            refine hK.out _ _ hs.vote (fun hS => ?_)
            clear hK K hr
            (try simp only [Act.put])
            have HS4 := Lib.hid hs
            clear hs HS3
            obtain ⟨x9, A9, c9, hr9, ho9, hb9, hv9, hf9⟩ := HS4.out.app9 HP1.out HQ1.out HL.out
            refine wpAnyH_ready (rs := [9]) (by decide +kernel) (by simp) (AllReadyH.cons rfl (fun K hK => ?_) AllReadyH.nil)
            go_simp
            refine hK.out _ _ hv9 (fun hS => ?_)
            clear hK K
            (try simp only [Act.put])
            clear hr9 HS4
            (refine take_at8 (i := 10) (d := 46) (v := .pointer (some ⟨p, 0, none⟩)) rfl (by kernel_rfl) (by kernel_rfl) (by kernel_rfl) (fun _ _ _ h => h) rfl (Or.inl ⟨by kernel_rfl, fun w hSw => by go_simp⟩) hS ?_)
            (refine take_at8 (i := 11) (d := 47) (v := .pointer (some ⟨p, 0, none⟩)) rfl (by kernel_rfl) (by kernel_rfl) (by kernel_rfl) (fun _ _ _ h => h) rfl (Or.inl ⟨by kernel_rfl, fun w hSw => by go_simp⟩) hS ?_)
            have f9 := hb9.free 0
            have c9' := hb9.cell 0
            refine wpAnyH_ready (rs := [12]) (by decide +kernel) (by simp) (AllReadyH.cons rfl (fun K hK => ?_) AllReadyH.nil)
            go_simp
            refine hK.out _ _ (hv9.aside (p := ⟨p, 0, none⟩) (fun e => by have := HPL.out; have e' : w.heap.size = p := e; omega) _) (fun hS => ?_)
            clear hK K f9 c9'
            (try simp only [Act.put])
            refine wpAnyH_done (by kernel_rfl) ?_ _
            go_simp
            go_wp2
            go_ret
            exact ⟨by rw [HH.out]; rfl, radd_end HH.out HPL.out HF.out ho9 hb9 hf9⟩
        · obtain ⟨x1, g1, hr, hs⟩ := HS1.out.lit8
          go_simp
          refine hK.out _ _ hs.vote (fun hS => ?_)
          clear hK K hr
          (try simp only [Act.put])
          have HS2 := Lib.hid hs
          clear hs HS1
          refine wpAnyH_ready (rs := [1]) (by decide +kernel) (by simp) (AllReadyH.cons rfl (fun K hK => ?_) AllReadyH.nil)
          obtain ⟨x2, g2, hr, hs⟩ := HS2.out.lit0
          go_simp
          refine hK.out _ _ hs.vote (fun hS => ?_)
          clear hK K hr
          (try simp only [Act.put])
          have HS3 := Lib.hid hs
          clear hs HS2
          refine wpAnyH_ready (rs := [6]) (by decide +kernel) (by simp) (AllReadyH.cons rfl (fun K hK => ?_) AllReadyH.nil)
          obtain ⟨x3, A6, c6, hr, hs⟩ := HS3.out.app6 (Or.inr ⟨_, rfl⟩) HP1.out HQ1.out HL.out HAL.out
          go_simp
          refine hK.out _ _ hs.vote (fun hS => ?_)
          clear hK K hr
          (try simp only [Act.put])
          have HS4 := Lib.hid hs
          clear hs HS3
          obtain ⟨x9, A9, c9, hr9, ho9, hb9, hv9, hf9⟩ := HS4.out.app9 HP1.out HQ1.out HL.out
          refine wpAnyH_ready (rs := [9]) (by decide +kernel) (by simp) (AllReadyH.cons rfl (fun K hK => ?_) AllReadyH.nil)
          go_simp
          refine hK.out _ _ hv9 (fun hS => ?_)
          clear hK K
          (try simp only [Act.put])
          clear hr9 HS4
          (refine take_at8 (i := 10) (d := 46) (v := .pointer (some ⟨p, 0, none⟩)) rfl (by kernel_rfl) (by kernel_rfl) (by kernel_rfl) (fun _ _ _ h => h) rfl (Or.inl ⟨by kernel_rfl, fun w hSw => by go_simp⟩) hS ?_)
          (refine take_at8 (i := 11) (d := 47) (v := .pointer (some ⟨p, 0, none⟩)) rfl (by kernel_rfl) (by kernel_rfl) (by kernel_rfl) (fun _ _ _ h => h) rfl (Or.inl ⟨by kernel_rfl, fun w hSw => by go_simp⟩) hS ?_)
          have f9 := hb9.free 0
          have c9' := hb9.cell 0
          refine wpAnyH_ready (rs := [12]) (by decide +kernel) (by simp) (AllReadyH.cons rfl (fun K hK => ?_) AllReadyH.nil)
          go_simp
          refine hK.out _ _ (hv9.aside (p := ⟨p, 0, none⟩) (fun e => by have := HPL.out; have e' : w.heap.size = p := e; omega) _) (fun hS => ?_)
          clear hK K f9 c9'
          (try simp only [Act.put])
          refine wpAnyH_done (by kernel_rfl) ?_ _
          go_simp
          go_wp2
          go_ret
          exact ⟨by rw [HH.out]; rfl, radd_end HH.out HPL.out HF.out ho9 hb9 hf9⟩
      · obtain ⟨x0, g0, hr, hs⟩ := HS0.out.lit8
        go_simp
        refine hK.out _ _ hs.vote (fun hS => ?_)
        clear hK K hr
        (try simp only [Act.put])
        have HS1 := Lib.hid hs
        clear hs HS0
        refine wpAnyH_ready (rs := [1, 5]) (by decide +kernel) (by simp) (AllReadyH.cons rfl (fun K hK => ?_) (AllReadyH.cons rfl (fun K hK => ?_) AllReadyH.nil))
        · obtain ⟨x1, g1, hr, hs⟩ := HS1.out.lit0
          go_simp
          refine hK.out _ _ hs.vote (fun hS => ?_)
          clear hK K hr
          (try simp only [Act.put])
          have HS2 := Lib.hid hs
          clear hs HS1
          refine wpAnyH_ready (rs := [5]) (by decide +kernel) (by simp) (AllReadyH.cons rfl (fun K hK => ?_) AllReadyH.nil)
          have c5 := HS2.out.c0
          go_simp
          refine hK.out _ _ hS (fun hS => ?_)
          clear hK K c5
          (try simp only [Act.put])
          have HS3 := HS2
          clear HS2
          refine wpAnyH_ready (rs := [6]) (by decide +kernel) (by simp) (AllReadyH.cons rfl (fun K hK => ?_) AllReadyH.nil)
          obtain ⟨x3, A6, c6, hr, hs⟩ := HS3.out.app6 (Or.inr ⟨_, rfl⟩) HP1.out HQ1.out HL.out HAL.out
          go_simp
          refine hK.out _ _ hs.vote (fun hS => ?_)
          clear hK K hr
          (try simp only [Act.put])
          have HS4 := Lib.hid hs
          clear hs HS3
          obtain ⟨x9, A9, c9, hr9, ho9, hb9, hv9, hf9⟩ := HS4.out.app9 HP1.out HQ1.out HL.out
          refine wpAnyH_ready (rs := [9]) (by decide +kernel) (by simp) (AllReadyH.cons rfl (fun K hK => ?_) AllReadyH.nil)
          go_simp
          refine hK.out _ _ hv9 (fun hS => ?_)
          clear hK K
          (try simp only [Act.put])
          clear hr9 HS4
          (refine take_at8 (i := 10) (d := 46) (v := .pointer (some ⟨p, 0, none⟩)) rfl (by kernel_rfl) (by kernel_rfl) (by kernel_rfl) (fun _ _ _ h => h) rfl (Or.inl ⟨by kernel_rfl, fun w hSw => by go_simp⟩) hS ?_)
          (refine take_at8 (i := 11) (d := 47) (v := .pointer (some ⟨p, 0, none⟩)) rfl (by kernel_rfl) (by kernel_rfl) (by kernel_rfl) (fun _ _ _ h => h) rfl (Or.inl ⟨by kernel_rfl, fun w hSw => by go_simp⟩) hS ?_)
          have f9 := hb9.free 0
          have c9' := hb9.cell 0
          refine wpAnyH_ready (rs := [12]) (by decide +kernel) (by simp) (AllReadyH.cons rfl (fun K hK => ?_) AllReadyH.nil)
          go_simp
          refine hK.out _ _ (hv9.aside (p := ⟨p, 0, none⟩) (fun e => by have := HPL.out; have e' : w.heap.size = p := e; omega) _) (fun hS => ?_)
          clear hK K f9 c9'
          (try simp only [Act.put])
          refine wpAnyH_done (by kernel_rfl) ?_ _
          go_simp
          go_wp2
          go_ret
          exact ⟨by rw [HH.out]; rfl, radd_end HH.out HPL.out HF.out ho9 hb9 hf9⟩
        · have c5 := HS1.out.c0
          go_simp
          refine hK.out _ _ hS (fun hS => ?_)
          clear hK K c5
          (try simp only [Act.put])
          have HS2 := HS1
          clear HS1
          refine wpAnyH_ready (rs := [1]) (by decide +kernel) (by simp) (AllReadyH.cons rfl (fun K hK => ?_) AllReadyH.nil)
          obtain ⟨x2, g2, hr, hs⟩ := HS2.out.lit0
          go_simp
          refine hK.out _ _ hs.vote (fun hS => ?_)
          clear hK K hr
          (try simp only [Act.put])
          have HS3 := Lib.hid hs
          clear hs HS2
          refine wpAnyH_ready (rs := [6]) (by decide +kernel) (by simp) (AllReadyH.cons rfl (fun K hK => ?_) AllReadyH.nil)
          obtain ⟨x3, A6, c6, hr, hs⟩ := HS3.out.app6 (Or.inr ⟨_, rfl⟩) HP1.out HQ1.out HL.out HAL.out
          go_simp
          refine hK.out _ _ hs.vote (fun hS => ?_)
          clear hK K hr
          (try simp only [Act.put])
          have HS4 := Lib.hid hs
          clear hs HS3
          obtain ⟨x9, A9, c9, hr9, ho9, hb9, hv9, hf9⟩ := HS4.out.app9 HP1.out HQ1.out HL.out
          refine wpAnyH_ready (rs := [9]) (by decide +kernel) (by simp) (AllReadyH.cons rfl (fun K hK => ?_) AllReadyH.nil)
          go_simp
          refine hK.out _ _ hv9 (fun hS => ?_)
          clear hK K
          (try simp only [Act.put])
          clear hr9 HS4
          (refine take_at8 (i := 10) (d := 46) (v := .pointer (some ⟨p, 0, none⟩)) rfl (by kernel_rfl) (by kernel_rfl) (by kernel_rfl) (fun _ _ _ h => h) rfl (Or.inl ⟨by kernel_rfl, fun w hSw => by go_simp⟩) hS ?_)
          (refine take_at8 (i := 11) (d := 47) (v := .pointer (some ⟨p, 0, none⟩)) rfl (by kernel_rfl) (by kernel_rfl) (by kernel_rfl) (fun _ _ _ h => h) rfl (Or.inl ⟨by kernel_rfl, fun w hSw => by go_simp⟩) hS ?_)
          have f9 := hb9.free 0
          have c9' := hb9.cell 0
          refine wpAnyH_ready (rs := [12]) (by decide +kernel) (by simp) (AllReadyH.cons rfl (fun K hK => ?_) AllReadyH.nil)
          go_simp
          refine hK.out _ _ (hv9.aside (p := ⟨p, 0, none⟩) (fun e => by have := HPL.out; have e' : w.heap.size = p := e; omega) _) (fun hS => ?_)
          clear hK K f9 c9'
          (try simp only [Act.put])
          refine wpAnyH_done (by kernel_rfl) ?_ _
          go_simp
          go_wp2
          go_ret
          exact ⟨by rw [HH.out]; rfl, radd_end HH.out HPL.out HF.out ho9 hb9 hf9⟩
end Go.Proofs.YtadnnnbdlkjnkaaGreatDoor

namespace Go.Proofs.YtadnnnbdlkjnkaaGreatDoor
open Go.RowKit Go.Maps

def selF (kind round : Int) (d : List UInt8) (f : Int) (x : VtX) : Bool := isFor kind round d x && decide (x.frm = f)
set_option maxRecDepth 100000 in
theorem selF_iff {kind round f : Int} {d : List UInt8} {x : VtX} : selF kind round d f x = true ↔ x.kind = kind ∧ x.round = round ∧ x.dig = d ∧ x.frm = f := by
  unfold selF isFor
  simp only [Bool.and_eq_true, decide_eq_true_eq, and_assoc]
set_option maxRecDepth 100000 in
theorem selF_false {kind round f : Int} {d : List UInt8} {x : VtX} (h : ¬ (x.kind = kind ∧ x.round = round ∧ x.dig = d ∧ x.frm = f)) : selF kind round d f x = false := by
  cases e : selF kind round d f x with
  | false => rfl
  | true => exact absurd (selF_iff.1 e) h
/-- Votes for a digest, by rising members. -/
def rForM (us : List VtM) (kind round : Int) (d : List UInt8) (i : Nat) : List VtM := (List.range i).flatMap fun (j : Nat) => us.filter fun m => selF kind round d ((j : Int) + 1) m.x
set_option maxRecDepth 100000 in
theorem rForM_succ (us : List VtM) (kind round : Int) (d : List UInt8) (i : Nat) : rForM us kind round d (i + 1) = rForM us kind round d i ++ us.filter fun m => selF kind round d ((i : Int) + 1) m.x := by
  unfold rForM
  rw [List.range_succ, List.flatMap_append]
  simp
set_option maxRecDepth 100000 in
theorem rForM_le (us : List VtM) (kind round : Int) (d : List UInt8) (i : Nat) : (rForM us kind round d i).length ≤ i * us.length := by
  induction i with
  | zero => simp [rForM]
  | succ i ih =>
    rw [rForM_succ, List.length_append, Nat.add_mul, Nat.one_mul]
    exact Nat.add_le_add ih (List.length_filter_le _ _)
set_option maxRecDepth 100000 in
theorem filter_take {us : List VtM} {k : Nat} (h : k < us.length) (p : VtM → Bool) : (us.take (k + 1)).filter p = (us.take k).filter p ++ (if p (us[k]'h) = true then [us[k]'h] else []) := by
  rw [List.take_succ_eq_append_getElem h, List.filter_append, List.filter_cons]
  rfl

attribute [local go_sem ↓] ldVt_def stVt_def alVt_def ldDigest_def stDigest_def eqDigest_def bsT_def apAll_def
set_option maxRecDepth 100000 in
set_option maxHeartbeats 4000000 in
theorem rfor_any (p : Nat) (us : List VtM) (kind round : Int) (d : List UInt8) (hd : d.length = 32) (hl : us.length < 1000000) (w : World) (hB : RBox w p us) :
    Calls Tryz.prog 11 #[.pointer (some ⟨p, 0, none⟩), .int .i64 kind, .int .i64 round, .agg (d.map bv).toArray] w fun e w' => ∃ v, e = .returned v ∧ VtK.Own w' w.heap.size v (rForM us kind round d 63) ∧ Below w.heap.size w w' := by
  obtain ⟨A, c, hbx, hse⟩ := hB.ex
  obtain ⟨w1, hw1⟩ : ∃ w1, w1 = w.alloc (.cells (d.map bv).toArray 24) := ⟨_, rfl⟩
  have HD : Hid (Box w1 w.heap.size 24 (d.map bv).toArray) := by rw [hw1]; exact Box.made w _ _
  have HF : Hid (Below w.heap.size w w1) := by rw [hw1]; exact (Below.refl _ _).alloc (Nat.le_refl _) _
  have HB : Hid (RBoxA w1 p us A c) := Lib.hid (RBoxA.call ⟨hbx, hse⟩ HF.out)
  have HL := Lib.hid hl
  have HDL := Lib.hid hd
  clear hbx hse hB hl hd
  go_enter Tryz.func11, Tryz.ntmps11
  go_upto_region 1 with fail
  change Code.wp _ _ _ _ (w.alloc (.cells (d.map bv).toArray 24))
  rw [← hw1]
  clear hw1
  go_wp2
  go_loopw [9, 10] (fun s f wr => ∃ (i : Nat) (A2 : Option Addr) (n2 c2 : Nat), i ≤ 63 ∧ s = .slice A2 n2 c2 ∧ f = .int .i64 ((i : Int) + 1) ∧ Hid (VtK.Own wr w1.heap.size (.slice A2 n2 c2) (rForM us kind round d i)) ∧ Hid (Below w1.heap.size w1 wr)) (fun _ f _ => 64 - (intOf f).toNat)
  case atStart => exact ⟨0, none, 0, 0, by omega, rfl, rfl, Lib.hid (EK.own_nil _ _ _), Lib.hid (Below.refl _ _)⟩
  case round =>
    obtain ⟨i, A2, n2, c2, hi, rfl, rfl, HO, HW⟩ := hrel
    by_cases hlt : i < 63
    rotate_left
    · have i1 : ¬ ((i : Int) + 1) ≤ 63 := by omega
      have e63 : i = 63 := by omega
      subst e63
      go_wp2
      go_ret
      exact ⟨_, rfl, EK.Own.base HO.out HF.out.size, HF.out.trans (HW.out.mono HF.out.size)⟩
    · have HLT := Lib.hid hlt
      have i1 : ((i : Int) + 1) ≤ 63 := by omega
      have wi : IntKind.i64.wrap ((i : Int) + 1 + 1) = (((i + 1 : Nat) : Int) + 1) := by rw [IntKind.wrap_i64]; omega
      have c0 : wr.cell? ⟨p, 0, none⟩ = some (.slice A us.length c) := (HB.out.call HW.out).box.cell 0
      have HWR := Lib.hid HW.out
      obtain ⟨w2, hw2⟩ : ∃ w2, w2 = wr := ⟨_, rfl⟩
      rw [← hw2] at HO
      have HW2 : Hid (Below w1.heap.size w1 w2) := by rw [hw2]; exact HW
      have HAC : Hid ((rForM us kind round d i).length ≤ 63000000) := Lib.hid (by have h1 := rForM_le us kind round d i; have h2 := HL.out; have h3 : i * us.length ≤ 63 * us.length := Nat.mul_le_mul_right _ hi; omega)
      clear HW HWR
      go_upto_region 6 with fail
      go_wp2
      clear c0
      go_loopw [9, 22] (fun s j wx => ∃ (k : Nat) (A3 : Option Addr) (n3 c3 : Nat), k ≤ us.length ∧ s = .slice A3 n3 c3 ∧ j = .int .i64 (k : Int) ∧ Hid (VtK.Own wx w1.heap.size (.slice A3 n3 c3) (rForM us kind round d i ++ (us.take k).filter fun m => selF kind round d ((i : Int) + 1) m.x)) ∧ Hid (Below w1.heap.size w1 wx)) (fun _ j _ => us.length - (intOf j).toNat)
      case atStart => exact ⟨0, A2, n2, c2, Nat.zero_le _, rfl, rfl, Lib.hid (by rw [List.take_zero, List.filter_nil, List.append_nil, ← hw2]; exact HO.out), Lib.hid (by rw [← hw2]; exact HW2.out)⟩
      case round =>
        obtain ⟨k, A3, n3, c3, hk, rfl, rfl, HO3, HW3⟩ := hrel
        clear HO HW2 hw2
        by_cases hkl : k < us.length
        rotate_left
        · have a1 : ¬ (k : Int) < (us.length : Int) := by omega
          have HOE : Hid (VtK.Own wr w1.heap.size (.slice A3 n3 c3) (rForM us kind round d (i + 1))) := Lib.hid (by
            have h := HO3.out
            rw [List.take_of_length_le (by omega)] at h
            rw [rForM_succ]
            exact h)
          clear hk
          go_wp2
          go_roundw
          case rel => exact ⟨i + 1, A3, n3, c3, by omega, rfl, by go_num, HOE, HW3⟩
          case measure => have := HLT.out; simp [intOf]; omega
        · have HKL := Lib.hid hkl
          obtain ⟨g, o, rfl, _, hr⟩ := EK.See.range (HB.out.call HW3.out).see hkl
          have lk : (ldVt (.pointer (some ⟨g, o + k * 41, none⟩))).run Tryz.prog wr = .ok (.agg (us[k]'hkl).cells.toArray) wr := range_vt (us[k]'hkl).x.len (hr k hkl)
          have HT := Lib.hid (filter_take hkl fun m => selF kind round d ((i : Int) + 1) m.x)
          have a1 : (k : Int) < (us.length : Int) := by omega
          have a0 : (0 : Int) ≤ (k : Int) := by omega
          have wk : IntKind.i64.wrap ((k : Int) + 1) = ((k + 1 : Nat) : Int) := by rw [IntKind.wrap_i64]; have := HL.out; omega
          have HFL : Hid (((us.take k).filter fun m => selF kind round d ((i : Int) + 1) m.x).length ≤ 1000000) := Lib.hid (by have h1 := List.length_filter_le (fun m : VtM => selF kind round d ((i : Int) + 1) m.x) (us.take k); rw [List.length_take] at h1; have := HL.out; omega)
          generalize us[k]'hkl = u at *
          obtain ⟨w5, hst5, hb5, hbl5⟩ := laid_vt wr u
          have hal := al_vt
          have HU5 := Lib.hid hb5
          have HW5 := Lib.hid (HW3.out.trans (hbl5.mono HW3.out.size))
          have HO5 := Lib.hid (EK.Own.keep HO3.out hbl5)
          have HD5 := Lib.hid (HD.out.below HW5.out HD.out.lt)
          clear hr hb5 hbl5 HO3 HW3
          go_upto_region 8 with fail
          clear lk hst5 hal
          have u0 : w5.cell? ⟨wr.heap.size, 0, none⟩ = some (.int .i64 u.x.kind) := HU5.out.vt_0
          have u3 : w5.cell? ⟨wr.heap.size, 3, none⟩ = some (.int .i64 u.x.round) := HU5.out.vt_3
          have u5 : w5.cell? ⟨wr.heap.size, 36, none⟩ = some (.int .i64 u.x.frm) := HU5.out.vt_36 u.x.len
          have lv : (ldDigest (.pointer (some ⟨wr.heap.size, 4, none⟩))).run Tryz.prog w5 = .ok (.agg (u.x.dig.map bv).toArray) w5 := range_load HU5.out.vt_dig u.x.len
          have lu : (ldVt (.pointer (some ⟨wr.heap.size, 0, none⟩))).run Tryz.prog w5 = .ok (.agg u.cells.toArray) w5 := HU5.out.ld_vt
          have ld : (ldDigest (.pointer (some ⟨w.heap.size, 0, none⟩))).run Tryz.prog w5 = .ok (.agg (d.map bv).toArray) w5 := range_load HD5.out.range HDL.out
          have hq : ∀ w', (eqDigest (.agg (u.x.dig.map bv).toArray) (.agg (d.map bv).toArray)).run Tryz.prog w' = .ok (decide (u.x.dig = d)) w' := fun w' => eq_digest _ _ u.x.len HDL.out w'
          have hq2 : ∀ w', (eqDigest (.agg (d.map bv).toArray) (.agg (d.map bv).toArray)).run Tryz.prog w' = .ok true w' := fun w' => by rw [eq_digest d d HDL.out HDL.out w', decide_eq_true rfl]
          generalize wr.heap.size = q at *
          by_cases h1 : u.x.kind = kind
          · by_cases h2 : u.x.round = round
            · by_cases h3 : u.x.dig = d
              · by_cases h4 : u.x.frm = (i : Int) + 1
                · have HE : Hid (selF kind round d ((i : Int) + 1) u.x = true) := Lib.hid (selF_iff.2 ⟨h1, h2, h3, h4⟩)
                  rw [HE.out, if_pos rfl] at HT
                  have hal6 : Below w5.heap.size w5 (w5.alloc (.cells u.cells.toArray 37)) := (Below.refl _ _).alloc (Nat.le_refl _) _
                  have hbs : (bsT 22 1 #[(0, .agg u.cells.toArray)]).run Tryz.prog w5 = .ok (.slice (some ⟨w5.heap.size, 0, none⟩) 1 1) (w5.alloc (.cells u.cells.toArray 37)) := VtK.build1 u (.agg u.cells.toArray) rfl (by decide) w5
                  have hO7 := EK.Own.keep HO5.out hal6
                  obtain ⟨v8, w8, hap0, ho8, hg8⟩ := VtK.append hO7 (A := some ⟨w5.heap.size, 0, none⟩) (m := 1) (c := 1) (es := [u]) rfl (VtK.see_one w5 u) (by rw [List.length_append]; have := HAC.out; have := HFL.out; omega) (by show (List.length _ + 1) * 152 ≤ _; rw [List.length_append]; have := HAC.out; have := HFL.out; omega) (Nat.le_trans HW5.out.size hal6.size)
                  rw [List.append_assoc, ← HT.out] at ho8
                  obtain ⟨A8, c8, rfl⟩ := ho8.slice
                  obtain ⟨n8, hn8⟩ : ∃ n8, n8 = (rForM us kind round d i ++ (us.take (k + 1)).filter fun m => selF kind round d ((i : Int) + 1) m.x).length := ⟨_, rfl⟩
                  rw [← hn8] at hap0 ho8
                  have hap : (apAll #[22, 22] 22 #[.slice A3 n3 c3, .slice (some ⟨w5.heap.size, 0, none⟩) 1 1]).run Tryz.prog (w5.alloc (.cells u.cells.toArray 37)) = .ok (.slice A8 n8 c8) w8 := hap0
                  have HW8 := Lib.hid (HW5.out.trans ((hal6.mono HW5.out.size).trans (below_own hO7 hg8 (Nat.le_trans HW5.out.size hal6.size))))
                  have HO8 := Lib.hid ho8
                  clear hal6 hO7 hap0 ho8 hg8 hn8 HO5
                  go_wp2
                  go_roundw
                  case rel => exact ⟨k + 1, A8, n8, c8, HKL.out, rfl, by go_num, HO8, HW8⟩
                  case measure => have := HKL.out; simp [intOf]; omega
                · have HE : Hid (selF kind round d ((i : Int) + 1) u.x = false) := Lib.hid (selF_false (fun h => h4 h.2.2.2))
                  rw [HE.out, if_neg (by simp), List.append_nil] at HT
                  go_wp2
                  go_roundw
                  case rel => exact ⟨k + 1, A3, n3, c3, HKL.out, rfl, by go_num, Lib.hid (by rw [HT.out]; exact HO5.out), HW5⟩
                  case measure => have := HKL.out; simp [intOf]; omega
              · have HE : Hid (selF kind round d ((i : Int) + 1) u.x = false) := Lib.hid (selF_false (fun h => h3 h.2.2.1))
                rw [HE.out, if_neg (by simp), List.append_nil] at HT
                go_wp2
                go_roundw
                case rel => exact ⟨k + 1, A3, n3, c3, HKL.out, rfl, by go_num, Lib.hid (by rw [HT.out]; exact HO5.out), HW5⟩
                case measure => have := HKL.out; simp [intOf]; omega
            · have HE : Hid (selF kind round d ((i : Int) + 1) u.x = false) := Lib.hid (selF_false (fun h => h2 h.2.1))
              rw [HE.out, if_neg (by simp), List.append_nil] at HT
              go_wp2
              go_roundw
              case rel => exact ⟨k + 1, A3, n3, c3, HKL.out, rfl, by go_num, Lib.hid (by rw [HT.out]; exact HO5.out), HW5⟩
              case measure => have := HKL.out; simp [intOf]; omega
          · have HE : Hid (selF kind round d ((i : Int) + 1) u.x = false) := Lib.hid (selF_false (fun h => h1 h.1))
            rw [HE.out, if_neg (by simp), List.append_nil] at HT
            go_wp2
            go_roundw
            case rel => exact ⟨k + 1, A3, n3, c3, HKL.out, rfl, by go_num, Lib.hid (by rw [HT.out]; exact HO5.out), HW5⟩
            case measure => have := HKL.out; simp [intOf]; omega
end Go.Proofs.YtadnnnbdlkjnkaaGreatDoor

namespace Go.Proofs.YtadnnnbdlkjnkaaGreatDoor
open Go.RowKit Go.Maps

/-! ### Voters -/
def votI (xs : List VtX) (round : Int) (i : Nat) : Nat := ((List.range i).filter fun f => votB xs round (f + 1)).length
set_option maxRecDepth 100000 in
theorem votI_succ (xs : List VtX) (round : Int) (i : Nat) : votI xs round (i + 1) = votI xs round i + (if votB xs round (i + 1) = true then 1 else 0) := by
  unfold votI
  rw [List.range_succ, List.filter_append, List.length_append, List.filter_cons]
  split <;> simp
set_option maxRecDepth 100000 in
theorem votI_le (xs : List VtX) (round : Int) (i : Nat) : votI xs round i ≤ i := by
  unfold votI
  refine Nat.le_trans (List.length_filter_le _ _) ?_
  simp
set_option maxRecDepth 100000 in
theorem votI_all {xs : List VtX} (hx : ∀ x ∈ xs, 1 ≤ x.frm ∧ x.frm ≤ 63) (round : Int) : votI xs round 63 = votN xs round := by
  have h0 : votB xs round 0 = false := by
    cases e : votB xs round 0 with
    | false => rfl
    | true =>
      obtain ⟨x, hx1, h1, _⟩ := votB_iff.1 e
      have := hx x hx1
      omega
  have h : ∀ n, ((List.range (n + 1)).filter (votB xs round)).length = votI xs round n := fun n => by
    rw [List.range_succ_eq_map, List.filter_cons, h0, if_neg (by simp), List.filter_map, List.length_map]
    rfl
  exact (h 63).symm
set_option maxRecDepth 100000 in
theorem votB_take {us : List VtM} {k : Nat} (h : k < us.length) (round : Int) (f : Nat) : votB ((us.take (k + 1)).map VtM.x) round f = (votB ((us.take k).map VtM.x) round f || (decide ((us[k]'h).x.frm = (f : Int)) && decide (round ≤ (us[k]'h).x.round))) := by
  unfold votB
  rw [List.take_succ_eq_append_getElem h, List.map_append, List.any_append]
  simp

attribute [local go_sem ↓] ldVt_def stVt_def alVt_def
set_option maxRecDepth 100000 in
set_option maxHeartbeats 4000000 in
theorem rvoters_any (p : Nat) (us : List VtM) (round : Int) (hx : ∀ x ∈ us.map VtM.x, 1 ≤ x.frm ∧ x.frm ≤ 63) (hl : us.length < 1000000) (w : World) (hB : RBox w p us) :
    Calls Tryz.prog 14 #[.pointer (some ⟨p, 0, none⟩), .int .i64 round] w fun e w' => e = .returned (.int .i64 (votN (us.map VtM.x) round : Int)) ∧ Below w.heap.size w w' := by
  obtain ⟨A, c, hbx, hse⟩ := hB.ex
  have HB : Hid (RBoxA w p us A c) := Lib.hid ⟨hbx, hse⟩
  have HL := Lib.hid hl
  have HVA := Lib.hid (votI_all hx round)
  clear hbx hse hB hl hx
  go_enter Tryz.func14, Tryz.ntmps14
  go_wp2
  go_loopw [5, 6] (fun s f wr => ∃ (i : Nat), i ≤ 63 ∧ s = .int .i64 (votI (us.map VtM.x) round i : Int) ∧ f = .int .i64 ((i : Int) + 1) ∧ Hid (Below w.heap.size w wr)) (fun _ f _ => 64 - (intOf f).toNat)
  case atStart => exact ⟨0, by omega, rfl, rfl, Lib.hid (Below.refl _ _)⟩
  case round =>
    obtain ⟨i, hi, rfl, rfl, HW⟩ := hrel
    by_cases hlt : i < 63
    rotate_left
    · have i1 : ¬ ((i : Int) + 1) ≤ 63 := by omega
      have e63 : i = 63 := by omega
      subst e63
      rw [HVA.out]
      go_wp2
      go_ret
      exact ⟨rfl, HW.out⟩
    · have HLT := Lib.hid hlt
      have i1 : ((i : Int) + 1) ≤ 63 := by omega
      have wi : IntKind.i64.wrap ((i : Int) + 1 + 1) = (((i + 1 : Nat) : Int) + 1) := by rw [IntKind.wrap_i64]; omega
      have c0 : wr.cell? ⟨p, 0, none⟩ = some (.slice A us.length c) := (HB.out.call HW.out).box.cell 0
      have HVS := Lib.hid (votI_succ (us.map VtM.x) round i)
      have HVL := Lib.hid (votI_le (us.map VtM.x) round i)
      obtain ⟨w2, hw2⟩ : ∃ w2, w2 = wr := ⟨_, rfl⟩
      have HW2 : Hid (Below w.heap.size w w2) := by rw [hw2]; exact HW
      clear HW
      go_upto_region 7 with fail
      go_wp2
      clear c0
      go_loopw [7, 19] (fun s j wx => ∃ (k : Nat), k ≤ us.length ∧ s = .bool (votB ((us.take k).map VtM.x) round (i + 1)) ∧ j = .int .i64 (k : Int) ∧ Hid (Below w.heap.size w wx)) (fun _ j _ => us.length - (intOf j).toNat)
      case atStart => exact ⟨0, Nat.zero_le _, rfl, rfl, Lib.hid (by rw [← hw2]; exact HW2.out)⟩
      case round =>
        obtain ⟨k, hk, rfl, rfl, HW3⟩ := hrel
        clear HW2 hw2
        by_cases hkl : k < us.length
        rotate_left
        · have a1 : ¬ (k : Int) < (us.length : Int) := by omega
          have htk : us.take k = us := List.take_of_length_le (by omega)
          rw [htk]
          clear hk htk
          cases hb : votB (us.map VtM.x) round (i + 1) with
          | true =>
            rw [hb, if_pos rfl] at HVS
            have wn : IntKind.i64.wrap ((votI (us.map VtM.x) round i : Int) + 1) = ((votI (us.map VtM.x) round i + 1 : Nat) : Int) := by rw [IntKind.wrap_i64]; have := HVL.out; omega
            clear hb
            go_wp2
            go_roundw
            case rel => exact ⟨i + 1, by omega, by rw [HVS.out]; simp, by go_num, HW3⟩
            case measure => have := HLT.out; simp [intOf]; omega
          | false =>
            rw [hb, if_neg (by simp)] at HVS
            clear hb
            go_wp2
            go_roundw
            case rel => exact ⟨i + 1, by omega, by rw [HVS.out]; rfl, by go_num, HW3⟩
            case measure => have := HLT.out; simp [intOf]; omega
        · have HKL := Lib.hid hkl
          obtain ⟨g, o, rfl, _, hr⟩ := EK.See.range (HB.out.call HW3.out).see hkl
          have lk : (ldVt (.pointer (some ⟨g, o + k * 41, none⟩))).run Tryz.prog wr = .ok (.agg (us[k]'hkl).cells.toArray) wr := range_vt (us[k]'hkl).x.len (hr k hkl)
          have HT := Lib.hid (votB_take hkl round (i + 1))
          have a1 : (k : Int) < (us.length : Int) := by omega
          have a0 : (0 : Int) ≤ (k : Int) := by omega
          have wk : IntKind.i64.wrap ((k : Int) + 1) = ((k + 1 : Nat) : Int) := by rw [IntKind.wrap_i64]; have := HL.out; omega
          generalize us[k]'hkl = u at *
          obtain ⟨w5, hst5, hb5, hbl5⟩ := laid_vt wr u
          have hal := al_vt
          have HU5 := Lib.hid hb5
          have HW5 := Lib.hid (HW3.out.trans (hbl5.mono HW3.out.size))
          clear hr hb5 hbl5 HW3
          go_upto_region 9 with fail
          clear lk hst5 hal
          have u3 : w5.cell? ⟨wr.heap.size, 3, none⟩ = some (.int .i64 u.x.round) := HU5.out.vt_3
          have u5 : w5.cell? ⟨wr.heap.size, 36, none⟩ = some (.int .i64 u.x.frm) := HU5.out.vt_36 u.x.len
          generalize wr.heap.size = q at *
          cases hb : votB ((us.take k).map VtM.x) round (i + 1) with
          | true =>
            rw [hb, Bool.true_or] at HT
            clear hb u3 u5
            go_wp2
            go_roundw
            case rel => exact ⟨k + 1, HKL.out, by rw [HT.out], by go_num, HW5⟩
            case measure => have := HKL.out; simp [intOf]; omega
          | false =>
            rw [hb, Bool.false_or] at HT
            clear hb
            by_cases h1 : u.x.frm = (i : Int) + 1
            · have h1' : decide (u.x.frm = ((i + 1 : Nat) : Int)) = true := decide_eq_true (by omega)
              rw [h1', Bool.true_and] at HT
              clear h1'
              by_cases h2 : round ≤ u.x.round
              · rw [decide_eq_true h2] at HT
                go_wp2
                go_roundw
                case rel => exact ⟨k + 1, HKL.out, by rw [HT.out], by go_num, HW5⟩
                case measure => have := HKL.out; simp [intOf]; omega
              · rw [decide_eq_false h2] at HT
                go_wp2
                go_roundw
                case rel => exact ⟨k + 1, HKL.out, by rw [HT.out], by go_num, HW5⟩
                case measure => have := HKL.out; simp [intOf]; omega
            · have h1' : decide (u.x.frm = ((i + 1 : Nat) : Int)) = false := decide_eq_false (by omega)
              rw [h1', Bool.false_and] at HT
              clear h1'
              go_wp2
              go_roundw
              case rel => exact ⟨k + 1, HKL.out, by rw [HT.out], by go_num, HW5⟩
              case measure => have := HKL.out; simp [intOf]; omega

/-! ### Reached -/
/-- The greatest round that so many reached of those that have come. -/
def ReachP (ys xs : List VtX) (n z : Int) : Prop :=
  (z = -1 ∧ ∀ x ∈ ys, ¬ (1 ≤ n ∧ n ≤ (votN xs x.round : Int))) ∨
  (∃ x ∈ ys, x.round = z ∧ 1 ≤ n ∧ n ≤ (votN xs z : Int) ∧ ∀ y ∈ ys, n ≤ (votN xs y.round : Int) → y.round ≤ z)
set_option maxRecDepth 100000 in
theorem ReachP.whole {xs : List VtX} {n z : Int} (h : ReachP xs xs n z) : ReachIs xs n z := h
set_option maxRecDepth 100000 in
theorem ReachP.low {ys xs : List VtX} {n z : Int} (h : ReachP ys xs n z) (h0 : ∀ y ∈ ys, 0 ≤ y.round) : z = -1 ∨ 0 ≤ z := by
  rcases h with ⟨rfl, _⟩ | ⟨x, hx, rfl, _⟩
  · exact .inl rfl
  · exact .inr (h0 x hx)
set_option maxRecDepth 100000 in
theorem ReachP.new {ys xs : List VtX} {n z : Int} {x : VtX} (h : ReachP ys xs n z) (h1 : 1 ≤ n) (h2 : z < x.round) (h3 : n ≤ (votN xs x.round : Int)) : ReachP (ys ++ [x]) xs n x.round := by
  refine .inr ⟨x, List.mem_append.2 (.inr (List.mem_singleton.2 rfl)), rfl, h1, h3, fun y hy hn => ?_⟩
  rcases List.mem_append.1 hy with hy | hy
  · rcases h with ⟨rfl, k1⟩ | ⟨x0, hx0, rfl, _, _, k4⟩
    · exact absurd ⟨h1, hn⟩ (k1 y hy)
    · have := k4 y hy hn
      omega
  · rw [List.mem_singleton.1 hy]
    exact Int.le_refl _
set_option maxRecDepth 100000 in
theorem ReachP.old {ys xs : List VtX} {n z : Int} {x : VtX} (h : ReachP ys xs n z) (hr : 0 ≤ x.round) (hn : ¬ (1 ≤ n ∧ z < x.round ∧ n ≤ (votN xs x.round : Int))) : ReachP (ys ++ [x]) xs n z := by
  rcases h with ⟨rfl, k1⟩ | ⟨x0, hx0, rfl, k2, k3, k4⟩
  · refine .inl ⟨rfl, fun y hy => ?_⟩
    rcases List.mem_append.1 hy with hy | hy
    · exact k1 y hy
    · rw [List.mem_singleton.1 hy]
      exact fun e => hn ⟨e.1, by omega, e.2⟩
  · refine .inr ⟨x0, List.mem_append.2 (.inl hx0), rfl, k2, k3, fun y hy hy2 => ?_⟩
    rcases List.mem_append.1 hy with hy | hy
    · exact k4 y hy hy2
    · rw [List.mem_singleton.1 hy] at hy2 ⊢
      by_cases hle : x.round ≤ x0.round
      · exact hle
      · exact absurd ⟨k2, by omega, hy2⟩ hn
set_option maxRecDepth 100000 in
theorem take_x {us : List VtM} {k : Nat} (h : k < us.length) : (us.take (k + 1)).map VtM.x = (us.take k).map VtM.x ++ [(us[k]'h).x] := by
  rw [List.take_succ_eq_append_getElem h, List.map_append]
  rfl
set_option maxRecDepth 100000 in
set_option maxHeartbeats 4000000 in
theorem rreached_any (p : Nat) (us : List VtM) (n : Int) (hx : ∀ x ∈ us.map VtM.x, (1 ≤ x.frm ∧ x.frm ≤ 63) ∧ 0 ≤ x.round) (hl : us.length < 1000000) (w : World) (hB : RBox w p us) :
    Calls Tryz.prog 16 #[.pointer (some ⟨p, 0, none⟩), .int .i64 n] w fun e w' => ∃ z, e = .returned (.int .i64 z) ∧ ReachIs (us.map VtM.x) n z ∧ Below w.heap.size w w' := by
  have HRB := Lib.hid hB
  obtain ⟨A, c, hbx, hse⟩ := hB.ex
  have HB : Hid (RBoxA w p us A c) := Lib.hid ⟨hbx, hse⟩
  have HL := Lib.hid hl
  have HX := Lib.hid hx
  have c0 : w.cell? ⟨p, 0, none⟩ = some (.slice A us.length c) := HB.out.box.cell 0
  clear hbx hse hB hl hx
  go_enter Tryz.func16, Tryz.ntmps16
  go_wp2
  clear c0
  go_loopw [5, 13] (fun s j wr => ∃ (k : Nat) (z : Int), k ≤ us.length ∧ s = .int .i64 z ∧ j = .int .i64 (k : Int) ∧ Hid (ReachP ((us.take k).map VtM.x) (us.map VtM.x) n z) ∧ Hid (Below w.heap.size w wr)) (fun _ j _ => us.length - (intOf j).toNat)
  case atStart => exact ⟨0, -1, Nat.zero_le _, rfl, rfl, Lib.hid (.inl ⟨rfl, fun x hx => (by cases hx)⟩), Lib.hid (Below.refl _ _)⟩
  case round =>
    obtain ⟨k, z, hk, rfl, rfl, HP, HW⟩ := hrel
    by_cases hkl : k < us.length
    rotate_left
    · have a1 : ¬ (k : Int) < (us.length : Int) := by omega
      have HPE : Hid (ReachIs (us.map VtM.x) n z) := Lib.hid (by
        have h := HP.out
        rw [List.take_of_length_le (by omega)] at h
        exact h)
      go_wp2
      go_ret
      exact ⟨z, rfl, HPE.out, HW.out⟩
    · have HKL := Lib.hid hkl
      obtain ⟨g, o, rfl, _, hr⟩ := EK.See.range (HB.out.call HW.out).see hkl
      have lk : (ldVt (.pointer (some ⟨g, o + k * 41, none⟩))).run Tryz.prog wr = .ok (.agg (us[k]'hkl).cells.toArray) wr := range_vt (us[k]'hkl).x.len (hr k hkl)
      have HT := Lib.hid (take_x hkl)
      have a1 : (k : Int) < (us.length : Int) := by omega
      have a0 : (0 : Int) ≤ (k : Int) := by omega
      have wk : IntKind.i64.wrap ((k : Int) + 1) = ((k + 1 : Nat) : Int) := by rw [IntKind.wrap_i64]; have := HL.out; omega
      have HU0 : Hid (0 ≤ (us[k]'hkl).x.round) := Lib.hid (HX.out _ (List.mem_map.2 ⟨_, List.getElem_mem hkl, rfl⟩)).2
      generalize us[k]'hkl = u at *
      obtain ⟨w5, hst5, hb5, hbl5⟩ := laid_vt wr u
      have hal := al_vt
      have HU5 := Lib.hid hb5
      have HW5 := Lib.hid (HW.out.trans (hbl5.mono HW.out.size))
      have HVT := Lib.hid (rvoters_any p us u.x.round (fun x hx => (HX.out x hx).1) HL.out w5 (HRB.out.call HW5.out))
      clear hr hb5 hbl5 HW
      go_upto_region 5 with fail
      clear lk hst5 hal
      have u3 : w5.cell? ⟨wr.heap.size, 3, none⟩ = some (.int .i64 u.x.round) := HU5.out.vt_3
      generalize wr.heap.size = q at *
      by_cases h1 : 1 ≤ n
      · by_cases h2 : z < u.x.round
        · by_cases h3 : n ≤ (votN (us.map VtM.x) u.x.round : Int)
          · have HPN := Lib.hid (HP.out.new h1 h2 h3)
            generalize (votN (us.map VtM.x) u.x.round : Int) = vn at *
            go_upto_region 6 with (go_at_call 14; (with_reducible refine (HVT.out).mono ?_); rintro e w6 ⟨rfl, hb⟩; have HB6 := Lib.hid (HW5.out.trans (hb.mono HW5.out.size)); have HU6 := Lib.hid (HU5.out.below hb HU5.out.lt); clear hb)
            have v3 : w6.cell? ⟨q, 3, none⟩ = some (.int .i64 u.x.round) := HU6.out.vt_3
            go_wp2
            go_roundw
            case rel => exact ⟨k + 1, _, HKL.out, rfl, by go_num, Lib.hid (by rw [HT.out]; exact HPN.out), HB6⟩
            case measure => have := HKL.out; simp [intOf]; omega
          · have HPN := Lib.hid (HP.out.old HU0.out (fun e => h3 e.2.2))
            generalize (votN (us.map VtM.x) u.x.round : Int) = vn at *
            go_wp2_with (go_at_call 14; (with_reducible refine (HVT.out).mono ?_); rintro e w6 ⟨rfl, hb⟩; have HB6 := Lib.hid (HW5.out.trans (hb.mono HW5.out.size)); clear hb)
            go_roundw
            case rel => exact ⟨k + 1, _, HKL.out, rfl, by go_num, Lib.hid (by rw [HT.out]; exact HPN.out), HB6⟩
            case measure => have := HKL.out; simp [intOf]; omega
        · have HPN := Lib.hid (HP.out.old HU0.out (fun e => h2 e.2.1))
          go_wp2
          go_roundw
          case rel => exact ⟨k + 1, _, HKL.out, rfl, by go_num, Lib.hid (by rw [HT.out]; exact HPN.out), HW5⟩
          case measure => have := HKL.out; simp [intOf]; omega
      · have HPN := Lib.hid (HP.out.old HU0.out (fun e => h1 e.1))
        go_wp2
        go_roundw
        case rel => exact ⟨k + 1, _, HKL.out, rfl, by go_num, Lib.hid (by rw [HT.out]; exact HPN.out), HW5⟩
        case measure => have := HKL.out; simp [intOf]; omega
end Go.Proofs.YtadnnnbdlkjnkaaGreatDoor

namespace Go.Proofs.YtadnnnbdlkjnkaaGreatDoor
open Go.RowKit Go.Maps

/-- The greatest round of those that are asked for; -1: none. -/
def MaxP (ys : List VtX) (C : VtX → Prop) (z : Int) : Prop :=
  (z = -1 ∧ ∀ x ∈ ys, ¬ C x) ∨ (∃ x ∈ ys, C x ∧ x.round = z ∧ ∀ y ∈ ys, C y → y.round ≤ z)
set_option maxRecDepth 100000 in
theorem MaxP.new {ys : List VtX} {C : VtX → Prop} {z : Int} {x : VtX} (h : MaxP ys C z) (h1 : C x) (h2 : z < x.round) : MaxP (ys ++ [x]) C x.round := by
  refine .inr ⟨x, List.mem_append.2 (.inr (List.mem_singleton.2 rfl)), h1, rfl, fun y hy hn => ?_⟩
  rcases List.mem_append.1 hy with hy | hy
  · rcases h with ⟨rfl, k1⟩ | ⟨x0, hx0, _, rfl, k4⟩
    · exact absurd hn (k1 y hy)
    · have := k4 y hy hn
      omega
  · rw [List.mem_singleton.1 hy]
    exact Int.le_refl _
set_option maxRecDepth 100000 in
theorem MaxP.old {ys : List VtX} {C : VtX → Prop} {z : Int} {x : VtX} (h : MaxP ys C z) (hr : 0 ≤ x.round) (hn : ¬ (C x ∧ z < x.round)) : MaxP (ys ++ [x]) C z := by
  rcases h with ⟨rfl, k1⟩ | ⟨x0, hx0, k2, rfl, k4⟩
  · refine .inl ⟨rfl, fun y hy => ?_⟩
    rcases List.mem_append.1 hy with hy | hy
    · exact k1 y hy
    · rw [List.mem_singleton.1 hy]
      exact fun e => hn ⟨e, by omega⟩
  · refine .inr ⟨x0, List.mem_append.2 (.inl hx0), k2, rfl, fun y hy hy2 => ?_⟩
    rcases List.mem_append.1 hy with hy | hy
    · exact k4 y hy hy2
    · rw [List.mem_singleton.1 hy] at hy2 ⊢
      by_cases hle : x.round ≤ x0.round
      · exact hle
      · exact absurd ⟨hy2, by omega⟩ hn
def CandR (us : List VtM) (kind q : Int) (x : VtX) : Prop := x.kind = kind ∧ x.dig ≠ zeros ∧ q ≤ ((rForM us kind x.round x.dig 63).length : Int)

attribute [local go_sem ↓] ldVt_def stVt_def alVt_def ldDigest_def stDigest_def eqDigest_def bdDg_def
set_option maxRecDepth 100000 in
set_option maxHeartbeats 4000000 in
theorem rwinner_any (p : Nat) (us : List VtM) (kind q : Int) (hx : ∀ x ∈ us.map VtM.x, 0 ≤ x.round) (hl : us.length < 1000000) (w : World) (hB : RBox w p us) :
    Calls Tryz.prog 19 #[.pointer (some ⟨p, 0, none⟩), .int .i64 kind, .int .i64 q] w fun e w' => ∃ z, e = .returned (.int .i64 z) ∧ MaxP (us.map VtM.x) (CandR us kind q) z ∧ Below w.heap.size w w' := by
  have HRB := Lib.hid hB
  obtain ⟨A, c, hbx, hse⟩ := hB.ex
  have HB : Hid (RBoxA w p us A c) := Lib.hid ⟨hbx, hse⟩
  have HL := Lib.hid hl
  have HX := Lib.hid hx
  have c0 : w.cell? ⟨p, 0, none⟩ = some (.slice A us.length c) := HB.out.box.cell 0
  clear hbx hse hB hl hx
  go_enter Tryz.func19, Tryz.ntmps19
  go_wp2
  clear c0
  go_loopw [7, 15] (fun s j wr => ∃ (k : Nat) (z : Int), k ≤ us.length ∧ s = .int .i64 z ∧ j = .int .i64 (k : Int) ∧ Hid (MaxP ((us.take k).map VtM.x) (CandR us kind q) z) ∧ Hid (Below w.heap.size w wr)) (fun _ j _ => us.length - (intOf j).toNat)
  case atStart => exact ⟨0, -1, Nat.zero_le _, rfl, rfl, Lib.hid (.inl ⟨rfl, fun x hx => (by cases hx)⟩), Lib.hid (Below.refl _ _)⟩
  case round =>
    obtain ⟨k, z, hk, rfl, rfl, HP, HW⟩ := hrel
    by_cases hkl : k < us.length
    rotate_left
    · have a1 : ¬ (k : Int) < (us.length : Int) := by omega
      have HPE : Hid (MaxP (us.map VtM.x) (CandR us kind q) z) := Lib.hid (by
        have h := HP.out
        rw [List.take_of_length_le (by omega)] at h
        exact h)
      go_wp2
      go_ret
      exact ⟨z, rfl, HPE.out, HW.out⟩
    · have HKL := Lib.hid hkl
      obtain ⟨g, o, rfl, _, hr⟩ := EK.See.range (HB.out.call HW.out).see hkl
      have lk : (ldVt (.pointer (some ⟨g, o + k * 41, none⟩))).run Tryz.prog wr = .ok (.agg (us[k]'hkl).cells.toArray) wr := range_vt (us[k]'hkl).x.len (hr k hkl)
      have HT := Lib.hid (take_x hkl)
      have a1 : (k : Int) < (us.length : Int) := by omega
      have a0 : (0 : Int) ≤ (k : Int) := by omega
      have wk : IntKind.i64.wrap ((k : Int) + 1) = ((k + 1 : Nat) : Int) := by rw [IntKind.wrap_i64]; have := HL.out; omega
      have HU0 : Hid (0 ≤ (us[k]'hkl).x.round) := Lib.hid (HX.out _ (List.mem_map.2 ⟨_, List.getElem_mem hkl, rfl⟩))
      generalize us[k]'hkl = u at *
      obtain ⟨w5, hst5, hb5, hbl5⟩ := laid_vt wr u
      have hal := al_vt
      have HU5 := Lib.hid hb5
      have HW5 := Lib.hid (HW.out.trans (hbl5.mono HW.out.size))
      have HVT := Lib.hid (rfor_any p us kind u.x.round u.x.dig u.x.len HL.out w5 (HRB.out.call HW5.out))
      clear hr hb5 hbl5 HW
      go_upto_region 5 with fail
      clear lk hst5 hal
      have u0 : w5.cell? ⟨wr.heap.size, 0, none⟩ = some (.int .i64 u.x.kind) := HU5.out.vt_0
      have u3 : w5.cell? ⟨wr.heap.size, 3, none⟩ = some (.int .i64 u.x.round) := HU5.out.vt_3
      have lv : (ldDigest (.pointer (some ⟨wr.heap.size, 4, none⟩))).run Tryz.prog w5 = .ok (.agg (u.x.dig.map bv).toArray) w5 := range_load HU5.out.vt_dig u.x.len
      have hbd := bd_dg0
      generalize wr.heap.size = qb at *
      by_cases h1 : u.x.kind = kind
      rotate_left
      · have HPN := Lib.hid (HP.out.old HU0.out (fun e => h1 e.1.1))
        go_wp2
        go_roundw
        case rel => exact ⟨k + 1, _, HKL.out, rfl, by go_num, Lib.hid (by rw [HT.out]; exact HPN.out), HW5⟩
        case measure => have := HKL.out; simp [intOf]; omega
      by_cases h2 : u.x.dig = zeros
      · have HPN := Lib.hid (HP.out.old HU0.out (fun e => e.1.2.1 h2))
        have hq : ∀ w', (eqDigest (.agg (zeros.map bv).toArray) (.agg (zeros.map bv).toArray)).run Tryz.prog w' = .ok true w' := fun w' => by rw [eq_digest zeros zeros rfl rfl w', decide_eq_true rfl]
        rw [h2] at lv
        go_wp2
        go_roundw
        case rel => exact ⟨k + 1, _, HKL.out, rfl, by go_num, Lib.hid (by rw [HT.out]; exact HPN.out), HW5⟩
        case measure => have := HKL.out; simp [intOf]; omega
      have hq : ∀ w', (eqDigest (.agg (u.x.dig.map bv).toArray) (.agg (zeros.map bv).toArray)).run Tryz.prog w' = .ok false w' := fun w' => by rw [eq_digest _ _ u.x.len rfl w', decide_eq_false h2]
      by_cases h3 : z < u.x.round
      rotate_left
      · have HPN := Lib.hid (HP.out.old HU0.out (fun e => h3 e.2))
        go_wp2
        go_roundw
        case rel => exact ⟨k + 1, _, HKL.out, rfl, by go_num, Lib.hid (by rw [HT.out]; exact HPN.out), HW5⟩
        case measure => have := HKL.out; simp [intOf]; omega
      by_cases h4 : q ≤ ((rForM us kind u.x.round u.x.dig 63).length : Int)
      · have HPN := Lib.hid (HP.out.new (C := CandR us kind q) ⟨h1, h2, h4⟩ h3)
        generalize rForM us kind u.x.round u.x.dig 63 = fm at *
        go_upto_region 6 with (go_at_call 11; (with_reducible refine (HVT.out).mono ?_); rintro e w6 ⟨v, rfl, ho, hb⟩; obtain ⟨A6, c6, rfl⟩ := EK.Own.slice ho; have HB6 := Lib.hid (HW5.out.trans (hb.mono HW5.out.size)); have HU6 := Lib.hid (HU5.out.below hb HU5.out.lt); clear ho hb)
        have v3 : w6.cell? ⟨qb, 3, none⟩ = some (.int .i64 u.x.round) := HU6.out.vt_3
        go_wp2
        go_roundw
        case rel => exact ⟨k + 1, _, HKL.out, rfl, by go_num, Lib.hid (by rw [HT.out]; exact HPN.out), HB6⟩
        case measure => have := HKL.out; simp [intOf]; omega
      · have HPN := Lib.hid (HP.out.old HU0.out (fun e => h4 e.1.2.2))
        generalize rForM us kind u.x.round u.x.dig 63 = fm at *
        go_wp2_with (go_at_call 11; (with_reducible refine (HVT.out).mono ?_); rintro e w6 ⟨v, rfl, ho, hb⟩; obtain ⟨A6, c6, rfl⟩ := EK.Own.slice ho; have HB6 := Lib.hid (HW5.out.trans (hb.mono HW5.out.size)); clear ho hb)
        go_roundw
        case rel => exact ⟨k + 1, _, HKL.out, rfl, by go_num, Lib.hid (by rw [HT.out]; exact HPN.out), HB6⟩
        case measure => have := HKL.out; simp [intOf]; omega
end Go.Proofs.YtadnnnbdlkjnkaaGreatDoor

namespace Go.Proofs.YtadnnnbdlkjnkaaGreatDoor
open Go.RowKit Go.Maps

attribute [local go_sem ↓] ldVt_def stVt_def ldSg_def ldDigest_def stDigest_def eqDigest_def
set_option maxRecDepth 100000 in
set_option maxHeartbeats 4000000 in
theorem rsame_true (a b : VtM) (hab : b.x = a.x) (hf : VFew a.x) (w : World) (hS : VSee w a) (hT : VSee w b) :
    Calls Tryz.prog 17 #[.agg a.cells.toArray, .agg b.cells.toArray] w fun e w' => e = .returned (.bool true) ∧ Below w.heap.size w w' := by
  obtain ⟨w1, hw1⟩ : ∃ w1, w1 = (w.alloc (.cells a.cells.toArray 37)).alloc (.cells b.cells.toArray 37) := ⟨_, rfl⟩
  have HX : Hid (Box w1 w.heap.size 37 a.cells.toArray) := by rw [hw1]; exact (Box.made w _ _).alloc _
  have HY : Hid (Box w1 (w.heap.size + 1) 37 b.cells.toArray) := by rw [hw1]; exact Box.made_at (by simp) _ _
  have HF : Hid (Below w.heap.size w w1) := by rw [hw1]; exact ((Below.refl _ _).alloc (Nat.le_refl _) _).alloc (by simp) _
  have hs := hS.call HF.out
  have ht := hT.call HF.out
  have HK := Lib.hid (ksame_any a.x.leaf b.x.leaf a.x.opn a.x.sht a.x.pth b.x.opn b.x.sht b.x.pth a.A a.B a.C b.A b.B b.C a.a a.b a.c b.a b.b b.c w1 hs.opn hs.sht hs.pth ht.opn ht.sht ht.pth (by have := hf.opn; omega) (by have := hf.sht; omega) (by have := hf.pth; omega))
  have x0 : w1.cell? ⟨w.heap.size, 0, none⟩ = some (.int .i64 a.x.kind) := HX.out.vt_0
  have x1 : w1.cell? ⟨w.heap.size, 1, none⟩ = some (.int .i64 a.x.epoch) := HX.out.vt_1
  have x2 : w1.cell? ⟨w.heap.size, 2, none⟩ = some (.int .i64 a.x.height) := HX.out.vt_2
  have x3 : w1.cell? ⟨w.heap.size, 3, none⟩ = some (.int .i64 a.x.round) := HX.out.vt_3
  have x5 : w1.cell? ⟨w.heap.size, 36, none⟩ = some (.int .i64 a.x.frm) := HX.out.vt_36 a.x.len
  have xd : (ldDigest (.pointer (some ⟨w.heap.size, 4, none⟩))).run Tryz.prog w1 = .ok (.agg (a.x.dig.map bv).toArray) w1 := range_load HX.out.vt_dig a.x.len
  have xs := HX.out.ld_vsg
  have y0 : w1.cell? ⟨w.heap.size + 1, 0, none⟩ = some (.int .i64 a.x.kind) := by rw [← hab]; exact HY.out.vt_0
  have y1 : w1.cell? ⟨w.heap.size + 1, 1, none⟩ = some (.int .i64 a.x.epoch) := by rw [← hab]; exact HY.out.vt_1
  have y2 : w1.cell? ⟨w.heap.size + 1, 2, none⟩ = some (.int .i64 a.x.height) := by rw [← hab]; exact HY.out.vt_2
  have y3 : w1.cell? ⟨w.heap.size + 1, 3, none⟩ = some (.int .i64 a.x.round) := by rw [← hab]; exact HY.out.vt_3
  have y5 : w1.cell? ⟨w.heap.size + 1, 36, none⟩ = some (.int .i64 a.x.frm) := by rw [← hab]; exact HY.out.vt_36 b.x.len
  have yd : (ldDigest (.pointer (some ⟨w.heap.size + 1, 4, none⟩))).run Tryz.prog w1 = .ok (.agg (a.x.dig.map bv).toArray) w1 := by rw [← hab]; exact range_load HY.out.vt_dig b.x.len
  have ys := HY.out.ld_vsg
  have hq : ∀ w', (eqDigest (.agg (a.x.dig.map bv).toArray) (.agg (a.x.dig.map bv).toArray)).run Tryz.prog w' = .ok true w' := fun w' => by rw [eq_digest _ _ a.x.len a.x.len w', decide_eq_true rfl]
  have HK2 : Hid (Calls Tryz.prog 32 #[.agg a.sg.cells, .agg b.sg.cells] w1 fun e w' => e = .returned (.bool true) ∧ Below w1.heap.size w1 w') := Lib.hid (HK.out.mono (by
    rintro e w' ⟨rfl, hb⟩
    refine ⟨?_, hb⟩
    rw [hab]
    simp))
  clear HK hs ht hS hT HX HY hf hab
  generalize a.sg.cells = sa at *
  generalize b.sg.cells = sb at *
  generalize a.cells.toArray = ca at *
  generalize b.cells.toArray = cb at *
  generalize (a.x.dig.map bv).toArray = dd at *
  generalize a.x.kind = k0 at *
  generalize a.x.epoch = k1 at *
  generalize a.x.height = k2 at *
  generalize a.x.round = k3 at *
  generalize a.x.frm = k5 at *
  go_enter Tryz.func17, Tryz.ntmps17
  go_upto_region 1 with fail
  change Code.wp _ _ _ _ ((w.alloc (.cells ca 37)).alloc (.cells cb 37))
  rw [← hw1]
  clear hw1
  go_wp2_with (go_at_call 32; (with_reducible refine (HK2.out).mono ?_); rintro e w2 ⟨rfl, hb⟩; have HB2 := Lib.hid hb; clear hb)
  go_ret
  exact ⟨rfl, HF.out.trans (HB2.out.mono HF.out.size)⟩
end Go.Proofs.YtadnnnbdlkjnkaaGreatDoor
