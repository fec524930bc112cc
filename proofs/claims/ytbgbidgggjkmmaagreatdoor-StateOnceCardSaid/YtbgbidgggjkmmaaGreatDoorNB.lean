/-
  cmp.Compare of texts and numbers; sort.Find by each closure; state.findPair, state.findReply.
  Pairs, replies and states in memory: what is loaded, stored, compared; slices.Clone of each kind; state.copyReply, state.copyConfig.
  state.copyState.
-/
import Derived.Test.YtbgbidgggjkmmaaGreatDoorNA
import Derived.Deep.RegionHeld3
namespace Go.Proofs.YtbgbidgggjkmmaaGreatDoor
open Go.RowKit

def cmp3 {K : Type} (lt : K → K → Bool) (a b : K) : Int := if lt a b = true then -1 else if lt b a = true then 1 else 0
set_option maxRecDepth 100000 in
theorem cmp3_pos {K : Type} {lt : K → K → Bool} (o : Lt3 lt) (a b : K) : (0 < cmp3 lt a b) ↔ lt b a = true := by
  unfold cmp3
  split
  · rename_i h
    rw [o.asy h]
    simp
  · split <;> simp [*]
set_option maxRecDepth 100000 in
theorem cmp3_zero {K : Type} {lt : K → K → Bool} (o : Lt3 lt) (a b : K) : (cmp3 lt a b = 0) ↔ b = a := by
  unfold cmp3
  split
  · rename_i h
    exact ⟨fun h => by omega, fun e => absurd e (o.ne h).symm⟩
  · split
    · rename_i h
      exact ⟨fun h => by omega, fun e => absurd e (o.ne h)⟩
    · rename_i h1 h2
      refine ⟨fun _ => ?_, fun _ => rfl⟩
      rcases o.tot a b with h | h | h
      · exact absurd h h1
      · exact h.symm
      · exact absurd h h2

set_option maxRecDepth 100000 in
theorem scompare_any (a b : ByteArray) (w : World) : Calls Tryz.prog 30 #[.string a, .string b] w fun e w' => e = .returned (.int .i64 (cmp3 sLt a b)) ∧ w = w' := by
  have hn : ∀ s : ByteArray, (s.toList == s.toList) = true := fun s => by simp
  rcases sLt3.tot a b with h | h | h
  · have HE : Hid (cmp3 sLt a b = -1) := Lib.hid (by unfold cmp3; rw [if_pos h])
    have h1 : Op.bytesLess a.toList b.toList = true := h
    clear h
    generalize cmp3 sLt a b = r at *
    go_enter Tryz.func30, Tryz.ntmps30
    go_wp2
    go_ret
    exact ⟨ret_val (by rw [HE.out]; first | done | rfl), rfl⟩
  · have HE : Hid (cmp3 sLt a b = 0) := Lib.hid ((cmp3_zero sLt3 a b).2 h.symm)
    subst h
    have h1 : Op.bytesLess a.toList a.toList = false := bl_irr _
    generalize cmp3 sLt a a = r at *
    go_enter Tryz.func30, Tryz.ntmps30
    go_wp2
    go_ret
    exact ⟨ret_val (by rw [HE.out]; first | done | rfl), rfl⟩
  · have HE : Hid (cmp3 sLt a b = 1) := Lib.hid (by unfold cmp3; rw [if_neg (by rw [sLt3.asy h]; simp), if_pos h])
    have h1 : Op.bytesLess a.toList b.toList = false := sLt3.asy h
    have h2 : (a.toList == b.toList) = false := by
      rw [beq_eq_false_iff_ne]
      exact fun e => sLt3.ne h (str_eq e).symm
    clear h
    generalize cmp3 sLt a b = r at *
    go_enter Tryz.func30, Tryz.ntmps30
    go_wp2
    go_ret
    exact ⟨ret_val (by rw [HE.out]; first | done | rfl), rfl⟩
set_option maxRecDepth 100000 in
theorem icompare_any10 (a b : Int) (w : World) : Calls Tryz.prog 32 #[.int .i64 a, .int .i64 b] w fun e w' => e = .returned (.int .i64 (cmp3 iLt a b)) ∧ w = w' := by
  have HE : Hid (cmp3 iLt a b = if a < b then -1 else if b < a then 1 else 0) := Lib.hid (by unfold cmp3 iLt; simp only [decide_eq_true_eq])
  generalize cmp3 iLt a b = r at *
  go_enter Tryz.func32, Tryz.ntmps32
  go_wp2
  all_goals (go_ret; refine ⟨ret_val ?_, rfl⟩; rw [HE.out]; (try (show _ = _)); (repeat' split) <;> first | rfl | (exfalso; omega))

/-! ### The search, plain -/
def bsN (g : Nat → Bool) : Nat → Nat → Nat → Nat
  | 0, i, _ => i
  | n + 1, i, j => if i < j then (if g ((i + j) / 2) = true then bsN g n ((i + j) / 2 + 1) j else bsN g n i ((i + j) / 2)) else i
set_option maxRecDepth 100000 in
theorem bsN_end (g : Nat → Bool) (n i : Nat) : bsN g n i i = i := by
  cases n with
  | zero => rfl
  | succ n => unfold bsN; rw [if_neg (Nat.lt_irrefl _)]
set_option maxRecDepth 100000 in
theorem bsN_spec (g : Nat → Bool) (N : Nat) : ∀ (n i j : Nat), j - i ≤ n → i ≤ j → j ≤ N → (0 < i → g (i - 1) = true) → (j < N → g j = false) →
    bsN g n i j ≤ N ∧ (0 < bsN g n i j → g (bsN g n i j - 1) = true) ∧ (bsN g n i j < N → g (bsN g n i j) = false)
  | 0, i, j, h, hij, hj, hb, ha => by
    have e : i = j := by omega
    subst e
    exact ⟨hj, hb, ha⟩
  | n + 1, i, j, h, hij, hj, hb, ha => by
    unfold bsN
    split
    · rename_i hlt
      cases hg : g ((i + j) / 2) with
      | true =>
        rw [if_pos rfl]
        exact bsN_spec g N n _ _ (by omega) (by omega) hj (fun _ => by rw [Nat.add_sub_cancel]; exact hg) ha
      | false =>
        rw [if_neg (by simp)]
        exact bsN_spec g N n _ _ (by omega) (by omega) (by omega) hb (fun _ => hg)
    · have e : i = j := by omega
      subst e
      exact ⟨hj, hb, ha⟩
section
variable {α K : Type}
def goN (lt : K → K → Bool) (key : α → K) (l : List α) (k : K) (h : Nat) : Bool := match l[h]? with
  | some x => lt (key x) k
  | none => false
set_option maxRecDepth 100000 in
theorem goN_at {lt : K → K → Bool} {key : α → K} {l : List α} {k : K} {h : Nat} (hh : h < l.length) : goN lt key l k h = lt (key (l[h]'hh)) k := by
  unfold goN
  rw [List.getElem?_eq_getElem hh]
variable [DecidableEq K]
def findI (lt : K → K → Bool) (key : α → K) (l : List α) (k : K) : Nat := bsN (goN lt key l k) l.length 0 l.length
def findB (lt : K → K → Bool) (key : α → K) (l : List α) (k : K) : Bool := match l[findI lt key l k]? with
  | some x => decide (key x = k)
  | none => false
set_option maxRecDepth 100000 in
theorem find_fnd (lt : K → K → Bool) (key : α → K) (l : List α) (k : K) : Fnd lt key l k (findI lt key l k) (findB lt key l k) := by
  obtain ⟨h1, h2, h3⟩ := bsN_spec (goN lt key l k) l.length l.length 0 l.length (by omega) (Nat.zero_le _) (Nat.le_refl _) (fun h => absurd h (by omega)) (fun h => absurd h (by omega))
  refine ⟨h1, fun h => ?_, fun h => ?_, ?_⟩
  · rw [← goN_at (lt := lt)]
    exact h2 h
  · rw [← goN_at (lt := lt)]
    exact h3 h
  · unfold findB
    by_cases h : findI lt key l k < l.length
    · rw [List.getElem?_eq_getElem h]
      simp only [decide_eq_true_eq]
      exact ⟨fun e => ⟨h, e⟩, fun ⟨_, e⟩ => e⟩
    · rw [List.getElem?_eq_none (by omega)]
      exact ⟨fun e => (by cases e), fun ⟨h', _⟩ => absurd h' h⟩
end
abbrev pFindI (l : List PairX) (k : ByteArray) : Nat := findI sLt PairX.key l k
abbrev pFindB (l : List PairX) (k : ByteArray) : Bool := findB sLt PairX.key l k
abbrev rFindI (l : List RepM) (c : Int) : Nat := findI iLt (fun r : RepM => r.x.client) l c
abbrev rFindB (l : List RepM) (c : Int) : Bool := findB iLt (fun r : RepM => r.x.client) l c

/-! ### The closures -/
set_option maxRecDepth 100000 in
theorem PairX.range_key {w : World} {g o : Nat} {x : PairX} (h : w.rangeAt g o (PK.enc x)) : w.cell? ⟨g, o, none⟩ = some (.string x.key) := h 0 _ rfl
set_option maxRecDepth 100000 in
theorem PairX.range_val {w : World} {g o : Nat} {x : PairX} (h : w.rangeAt g o (PK.enc x)) : w.cell? ⟨g, o + 1, none⟩ = some (.string x.val) := h 1 _ rfl
set_option maxRecDepth 100000 in
theorem RepM.range_client {w : World} {g o : Nat} {x : RepM} (h : w.rangeAt g o (RK.enc x)) : w.cell? ⟨g, o, none⟩ = some (.int .i64 x.x.client) := h 0 _ rfl
set_option maxRecDepth 100000 in
theorem RepM.range_num {w : World} {g o : Nat} {x : RepM} (h : w.rangeAt g o (RK.enc x)) : w.cell? ⟨g, o + 1, none⟩ = some (.int .i64 x.x.num) := h 1 _ rfl
set_option maxRecDepth 100000 in
theorem RepM.range_vals {w : World} {g o : Nat} {x : RepM} (h : w.rangeAt g o (RK.enc x)) : w.cell? ⟨g, o + 3, none⟩ = some (.slice x.A x.x.vals.length x.z) := h 3 _ rfl

set_option maxRecDepth 100000 in
set_option maxHeartbeats 1000000 in
theorem pclos_any (l : List PairX) (A : Option Addr) (c : Nat) (k : ByteArray) (bk bp : Nat) (w : World) (hS : PK.See w w.heap.size A l) (hk : w.cell? ⟨bk, 0, none⟩ = some (.string k)) (hp : w.cell? ⟨bp, 0, none⟩ = some (.slice A l.length c)) (i : Nat) (hi : i < l.length) :
    Calls Tryz.prog 29 #[.int .i64 i, .pointer (some ⟨bk, 0, none⟩), .pointer (some ⟨bp, 0, none⟩)] w fun e w' => e = .returned (.int .i64 (cmp3 sLt k (l[i]'hi).key)) ∧ Below w.heap.size w w' := by
  obtain ⟨g, o, rfl, _, hr⟩ := EK.See.range hS hi
  have hx := PairX.range_key (hr i hi)
  have hx2 : w.cell? ⟨g, o + i * 2, none⟩ = some (.string (l[i]'hi).key) := hx
  generalize (l[i]'hi).key = x at *
  clear hr hS hx
  have HC := Lib.hid (fun d os => Calls.regrown_of (w := w) (d := d) (os := os) ((scompare_any k x _).mono fun e w' ⟨h1, h2⟩ => ⟨h1, h2 ▸ Below.refl _ _⟩))
  have C0 := Lib.hid (fun d os => cell_regrown hk d os)
  have C1 := Lib.hid (fun d os => cell_regrown hp d os)
  have C2 := Lib.hid (fun d os => cell_regrown hx2 d os)
  have i0 : (0 : Int) ≤ (i : Int) := by omega
  have i1 : (i : Int) < (l.length : Int) := by omega
  clear hi hk hp hx2
  generalize l.length = n at *
  generalize cmp3 sLt k x = r at *
  go_enter Tryz.func29, Tryz.ntmps29
  go_upto_region 1 with fail
  have c0 := C0.out
  have c1 := C1.out
  have c2 := C2.out
  refine wp_region_quiet_below (by kernel_rfl) (by kernel_rfl) ?_
  repeat (quiet_step ((go_at_call 30; with_reducible exact HC.out _ _)))
  refine wpQuiet_nil ?_
  intro _ hw'
  obtain ⟨⟨dq, osq⟩, hw''⟩ := hw'
  subst hw''
  clear c0 c1 c2
  go_wp2
  go_ret
  exact ⟨rfl, below_regrown w dq osq⟩

set_option maxRecDepth 100000 in
set_option maxHeartbeats 4000000 in
theorem pfind_at (l : List PairX) (A : Option Addr) (c : Nat) (hn : l.length ≤ 140737488351232) (k : ByteArray) (bk bp : Nat) (w : World) (hS : PK.See w w.heap.size A l) (hk : w.cell? ⟨bk, 0, none⟩ = some (.string k)) (hp : w.cell? ⟨bp, 0, none⟩ = some (.slice A l.length c)) :
    Calls Tryz.prog 28 #[.int .i64 l.length, .func (.func 29) #[] #[.pointer (some ⟨bk, 0, none⟩), .pointer (some ⟨bp, 0, none⟩)]] w fun e w' => e = .returned (.tuple #[.int .i64 (pFindI l k : Nat), .bool (pFindB l k)]) ∧ Below w.heap.size w w' := by
  have HC : Hid (∀ w', Below w.heap.size w w' → ∀ (i : Nat) (hi : i < l.length), Calls Tryz.prog 29 #[.int .i64 i, .pointer (some ⟨bk, 0, none⟩), .pointer (some ⟨bp, 0, none⟩)] w' fun e w'' => e = .returned (.int .i64 (cmp3 sLt k (l[i]'hi).key)) ∧ Below w'.heap.size w' w'') := Lib.hid (fun w' hb i hi => pclos_any l A c k bk bp w' (EK.See.far hS hb) ((hb.cell (p := ⟨bk, 0, none⟩) (block_lt_of_cell hk)).trans hk) ((hb.cell (p := ⟨bp, 0, none⟩) (block_lt_of_cell hp)).trans hp) i hi)
  have HN : Hid (l.length ≤ 140737488351232) := Lib.hid hn
  obtain ⟨G, hG⟩ : ∃ G, G = goN sLt PairX.key l k := ⟨_, rfl⟩
  have HG : Hid (∀ (i : Nat) (hi : i < l.length), G i = sLt (l[i]'hi).key k) := Lib.hid (fun i hi => by rw [hG]; exact goN_at hi)
  have HI : Hid (pFindI l k = bsN G l.length 0 l.length) := Lib.hid (by rw [hG]; rfl)
  have HB : Hid (pFindB l k = true ↔ ∃ h : pFindI l k < l.length, (l[pFindI l k]'h).key = k) := Lib.hid (find_fnd sLt PairX.key l k).hit
  generalize pFindI l k = F at *
  generalize pFindB l k = R at *
  clear hG hS hk hp hn
  go_enter Tryz.func28, Tryz.ntmps28
  go_wp2
  go_loopw [4, 6] (fun si sj wr => ∃ a b f : Nat, a ≤ b ∧ b ≤ l.length ∧ si = .int .i64 (a : Int) ∧ sj = .int .i64 (b : Int) ∧ Hid (b - a ≤ f ∧ bsN G f a b = F) ∧ Hid (Below w.heap.size w wr)) (fun si sj _ => (intOf sj - intOf si).toNat)
  case atStart => exact ⟨0, l.length, l.length, Nat.zero_le _, Nat.le_refl _, rfl, rfl, Lib.hid ⟨Nat.sub_le _ _, HI.out.symm⟩, Lib.hid (Below.refl _ _)⟩
  case round =>
    obtain ⟨a, b, f, hab, hbl, rfl, rfl, HF, HW⟩ := hrel
    by_cases hlt : a < b
    · have i1 : (a : Int) < (b : Int) := by omega
      have s1 : IntKind.i64.wrap ((a : Int) + (b : Int)) = (a : Int) + b := by rw [IntKind.wrap_i64]; have := HN.out; omega
      have s2 : IntKind.u64.wrap ((a : Int) + (b : Int)) = (a : Int) + b := by rw [IntKind.wrap_u64]; have := HN.out; omega
      obtain ⟨h, hh⟩ : ∃ h : Nat, h = (a + b) / 2 := ⟨_, rfl⟩
      have s3 : wrap64 (((a : Int) + (b : Int)) / 2) = (h : Int) := by
        have e : ((a : Int) + (b : Int)) / 2 = (h : Int) := by omega
        rw [e]
        unfold wrap64
        have := HN.out
        omega
      have s4 : IntKind.i64.wrap ((h : Int) + 1) = ((h + 1 : Nat) : Int) := by
        rw [IntKind.wrap_i64]
        have := HN.out
        omega
      have hl : h < l.length := by omega
      have HC1 := Lib.hid (HC.out wr HW.out h hl)
      have HGH := Lib.hid (HG.out h hl)
      have HP := Lib.hid (cmp3_pos sLt3 k (l[h]'hl).key)
      have HST : Hid ((G h = true → b - (h + 1) ≤ f ∧ ∃ f', b - (h + 1) ≤ f' ∧ bsN G f' (h + 1) b = F) ∧ (G h = false → ∃ f', h - a ≤ f' ∧ bsN G f' a h = F)) := Lib.hid (by
        obtain ⟨h1, h2⟩ := HF.out
        obtain ⟨f', rfl⟩ : ∃ f', f = f' + 1 := ⟨f - 1, by omega⟩
        unfold bsN at h2
        rw [if_pos hlt, ← hh] at h2
        refine ⟨fun e => ⟨by omega, f', by omega, ?_⟩, fun e => ⟨f', by omega, ?_⟩⟩
        · rwa [if_pos e] at h2
        · rwa [if_neg (by rw [e]; simp)] at h2)
      have HLE : Hid (a ≤ h ∧ h < b ∧ b ≤ l.length) := Lib.hid (by omega)
      rw [HGH.out] at HST
      generalize cmp3 sLt k (l[h]'hl).key = v at *
      generalize sLt (l[h]'hl).key k = gt at *
      clear hh hl hlt hab hbl HGH HF
      cases gt
      · have e1 : decide (0 < v) = false := by
          rw [decide_eq_false_iff_not]
          exact fun h => by have := HP.out.1 h; cases this
        have e0 : ¬ (0 < v) := of_decide_eq_false e1
        have HS2 := Lib.hid (HST.out.2 rfl)
        clear HP HST
        go_wp2_with ((with_reducible refine (HC1.out).mono ?_); rintro e w2 ⟨rfl, hb2⟩; have HB2 := Lib.hid hb2; clear hb2)
        go_roundw
        case rel =>
          obtain ⟨f', g1, g2⟩ := HS2.out
          exact ⟨a, h, f', HLE.out.1, by have := HLE.out; omega, by first | rfl | go_num, by first | rfl | go_num, Lib.hid ⟨g1, g2⟩, Lib.hid (HW.out.trans (HB2.out.mono HW.out.size))⟩
        case measure => have := HLE.out; simp [intOf]; omega
      · have e1 : decide (0 < v) = true := by
          rw [decide_eq_true_iff]
          exact HP.out.2 rfl
        have e0 : 0 < v := of_decide_eq_true e1
        have HS2 := Lib.hid (HST.out.1 rfl)
        clear HP HST
        go_wp2_with ((with_reducible refine (HC1.out).mono ?_); rintro e w2 ⟨rfl, hb2⟩; have HB2 := Lib.hid hb2; clear hb2)
        go_roundw
        case rel =>
          obtain ⟨_, f', g1, g2⟩ := HS2.out
          exact ⟨h + 1, b, f', by have := HLE.out; omega, HLE.out.2.2, by first | rfl | go_num, by first | rfl | go_num, Lib.hid ⟨g1, g2⟩, Lib.hid (HW.out.trans (HB2.out.mono HW.out.size))⟩
        case measure => have := HLE.out; simp [intOf]; omega
    · have hab2 : a = b := by omega
      subst hab2
      have HFA : Hid (F = a) := Lib.hid (by
        have := HF.out.2
        rw [bsN_end] at this
        exact this.symm)
      by_cases hal : a < l.length
      · have i1 : (a : Int) < (l.length : Int) := by omega
        have HC1 := Lib.hid (HC.out wr HW.out a hal)
        have HR : Hid (R = decide (cmp3 sLt k (l[a]'hal).key = 0)) := Lib.hid (by
          rw [Bool.eq_iff_iff, HB.out, decide_eq_true_iff, cmp3_zero sLt3, HFA.out]
          exact ⟨fun ⟨_, e⟩ => e, fun e => ⟨hal, e⟩⟩)
        generalize cmp3 sLt k (l[a]'hal).key = v at *
        clear hlt hab hbl HF HB HC HG
        go_wp2_with ((with_reducible refine (HC1.out).mono ?_); rintro e w2 ⟨rfl, hb2⟩; have HB2 := Lib.hid hb2; clear hb2)
        go_ret2
        refine ⟨?_, HW.out.trans (HB2.out.mono HW.out.size)⟩
        rw [HFA.out, HR.out]
        first | done | rfl
      · have i1 : ¬ ((a : Int) < (l.length : Int)) := by omega
        have HR : Hid (R = false) := Lib.hid (by
          rw [← Bool.not_eq_true, HB.out, HFA.out]
          exact fun ⟨h, _⟩ => hal h)
        clear hlt hab hbl HF HB HC HG
        go_wp2
        go_ret2
        refine ⟨?_, HW.out⟩
        rw [HFA.out, HR.out]
        first | done | rfl

set_option maxRecDepth 100000 in
set_option maxHeartbeats 1000000 in
theorem rclos_any (l : List RepM) (A : Option Addr) (c : Nat) (k : Int) (bk bp : Nat) (w : World) (hS : RK.See w w.heap.size A l) (hk : w.cell? ⟨bk, 0, none⟩ = some (.int .i64 k)) (hp : w.cell? ⟨bp, 0, none⟩ = some (.slice A l.length c)) (i : Nat) (hi : i < l.length) :
    Calls Tryz.prog 31 #[.int .i64 i, .pointer (some ⟨bk, 0, none⟩), .pointer (some ⟨bp, 0, none⟩)] w fun e w' => e = .returned (.int .i64 (cmp3 iLt k (l[i]'hi).x.client)) ∧ Below w.heap.size w w' := by
  obtain ⟨g, o, rfl, _, hr⟩ := EK.See.range hS hi
  have hx := RepM.range_client (hr i hi)
  have hx2 : w.cell? ⟨g, o + i * 4, none⟩ = some (.int .i64 (l[i]'hi).x.client) := hx
  generalize (l[i]'hi).x.client = x at *
  clear hr hS hx
  have HC := Lib.hid (fun d os => Calls.regrown_of (w := w) (d := d) (os := os) ((icompare_any10 k x _).mono fun e w' ⟨h1, h2⟩ => ⟨h1, h2 ▸ Below.refl _ _⟩))
  have C0 := Lib.hid (fun d os => cell_regrown hk d os)
  have C1 := Lib.hid (fun d os => cell_regrown hp d os)
  have C2 := Lib.hid (fun d os => cell_regrown hx2 d os)
  have i0 : (0 : Int) ≤ (i : Int) := by omega
  have i1 : (i : Int) < (l.length : Int) := by omega
  clear hi hk hp hx2
  generalize l.length = n at *
  generalize cmp3 iLt k x = r at *
  go_enter Tryz.func31, Tryz.ntmps31
  go_upto_region 1 with fail
  have c0 := C0.out
  have c1 := C1.out
  have c2 := C2.out
  refine wp_region_quiet_below (by kernel_rfl) (by kernel_rfl) ?_
  repeat (quiet_step ((go_at_call 32; with_reducible exact HC.out _ _)))
  refine wpQuiet_nil ?_
  intro _ hw'
  obtain ⟨⟨dq, osq⟩, hw''⟩ := hw'
  subst hw''
  clear c0 c1 c2
  go_wp2
  go_ret
  exact ⟨rfl, below_regrown w dq osq⟩

set_option maxRecDepth 100000 in
set_option maxHeartbeats 4000000 in
theorem rfind_at (l : List RepM) (A : Option Addr) (c : Nat) (hn : l.length ≤ 140737488351232) (k : Int) (bk bp : Nat) (w : World) (hS : RK.See w w.heap.size A l) (hk : w.cell? ⟨bk, 0, none⟩ = some (.int .i64 k)) (hp : w.cell? ⟨bp, 0, none⟩ = some (.slice A l.length c)) :
    Calls Tryz.prog 28 #[.int .i64 l.length, .func (.func 31) #[] #[.pointer (some ⟨bk, 0, none⟩), .pointer (some ⟨bp, 0, none⟩)]] w fun e w' => e = .returned (.tuple #[.int .i64 (rFindI l k : Nat), .bool (rFindB l k)]) ∧ Below w.heap.size w w' := by
  have HC : Hid (∀ w', Below w.heap.size w w' → ∀ (i : Nat) (hi : i < l.length), Calls Tryz.prog 31 #[.int .i64 i, .pointer (some ⟨bk, 0, none⟩), .pointer (some ⟨bp, 0, none⟩)] w' fun e w'' => e = .returned (.int .i64 (cmp3 iLt k (l[i]'hi).x.client)) ∧ Below w'.heap.size w' w'') := Lib.hid (fun w' hb i hi => rclos_any l A c k bk bp w' (EK.See.far hS hb) ((hb.cell (p := ⟨bk, 0, none⟩) (block_lt_of_cell hk)).trans hk) ((hb.cell (p := ⟨bp, 0, none⟩) (block_lt_of_cell hp)).trans hp) i hi)
  have HN : Hid (l.length ≤ 140737488351232) := Lib.hid hn
  obtain ⟨G, hG⟩ : ∃ G, G = goN iLt (fun r : RepM => r.x.client) l k := ⟨_, rfl⟩
  have HG : Hid (∀ (i : Nat) (hi : i < l.length), G i = iLt (l[i]'hi).x.client k) := Lib.hid (fun i hi => by rw [hG]; exact goN_at hi)
  have HI : Hid (rFindI l k = bsN G l.length 0 l.length) := Lib.hid (by rw [hG]; rfl)
  have HB : Hid (rFindB l k = true ↔ ∃ h : rFindI l k < l.length, (l[rFindI l k]'h).x.client = k) := Lib.hid (find_fnd iLt (fun r : RepM => r.x.client) l k).hit
  generalize rFindI l k = F at *
  generalize rFindB l k = R at *
  clear hG hS hk hp hn
  go_enter Tryz.func28, Tryz.ntmps28
  go_wp2
  go_loopw [4, 6] (fun si sj wr => ∃ a b f : Nat, a ≤ b ∧ b ≤ l.length ∧ si = .int .i64 (a : Int) ∧ sj = .int .i64 (b : Int) ∧ Hid (b - a ≤ f ∧ bsN G f a b = F) ∧ Hid (Below w.heap.size w wr)) (fun si sj _ => (intOf sj - intOf si).toNat)
  case atStart => exact ⟨0, l.length, l.length, Nat.zero_le _, Nat.le_refl _, rfl, rfl, Lib.hid ⟨Nat.sub_le _ _, HI.out.symm⟩, Lib.hid (Below.refl _ _)⟩
  case round =>
    obtain ⟨a, b, f, hab, hbl, rfl, rfl, HF, HW⟩ := hrel
    by_cases hlt : a < b
    · have i1 : (a : Int) < (b : Int) := by omega
      have s1 : IntKind.i64.wrap ((a : Int) + (b : Int)) = (a : Int) + b := by rw [IntKind.wrap_i64]; have := HN.out; omega
      have s2 : IntKind.u64.wrap ((a : Int) + (b : Int)) = (a : Int) + b := by rw [IntKind.wrap_u64]; have := HN.out; omega
      obtain ⟨h, hh⟩ : ∃ h : Nat, h = (a + b) / 2 := ⟨_, rfl⟩
      have s3 : wrap64 (((a : Int) + (b : Int)) / 2) = (h : Int) := by
        have e : ((a : Int) + (b : Int)) / 2 = (h : Int) := by omega
        rw [e]
        unfold wrap64
        have := HN.out
        omega
      have s4 : IntKind.i64.wrap ((h : Int) + 1) = ((h + 1 : Nat) : Int) := by
        rw [IntKind.wrap_i64]
        have := HN.out
        omega
      have hl : h < l.length := by omega
      have HC1 := Lib.hid (HC.out wr HW.out h hl)
      have HGH := Lib.hid (HG.out h hl)
      have HP := Lib.hid (cmp3_pos iLt3 k (l[h]'hl).x.client)
      have HST : Hid ((G h = true → b - (h + 1) ≤ f ∧ ∃ f', b - (h + 1) ≤ f' ∧ bsN G f' (h + 1) b = F) ∧ (G h = false → ∃ f', h - a ≤ f' ∧ bsN G f' a h = F)) := Lib.hid (by
        obtain ⟨h1, h2⟩ := HF.out
        obtain ⟨f', rfl⟩ : ∃ f', f = f' + 1 := ⟨f - 1, by omega⟩
        unfold bsN at h2
        rw [if_pos hlt, ← hh] at h2
        refine ⟨fun e => ⟨by omega, f', by omega, ?_⟩, fun e => ⟨f', by omega, ?_⟩⟩
        · rwa [if_pos e] at h2
        · rwa [if_neg (by rw [e]; simp)] at h2)
      have HLE : Hid (a ≤ h ∧ h < b ∧ b ≤ l.length) := Lib.hid (by omega)
      rw [HGH.out] at HST
      generalize cmp3 iLt k (l[h]'hl).x.client = v at *
      generalize iLt (l[h]'hl).x.client k = gt at *
      clear hh hl hlt hab hbl HGH HF
      cases gt
      · have e1 : decide (0 < v) = false := by
          rw [decide_eq_false_iff_not]
          exact fun h => by have := HP.out.1 h; cases this
        have e0 : ¬ (0 < v) := of_decide_eq_false e1
        have HS2 := Lib.hid (HST.out.2 rfl)
        clear HP HST
        go_wp2_with ((with_reducible refine (HC1.out).mono ?_); rintro e w2 ⟨rfl, hb2⟩; have HB2 := Lib.hid hb2; clear hb2)
        go_roundw
        case rel =>
          obtain ⟨f', g1, g2⟩ := HS2.out
          exact ⟨a, h, f', HLE.out.1, by have := HLE.out; omega, by first | rfl | go_num, by first | rfl | go_num, Lib.hid ⟨g1, g2⟩, Lib.hid (HW.out.trans (HB2.out.mono HW.out.size))⟩
        case measure => have := HLE.out; simp [intOf]; omega
      · have e1 : decide (0 < v) = true := by
          rw [decide_eq_true_iff]
          exact HP.out.2 rfl
        have e0 : 0 < v := of_decide_eq_true e1
        have HS2 := Lib.hid (HST.out.1 rfl)
        clear HP HST
        go_wp2_with ((with_reducible refine (HC1.out).mono ?_); rintro e w2 ⟨rfl, hb2⟩; have HB2 := Lib.hid hb2; clear hb2)
        go_roundw
        case rel =>
          obtain ⟨_, f', g1, g2⟩ := HS2.out
          exact ⟨h + 1, b, f', by have := HLE.out; omega, HLE.out.2.2, by first | rfl | go_num, by first | rfl | go_num, Lib.hid ⟨g1, g2⟩, Lib.hid (HW.out.trans (HB2.out.mono HW.out.size))⟩
        case measure => have := HLE.out; simp [intOf]; omega
    · have hab2 : a = b := by omega
      subst hab2
      have HFA : Hid (F = a) := Lib.hid (by
        have := HF.out.2
        rw [bsN_end] at this
        exact this.symm)
      by_cases hal : a < l.length
      · have i1 : (a : Int) < (l.length : Int) := by omega
        have HC1 := Lib.hid (HC.out wr HW.out a hal)
        have HR : Hid (R = decide (cmp3 iLt k (l[a]'hal).x.client = 0)) := Lib.hid (by
          rw [Bool.eq_iff_iff, HB.out, decide_eq_true_iff, cmp3_zero iLt3, HFA.out]
          exact ⟨fun ⟨_, e⟩ => e, fun e => ⟨hal, e⟩⟩)
        generalize cmp3 iLt k (l[a]'hal).x.client = v at *
        clear hlt hab hbl HF HB HC HG
        go_wp2_with ((with_reducible refine (HC1.out).mono ?_); rintro e w2 ⟨rfl, hb2⟩; have HB2 := Lib.hid hb2; clear hb2)
        go_ret2
        refine ⟨?_, HW.out.trans (HB2.out.mono HW.out.size)⟩
        rw [HFA.out, HR.out]
        first | done | rfl
      · have i1 : ¬ ((a : Int) < (l.length : Int)) := by omega
        have HR : Hid (R = false) := Lib.hid (by
          rw [← Bool.not_eq_true, HB.out, HFA.out]
          exact fun ⟨h, _⟩ => hal h)
        clear hlt hab hbl HF HB HC HG
        go_wp2
        go_ret2
        refine ⟨?_, HW.out⟩
        rw [HFA.out, HR.out]
        first | done | rfl

set_option maxRecDepth 100000 in
set_option maxHeartbeats 1000000 in
theorem pfind_any (l : List PairX) (A : Option Addr) (c : Nat) (hn : l.length ≤ 140737488351232) (k : ByteArray) (w : World) (hS : PK.See w w.heap.size A l) :
    Calls Tryz.prog 21 #[.slice A l.length c, .string k] w fun e w' => e = .returned (.tuple #[.int .i64 (pFindI l k : Nat), .bool (pFindB l k)]) ∧ Below w.heap.size w w' := by
  obtain ⟨w1, hw1⟩ : ∃ w1, w1 = (w.alloc (.cells #[.slice A l.length c] 22)).alloc (.cells #[.string k] 9) := ⟨_, rfl⟩
  have HX : Hid (Box w1 w.heap.size 22 #[.slice A l.length c]) := by rw [hw1]; exact (Box.made w _ _).alloc _
  have HY : Hid (Box w1 (w.heap.size + 1) 9 #[.string k]) := by rw [hw1]; exact Box.made_at (by simp) _ _
  have HF : Hid (Below w.heap.size w w1) := by rw [hw1]; exact ((Below.refl _ _).alloc (Nat.le_refl _) _).alloc (by simp) _
  have c0 : w1.cell? ⟨w.heap.size, 0, none⟩ = some (.slice A l.length c) := HX.out.cell 0
  have HC := Lib.hid (pfind_at l A c hn k (w.heap.size + 1) w.heap.size w1 (EK.See.far hS HF.out) (HY.out.cell 0) (HX.out.cell 0))
  generalize pFindI l k = F at *
  generalize pFindB l k = R at *
  clear hS hn
  go_enter Tryz.func21, Tryz.ntmps21
  go_upto_region 1 with fail
  change Code.wp _ _ _ _ ((w.alloc (.cells #[.slice A l.length c] 22)).alloc (.cells #[.string k] 9))
  rw [← hw1]
  clear hw1
  go_wp2_with (go_at_call 28; (with_reducible refine (HC.out).mono ?_); rintro e w2 ⟨rfl, hb2⟩; have HB2 := Lib.hid hb2; clear hb2)
  go_ret2
  exact ⟨rfl, HF.out.trans (HB2.out.mono HF.out.size)⟩

set_option maxRecDepth 100000 in
set_option maxHeartbeats 1000000 in
theorem rfind_any (l : List RepM) (A : Option Addr) (c : Nat) (hn : l.length ≤ 140737488351232) (k : Int) (w : World) (hS : RK.See w w.heap.size A l) :
    Calls Tryz.prog 22 #[.slice A l.length c, .int .i64 k] w fun e w' => e = .returned (.tuple #[.int .i64 (rFindI l k : Nat), .bool (rFindB l k)]) ∧ Below w.heap.size w w' := by
  obtain ⟨w1, hw1⟩ : ∃ w1, w1 = (w.alloc (.cells #[.slice A l.length c] 23)).alloc (.cells #[.int .i64 k] 3) := ⟨_, rfl⟩
  have HX : Hid (Box w1 w.heap.size 23 #[.slice A l.length c]) := by rw [hw1]; exact (Box.made w _ _).alloc _
  have HY : Hid (Box w1 (w.heap.size + 1) 3 #[.int .i64 k]) := by rw [hw1]; exact Box.made_at (by simp) _ _
  have HF : Hid (Below w.heap.size w w1) := by rw [hw1]; exact ((Below.refl _ _).alloc (Nat.le_refl _) _).alloc (by simp) _
  have c0 : w1.cell? ⟨w.heap.size, 0, none⟩ = some (.slice A l.length c) := HX.out.cell 0
  have HC := Lib.hid (rfind_at l A c hn k (w.heap.size + 1) w.heap.size w1 (EK.See.far hS HF.out) (HY.out.cell 0) (HX.out.cell 0))
  generalize rFindI l k = F at *
  generalize rFindB l k = R at *
  clear hS hn
  go_enter Tryz.func22, Tryz.ntmps22
  go_upto_region 1 with fail
  change Code.wp _ _ _ _ ((w.alloc (.cells #[.slice A l.length c] 23)).alloc (.cells #[.int .i64 k] 3))
  rw [← hw1]
  clear hw1
  go_wp2_with (go_at_call 28; (with_reducible refine (HC.out).mono ?_); rintro e w2 ⟨rfl, hb2⟩; have HB2 := Lib.hid hb2; clear hb2)
  go_ret2
  exact ⟨rfl, HF.out.trans (HB2.out.mono HF.out.size)⟩

end Go.Proofs.YtbgbidgggjkmmaaGreatDoor

namespace Go.Proofs.YtbgbidgggjkmmaaGreatDoor
open Go.RowKit

noncomputable def bsT (t : TypeId) (n : Nat) (parts : Array (Nat × Value)) : Sem Value := Instr.buildSlice t n parts
set_option maxRecDepth 100000 in
theorem bsT_def (t : TypeId) (n : Nat) (parts : Array (Nat × Value)) : Instr.buildSlice t n parts = bsT t n parts := rfl
set_option maxRecDepth 100000 in
theorem EK.build0 {α : Type} (K : EK α) (w : World) : (bsT K.sl 0 #[]).run Tryz.prog w = .ok (.slice (some ⟨w.heap.size, 0, none⟩) 0 0) (w.alloc (.cells #[] K.e)) := by
  obtain ⟨i0, hi0, hz0, hz1, hz2⟩ := info_parts K.info
  have hs := K.sz w
  unfold bsT Instr.buildSlice
  simp [Sem.run_bind, run_underlying K.und, hs, newRow, Instr.fill, Array.range_zero']
set_option maxRecDepth 100000 in
theorem EK.own0 {α : Type} (K : EK α) (w : World) {base : Nat} (hb : base ≤ w.heap.size) : K.Own (w.alloc (.cells #[] K.e)) base (.slice (some ⟨w.heap.size, 0, none⟩) 0 0) [] := K.own_lit w hb [] (by simp)

/-! ### Loads and stores, kept whole while a walk goes on -/
noncomputable def ldRp (v : Value) : Sem Value := Instr.loadAt 36 v
set_option maxRecDepth 100000 in
theorem ldRp_def (v : Value) : Instr.loadAt 36 v = ldRp v := rfl
noncomputable def stRp (p v : Value) : Sem Unit := Instr.storeAt 36 p v
set_option maxRecDepth 100000 in
theorem stRp_def (p v : Value) : Instr.storeAt 36 p v = stRp p v := rfl
noncomputable def ldSt (v : Value) : Sem Value := Instr.loadAt 28 v
set_option maxRecDepth 100000 in
theorem ldSt_def (v : Value) : Instr.loadAt 28 v = ldSt v := rfl
noncomputable def stSt (p v : Value) : Sem Unit := Instr.storeAt 28 p v
set_option maxRecDepth 100000 in
theorem stSt_def (p v : Value) : Instr.storeAt 28 p v = stSt p v := rfl
noncomputable def ldPr (v : Value) : Sem Value := Instr.loadAt 42 v
set_option maxRecDepth 100000 in
theorem ldPr_def (v : Value) : Instr.loadAt 42 v = ldPr v := rfl
noncomputable def stPr (p v : Value) : Sem Unit := Instr.storeAt 42 p v
set_option maxRecDepth 100000 in
theorem stPr_def (p v : Value) : Instr.storeAt 42 p v = stPr p v := rfl
noncomputable def ldCf (v : Value) : Sem Value := Instr.loadAt 26 v
set_option maxRecDepth 100000 in
theorem ldCf_def (v : Value) : Instr.loadAt 26 v = ldCf v := rfl
noncomputable def stCf (p v : Value) : Sem Unit := Instr.storeAt 26 p v
set_option maxRecDepth 100000 in
theorem stCf_def (p v : Value) : Instr.storeAt 26 p v = stCf p v := rfl

set_option maxRecDepth 100000 in
theorem rp_size (c n k : Int) (A : Option Addr) (m z : Nat) : (Tryz.prog.info? 36).map (·.size) = some (repv c n k A m z : Array Value).size := by
  show _ = some 4
  kernel_rfl
set_option maxRecDepth 100000 in
theorem rp_list (c n k : Int) (A : Option Addr) (m z : Nat) : (Tryz.prog.info? 36).map (·.size) = some (repv c n k A m z : Array Value).toList.length := by
  show _ = some 4
  kernel_rfl
set_option maxRecDepth 100000 in
theorem rp_one (c n k : Int) (A : Option Addr) (m z : Nat) : ∀ v ∈ (repv c n k A m z : Array Value).toList, v.oneCell' = true := by
  intro v hv
  simp only [List.mem_cons, List.not_mem_nil, or_false] at hv
  rcases hv with rfl | rfl | rfl | rfl <;> rfl
set_option maxRecDepth 100000 in
theorem range_rp {w : World} {g o : Nat} {c n k : Int} {A : Option Addr} {m z : Nat} (h : w.rangeAt g o (repv c n k A m z : Array Value).toList) : (ldRp (.pointer (some ⟨g, o, none⟩))).run Tryz.prog w = .ok (.agg (repv c n k A m z : Array Value)) w :=
  run_loadAt_mid (P := Tryz.prog) w g o 36 (repv c n k A m z : Array Value).toList _ h Tryz.underlying36 rfl (rp_list c n k A m z)
set_option maxRecDepth 100000 in
theorem Box.l_rp {w : World} {g : Nat} {t : TypeId} {c n k : Int} {A : Option Addr} {m z : Nat} (h : Box w g t (repv c n k A m z : Array Value)) : (ldRp (.pointer (some ⟨g, 0, none⟩))).run Tryz.prog w = .ok (.agg (repv c n k A m z : Array Value)) w := range_rp (Box.range h)
set_option maxRecDepth 100000 in
theorem Box.s_rp {w : World} {g : Nat} {t : TypeId} {cs : Array Value} (h : Box w g t cs) (hs : cs.size = 4) (c n k : Int) (A : Option Addr) (m z : Nat) :
    ∃ w', (stRp (.pointer (some ⟨g, 0, none⟩)) (.agg (repv c n k A m z : Array Value))).run Tryz.prog w = .ok () w' ∧ Box w' g t (repv c n k A m z : Array Value) ∧ w.grownBy w' (some g) := by
  refine ⟨w.setCells g 0 (repv c n k A m z : Array Value).toList, ?_, h.cells_all (repv c n k A m z : Array Value) (by rw [hs]; rfl), only_cells (g := g) _ 0 _⟩
  exact run_storeAt_mid (P := Tryz.prog) _ g 0 36 (repv c n k A m z : Array Value) (fun j hj => by
    have hj4 : j < 4 := hj
    rw [h.cell, h.free, Array.getElem?_eq_getElem (by omega)]
    exact ⟨rfl, rfl⟩) (rp_size c n k A m z) (by have := all_oneCell_toArray (rp_one c n k A m z); simpa using this)
set_option maxRecDepth 100000 in
/-- A block is laid, and the value is stored there. -/
theorem laid_rp (w : World) (zs : Array Value) (hz : zs.size = 4) (c n k : Int) (A : Option Addr) (m z : Nat) : ∃ w', (stRp (.pointer (some ⟨w.heap.size, 0, none⟩)) (.agg (repv c n k A m z : Array Value))).run Tryz.prog (w.alloc (.cells zs 36)) = .ok () w' ∧ Box w' w.heap.size 36 (repv c n k A m z : Array Value) ∧ Below w.heap.size w w' ∧ (w.alloc (.cells zs 36)).grownBy w' (some w.heap.size) := by
  obtain ⟨w', h1, h2, h3⟩ := (Box.made w 36 zs).s_rp hz c n k A m z
  exact ⟨w', h1, h2, ((Below.refl _ _).alloc (Nat.le_refl _) _).trans (below_only h3 (Nat.le_refl _) (by simp)), h3⟩
set_option maxRecDepth 100000 in
theorem retn_rp {fn : Func} {p : Tmp} (hf : fn.results = #[.cell p 36]) {a : Act} {w : World} {g : Nat} (hp : a.tmps.getD p undef = .pointer (some ⟨g, 0, none⟩)) (hdf : a.defers = []) {t : TypeId} {c n k : Int} {A : Option Addr} {m z : Nat} (hb : Box w g t (repv c n k A m z : Array Value))
    {R : Ending → World → Prop} (hR : R (.returned (.agg (repv c n k A m z : Array Value))) w) : bodyPost Tryz.prog fn R .ret a w :=
  bodyPost_ret (results_cell_row hf _ w g t _ (0, 0) _ hp hb Tryz.underlying36 rfl (rp_size c n k A m z)) hdf hR

set_option maxRecDepth 100000 in
theorem st_size (pA : Option Addr) (pn pc : Nat) (rA : Option Addr) (rn rc : Nat) (ep : Int) (mA : Option Addr) (mn mc : Nat) : (Tryz.prog.info? 28).map (·.size) = some (stV pA pn pc rA rn rc ep mA mn mc : Array Value).size := by
  show _ = some 4
  kernel_rfl
set_option maxRecDepth 100000 in
theorem st_list (pA : Option Addr) (pn pc : Nat) (rA : Option Addr) (rn rc : Nat) (ep : Int) (mA : Option Addr) (mn mc : Nat) : (Tryz.prog.info? 28).map (·.size) = some (stV pA pn pc rA rn rc ep mA mn mc : Array Value).toList.length := by
  show _ = some 4
  kernel_rfl
set_option maxRecDepth 100000 in
theorem st_one (pA : Option Addr) (pn pc : Nat) (rA : Option Addr) (rn rc : Nat) (ep : Int) (mA : Option Addr) (mn mc : Nat) : ∀ v ∈ (stV pA pn pc rA rn rc ep mA mn mc : Array Value).toList, v.oneCell' = true := by
  intro v hv
  simp only [List.mem_cons, List.not_mem_nil, or_false] at hv
  rcases hv with rfl | rfl | rfl | rfl <;> rfl
set_option maxRecDepth 100000 in
theorem range_st {w : World} {g o : Nat} {pA : Option Addr} {pn pc : Nat} {rA : Option Addr} {rn rc : Nat} {ep : Int} {mA : Option Addr} {mn mc : Nat} (h : w.rangeAt g o (stV pA pn pc rA rn rc ep mA mn mc : Array Value).toList) : (ldSt (.pointer (some ⟨g, o, none⟩))).run Tryz.prog w = .ok (.agg (stV pA pn pc rA rn rc ep mA mn mc : Array Value)) w :=
  run_loadAt_mid (P := Tryz.prog) w g o 28 (stV pA pn pc rA rn rc ep mA mn mc : Array Value).toList _ h Tryz.underlying28 rfl (st_list pA pn pc rA rn rc ep mA mn mc)
set_option maxRecDepth 100000 in
theorem Box.l_st {w : World} {g : Nat} {t : TypeId} {pA : Option Addr} {pn pc : Nat} {rA : Option Addr} {rn rc : Nat} {ep : Int} {mA : Option Addr} {mn mc : Nat} (h : Box w g t (stV pA pn pc rA rn rc ep mA mn mc : Array Value)) : (ldSt (.pointer (some ⟨g, 0, none⟩))).run Tryz.prog w = .ok (.agg (stV pA pn pc rA rn rc ep mA mn mc : Array Value)) w := range_st (Box.range h)
set_option maxRecDepth 100000 in
theorem Box.s_st {w : World} {g : Nat} {t : TypeId} {cs : Array Value} (h : Box w g t cs) (hs : cs.size = 4) (pA : Option Addr) (pn pc : Nat) (rA : Option Addr) (rn rc : Nat) (ep : Int) (mA : Option Addr) (mn mc : Nat) :
    ∃ w', (stSt (.pointer (some ⟨g, 0, none⟩)) (.agg (stV pA pn pc rA rn rc ep mA mn mc : Array Value))).run Tryz.prog w = .ok () w' ∧ Box w' g t (stV pA pn pc rA rn rc ep mA mn mc : Array Value) ∧ w.grownBy w' (some g) := by
  refine ⟨w.setCells g 0 (stV pA pn pc rA rn rc ep mA mn mc : Array Value).toList, ?_, h.cells_all (stV pA pn pc rA rn rc ep mA mn mc : Array Value) (by rw [hs]; rfl), only_cells (g := g) _ 0 _⟩
  exact run_storeAt_mid (P := Tryz.prog) _ g 0 28 (stV pA pn pc rA rn rc ep mA mn mc : Array Value) (fun j hj => by
    have hj4 : j < 4 := hj
    rw [h.cell, h.free, Array.getElem?_eq_getElem (by omega)]
    exact ⟨rfl, rfl⟩) (st_size pA pn pc rA rn rc ep mA mn mc) (by have := all_oneCell_toArray (st_one pA pn pc rA rn rc ep mA mn mc); simpa using this)
set_option maxRecDepth 100000 in
/-- A block is laid, and the value is stored there. -/
theorem laid_st (w : World) (zs : Array Value) (hz : zs.size = 4) (pA : Option Addr) (pn pc : Nat) (rA : Option Addr) (rn rc : Nat) (ep : Int) (mA : Option Addr) (mn mc : Nat) : ∃ w', (stSt (.pointer (some ⟨w.heap.size, 0, none⟩)) (.agg (stV pA pn pc rA rn rc ep mA mn mc : Array Value))).run Tryz.prog (w.alloc (.cells zs 28)) = .ok () w' ∧ Box w' w.heap.size 28 (stV pA pn pc rA rn rc ep mA mn mc : Array Value) ∧ Below w.heap.size w w' ∧ (w.alloc (.cells zs 28)).grownBy w' (some w.heap.size) := by
  obtain ⟨w', h1, h2, h3⟩ := (Box.made w 28 zs).s_st hz pA pn pc rA rn rc ep mA mn mc
  exact ⟨w', h1, h2, ((Below.refl _ _).alloc (Nat.le_refl _) _).trans (below_only h3 (Nat.le_refl _) (by simp)), h3⟩
set_option maxRecDepth 100000 in
theorem retn_st {fn : Func} {p : Tmp} (hf : fn.results = #[.cell p 28]) {a : Act} {w : World} {g : Nat} (hp : a.tmps.getD p undef = .pointer (some ⟨g, 0, none⟩)) (hdf : a.defers = []) {t : TypeId} {pA : Option Addr} {pn pc : Nat} {rA : Option Addr} {rn rc : Nat} {ep : Int} {mA : Option Addr} {mn mc : Nat} (hb : Box w g t (stV pA pn pc rA rn rc ep mA mn mc : Array Value))
    {R : Ending → World → Prop} (hR : R (.returned (.agg (stV pA pn pc rA rn rc ep mA mn mc : Array Value))) w) : bodyPost Tryz.prog fn R .ret a w :=
  bodyPost_ret (results_cell_row hf _ w g t _ (0, 0) _ hp hb Tryz.underlying28 rfl (st_size pA pn pc rA rn rc ep mA mn mc)) hdf hR

set_option maxRecDepth 100000 in
theorem cf_size (ep : Int) (A : Option Addr) (n c : Nat) : (Tryz.prog.info? 26).map (·.size) = some (cfgV ep A n c : Array Value).size := by
  show _ = some 2
  kernel_rfl
set_option maxRecDepth 100000 in
theorem cf_list (ep : Int) (A : Option Addr) (n c : Nat) : (Tryz.prog.info? 26).map (·.size) = some (cfgV ep A n c : Array Value).toList.length := by
  show _ = some 2
  kernel_rfl
set_option maxRecDepth 100000 in
theorem cf_one (ep : Int) (A : Option Addr) (n c : Nat) : ∀ v ∈ (cfgV ep A n c : Array Value).toList, v.oneCell' = true := by
  intro v hv
  simp only [List.mem_cons, List.not_mem_nil, or_false] at hv
  rcases hv with rfl | rfl <;> rfl
set_option maxRecDepth 100000 in
theorem range_cf {w : World} {g o : Nat} {ep : Int} {A : Option Addr} {n c : Nat} (h : w.rangeAt g o (cfgV ep A n c : Array Value).toList) : (ldCf (.pointer (some ⟨g, o, none⟩))).run Tryz.prog w = .ok (.agg (cfgV ep A n c : Array Value)) w :=
  run_loadAt_mid (P := Tryz.prog) w g o 26 (cfgV ep A n c : Array Value).toList _ h Tryz.underlying26 rfl (cf_list ep A n c)
set_option maxRecDepth 100000 in
theorem Box.l_cf {w : World} {g : Nat} {t : TypeId} {ep : Int} {A : Option Addr} {n c : Nat} (h : Box w g t (cfgV ep A n c : Array Value)) : (ldCf (.pointer (some ⟨g, 0, none⟩))).run Tryz.prog w = .ok (.agg (cfgV ep A n c : Array Value)) w := range_cf (Box.range h)
set_option maxRecDepth 100000 in
theorem Box.s_cf {w : World} {g : Nat} {t : TypeId} {cs : Array Value} (h : Box w g t cs) (hs : cs.size = 2) (ep : Int) (A : Option Addr) (n c : Nat) :
    ∃ w', (stCf (.pointer (some ⟨g, 0, none⟩)) (.agg (cfgV ep A n c : Array Value))).run Tryz.prog w = .ok () w' ∧ Box w' g t (cfgV ep A n c : Array Value) ∧ w.grownBy w' (some g) := by
  refine ⟨w.setCells g 0 (cfgV ep A n c : Array Value).toList, ?_, h.cells_all (cfgV ep A n c : Array Value) (by rw [hs]; rfl), only_cells (g := g) _ 0 _⟩
  exact run_storeAt_mid (P := Tryz.prog) _ g 0 26 (cfgV ep A n c : Array Value) (fun j hj => by
    have hj4 : j < 2 := hj
    rw [h.cell, h.free, Array.getElem?_eq_getElem (by omega)]
    exact ⟨rfl, rfl⟩) (cf_size ep A n c) (by have := all_oneCell_toArray (cf_one ep A n c); simpa using this)
set_option maxRecDepth 100000 in
/-- A block is laid, and the value is stored there. -/
theorem laid_cf (w : World) (zs : Array Value) (hz : zs.size = 2) (ep : Int) (A : Option Addr) (n c : Nat) : ∃ w', (stCf (.pointer (some ⟨w.heap.size, 0, none⟩)) (.agg (cfgV ep A n c : Array Value))).run Tryz.prog (w.alloc (.cells zs 26)) = .ok () w' ∧ Box w' w.heap.size 26 (cfgV ep A n c : Array Value) ∧ Below w.heap.size w w' ∧ (w.alloc (.cells zs 26)).grownBy w' (some w.heap.size) := by
  obtain ⟨w', h1, h2, h3⟩ := (Box.made w 26 zs).s_cf hz ep A n c
  exact ⟨w', h1, h2, ((Below.refl _ _).alloc (Nat.le_refl _) _).trans (below_only h3 (Nat.le_refl _) (by simp)), h3⟩
set_option maxRecDepth 100000 in
theorem retn_cf {fn : Func} {p : Tmp} (hf : fn.results = #[.cell p 26]) {a : Act} {w : World} {g : Nat} (hp : a.tmps.getD p undef = .pointer (some ⟨g, 0, none⟩)) (hdf : a.defers = []) {t : TypeId} {ep : Int} {A : Option Addr} {n c : Nat} (hb : Box w g t (cfgV ep A n c : Array Value))
    {R : Ending → World → Prop} (hR : R (.returned (.agg (cfgV ep A n c : Array Value))) w) : bodyPost Tryz.prog fn R .ret a w :=
  bodyPost_ret (results_cell_row hf _ w g t _ (0, 0) _ hp hb Tryz.underlying26 rfl (cf_size ep A n c)) hdf hR

set_option maxRecDepth 100000 in
theorem pr_size (ky vl : ByteArray) : (Tryz.prog.info? 42).map (·.size) = some (#[.string ky, .string vl] : Array Value).size := by
  show _ = some 2
  kernel_rfl
set_option maxRecDepth 100000 in
theorem pr_list (ky vl : ByteArray) : (Tryz.prog.info? 42).map (·.size) = some (#[.string ky, .string vl] : Array Value).toList.length := by
  show _ = some 2
  kernel_rfl
set_option maxRecDepth 100000 in
theorem pr_one (ky vl : ByteArray) : ∀ v ∈ (#[.string ky, .string vl] : Array Value).toList, v.oneCell' = true := by
  intro v hv
  simp only [List.mem_cons, List.not_mem_nil, or_false] at hv
  rcases hv with rfl | rfl <;> rfl
set_option maxRecDepth 100000 in
theorem range_pr {w : World} {g o : Nat} {ky vl : ByteArray} (h : w.rangeAt g o (#[.string ky, .string vl] : Array Value).toList) : (ldPr (.pointer (some ⟨g, o, none⟩))).run Tryz.prog w = .ok (.agg (#[.string ky, .string vl] : Array Value)) w :=
  run_loadAt_mid (P := Tryz.prog) w g o 42 (#[.string ky, .string vl] : Array Value).toList _ h Tryz.underlying42 rfl (pr_list ky vl)
set_option maxRecDepth 100000 in
theorem Box.l_pr {w : World} {g : Nat} {t : TypeId} {ky vl : ByteArray} (h : Box w g t (#[.string ky, .string vl] : Array Value)) : (ldPr (.pointer (some ⟨g, 0, none⟩))).run Tryz.prog w = .ok (.agg (#[.string ky, .string vl] : Array Value)) w := range_pr (Box.range h)
set_option maxRecDepth 100000 in
theorem Box.s_pr {w : World} {g : Nat} {t : TypeId} {cs : Array Value} (h : Box w g t cs) (hs : cs.size = 2) (ky vl : ByteArray) :
    ∃ w', (stPr (.pointer (some ⟨g, 0, none⟩)) (.agg (#[.string ky, .string vl] : Array Value))).run Tryz.prog w = .ok () w' ∧ Box w' g t (#[.string ky, .string vl] : Array Value) ∧ w.grownBy w' (some g) := by
  refine ⟨w.setCells g 0 (#[.string ky, .string vl] : Array Value).toList, ?_, h.cells_all (#[.string ky, .string vl] : Array Value) (by rw [hs]; rfl), only_cells (g := g) _ 0 _⟩
  exact run_storeAt_mid (P := Tryz.prog) _ g 0 42 (#[.string ky, .string vl] : Array Value) (fun j hj => by
    have hj4 : j < 2 := hj
    rw [h.cell, h.free, Array.getElem?_eq_getElem (by omega)]
    exact ⟨rfl, rfl⟩) (pr_size ky vl) (by have := all_oneCell_toArray (pr_one ky vl); simpa using this)
set_option maxRecDepth 100000 in
/-- A block is laid, and the value is stored there. -/
theorem laid_pr (w : World) (zs : Array Value) (hz : zs.size = 2) (ky vl : ByteArray) : ∃ w', (stPr (.pointer (some ⟨w.heap.size, 0, none⟩)) (.agg (#[.string ky, .string vl] : Array Value))).run Tryz.prog (w.alloc (.cells zs 42)) = .ok () w' ∧ Box w' w.heap.size 42 (#[.string ky, .string vl] : Array Value) ∧ Below w.heap.size w w' ∧ (w.alloc (.cells zs 42)).grownBy w' (some w.heap.size) := by
  obtain ⟨w', h1, h2, h3⟩ := (Box.made w 42 zs).s_pr hz ky vl
  exact ⟨w', h1, h2, ((Below.refl _ _).alloc (Nat.le_refl _) _).trans (below_only h3 (Nat.le_refl _) (by simp)), h3⟩
set_option maxRecDepth 100000 in
theorem retn_pr {fn : Func} {p : Tmp} (hf : fn.results = #[.cell p 42]) {a : Act} {w : World} {g : Nat} (hp : a.tmps.getD p undef = .pointer (some ⟨g, 0, none⟩)) (hdf : a.defers = []) {t : TypeId} {ky vl : ByteArray} (hb : Box w g t (#[.string ky, .string vl] : Array Value))
    {R : Ending → World → Prop} (hR : R (.returned (.agg (#[.string ky, .string vl] : Array Value))) w) : bodyPost Tryz.prog fn R .ret a w :=
  bodyPost_ret (results_cell_row hf _ w g t _ (0, 0) _ hp hb Tryz.underlying42 rfl (pr_size ky vl)) hdf hR

set_option maxRecDepth 100000 in
theorem bd_st (w : World) (pA : Option Addr) (pn pc : Nat) (rA : Option Addr) (rn rc : Nat) (ep : Int) (mA : Option Addr) (mn mc : Nat) :
    (Instr.build 28 #[(0, .slice pA pn pc), (1, .slice rA rn rc), (2, .agg (cfgV ep mA mn mc))]).run Tryz.prog w = .ok (.agg (stV pA pn pc rA rn rc ep mA mn mc)) w :=
  run_build w _ _ _ (by kernel_rfl)
attribute [local go_sem ↓] bsT_def apAll_def cpAll_def clAll_def ldRp_def stRp_def ldSt_def stSt_def ldPr_def stPr_def ldCf_def stCf_def

/-! ### slices.Clone -/

set_option maxRecDepth 100000 in
theorem clone_s (xs : List ByteArray) (A : Option Addr) (c : Nat) (hn : xs.length ≤ 140737488351232) (hb : xs.length * SK.bys ≤ 140737488355328) (w : World) (hS : SK.See w w.heap.size A xs) :
    Calls Tryz.prog 33 #[.slice A xs.length c] w fun e w' => ∃ A' c', e = .returned (.slice A' xs.length c') ∧ SK.Own w' w.heap.size (.slice A' xs.length c') xs ∧ Below w.heap.size w w' := by
  cases A with
  | none =>
    have hxs : xs = [] := hS.nil
    subst hxs
    have hq : ∀ w, (binOp .eql 34 (.slice none 0 c) (.slice none 0 0)).run Tryz.prog w = .ok (.bool true) w := fun w => Lib.run_eql_slice_nil w _ 9 none 0 c 0 0 Tryz.underlying34
    go_enter Tryz.func33, Tryz.ntmps33
    go_wp2
    go_ret
    exact ⟨none, 0, rfl, EK.own_nil _ _ _, Below.refl _ _⟩
  | some ad =>
    obtain ⟨w1, hw1⟩ : ∃ w1, w1 = w.alloc (.cells #[] 9) := ⟨_, rfl⟩
    have hF1 : Below w.heap.size w w1 := by
      rw [hw1]
      exact (Below.refl _ _).alloc (Nat.le_refl _) _
    have hb0 : (bsT 34 0 #[]).run Tryz.prog w = .ok (.slice (some ⟨w.heap.size, 0, none⟩) 0 0) w1 := by
      rw [hw1]
      exact SK.build0 w
    have ho1 : SK.Own w1 w.heap.size (.slice (some ⟨w.heap.size, 0, none⟩) 0 0) [] := by
      rw [hw1]
      exact SK.own0 w (Nat.le_refl _)
    obtain ⟨v2, w2, hap0, ho2, hg2⟩ := SK.append ho1 (A := some ad) (m := xs.length) (c := c) (es := xs) rfl (EK.See.far hS hF1) (by simpa using hn) (by simpa using hb) hF1.size
    obtain ⟨A2, c2, rfl⟩ := ho2.slice
    have hap : (apAll #[34, 34] 34 #[.slice (some ⟨w.heap.size, 0, none⟩) 0 0, .slice (some ad) xs.length c]).run Tryz.prog w1 = .ok (.slice A2 xs.length c2) w2 := hap0
    have HO : Hid (SK.Own w2 w.heap.size (.slice A2 xs.length c2) xs) := Lib.hid ho2
    have HF : Hid (Below w.heap.size w w2) := Lib.hid (hF1.trans (below_own ho1 hg2 hF1.size))
    have hq : ∀ w, (binOp .eql 34 (.slice (some ad) xs.length c) (.slice none 0 0)).run Tryz.prog w = .ok (.bool false) w := fun w => Lib.run_eql_slice_nil w _ 9 (some ad) _ c 0 0 Tryz.underlying34
    clear hS hw1 hF1 ho1 ho2 hg2 hn hb hap0
    go_enter Tryz.func33, Tryz.ntmps33
    go_wp2
    go_ret
    exact ⟨A2, c2, rfl, HO.out, HF.out⟩

set_option maxRecDepth 100000 in
theorem clone_p (xs : List PairX) (A : Option Addr) (c : Nat) (hn : xs.length ≤ 140737488351232) (hb : xs.length * PK.bys ≤ 140737488355328) (w : World) (hS : PK.See w w.heap.size A xs) :
    Calls Tryz.prog 35 #[.slice A xs.length c] w fun e w' => ∃ A' c', e = .returned (.slice A' xs.length c') ∧ PK.Own w' w.heap.size (.slice A' xs.length c') xs ∧ Below w.heap.size w w' := by
  cases A with
  | none =>
    have hxs : xs = [] := hS.nil
    subst hxs
    have hq : ∀ w, (binOp .eql 22 (.slice none 0 c) (.slice none 0 0)).run Tryz.prog w = .ok (.bool true) w := fun w => Lib.run_eql_slice_nil w _ 42 none 0 c 0 0 Tryz.underlying22
    go_enter Tryz.func35, Tryz.ntmps35
    go_wp2
    go_ret
    exact ⟨none, 0, rfl, EK.own_nil _ _ _, Below.refl _ _⟩
  | some ad =>
    obtain ⟨w1, hw1⟩ : ∃ w1, w1 = w.alloc (.cells #[] 42) := ⟨_, rfl⟩
    have hF1 : Below w.heap.size w w1 := by
      rw [hw1]
      exact (Below.refl _ _).alloc (Nat.le_refl _) _
    have hb0 : (bsT 22 0 #[]).run Tryz.prog w = .ok (.slice (some ⟨w.heap.size, 0, none⟩) 0 0) w1 := by
      rw [hw1]
      exact PK.build0 w
    have ho1 : PK.Own w1 w.heap.size (.slice (some ⟨w.heap.size, 0, none⟩) 0 0) [] := by
      rw [hw1]
      exact PK.own0 w (Nat.le_refl _)
    obtain ⟨v2, w2, hap0, ho2, hg2⟩ := PK.append ho1 (A := some ad) (m := xs.length) (c := c) (es := xs) rfl (EK.See.far hS hF1) (by simpa using hn) (by simpa using hb) hF1.size
    obtain ⟨A2, c2, rfl⟩ := ho2.slice
    have hap : (apAll #[22, 22] 22 #[.slice (some ⟨w.heap.size, 0, none⟩) 0 0, .slice (some ad) xs.length c]).run Tryz.prog w1 = .ok (.slice A2 xs.length c2) w2 := hap0
    have HO : Hid (PK.Own w2 w.heap.size (.slice A2 xs.length c2) xs) := Lib.hid ho2
    have HF : Hid (Below w.heap.size w w2) := Lib.hid (hF1.trans (below_own ho1 hg2 hF1.size))
    have hq : ∀ w, (binOp .eql 22 (.slice (some ad) xs.length c) (.slice none 0 0)).run Tryz.prog w = .ok (.bool false) w := fun w => Lib.run_eql_slice_nil w _ 42 (some ad) _ c 0 0 Tryz.underlying22
    clear hS hw1 hF1 ho1 ho2 hg2 hn hb hap0
    go_enter Tryz.func35, Tryz.ntmps35
    go_wp2
    go_ret
    exact ⟨A2, c2, rfl, HO.out, HF.out⟩

set_option maxRecDepth 100000 in
theorem clone_r (xs : List RepM) (A : Option Addr) (c : Nat) (hn : xs.length ≤ 140737488351232) (hb : xs.length * RK.bys ≤ 140737488355328) (w : World) (hS : RK.See w w.heap.size A xs) :
    Calls Tryz.prog 36 #[.slice A xs.length c] w fun e w' => ∃ A' c', e = .returned (.slice A' xs.length c') ∧ RK.Own w' w.heap.size (.slice A' xs.length c') xs ∧ Below w.heap.size w w' := by
  cases A with
  | none =>
    have hxs : xs = [] := hS.nil
    subst hxs
    have hq : ∀ w, (binOp .eql 23 (.slice none 0 c) (.slice none 0 0)).run Tryz.prog w = .ok (.bool true) w := fun w => Lib.run_eql_slice_nil w _ 36 none 0 c 0 0 Tryz.underlying23
    go_enter Tryz.func36, Tryz.ntmps36
    go_wp2
    go_ret
    exact ⟨none, 0, rfl, EK.own_nil _ _ _, Below.refl _ _⟩
  | some ad =>
    obtain ⟨w1, hw1⟩ : ∃ w1, w1 = w.alloc (.cells #[] 36) := ⟨_, rfl⟩
    have hF1 : Below w.heap.size w w1 := by
      rw [hw1]
      exact (Below.refl _ _).alloc (Nat.le_refl _) _
    have hb0 : (bsT 23 0 #[]).run Tryz.prog w = .ok (.slice (some ⟨w.heap.size, 0, none⟩) 0 0) w1 := by
      rw [hw1]
      exact RK.build0 w
    have ho1 : RK.Own w1 w.heap.size (.slice (some ⟨w.heap.size, 0, none⟩) 0 0) [] := by
      rw [hw1]
      exact RK.own0 w (Nat.le_refl _)
    obtain ⟨v2, w2, hap0, ho2, hg2⟩ := RK.append ho1 (A := some ad) (m := xs.length) (c := c) (es := xs) rfl (EK.See.far hS hF1) (by simpa using hn) (by simpa using hb) hF1.size
    obtain ⟨A2, c2, rfl⟩ := ho2.slice
    have hap : (apAll #[23, 23] 23 #[.slice (some ⟨w.heap.size, 0, none⟩) 0 0, .slice (some ad) xs.length c]).run Tryz.prog w1 = .ok (.slice A2 xs.length c2) w2 := hap0
    have HO : Hid (RK.Own w2 w.heap.size (.slice A2 xs.length c2) xs) := Lib.hid ho2
    have HF : Hid (Below w.heap.size w w2) := Lib.hid (hF1.trans (below_own ho1 hg2 hF1.size))
    have hq : ∀ w, (binOp .eql 23 (.slice (some ad) xs.length c) (.slice none 0 0)).run Tryz.prog w = .ok (.bool false) w := fun w => Lib.run_eql_slice_nil w _ 36 (some ad) _ c 0 0 Tryz.underlying23
    clear hS hw1 hF1 ho1 ho2 hg2 hn hb hap0
    go_enter Tryz.func36, Tryz.ntmps36
    go_wp2
    go_ret
    exact ⟨A2, c2, rfl, HO.out, HF.out⟩

set_option maxRecDepth 100000 in
theorem clone_m (xs : List MemX) (A : Option Addr) (c : Nat) (hn : xs.length ≤ 140737488351232) (hb : xs.length * MK.bys ≤ 140737488355328) (w : World) (hS : MK.See w w.heap.size A xs) :
    Calls Tryz.prog 34 #[.slice A xs.length c] w fun e w' => ∃ A' c', e = .returned (.slice A' xs.length c') ∧ MK.Own w' w.heap.size (.slice A' xs.length c') xs ∧ Below w.heap.size w w' := by
  cases A with
  | none =>
    have hxs : xs = [] := hS.nil
    subst hxs
    have hq : ∀ w, (binOp .eql 24 (.slice none 0 c) (.slice none 0 0)).run Tryz.prog w = .ok (.bool true) w := fun w => Lib.run_eql_slice_nil w _ 74 none 0 c 0 0 Tryz.underlying24
    go_enter Tryz.func34, Tryz.ntmps34
    go_wp2
    go_ret
    exact ⟨none, 0, rfl, EK.own_nil _ _ _, Below.refl _ _⟩
  | some ad =>
    obtain ⟨w1, hw1⟩ : ∃ w1, w1 = w.alloc (.cells #[] 74) := ⟨_, rfl⟩
    have hF1 : Below w.heap.size w w1 := by
      rw [hw1]
      exact (Below.refl _ _).alloc (Nat.le_refl _) _
    have hb0 : (bsT 24 0 #[]).run Tryz.prog w = .ok (.slice (some ⟨w.heap.size, 0, none⟩) 0 0) w1 := by
      rw [hw1]
      exact MK.build0 w
    have ho1 : MK.Own w1 w.heap.size (.slice (some ⟨w.heap.size, 0, none⟩) 0 0) [] := by
      rw [hw1]
      exact MK.own0 w (Nat.le_refl _)
    obtain ⟨v2, w2, hap0, ho2, hg2⟩ := MK.append ho1 (A := some ad) (m := xs.length) (c := c) (es := xs) rfl (EK.See.far hS hF1) (by simpa using hn) (by simpa using hb) hF1.size
    obtain ⟨A2, c2, rfl⟩ := ho2.slice
    have hap : (apAll #[24, 24] 24 #[.slice (some ⟨w.heap.size, 0, none⟩) 0 0, .slice (some ad) xs.length c]).run Tryz.prog w1 = .ok (.slice A2 xs.length c2) w2 := hap0
    have HO : Hid (MK.Own w2 w.heap.size (.slice A2 xs.length c2) xs) := Lib.hid ho2
    have HF : Hid (Below w.heap.size w w2) := Lib.hid (hF1.trans (below_own ho1 hg2 hF1.size))
    have hq : ∀ w, (binOp .eql 24 (.slice (some ad) xs.length c) (.slice none 0 0)).run Tryz.prog w = .ok (.bool false) w := fun w => Lib.run_eql_slice_nil w _ 74 (some ad) _ c 0 0 Tryz.underlying24
    clear hS hw1 hF1 ho1 ho2 hg2 hn hb hap0
    go_enter Tryz.func34, Tryz.ntmps34
    go_wp2
    go_ret
    exact ⟨A2, c2, rfl, HO.out, HF.out⟩

/-! ### state.copyReply, state.copyConfig -/
set_option maxRecDepth 100000 in
set_option maxHeartbeats 1000000 in
theorem creply_any (c n k : Int) (vs : List ByteArray) (A : Option Addr) (z : Nat) (hn : vs.length ≤ 8796093022000) (w : World) (hS : SK.See w w.heap.size A vs) :
    Calls Tryz.prog 23 #[.agg (repv c n k A vs.length z)] w fun e w' => ∃ A' z', e = .returned (.agg (repv c n k A' vs.length z')) ∧ SK.Own w' w.heap.size (.slice A' vs.length z') vs ∧ Below w.heap.size w w' := by
  obtain ⟨w1, hw1⟩ : ∃ w1, w1 = (w.alloc (.cells (repv c n k A vs.length z) 36)).alloc (.cells (repv 0 0 0 none 0 0) 36) := ⟨_, rfl⟩
  have HX : Hid (Box w1 w.heap.size 36 (repv c n k A vs.length z)) := by rw [hw1]; exact (Box.made w _ _).alloc _
  have HY : Hid (Box w1 (w.heap.size + 1) 36 (repv 0 0 0 none 0 0)) := by rw [hw1]; exact Box.made_at (by simp) _ _
  have HF : Hid (Below w.heap.size w w1) := by rw [hw1]; exact ((Below.refl _ _).alloc (Nat.le_refl _) _).alloc (by simp) _
  have c3 : w1.cell? ⟨w.heap.size, 3, none⟩ = some (.slice A vs.length z) := HX.out.cell 3
  have HC := Lib.hid (clone_s vs A z (by omega) (by show vs.length * 16 ≤ _; omega) w1 (EK.See.far hS HF.out))
  clear hS hn
  generalize vs.length = m at *
  go_enter Tryz.func23, Tryz.ntmps23
  go_upto_region 1 with fail
  change Code.wp _ _ _ _ ((w.alloc (.cells (repv c n k A m z) 36)).alloc (.cells (repv 0 0 0 none 0 0) 36))
  rw [← hw1]
  clear hw1
  go_upto_region 2 with (go_at_call 33; (with_reducible refine (HC.out).mono ?_); rintro e w2 ⟨A2, z2, rfl, ho2, hb2⟩; have HO2 := Lib.hid ho2; have HB2 := Lib.hid hb2; clear ho2 hb2; have f3 := (HX.out.below HB2.out HX.out.lt).free 3; have c3' := (HX.out.below HB2.out HX.out.lt).cell 3)
  have HX3 : Hid (Box (w2.setCell ⟨w.heap.size, 3, none⟩ (.slice A2 m z2)) w.heap.size 36 (repv c n k A2 m z2)) := Lib.hid ((HX.out.below HB2.out HX.out.lt).put 3 _)
  have HG3 : Hid (w2.grownBy (w2.setCell ⟨w.heap.size, 3, none⟩ (.slice A2 m z2)) (some w.heap.size)) := Lib.hid (only_put (only_refl _ _) 3 _)
  have HY3 := Lib.hid ((HY.out.below HB2.out HY.out.lt).grown HG3.out (by simp))
  have HO3 : Hid (SK.Own (w2.setCell ⟨w.heap.size, 3, none⟩ (.slice A2 m z2)) w.heap.size (.slice A2 m z2) vs) := Lib.hid (EK.Own.base (own_box HO2.out (HX.out.below HB2.out HX.out.lt) (by decide) HG3.out) HF.out.size)
  have HF3 := Lib.hid ((HF.out.trans (HB2.out.mono HF.out.size)).trans (below_only HG3.out (Nat.le_refl _) (Nat.le_trans HF.out.size HB2.out.size)))
  generalize w2.setCell ⟨w.heap.size, 3, none⟩ (.slice A2 m z2) = w3 at *
  clear c3 f3 c3' HC HO2 HB2 HG3
  have l3 := HX3.out.l_rp
  obtain ⟨w4, hst, hb4, hg4⟩ := HY3.out.s_rp rfl c n k A2 m z2
  have HB4 := Lib.hid hb4
  have HF4 := Lib.hid (HF3.out.trans (below_only hg4 (by omega) HF3.out.size))
  have HO4 := Lib.hid (own_box HO3.out HY3.out (by decide) hg4)
  clear hb4 hg4
  go_wp2
  exact retn_rp rfl rfl rfl HB4.out ⟨A2, z2, rfl, HO4.out, HF4.out⟩

set_option maxRecDepth 100000 in
set_option maxHeartbeats 1000000 in
theorem ccfg_any (ep : Int) (ms : List MemX) (A : Option Addr) (c : Nat) (hn : ms.length ≤ 1099511627776) (w : World) (hS : MK.See w w.heap.size A ms) :
    Calls Tryz.prog 24 #[.agg (cfgV ep A ms.length c)] w fun e w' => ∃ A' c', e = .returned (.agg (cfgV ep A' ms.length c')) ∧ MK.Own w' w.heap.size (.slice A' ms.length c') ms ∧ Below w.heap.size w w' := by
  obtain ⟨w1, hw1⟩ : ∃ w1, w1 = (w.alloc (.cells (cfgV ep A ms.length c) 26)).alloc (.cells (cfgV 0 none 0 0) 26) := ⟨_, rfl⟩
  have HX : Hid (Box w1 w.heap.size 26 (cfgV ep A ms.length c)) := by rw [hw1]; exact (Box.made w _ _).alloc _
  have HY : Hid (Box w1 (w.heap.size + 1) 26 (cfgV 0 none 0 0)) := by rw [hw1]; exact Box.made_at (by simp) _ _
  have HF : Hid (Below w.heap.size w w1) := by rw [hw1]; exact ((Below.refl _ _).alloc (Nat.le_refl _) _).alloc (by simp) _
  have c3 : w1.cell? ⟨w.heap.size, 1, none⟩ = some (.slice A ms.length c) := HX.out.cell 1
  have HC := Lib.hid (clone_m ms A c (by omega) (by show ms.length * 48 ≤ _; omega) w1 (EK.See.far hS HF.out))
  clear hS hn
  generalize ms.length = m at *
  go_enter Tryz.func24, Tryz.ntmps24
  go_upto_region 1 with fail
  change Code.wp _ _ _ _ ((w.alloc (.cells (cfgV ep A m c) 26)).alloc (.cells (cfgV 0 none 0 0) 26))
  rw [← hw1]
  clear hw1
  go_upto_region 2 with (go_at_call 34; (with_reducible refine (HC.out).mono ?_); rintro e w2 ⟨A2, z2, rfl, ho2, hb2⟩; have HO2 := Lib.hid ho2; have HB2 := Lib.hid hb2; clear ho2 hb2; have f3 := (HX.out.below HB2.out HX.out.lt).free 1; have c3' := (HX.out.below HB2.out HX.out.lt).cell 1)
  have HX3 : Hid (Box (w2.setCell ⟨w.heap.size, 1, none⟩ (.slice A2 m z2)) w.heap.size 26 (cfgV ep A2 m z2)) := Lib.hid ((HX.out.below HB2.out HX.out.lt).put 1 _)
  have HG3 : Hid (w2.grownBy (w2.setCell ⟨w.heap.size, 1, none⟩ (.slice A2 m z2)) (some w.heap.size)) := Lib.hid (only_put (only_refl _ _) 1 _)
  have HY3 := Lib.hid ((HY.out.below HB2.out HY.out.lt).grown HG3.out (by simp))
  have HO3 : Hid (MK.Own (w2.setCell ⟨w.heap.size, 1, none⟩ (.slice A2 m z2)) w.heap.size (.slice A2 m z2) ms) := Lib.hid (EK.Own.base (own_box HO2.out (HX.out.below HB2.out HX.out.lt) (by decide) HG3.out) HF.out.size)
  have HF3 := Lib.hid ((HF.out.trans (HB2.out.mono HF.out.size)).trans (below_only HG3.out (Nat.le_refl _) (Nat.le_trans HF.out.size HB2.out.size)))
  generalize w2.setCell ⟨w.heap.size, 1, none⟩ (.slice A2 m z2) = w3 at *
  clear c3 f3 c3' HC HO2 HB2 HG3
  have l3 := HX3.out.l_cf
  obtain ⟨w4, hst, hb4, hg4⟩ := HY3.out.s_cf rfl ep A2 m z2
  have HB4 := Lib.hid hb4
  have HF4 := Lib.hid (HF3.out.trans (below_only hg4 (by omega) HF3.out.size))
  have HO4 := Lib.hid (own_box HO3.out HY3.out (by decide) hg4)
  clear hb4 hg4
  go_wp2
  exact retn_cf rfl rfl rfl HB4.out ⟨A2, z2, rfl, HO4.out, HF4.out⟩

end Go.Proofs.YtbgbidgggjkmmaaGreatDoor

namespace Go.Proofs.YtbgbidgggjkmmaaGreatDoor
open Go.RowKit

attribute [local go_sem ↓] ldRp_def stRp_def ldSt_def stSt_def ldCf_def stCf_def

/-- What the copy's loop carries. -/
structure CyW (s : StM) (w0 : World) (b r : Nat) (pA : Option Addr) (pc : Nat) (rA : Option Addr) (rc : Nat) (mA : Option Addr) (mc : Nat) (i : Nat) (L : List RepM) (w : World) : Prop where
  box : Box w b 28 (stV pA s.ps.length pc rA s.rs.length rc s.ep mA s.ms.length mc)
  out : Box w r 28 (stV none 0 0 none 0 0 0 none 0 0)
  ps : PK.Own w w0.heap.size (.slice pA s.ps.length pc) s.ps
  ms : MK.Own w w0.heap.size (.slice mA s.ms.length mc) s.ms
  rs : RK.Own w w0.heap.size (.slice rA s.rs.length rc) L
  len : L.length = s.rs.length
  same : L.map RepM.x = s.rs.map RepM.x
  done : ∀ j (hj : j < L.length), j < i → SK.Own w w0.heap.size (.slice (L[j]'hj).A (L[j]'hj).x.vals.length (L[j]'hj).z) (L[j]'hj).x.vals
  rest : L.drop i = s.rs.drop i
  far : Below w0.heap.size w0 w
  hb : w0.heap.size ≤ b
  hr : w0.heap.size ≤ r
  ne : b ≠ r
section
variable {s : StM} {w0 w w' : World} {b r : Nat} {pA : Option Addr} {pc : Nat} {rA : Option Addr} {rc : Nat} {mA : Option Addr} {mc i : Nat} {L : List RepM}
set_option maxRecDepth 100000 in
theorem CyW.call (h : CyW s w0 b r pA pc rA rc mA mc i L w) (hb : Below w.heap.size w w') : CyW s w0 b r pA pc rA rc mA mc i L w' :=
  ⟨h.box.below hb h.box.lt, h.out.below hb h.out.lt, EK.Own.keep h.ps hb, EK.Own.keep h.ms hb, EK.Own.keep h.rs hb, h.len, h.same, fun j hj hi => EK.Own.keep (h.done j hj hi) hb, h.rest, h.far.trans (hb.mono h.far.size), h.hb, h.hr, h.ne⟩
set_option maxRecDepth 100000 in
theorem CyW.at_ (h : CyW s w0 b r pA pc rA rc mA mc i L w) (hi : i < s.rs.length) : L[i]'(by rw [h.len]; exact hi) = s.rs[i]'hi := by
  have h1 := congrArg (fun l : List RepM => l[0]?) h.rest
  simp only [List.getElem?_drop, Nat.add_zero] at h1
  rw [List.getElem?_eq_getElem (by rw [h.len]; exact hi), List.getElem?_eq_getElem hi] at h1
  injection h1
set_option maxRecDepth 100000 in
theorem CyW.ptr (h : CyW s w0 b r pA pc rA rc mA mc i L w) (hi : i < s.rs.length) : ∃ g, rA = some ⟨g, 0, none⟩ ∧ w0.heap.size ≤ g ∧ w.rangeAt g (i * 4) (RepM.cells (s.rs[i]'hi)) := by
  obtain ⟨_, _, _, h4⟩ := EK.Own.bounds h.rs
  obtain ⟨g, e, hg, _⟩ := h4 (by rw [h.len]; omega)
  obtain ⟨g2, o2, e2, _, hr⟩ := EK.See.range (EK.Own.see h.rs) (i := i) (by rw [h.len]; exact hi)
  rw [e] at e2
  injection e2 with e2
  injection e2 with e2 e3
  subst e2
  subst e3
  have h5 := hr i (by rw [h.len]; exact hi)
  rw [h.at_ hi] at h5
  rw [Nat.zero_add] at h5
  exact ⟨g, e, hg, h5⟩
set_option maxRecDepth 100000 in
/-- A reply's copy is stored. -/
theorem CyW.put {g m : Nat} {cs : Array Value} (h : CyW s w0 b r pA pc (some ⟨g, 0, none⟩) rc mA mc i L w) (hi : i < s.rs.length) {A : Option Addr} {z : Nat} (ho : SK.Own w w0.heap.size (.slice A (s.rs[i]'hi).x.vals.length z) (s.rs[i]'hi).x.vals) (hbx : Box w m 36 cs) (hm : m ≠ g) :
    ∃ w' L', (stRp (.pointer (some ⟨g, i * 4, none⟩)) (.agg (repv (s.rs[i]'hi).x.client (s.rs[i]'hi).x.num (s.rs[i]'hi).x.code A (s.rs[i]'hi).x.vals.length z))).run Tryz.prog w = .ok () w' ∧ CyW s w0 b r pA pc (some ⟨g, 0, none⟩) rc mA mc (i + 1) L' w' ∧ Box w' m 36 cs := by
  have hil : i < L.length := by rw [h.len]; exact hi
  obtain ⟨h1, h2, h3⟩ := EK.Own.put (K := RK) h.rs hil (⟨(s.rs[i]'hi).x, A, z⟩ : RepM)
  refine ⟨w.setCells g (i * RK.k) (RK.enc ⟨(s.rs[i]'hi).x, A, z⟩), L.set i ⟨(s.rs[i]'hi).x, A, z⟩, h1, ?_, hbx.grown h3 (fun e => hm (by injection e))⟩
  generalize w.setCells g (i * RK.k) (RK.enc ⟨(s.rs[i]'hi).x, A, z⟩) = w' at *
  have hs : ∀ {vs : List ByteArray} {v : Value}, SK.Own w w0.heap.size v vs → SK.Own w' w0.heap.size v vs := fun hv => own_apart hv h.rs (by decide) h3
  refine ⟨box_own h.box h.rs (by decide) h3, box_own h.out h.rs (by decide) h3, own_apart h.ps h.rs (by decide) h3, own_apart h.ms h.rs (by decide) h3, h2, by rw [List.length_set]; exact h.len, ?_, fun j hj hji => ?_, ?_, h.far.trans (below_own h.rs h3 h.far.size), h.hb, h.hr, h.ne⟩
  · rw [List.map_set, ← h.at_ hi]
    show (L.map RepM.x).set i (L[i]'hil).x = _
    rw [← List.map_set, List.set_getElem_self, h.same]
  · by_cases e : j = i
    · subst e
      simp only [List.getElem_set_self]
      exact hs ho
    · have hj2 : j < L.length := by rw [List.length_set] at hj; exact hj
      rw [List.getElem_set_ne (fun e2 => e e2.symm)]
      exact hs (h.done j hj2 (by omega))
  · rw [List.drop_set_of_lt (by omega)]
    have := congrArg (List.drop 1) h.rest
    rwa [List.drop_drop, List.drop_drop] at this
end

/-- What the region of a reply's copy reads. -/
structure CyS (w0 : World) (b m : Nat) (v : Value) (cs : Array Value) (w : World) : Prop where
  far : Below w0.heap.size w0 w
  c1 : w.cell? ⟨b, 1, none⟩ = some v
  bx : Box w m 36 cs
set_option maxRecDepth 100000 in
theorem CyS.call {w0 w w' : World} {b m : Nat} {v : Value} {cs : Array Value} (h : CyS w0 b m v cs w) (hb : Below w.heap.size w w') : CyS w0 b m v cs w' :=
  ⟨h.far.trans (hb.mono h.far.size), (hb.cell (p := ⟨b, 1, none⟩) (block_lt_of_cell h.c1)).trans h.c1, h.bx.below hb h.bx.lt⟩

set_option maxRecDepth 100000 in
set_option maxHeartbeats 4000000 in
theorem cstate_any (s : StM) (hp : s.ps.length ≤ 1000000) (hr : s.rs.length ≤ 1000000) (hv : ∀ r ∈ s.rs, r.x.vals.length ≤ 1000000) (hm : s.ms.length ≤ 1000000) (w : World) (hS : s.See w w.heap.size) :
    Calls Tryz.prog 26 #[.agg s.cells] w fun e w' => ∃ s' : StM, e = .returned (.agg s'.cells) ∧ s'.pl = s.pl ∧ s'.Own w' w.heap.size ∧ Below w.heap.size w w' := by
  obtain ⟨w1, hw1⟩ : ∃ w1, w1 = (w.alloc (.cells (stV s.pA s.ps.length s.pc s.rA s.rs.length s.rc s.ep s.mA s.ms.length s.mc) 28)).alloc (.cells (stV none 0 0 none 0 0 0 none 0 0) 28) := ⟨_, rfl⟩
  have HX : Hid (Box w1 w.heap.size 28 (stV s.pA s.ps.length s.pc s.rA s.rs.length s.rc s.ep s.mA s.ms.length s.mc)) := by rw [hw1]; exact (Box.made w _ _).alloc _
  have HY : Hid (Box w1 (w.heap.size + 1) 28 (stV none 0 0 none 0 0 0 none 0 0)) := by rw [hw1]; exact Box.made_at (by simp) _ _
  have HF : Hid (Below w.heap.size w w1) := by rw [hw1]; exact ((Below.refl _ _).alloc (Nat.le_refl _) _).alloc (by simp) _
  have HS1 := Lib.hid (hS.keep HF.out HF.out.size)
  have HCP : Hid (∀ w', Below w1.heap.size w1 w' → Calls Tryz.prog 35 #[.slice s.pA s.ps.length s.pc] w' fun e w'' => ∃ A' c', e = .returned (.slice A' s.ps.length c') ∧ PK.Own w'' w'.heap.size (.slice A' s.ps.length c') s.ps ∧ Below w'.heap.size w' w'') := Lib.hid (fun w' hb => clone_p s.ps s.pA s.pc (by omega) (by show s.ps.length * 32 ≤ _; omega) w' (EK.See.far HS1.out.ps hb))
  have HCR : Hid (∀ w', Below w1.heap.size w1 w' → Calls Tryz.prog 36 #[.slice s.rA s.rs.length s.rc] w' fun e w'' => ∃ A' c', e = .returned (.slice A' s.rs.length c') ∧ RK.Own w'' w'.heap.size (.slice A' s.rs.length c') s.rs ∧ Below w'.heap.size w' w'') := Lib.hid (fun w' hb => clone_r s.rs s.rA s.rc (by omega) (by show s.rs.length * 48 ≤ _; omega) w' (EK.See.far HS1.out.rs hb))
  have HCM : Hid (∀ w', Below w1.heap.size w1 w' → Calls Tryz.prog 24 #[.agg (cfgV s.ep s.mA s.ms.length s.mc)] w' fun e w'' => ∃ A' c', e = .returned (.agg (cfgV s.ep A' s.ms.length c')) ∧ MK.Own w'' w'.heap.size (.slice A' s.ms.length c') s.ms ∧ Below w'.heap.size w' w'') := Lib.hid (fun w' hb => ccfg_any s.ep s.ms s.mA s.mc (by omega) w' (EK.See.far HS1.out.ms hb))
  have HCL : Hid (∀ w', Below w.heap.size w w' → ∀ i (hi : i < s.rs.length), Calls Tryz.prog 23 #[.agg (repv (s.rs[i]'hi).x.client (s.rs[i]'hi).x.num (s.rs[i]'hi).x.code (s.rs[i]'hi).A (s.rs[i]'hi).x.vals.length (s.rs[i]'hi).z)] w' fun e w'' => ∃ A' z', e = .returned (.agg (repv (s.rs[i]'hi).x.client (s.rs[i]'hi).x.num (s.rs[i]'hi).x.code A' (s.rs[i]'hi).x.vals.length z')) ∧ SK.Own w'' w'.heap.size (.slice A' (s.rs[i]'hi).x.vals.length z') (s.rs[i]'hi).x.vals ∧ Below w'.heap.size w' w'') := Lib.hid (fun w' hb i hi => creply_any _ _ _ _ _ _ (by have := hv _ (List.getElem_mem hi); omega) w' (EK.See.far (hS.vals _ (List.getElem_mem hi)) hb))
  have HN : Hid (s.rs.length ≤ 1000000) := Lib.hid hr
  have HC0 : Hid (∀ w', Below w1.heap.size w1 w' → w'.cell? ⟨w.heap.size, 0, none⟩ = some (.slice s.pA s.ps.length s.pc) ∧ w'.cell? ⟨w.heap.size, 1, none⟩ = some (.slice s.rA s.rs.length s.rc) ∧ w'.rangeAt w.heap.size 2 (cfgV s.ep s.mA s.ms.length s.mc).toList) := Lib.hid (fun w' hb => ⟨(HX.out.below hb HX.out.lt).cell 0, (HX.out.below hb HX.out.lt).cell 1, Box.range_mid (pre := [.slice s.pA s.ps.length s.pc, .slice s.rA s.rs.length s.rc]) (mid := (cfgV s.ep s.mA s.ms.length s.mc).toList) (post := []) (HX.out.below hb HX.out.lt) rfl⟩)
  clear hS hp hr hv hm
  go_enter Tryz.func26, Tryz.ntmps26
  go_upto_region 1 with fail
  change Code.wp _ _ _ _ ((w.alloc (.cells (stV s.pA s.ps.length s.pc s.rA s.rs.length s.rc s.ep s.mA s.ms.length s.mc) 28)).alloc (.cells (stV none 0 0 none 0 0 0 none 0 0) 28))
  rw [← hw1]
  clear hw1
  have HD0 : Hid (Below w1.heap.size w1 w1.drew) := (Below.refl _ _).drew
  have hu26 := Tryz.underlying26
  go_cut [3, 6, 7, 8, 9, 10, 11, 12, 13, 14, 15] (fun p _ _ _ _ _ _ _ _ _ _ wx => ∃ b pA2 pc2 rA2 rc2 mA2 mc2, p = .pointer (some ⟨b, 0, none⟩) ∧ Hid (CyW s w b (w.heap.size + 1) pA2 pc2 rA2 rc2 mA2 mc2 0 s.rs wx))
  case first =>
    refine wp_region_held_drew (S := fun w' => Below w1.heap.size w1 w') (by kernel_rfl) HD0.out (fun hS => ?_)
    clear HD0
    generalize w1.drew = wd at *
    (refine wpAnyH_take (i := 0) (v := .pointer (some ⟨w.heap.size, 0, none⟩)) rfl (by kernel_rfl) (by kernel_rfl) (by kernel_rfl) (fun _ _ _ h => h) (Or.inl ⟨by kernel_rfl, fun w hSw => by go_simp⟩) hS ?_)
    (try simp only [Act.put])
    (refine wpAnyH_take (i := 1) (v := .slice s.pA s.ps.length s.pc) rfl (by kernel_rfl) (by kernel_rfl) (by kernel_rfl) (fun _ _ _ h => h) (Or.inl ⟨by kernel_rfl, fun w hSw => by have hc := (HC0.out w hSw).1; go_simp⟩) hS ?_)
    (try simp only [Act.put])
    (refine wpAnyH_take (i := 3) (v := .pointer (some ⟨w.heap.size, 1, none⟩)) rfl (by kernel_rfl) (by kernel_rfl) (by kernel_rfl) (fun _ _ _ h => h) (Or.inl ⟨by kernel_rfl, fun w hSw => by go_simp⟩) hS ?_)
    (try simp only [Act.put])
    (refine wpAnyH_take (i := 4) (v := .slice s.rA s.rs.length s.rc) rfl (by kernel_rfl) (by kernel_rfl) (by kernel_rfl) (fun _ _ _ h => h) (Or.inl ⟨by kernel_rfl, fun w hSw => by have hc := (HC0.out w hSw).2.1; go_simp⟩) hS ?_)
    (try simp only [Act.put])
    (refine wpAnyH_take (i := 6) (v := .pointer (some ⟨w.heap.size, 2, none⟩)) rfl (by kernel_rfl) (by kernel_rfl) (by kernel_rfl) (fun _ _ _ h => h) (Or.inl ⟨by kernel_rfl, fun w hSw => by go_simp⟩) hS ?_)
    (try simp only [Act.put])
    (refine wpAnyH_take (i := 7) (v := .agg (cfgV s.ep s.mA s.ms.length s.mc)) rfl (by kernel_rfl) (by kernel_rfl) (by kernel_rfl) (fun _ _ _ h => h) (yieldsIf_load_mid (by kernel_rfl) 26 (.tmp 12) rfl w.heap.size (2) (by kernel_rfl) ((cfgV s.ep s.mA s.ms.length s.mc).toList) _ (fun w hSw => (HC0.out w hSw).2.2) hu26 rfl (cf_list s.ep s.mA s.ms.length s.mc)) hS ?_)
    (try simp only [Act.put])
    refine wpAnyH_ready (rs := [2, 10]) (by decide +kernel) (by simp) (AllReadyH.cons rfl (fun K hK => ?_) (AllReadyH.cons rfl (fun K hK => ?_) AllReadyH.nil))
    · go_simp
      (go_at_call 35; (with_reducible refine (HCP.out _ hS).mono ?_); rintro e u2 ⟨pA2, pc2, rfl, ho, hb⟩)
      have HSZ := Lib.hid hS.size
      have HOP := Lib.hid (EK.Own.base ho HSZ.out)
      clear ho
      refine hK.out _ _ (hS.trans (hb.mono hS.size)) (fun hS => ?_)
      clear hK K hb HSZ
      (try simp only [Act.put])
      refine wpAnyH_ready (rs := [5, 10]) (by decide +kernel) (by simp) (AllReadyH.cons rfl (fun K hK => ?_) (AllReadyH.cons rfl (fun K hK => ?_) AllReadyH.nil))
      · go_simp
        (go_at_call 36; (with_reducible refine (HCR.out _ hS).mono ?_); rintro e u5 ⟨rA2, rc2, rfl, ho, hb⟩)
        have HSZ := Lib.hid hS.size
        have HOR := Lib.hid (EK.Own.base ho HSZ.out)
        clear ho
        have HOP := Lib.hid (EK.Own.keep HOP.out hb)
        refine hK.out _ _ (hS.trans (hb.mono hS.size)) (fun hS => ?_)
        clear hK K hb HSZ
        (try simp only [Act.put])
        refine wpAnyH_ready (rs := [8, 10]) (by decide +kernel) (by simp) (AllReadyH.cons rfl (fun K hK => ?_) (AllReadyH.cons rfl (fun K hK => ?_) AllReadyH.nil))
        · go_simp
          (go_at_call 24; (with_reducible refine (HCM.out _ hS).mono ?_); rintro e u8 ⟨mA2, mc2, rfl, ho, hb⟩)
          have HSZ := Lib.hid hS.size
          have HOM := Lib.hid (EK.Own.base ho HSZ.out)
          clear ho
          have HOP := Lib.hid (EK.Own.keep HOP.out hb)
          have HOR := Lib.hid (EK.Own.keep HOR.out hb)
          refine hK.out _ _ (hS.trans (hb.mono hS.size)) (fun hS => ?_)
          clear hK K hb HSZ
          (try simp only [Act.put])
          (refine wpAnyH_take (i := 9) (v := .agg (stV pA2 s.ps.length pc2 rA2 s.rs.length rc2 s.ep mA2 s.ms.length mc2)) rfl (by kernel_rfl) (by kernel_rfl) (by kernel_rfl) (fun _ _ _ h => h) (Or.inl ⟨by kernel_rfl, fun w hSw => by have hc := bd_st w pA2 s.ps.length pc2 rA2 s.rs.length rc2 s.ep mA2 s.ms.length mc2; go_simp⟩) hS ?_)
          (try simp only [Act.put])
          refine wpAnyH_ready (rs := [10]) (by decide +kernel) (by simp) (AllReadyH.cons rfl (fun K hK => ?_) AllReadyH.nil)
          go_simp
          have HSZ := Lib.hid hS.size
          refine hK.out _ _ (hS.alloc hS.size _) (fun hS => ?_)
          clear hK K
          (try simp only [Act.put])
          have hb : Below u8.heap.size u8 (u8.alloc (.cells (stV none 0 0 none 0 0 0 none 0 0) 28)) := (Below.refl _ _).alloc (Nat.le_refl _) _
          have HB : Hid (Box (u8.alloc (.cells (stV none 0 0 none 0 0 0 none 0 0) 28)) u8.heap.size 28 (stV none 0 0 none 0 0 0 none 0 0)) := Lib.hid (Box.made _ _ _)
          have GHB : Hid (w1.heap.size ≤ u8.heap.size) := Lib.hid HSZ.out
          have HOP := Lib.hid (EK.Own.keep HOP.out hb)
          have HOR := Lib.hid (EK.Own.keep HOR.out hb)
          have HOM := Lib.hid (EK.Own.keep HOM.out hb)
          clear hb HSZ
          generalize u8.alloc (.cells (stV none 0 0 none 0 0 0 none 0 0) 28) = u10 at *
          generalize u8.heap.size = b10 at *
          refine wpAnyH_ready (rs := [11]) (by decide +kernel) (by simp) (AllReadyH.cons rfl (fun K hK => ?_) AllReadyH.nil)
          obtain ⟨u11, hst, hbx, hg⟩ := HB.out.s_st rfl pA2 s.ps.length pc2 rA2 s.rs.length rc2 s.ep mA2 s.ms.length mc2
          have hS2 := hS.trans (below_only hg GHB.out hS.size)
          go_simp
          refine hK.out _ _ hS2 (fun hS => ?_)
          clear hK K hS2
          (try simp only [Act.put])
          have HB2 := Lib.hid hbx
          have HOP2 := Lib.hid (own_box HOP.out HB.out (by decide) hg)
          have HOR2 := Lib.hid (own_box HOR.out HB.out (by decide) hg)
          have HOM2 := Lib.hid (own_box HOM.out HB.out (by decide) hg)
          have HY2 := Lib.hid (HY.out.below (hS.mono (Nat.le_refl _)) HY.out.lt)
          clear hbx hg hst HB HOP HOR HOM
          refine wpAnyH_done (by kernel_rfl) ?_ _
          have HCY : Hid (CyW s w b10 (w.heap.size + 1) pA2 pc2 rA2 rc2 mA2 mc2 0 s.rs u11) := Lib.hid ⟨HB2.out, HY2.out, EK.Own.base HOP2.out HF.out.size, EK.Own.base HOM2.out HF.out.size, EK.Own.base HOR2.out HF.out.size, rfl, rfl, fun j hj h => absurd h (by omega), rfl, HF.out.trans (hS.mono HF.out.size), Nat.le_trans HF.out.size GHB.out, by omega, by have h1 := HY.out.lt; have h2 := GHB.out; omega⟩
          clear hS HB2 HY2 HOP2 HOM2 HOR2 GHB
          go_wp2_with fail
          go_meet
          exact ⟨b10, pA2, pc2, rA2, rc2, mA2, mc2, rfl, HCY⟩
        · go_simp
          have HSZ := Lib.hid hS.size
          refine hK.out _ _ (hS.alloc hS.size _) (fun hS => ?_)
          clear hK K
          (try simp only [Act.put])
          have hb : Below u5.heap.size u5 (u5.alloc (.cells (stV none 0 0 none 0 0 0 none 0 0) 28)) := (Below.refl _ _).alloc (Nat.le_refl _) _
          have HB : Hid (Box (u5.alloc (.cells (stV none 0 0 none 0 0 0 none 0 0) 28)) u5.heap.size 28 (stV none 0 0 none 0 0 0 none 0 0)) := Lib.hid (Box.made _ _ _)
          have GHB : Hid (w1.heap.size ≤ u5.heap.size) := Lib.hid HSZ.out
          have HOP := Lib.hid (EK.Own.keep HOP.out hb)
          have HOR := Lib.hid (EK.Own.keep HOR.out hb)
          clear hb HSZ
          generalize u5.alloc (.cells (stV none 0 0 none 0 0 0 none 0 0) 28) = u10 at *
          generalize u5.heap.size = b10 at *
          refine wpAnyH_ready (rs := [8]) (by decide +kernel) (by simp) (AllReadyH.cons rfl (fun K hK => ?_) AllReadyH.nil)
          go_simp
          (go_at_call 24; (with_reducible refine (HCM.out _ hS).mono ?_); rintro e u8 ⟨mA2, mc2, rfl, ho, hb⟩)
          have HSZ := Lib.hid hS.size
          have HOM := Lib.hid (EK.Own.base ho HSZ.out)
          clear ho
          have HOP := Lib.hid (EK.Own.keep HOP.out hb)
          have HOR := Lib.hid (EK.Own.keep HOR.out hb)
          have HB := Lib.hid (HB.out.below hb HB.out.lt)
          refine hK.out _ _ (hS.trans (hb.mono hS.size)) (fun hS => ?_)
          clear hK K hb HSZ
          (try simp only [Act.put])
          (refine wpAnyH_take (i := 9) (v := .agg (stV pA2 s.ps.length pc2 rA2 s.rs.length rc2 s.ep mA2 s.ms.length mc2)) rfl (by kernel_rfl) (by kernel_rfl) (by kernel_rfl) (fun _ _ _ h => h) (Or.inl ⟨by kernel_rfl, fun w hSw => by have hc := bd_st w pA2 s.ps.length pc2 rA2 s.rs.length rc2 s.ep mA2 s.ms.length mc2; go_simp⟩) hS ?_)
          (try simp only [Act.put])
          refine wpAnyH_ready (rs := [11]) (by decide +kernel) (by simp) (AllReadyH.cons rfl (fun K hK => ?_) AllReadyH.nil)
          obtain ⟨u11, hst, hbx, hg⟩ := HB.out.s_st rfl pA2 s.ps.length pc2 rA2 s.rs.length rc2 s.ep mA2 s.ms.length mc2
          have hS2 := hS.trans (below_only hg GHB.out hS.size)
          go_simp
          refine hK.out _ _ hS2 (fun hS => ?_)
          clear hK K hS2
          (try simp only [Act.put])
          have HB2 := Lib.hid hbx
          have HOP2 := Lib.hid (own_box HOP.out HB.out (by decide) hg)
          have HOR2 := Lib.hid (own_box HOR.out HB.out (by decide) hg)
          have HOM2 := Lib.hid (own_box HOM.out HB.out (by decide) hg)
          have HY2 := Lib.hid (HY.out.below (hS.mono (Nat.le_refl _)) HY.out.lt)
          clear hbx hg hst HB HOP HOR HOM
          refine wpAnyH_done (by kernel_rfl) ?_ _
          have HCY : Hid (CyW s w b10 (w.heap.size + 1) pA2 pc2 rA2 rc2 mA2 mc2 0 s.rs u11) := Lib.hid ⟨HB2.out, HY2.out, EK.Own.base HOP2.out HF.out.size, EK.Own.base HOM2.out HF.out.size, EK.Own.base HOR2.out HF.out.size, rfl, rfl, fun j hj h => absurd h (by omega), rfl, HF.out.trans (hS.mono HF.out.size), Nat.le_trans HF.out.size GHB.out, by omega, by have h1 := HY.out.lt; have h2 := GHB.out; omega⟩
          clear hS HB2 HY2 HOP2 HOM2 HOR2 GHB
          go_wp2_with fail
          go_meet
          exact ⟨b10, pA2, pc2, rA2, rc2, mA2, mc2, rfl, HCY⟩
      · go_simp
        have HSZ := Lib.hid hS.size
        refine hK.out _ _ (hS.alloc hS.size _) (fun hS => ?_)
        clear hK K
        (try simp only [Act.put])
        have hb : Below u2.heap.size u2 (u2.alloc (.cells (stV none 0 0 none 0 0 0 none 0 0) 28)) := (Below.refl _ _).alloc (Nat.le_refl _) _
        have HB : Hid (Box (u2.alloc (.cells (stV none 0 0 none 0 0 0 none 0 0) 28)) u2.heap.size 28 (stV none 0 0 none 0 0 0 none 0 0)) := Lib.hid (Box.made _ _ _)
        have GHB : Hid (w1.heap.size ≤ u2.heap.size) := Lib.hid HSZ.out
        have HOP := Lib.hid (EK.Own.keep HOP.out hb)
        clear hb HSZ
        generalize u2.alloc (.cells (stV none 0 0 none 0 0 0 none 0 0) 28) = u10 at *
        generalize u2.heap.size = b10 at *
        refine wpAnyH_ready (rs := [5]) (by decide +kernel) (by simp) (AllReadyH.cons rfl (fun K hK => ?_) AllReadyH.nil)
        go_simp
        (go_at_call 36; (with_reducible refine (HCR.out _ hS).mono ?_); rintro e u5 ⟨rA2, rc2, rfl, ho, hb⟩)
        have HSZ := Lib.hid hS.size
        have HOR := Lib.hid (EK.Own.base ho HSZ.out)
        clear ho
        have HOP := Lib.hid (EK.Own.keep HOP.out hb)
        have HB := Lib.hid (HB.out.below hb HB.out.lt)
        refine hK.out _ _ (hS.trans (hb.mono hS.size)) (fun hS => ?_)
        clear hK K hb HSZ
        (try simp only [Act.put])
        refine wpAnyH_ready (rs := [8]) (by decide +kernel) (by simp) (AllReadyH.cons rfl (fun K hK => ?_) AllReadyH.nil)
        go_simp
        (go_at_call 24; (with_reducible refine (HCM.out _ hS).mono ?_); rintro e u8 ⟨mA2, mc2, rfl, ho, hb⟩)
        have HSZ := Lib.hid hS.size
        have HOM := Lib.hid (EK.Own.base ho HSZ.out)
        clear ho
        have HOP := Lib.hid (EK.Own.keep HOP.out hb)
        have HB := Lib.hid (HB.out.below hb HB.out.lt)
        have HOR := Lib.hid (EK.Own.keep HOR.out hb)
        refine hK.out _ _ (hS.trans (hb.mono hS.size)) (fun hS => ?_)
        clear hK K hb HSZ
        (try simp only [Act.put])
        (refine wpAnyH_take (i := 9) (v := .agg (stV pA2 s.ps.length pc2 rA2 s.rs.length rc2 s.ep mA2 s.ms.length mc2)) rfl (by kernel_rfl) (by kernel_rfl) (by kernel_rfl) (fun _ _ _ h => h) (Or.inl ⟨by kernel_rfl, fun w hSw => by have hc := bd_st w pA2 s.ps.length pc2 rA2 s.rs.length rc2 s.ep mA2 s.ms.length mc2; go_simp⟩) hS ?_)
        (try simp only [Act.put])
        refine wpAnyH_ready (rs := [11]) (by decide +kernel) (by simp) (AllReadyH.cons rfl (fun K hK => ?_) AllReadyH.nil)
        obtain ⟨u11, hst, hbx, hg⟩ := HB.out.s_st rfl pA2 s.ps.length pc2 rA2 s.rs.length rc2 s.ep mA2 s.ms.length mc2
        have hS2 := hS.trans (below_only hg GHB.out hS.size)
        go_simp
        refine hK.out _ _ hS2 (fun hS => ?_)
        clear hK K hS2
        (try simp only [Act.put])
        have HB2 := Lib.hid hbx
        have HOP2 := Lib.hid (own_box HOP.out HB.out (by decide) hg)
        have HOR2 := Lib.hid (own_box HOR.out HB.out (by decide) hg)
        have HOM2 := Lib.hid (own_box HOM.out HB.out (by decide) hg)
        have HY2 := Lib.hid (HY.out.below (hS.mono (Nat.le_refl _)) HY.out.lt)
        clear hbx hg hst HB HOP HOR HOM
        refine wpAnyH_done (by kernel_rfl) ?_ _
        have HCY : Hid (CyW s w b10 (w.heap.size + 1) pA2 pc2 rA2 rc2 mA2 mc2 0 s.rs u11) := Lib.hid ⟨HB2.out, HY2.out, EK.Own.base HOP2.out HF.out.size, EK.Own.base HOM2.out HF.out.size, EK.Own.base HOR2.out HF.out.size, rfl, rfl, fun j hj h => absurd h (by omega), rfl, HF.out.trans (hS.mono HF.out.size), Nat.le_trans HF.out.size GHB.out, by omega, by have h1 := HY.out.lt; have h2 := GHB.out; omega⟩
        clear hS HB2 HY2 HOP2 HOM2 HOR2 GHB
        go_wp2_with fail
        go_meet
        exact ⟨b10, pA2, pc2, rA2, rc2, mA2, mc2, rfl, HCY⟩
    · go_simp
      have HSZ := Lib.hid hS.size
      refine hK.out _ _ (hS.alloc hS.size _) (fun hS => ?_)
      clear hK K
      (try simp only [Act.put])
      have hb : Below wd.heap.size wd (wd.alloc (.cells (stV none 0 0 none 0 0 0 none 0 0) 28)) := (Below.refl _ _).alloc (Nat.le_refl _) _
      have HB : Hid (Box (wd.alloc (.cells (stV none 0 0 none 0 0 0 none 0 0) 28)) wd.heap.size 28 (stV none 0 0 none 0 0 0 none 0 0)) := Lib.hid (Box.made _ _ _)
      have GHB : Hid (w1.heap.size ≤ wd.heap.size) := Lib.hid HSZ.out
      clear hb HSZ
      generalize wd.alloc (.cells (stV none 0 0 none 0 0 0 none 0 0) 28) = u10 at *
      generalize wd.heap.size = b10 at *
      refine wpAnyH_ready (rs := [2]) (by decide +kernel) (by simp) (AllReadyH.cons rfl (fun K hK => ?_) AllReadyH.nil)
      go_simp
      (go_at_call 35; (with_reducible refine (HCP.out _ hS).mono ?_); rintro e u2 ⟨pA2, pc2, rfl, ho, hb⟩)
      have HSZ := Lib.hid hS.size
      have HOP := Lib.hid (EK.Own.base ho HSZ.out)
      clear ho
      have HB := Lib.hid (HB.out.below hb HB.out.lt)
      refine hK.out _ _ (hS.trans (hb.mono hS.size)) (fun hS => ?_)
      clear hK K hb HSZ
      (try simp only [Act.put])
      refine wpAnyH_ready (rs := [5]) (by decide +kernel) (by simp) (AllReadyH.cons rfl (fun K hK => ?_) AllReadyH.nil)
      go_simp
      (go_at_call 36; (with_reducible refine (HCR.out _ hS).mono ?_); rintro e u5 ⟨rA2, rc2, rfl, ho, hb⟩)
      have HSZ := Lib.hid hS.size
      have HOR := Lib.hid (EK.Own.base ho HSZ.out)
      clear ho
      have HB := Lib.hid (HB.out.below hb HB.out.lt)
      have HOP := Lib.hid (EK.Own.keep HOP.out hb)
      refine hK.out _ _ (hS.trans (hb.mono hS.size)) (fun hS => ?_)
      clear hK K hb HSZ
      (try simp only [Act.put])
      refine wpAnyH_ready (rs := [8]) (by decide +kernel) (by simp) (AllReadyH.cons rfl (fun K hK => ?_) AllReadyH.nil)
      go_simp
      (go_at_call 24; (with_reducible refine (HCM.out _ hS).mono ?_); rintro e u8 ⟨mA2, mc2, rfl, ho, hb⟩)
      have HSZ := Lib.hid hS.size
      have HOM := Lib.hid (EK.Own.base ho HSZ.out)
      clear ho
      have HB := Lib.hid (HB.out.below hb HB.out.lt)
      have HOP := Lib.hid (EK.Own.keep HOP.out hb)
      have HOR := Lib.hid (EK.Own.keep HOR.out hb)
      refine hK.out _ _ (hS.trans (hb.mono hS.size)) (fun hS => ?_)
      clear hK K hb HSZ
      (try simp only [Act.put])
      (refine wpAnyH_take (i := 9) (v := .agg (stV pA2 s.ps.length pc2 rA2 s.rs.length rc2 s.ep mA2 s.ms.length mc2)) rfl (by kernel_rfl) (by kernel_rfl) (by kernel_rfl) (fun _ _ _ h => h) (Or.inl ⟨by kernel_rfl, fun w hSw => by have hc := bd_st w pA2 s.ps.length pc2 rA2 s.rs.length rc2 s.ep mA2 s.ms.length mc2; go_simp⟩) hS ?_)
      (try simp only [Act.put])
      refine wpAnyH_ready (rs := [11]) (by decide +kernel) (by simp) (AllReadyH.cons rfl (fun K hK => ?_) AllReadyH.nil)
      obtain ⟨u11, hst, hbx, hg⟩ := HB.out.s_st rfl pA2 s.ps.length pc2 rA2 s.rs.length rc2 s.ep mA2 s.ms.length mc2
      have hS2 := hS.trans (below_only hg GHB.out hS.size)
      go_simp
      refine hK.out _ _ hS2 (fun hS => ?_)
      clear hK K hS2
      (try simp only [Act.put])
      have HB2 := Lib.hid hbx
      have HOP2 := Lib.hid (own_box HOP.out HB.out (by decide) hg)
      have HOR2 := Lib.hid (own_box HOR.out HB.out (by decide) hg)
      have HOM2 := Lib.hid (own_box HOM.out HB.out (by decide) hg)
      have HY2 := Lib.hid (HY.out.below (hS.mono (Nat.le_refl _)) HY.out.lt)
      clear hbx hg hst HB HOP HOR HOM
      refine wpAnyH_done (by kernel_rfl) ?_ _
      have HCY : Hid (CyW s w b10 (w.heap.size + 1) pA2 pc2 rA2 rc2 mA2 mc2 0 s.rs u11) := Lib.hid ⟨HB2.out, HY2.out, EK.Own.base HOP2.out HF.out.size, EK.Own.base HOM2.out HF.out.size, EK.Own.base HOR2.out HF.out.size, rfl, rfl, fun j hj h => absurd h (by omega), rfl, HF.out.trans (hS.mono HF.out.size), Nat.le_trans HF.out.size GHB.out, by omega, by have h1 := HY.out.lt; have h2 := GHB.out; omega⟩
      clear hS HB2 HY2 HOP2 HOM2 HOR2 GHB
      go_wp2_with fail
      go_meet
      exact ⟨b10, pA2, pc2, rA2, rc2, mA2, mc2, rfl, HCY⟩
  case rest =>
    obtain ⟨b, pA2, pc2, rA2, rc2, mA2, mc2, rfl, HW⟩ := hcut
    clear HCP HCR HCM HC0 HX HY HS1 HF HD0
    have c1 : wc.cell? ⟨b, 1, none⟩ = some (.slice rA2 s.rs.length rc2) := HW.out.box.cell 1
    go_wp2
    go_loopw [19] (fun i wr => ∃ (k : Nat) (L : List RepM), k ≤ s.rs.length ∧ i = .int .i64 (k : Int) ∧ Hid (CyW s w b (w.heap.size + 1) pA2 pc2 rA2 rc2 mA2 mc2 k L wr)) (fun i _ => s.rs.length - (intOf i).toNat)
    case atStart => exact ⟨0, s.rs, Nat.zero_le _, rfl, HW⟩
    case round =>
      obtain ⟨k, L, hk, rfl, HL⟩ := hrel
      clear c1
      by_cases hlt : k < s.rs.length
      · obtain ⟨g, e, hge, hrg⟩ := HL.out.ptr hlt
        subst e
        have HCL1 : Hid (∀ w', Below w.heap.size w w' → Calls Tryz.prog 23 #[.agg (repv (s.rs[k]'hlt).x.client (s.rs[k]'hlt).x.num (s.rs[k]'hlt).x.code (s.rs[k]'hlt).A (s.rs[k]'hlt).x.vals.length (s.rs[k]'hlt).z)] w' fun e w'' => ∃ A' z', e = .returned (.agg (repv (s.rs[k]'hlt).x.client (s.rs[k]'hlt).x.num (s.rs[k]'hlt).x.code A' (s.rs[k]'hlt).x.vals.length z')) ∧ SK.Own w'' w'.heap.size (.slice A' (s.rs[k]'hlt).x.vals.length z') (s.rs[k]'hlt).x.vals ∧ Below w'.heap.size w' w'') := Lib.hid (fun w' hb => HCL.out w' hb k hlt)
        have HG : Hid (g < wr.heap.size) := Lib.hid (by
          have := HL.out.rs.lt g rfl
          exact this.2)
        have HPUT : Hid (∀ w', CyW s w b (w.heap.size + 1) pA2 pc2 (some ⟨g, 0, none⟩) rc2 mA2 mc2 k L w' → ∀ A z, SK.Own w' w.heap.size (.slice A (s.rs[k]'hlt).x.vals.length z) (s.rs[k]'hlt).x.vals → Box w' wr.heap.size 36 (repv (s.rs[k]'hlt).x.client (s.rs[k]'hlt).x.num (s.rs[k]'hlt).x.code (s.rs[k]'hlt).A (s.rs[k]'hlt).x.vals.length (s.rs[k]'hlt).z) →
            ∃ w'' L', (stRp (.pointer (some ⟨g, k * 4, none⟩)) (.agg (repv (s.rs[k]'hlt).x.client (s.rs[k]'hlt).x.num (s.rs[k]'hlt).x.code A (s.rs[k]'hlt).x.vals.length z))).run Tryz.prog w' = .ok () w'' ∧ CyW s w b (w.heap.size + 1) pA2 pc2 (some ⟨g, 0, none⟩) rc2 mA2 mc2 (k + 1) L' w'' ∧ Box w'' wr.heap.size 36 (repv (s.rs[k]'hlt).x.client (s.rs[k]'hlt).x.num (s.rs[k]'hlt).x.code (s.rs[k]'hlt).A (s.rs[k]'hlt).x.vals.length (s.rs[k]'hlt).z)) := Lib.hid (fun w' h A z ho hbx => h.put hlt ho hbx (by have := HG.out; omega))
        have hrg2 : wr.rangeAt g (k * 4) (repv (s.rs[k]'hlt).x.client (s.rs[k]'hlt).x.num (s.rs[k]'hlt).x.code (s.rs[k]'hlt).A (s.rs[k]'hlt).x.vals.length (s.rs[k]'hlt).z).toList := hrg
        have HLT := Lib.hid hlt
        have i1 : (k : Int) < (s.rs.length : Int) := by omega
        have i0 : (0 : Int) ≤ (k : Int) := by omega
        have wk : IntKind.i64.wrap ((k : Int) + 1) = ((k + 1 : Nat) : Int) := by
          rw [IntKind.wrap_i64]
          have := HN.out
          omega
        generalize (s.rs[k]'hlt).x.client = xc at *
        generalize (s.rs[k]'hlt).x.num = xn at *
        generalize (s.rs[k]'hlt).x.code = xk at *
        generalize (s.rs[k]'hlt).A = xA at *
        generalize (s.rs[k]'hlt).x.vals = xv at *
        generalize xv.length = xl at *
        generalize (s.rs[k]'hlt).z = xz at *
        have lk := range_rp hrg2
        obtain ⟨w3, hst, hb3, hbl3, _⟩ := laid_rp wr (repv 0 0 0 none 0 0) rfl xc xn xk xA xl xz
        have HB3 := Lib.hid hb3
        have HL3 := Lib.hid (HL.out.call hbl3)
        have HS3 : Hid (CyS w b wr.heap.size (.slice (some ⟨g, 0, none⟩) s.rs.length rc2) (repv xc xn xk xA xl xz) w3) := Lib.hid ⟨HL3.out.far, HL3.out.box.cell 1, hb3⟩
        clear hrg hrg2 hb3 hbl3 hge HCL HL
        go_upto_region 5 with fail
        generalize wr.heap.size = m5 at *
        clear lk hst
        have HD3 : Hid (CyS w b m5 (.slice (some ⟨g, 0, none⟩) s.rs.length rc2) (repv xc xn xk xA xl xz) w3.drew) := HS3.out.call ((Below.refl _ _).drew)
        have hu47 := Tryz.underlying36
        have HL3' := Lib.hid (HL3.out.call ((Below.refl _ _).drew))
        clear HL3 HS3
        have HL3 := HL3'
        clear HL3'
        refine wp_region_held_drew (S := fun w' => CyS w b m5 (.slice (some ⟨g, 0, none⟩) s.rs.length rc2) (repv xc xn xk xA xl xz) w') (by kernel_rfl) HD3.out (fun hS => ?_)
        clear HD3 HB3
        generalize w3.drew = wd at *
        (refine wpAnyH_take (i := 0) (v := .pointer (some ⟨b, 1, none⟩)) rfl (by kernel_rfl) (by kernel_rfl) (by kernel_rfl) (fun _ _ _ h => h) (Or.inl ⟨by kernel_rfl, fun w hSw => by go_simp⟩) hS ?_)
        (try simp only [Act.put])
        (refine wpAnyH_take (i := 1) (v := .slice (some ⟨g, 0, none⟩) s.rs.length rc2) rfl (by kernel_rfl) (by kernel_rfl) (by kernel_rfl) (fun _ _ _ h => h) (Or.inl ⟨by kernel_rfl, fun w hSw => by have hc := CyS.c1 hSw; go_simp⟩) hS ?_)
        (try simp only [Act.put])
        (refine wpAnyH_take (i := 2) (v := .int .i64 (k : Int)) rfl (by kernel_rfl) (by kernel_rfl) (by kernel_rfl) (fun _ _ _ h => h) (Or.inl ⟨by kernel_rfl, fun w hSw => by go_simp⟩) hS ?_)
        (try simp only [Act.put])
        (refine wpAnyH_take (i := 3) (v := .agg (repv xc xn xk xA xl xz)) rfl (by kernel_rfl) (by kernel_rfl) (by kernel_rfl) (fun _ _ _ h => h) (yieldsIf_load_mid (by kernel_rfl) 36 (.tmp 5) rfl m5 (0) (by kernel_rfl) ((repv xc xn xk xA xl xz).toList) _ (fun w hSw => Box.range (CyS.bx hSw)) hu47 rfl (rp_list xc xn xk xA xl xz)) hS ?_)
        (try simp only [Act.put])
        refine wpAnyH_ready (rs := [4]) (by decide +kernel) (by simp) (AllReadyH.cons rfl (fun K hK => ?_) AllReadyH.nil)
        go_simp
        (go_at_call 23; (with_reducible refine (HCL1.out _ hS.far).mono ?_); rintro e u4 ⟨A2, z2, rfl, ho, hb⟩)
        have HSZ := Lib.hid hS.far.size
        have HO2 := Lib.hid (EK.Own.base ho hS.far.size)
        have HL4 := Lib.hid (HL3.out.call hb)
        clear ho HL3
        refine hK.out _ _ (hS.call hb) (fun hS => ?_)
        clear hK K hb HSZ
        (try simp only [Act.put])
        (refine wpAnyH_take (i := 5) (v := .pointer (some ⟨g, k * 4, none⟩)) rfl (by kernel_rfl) (by kernel_rfl) (by kernel_rfl) (fun _ _ _ h => h) (Or.inl ⟨by kernel_rfl, fun w hSw => by go_simp⟩) hS ?_)
        (try simp only [Act.put])
        refine wpAnyH_ready (rs := [6]) (by decide +kernel) (by simp) (AllReadyH.cons rfl (fun K hK => ?_) AllReadyH.nil)
        obtain ⟨u6, L2, hst, hl5, hbx⟩ := HPUT.out _ HL4.out A2 z2 HO2.out hS.bx
        have hS2 := CyS.mk (hl5.far) (hl5.box.cell 1) hbx
        go_simp
        refine hK.out _ _ hS2 (fun hS => ?_)
        clear hK K hS2
        (try simp only [Act.put])
        have HL5 := Lib.hid hl5
        clear hbx hst hl5 HL4 HO2 hS
        refine wpAnyH_done (by kernel_rfl) ?_ _
        go_wp2_with fail
        go_roundw
        case rel => exact ⟨k + 1, L2, HLT.out, by go_num, HL5⟩
        case measure => have := HLT.out; simp [intOf]; omega

      · have hke : k = s.rs.length := by omega
        have l3 := HL.out.box.l_st
        obtain ⟨w4, hst, hb4, hg4⟩ := HL.out.out.s_st rfl pA2 s.ps.length pc2 rA2 s.rs.length rc2 s.ep mA2 s.ms.length mc2
        have HB4 := Lib.hid hb4
        have HR : Hid (∃ s' : StM, s'.cells = stV pA2 s.ps.length pc2 rA2 s.rs.length rc2 s.ep mA2 s.ms.length mc2 ∧ s'.pl = s.pl ∧ s'.Own w4 w.heap.size ∧ Below w.heap.size w w4) := Lib.hid ⟨⟨s.ps, pA2, pc2, L, rA2, rc2, s.ep, s.ms, mA2, mc2⟩, by
            show stV _ _ _ _ L.length _ _ _ _ _ = _
            rw [HL.out.len], by unfold StM.pl; rw [HL.out.same],
          ⟨own_box HL.out.ps HL.out.out (by decide) hg4, by
            have := own_box HL.out.rs HL.out.out (by decide) hg4
            rw [← HL.out.len] at this
            exact this, fun r hr => by
            obtain ⟨j, hj, rfl⟩ := List.mem_iff_getElem.1 hr
            exact own_box (HL.out.done j hj (by rw [HL.out.len] at hj; omega)) HL.out.out (by decide) hg4, own_box HL.out.ms HL.out.out (by decide) hg4⟩, HL.out.far.trans (below_only hg4 (by omega) HL.out.far.size)⟩
        clear hb4 hg4 HCL
        go_wp2
        refine retn_st rfl rfl rfl HB4.out ?_
        obtain ⟨s', h1, h2, h3, h4⟩ := HR.out
        exact ⟨s', by rw [h1], h2, h3, h4⟩

end Go.Proofs.YtbgbidgggjkmmaaGreatDoor
