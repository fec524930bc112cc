/-
  Requests of two clients for two keys, in both orders (no program).
  StateParts.
-/
import Derived.Test.YtbgbidgggjkmmaaGreatDoorStAlive
import Derived.Test.YtbgbidgggjkmmaaGreatDoorStLists
import Derived.Lib.QuietBelow
namespace Go.Proofs.YtbgbidgggjkmmaaGreatDoor
open Go.RowKit

/-- What becomes of a key: nothing, it goes, it is put. -/
abbrev Eff := Option (Option ByteArray)
def appE (e : Eff) (k : ByteArray) (l : List PairX) : List PairX := match e with
  | none => l
  | some none => pDel k l
  | some (some v) => pPut ⟨k, v⟩ l
set_option maxRecDepth 100000 in
theorem appE_sorted (e : Eff) (k : ByteArray) {l : List PairX} (h : PS l) : PS (appE e k l) := by
  match e with
  | none => exact h
  | some none => exact del_sorted k h
  | some (some v) => exact put_sorted sLt3 _ h
set_option maxRecDepth 100000 in
theorem appE_look (e : Eff) (k j : ByteArray) {l : List PairX} (h : PS l) (hne : k ≠ j) : pLook j (appE e k l) = pLook j l := by
  match e with
  | none => rfl
  | some none => exact (look_del k j l).trans (if_neg (fun e => hne e.symm))
  | some (some v) => exact (look_put sLt3 _ h j).trans (if_neg hne)
set_option maxRecDepth 100000 in
theorem appE_same (e : Eff) (k : ByteArray) {l : List PairX} (h : PS l) : pLook k (appE e k l) = match e with
    | none => pLook k l
    | some none => none
    | some (some v) => some ⟨k, v⟩ := by
  match e with
  | none => rfl
  | some none => exact (look_del k k l).trans (if_pos rfl)
  | some (some v) => exact (look_put sLt3 _ h k).trans (if_pos rfl)
set_option maxRecDepth 100000 in
theorem appE_len (e : Eff) (k : ByteArray) (l : List PairX) : (appE e k l).length ≤ l.length + 1 := by
  match e with
  | none => exact Nat.le_succ _
  | some none => exact Nat.le_succ_of_le (del_len k l)
  | some (some v) => exact put_len _ l
set_option maxRecDepth 100000 in
theorem appE_comm (e f : Eff) {k j : ByteArray} {l : List PairX} (h : PS l) (hne : k ≠ j) : appE f j (appE e k l) = appE e k (appE f j l) := by
  refine sorted_ext sLt3 (appE_sorted _ _ (appE_sorted _ _ h)) (appE_sorted _ _ (appE_sorted _ _ h)) (fun i => ?_)
  show pLook i _ = pLook i _
  by_cases hj : j = i
  · subst hj
    rw [appE_same f j (appE_sorted e k h), appE_look e k j (appE_sorted f j h) hne, appE_same f j h, appE_look e k j h hne]
  · rw [appE_look f j i (appE_sorted e k h) hj]
    by_cases hk : k = i
    · subst hk
      rw [appE_same e k h, appE_same e k (appE_sorted f j h), appE_look f j k h hj]
    · rw [appE_look e k i h hk, appE_look e k i (appE_sorted f j h) hk, appE_look f j i h hj]
def opG (q : ReqX) (o : Option PairX) : Eff × Int × List ByteArray :=
  if q.kind = 2 then (some (some q.val), 0, [])
  else match o with
    | none => (none, 7, [])
    | some p => if q.kind = 1 then (none, 0, [p.val]) else if q.kind = 3 then (some none, 0, []) else
        (if p.val = q.old then (some (some q.val), 0, []) else (none, 9, [p.val]))
set_option maxRecDepth 100000 in
theorem opF_opG {s : StX} {q : ReqX} (h5 : q.kind ≤ 4) (hl : s.ps.length < 256) : opF s q = ({ s with ps := appE (opG q (pLook q.key s.ps)).1 q.key s.ps }, (opG q (pLook q.key s.ps)).2.1, (opG q (pLook q.key s.ps)).2.2) := by
  unfold opF opG
  by_cases h2 : q.kind = 2
  · rw [if_pos h2, if_pos h2, if_neg (by omega)]
    rfl
  · rw [if_neg h2, if_neg h2, if_neg (by omega : ¬ q.kind = 5)]
    cases pLook q.key s.ps with
    | none => rfl
    | some p =>
      simp only
      by_cases h1 : q.kind = 1
      · rw [if_pos h1, if_pos h1]; rfl
      · rw [if_neg h1, if_neg h1]
        by_cases h3 : q.kind = 3
        · rw [if_pos h3, if_pos h3]; rfl
        · rw [if_neg h3, if_neg h3]
          by_cases ho : p.val = q.old
          · rw [if_pos ho, if_pos ho]; rfl
          · rw [if_neg ho, if_neg ho]; rfl
def stoR (b : Bool) (r : RepX) (l : List RepX) : List RepX := if b = true then rPut r l else l
set_option maxRecDepth 100000 in
theorem stoR_sorted (b : Bool) (r : RepX) {l : List RepX} (h : RS l) : RS (stoR b r l) := by
  unfold stoR
  split
  · exact put_sorted iLt3 _ h
  · exact h
set_option maxRecDepth 100000 in
theorem stoR_look (b : Bool) (r : RepX) {l : List RepX} (h : RS l) {c : Int} (hne : b = true → r.client ≠ c) : rLook c (stoR b r l) = rLook c l := by
  unfold stoR
  split
  · rename_i hb
    exact (look_put iLt3 _ h c).trans (if_neg (hne hb))
  · rfl
set_option maxRecDepth 100000 in
theorem stoR_comm (b d : Bool) {r t : RepX} {l : List RepX} (h : RS l) (hne : b = true → d = true → r.client ≠ t.client) : stoR d t (stoR b r l) = stoR b r (stoR d t l) := by
  cases b with
  | false => rfl
  | true =>
    cases d with
    | false => rfl
    | true =>
      have hne := hne rfl rfl
      refine sorted_ext iLt3 (stoR_sorted _ _ (stoR_sorted _ _ h)) (stoR_sorted _ _ (stoR_sorted _ _ h)) (fun i => ?_)
      show rLook i (rPut t (rPut r l)) = rLook i (rPut r (rPut t l))
      have e1 : rLook i (rPut t (rPut r l)) = if t.client = i then some t else rLook i (rPut r l) := look_put iLt3 _ (put_sorted iLt3 _ h) i
      have e2 : rLook i (rPut r l) = if r.client = i then some r else rLook i l := look_put iLt3 _ h i
      have e3 : rLook i (rPut r (rPut t l)) = if r.client = i then some r else rLook i (rPut t l) := look_put iLt3 _ (put_sorted iLt3 _ h) i
      have e4 : rLook i (rPut t l) = if t.client = i then some t else rLook i l := look_put iLt3 _ h i
      rw [e1, e2, e3, e4]
      by_cases h1 : t.client = i
      · have h2 : ¬ r.client = i := fun e => hne (e.trans h1.symm)
        rw [if_pos h1, if_neg h2, if_pos h1]
      · rw [if_neg h1, if_neg h1]
def exeG (q : ReqX) (ro : Option RepX) (po : Option PairX) : RepX × Eff × Bool :=
  if reqGood q = true then
    match ro with
    | some r => if r.num = q.num then (r, none, false) else if q.num < r.num then (⟨q.client, q.num, 8, []⟩, none, false) else (⟨q.client, q.num, (opG q po).2.1, (opG q po).2.2⟩, (opG q po).1, true)
    | none => (⟨q.client, q.num, (opG q po).2.1, (opG q po).2.2⟩, (opG q po).1, true)
  else (⟨q.client, q.num, 1, []⟩, none, false)
set_option maxRecDepth 100000 in
theorem exeG_client {q : ReqX} {ro : Option RepX} {po : Option PairX} (h : (exeG q ro po).2.2 = true) : (exeG q ro po).1.client = q.client := by
  unfold exeG at h ⊢
  split
  · rename_i hg
    rw [if_pos hg] at h
    cases ro with
    | none => rfl
    | some r =>
      simp only at h ⊢
      split
      · rename_i h1
        rw [if_pos h1] at h
        cases h
      · split
        · rfl
        · rfl
  · rfl
set_option maxRecDepth 100000 in
theorem exeF_exeG {s : StX} {q : ReqX} (h5 : q.kind ≤ 4) (hl : s.ps.length < 256) : exeF s q = ({ s with ps := appE (exeG q (rLook q.client s.rs) (pLook q.key s.ps)).2.1 q.key s.ps, rs := stoR (exeG q (rLook q.client s.rs) (pLook q.key s.ps)).2.2 (exeG q (rLook q.client s.rs) (pLook q.key s.ps)).1 s.rs }, (exeG q (rLook q.client s.rs) (pLook q.key s.ps)).1) := by
  unfold exeF exeG
  rw [opF_opG h5 hl]
  by_cases hg : reqGood q = true
  · rw [if_pos hg, if_pos hg]
    cases rLook q.client s.rs with
    | none => rfl
    | some r =>
      simp only
      by_cases h1 : r.num = q.num
      · rw [if_pos h1, if_pos h1]; rfl
      · rw [if_neg h1, if_neg h1]
        by_cases h2 : q.num < r.num
        · rw [if_pos h2, if_pos h2]; rfl
        · rw [if_neg h2, if_neg h2]; rfl
  · rw [if_neg hg, if_neg hg]; rfl

set_option maxRecDepth 100000 in
/-- Two requests, in one order. -/
theorem two_exe {s : StX} {a b : ReqX} (hs : s.Ris) (ha : a.kind ≤ 4) (hb : b.kind ≤ 4) (hl : s.ps.length ≤ 250) (hc : a.client ≠ b.client) (hk : a.key ≠ b.key) {s' : StX} {rl : List RepX} (h : AllIs s [a, b] s' rl) :
    rl = [(exeG a (rLook a.client s.rs) (pLook a.key s.ps)).1, (exeG b (rLook b.client s.rs) (pLook b.key s.ps)).1]
    ∧ s' = { s with ps := appE (exeG b (rLook b.client s.rs) (pLook b.key s.ps)).2.1 b.key (appE (exeG a (rLook a.client s.rs) (pLook a.key s.ps)).2.1 a.key s.ps), rs := stoR (exeG b (rLook b.client s.rs) (pLook b.key s.ps)).2.2 (exeG b (rLook b.client s.rs) (pLook b.key s.ps)).1 (stoR (exeG a (rLook a.client s.rs) (pLook a.key s.ps)).2.2 (exeG a (rLook a.client s.rs) (pLook a.key s.ps)).1 s.rs) } := by
  obtain ⟨s1, r1, t1, h1, rfl, s2, r2, t2, h2, rfl, rfl, rfl⟩ := h
  have e1 := h1.det (fun _ => by omega)
  have e2 := h2.det (fun _ => by omega)
  rw [exeF_exeG ha (by omega)] at e1
  injection e1 with e3 e4
  have hl1 : s1.ps.length < 256 := by
    rw [e3]
    exact Nat.lt_of_le_of_lt (appE_len _ _ _) (by omega)
  rw [exeF_exeG hb hl1] at e2
  have hr : rLook b.client s1.rs = rLook b.client s.rs := by
    rw [e3]
    exact stoR_look _ _ hs.rs (fun h => by rw [exeG_client h]; exact hc)
  have hp : pLook b.key s1.ps = pLook b.key s.ps := by
    rw [e3]
    exact appE_look _ _ _ hs.ps hk
  rw [hr, hp] at e2
  injection e2 with e5 e6
  rw [e5, e6, e4]
  refine ⟨rfl, ?_⟩
  rw [e3]
set_option maxRecDepth 100000 in
theorem two_comm {s : StX} {a b : ReqX} (hs : s.Ris) (ha : a.kind ≤ 4) (hb : b.kind ≤ 4) (hl : s.ps.length ≤ 250) (hc : a.client ≠ b.client) (hk : a.key ≠ b.key) {x y : StX} {l m : List RepX} (h : AllIs s [a, b] x l) (h' : AllIs s [b, a] y m) :
    x = y ∧ ∃ u v, l = [u, v] ∧ m = [v, u] := by
  obtain ⟨e1, e2⟩ := two_exe hs ha hb hl hc hk h
  obtain ⟨e3, e4⟩ := two_exe hs hb ha hl (fun e => hc e.symm) (fun e => hk e.symm) h'
  refine ⟨?_, _, _, e1, e3⟩
  rw [e2, e4, appE_comm _ _ hs.ps hk, stoR_comm _ _ hs.rs (fun h1 h2 => by rw [exeG_client h1, exeG_client h2]; exact hc)]
end Go.Proofs.YtbgbidgggjkmmaaGreatDoor

namespace Go.Proofs.YtbgbidgggjkmmaaGreatDoor
open Go.RowKit Go.Sort

/-! ### Two requests, asked at once -/
noncomputable def qq2 (a b : ReqX) : Array Value := (QK.flat [a, b]).toArray
set_option maxRecDepth 100000 in
theorem bs_qq (a b : ReqX) (w : World) : (bsT 57 2 #[(0, .agg a.cells.toArray), (1, .agg b.cells.toArray)]).run Tryz.prog w = .ok (.slice (some ⟨w.heap.size, 0, none⟩) 2 2) (w.alloc (.cells (qq2 a b) 56)) :=
  QK.build [a, b] [.agg a.cells.toArray, .agg b.cells.toArray] (by simp) (by show 2 * 42 ≤ _; omega) rfl w
set_option maxRecDepth 100000 in
theorem see_qq (a b : ReqX) (w : World) : QK.See (w.alloc (.cells (qq2 a b) 56)) (w.alloc (.cells (qq2 a b) 56)).heap.size (some ⟨w.heap.size, 0, none⟩) [a, b] := by
  have hX : Box (w.alloc (.cells (qq2 a b) 56)) w.heap.size QK.e (qq2 a b) := Box.made _ _ _
  have h := Sees.of_box hX hX.lt
  unfold qq2 at h ⊢
  rw [List.toList_toArray] at h
  exact h
set_option maxRecDepth 100000 in
theorem below_qq (a b : ReqX) (w : World) : Below w.heap.size w (w.alloc (.cells (qq2 a b) 56)) := (Below.refl _ _).alloc (Nat.le_refl _) _
set_option maxRecDepth 100000 in
theorem sk_see {w : World} {B : Nat} {A : Option Addr} {xs : List ByteArray} (h : SK.See w B A xs) : Sees w B A (xs.map Value.string) := by
  have h' : Sees w B A (SK.flat xs) := h
  rwa [SK_flat] at h'
def TwoIs (s : StM) (a b : ReqX) (w : World) (e : Ending) (w' : World) : Prop :=
  ∃ (s' : StM) (u v : RepM) (A : Option Addr) (c : Nat), e = .returned (.tuple #[.agg s'.cells, .slice A 2 c]) ∧ AllIs s.pl [a, b] s'.pl [u.x, v.x] ∧ s'.pl.Fits 100 ∧ s'.See w' w'.heap.size ∧ RK.See w' w'.heap.size A [u, v] ∧ SK.See w' w'.heap.size u.A u.x.vals ∧ SK.See w' w'.heap.size v.A v.x.vals ∧ u.x.vals.length ≤ 1000 ∧ v.x.vals.length ≤ 1000 ∧ Below w.heap.size w w'
set_option maxRecDepth 100000 in
theorem exe_vals {s s' : StX} {q : ReqX} {a : RepX} {n : Nat} (h : ExeIs s q s' a) (hs : s.Fits n) : a.vals.length ≤ 300 + (n + 1) := by
  unfold ExeIs at h
  have hfr : FreshIs s q s' a → a.vals.length ≤ 300 + (n + 1) := fun hf => by
    obtain ⟨s1, c, vs, ho, rfl, rfl⟩ := hf
    exact (ho.fits hs).2
  split at h
  · cases hl : rLook q.client s.rs with
    | none => rw [hl] at h; exact hfr h
    | some r =>
      rw [hl] at h
      simp only at h
      split at h
      · rw [h.2]
        have := hs.vals r (look_mem hl)
        omega
      · split at h
        · rw [h.2]; simp
        · exact hfr h
  · rw [h.2]; simp
set_option maxRecDepth 100000 in
theorem all_two10 (s : StM) (hsm : Small0 s) (hris : s.pl.Ris) (a b : ReqX) (ha : a.kind ≤ 4) (hb : b.kind ≤ 4) (g c : Nat) (w : World) (hS : s.See w w.heap.size) (hQ : QK.See w w.heap.size (some ⟨g, 0, none⟩) [a, b]) :
    Calls Tryz.prog 17 #[.agg s.cells, .slice (some ⟨g, 0, none⟩) 2 c] w (TwoIs s a b w) := by
  refine (sall_any s (hsm.fits.more (by decide)) hris [a, b] (some ⟨g, 0, none⟩) c (by simp) (fun _ => True) w (fun _ _ => trivial) (fun x hx => hop_five x (fun _ => ?_)) hS hQ).mono ?_
  · simp only [List.mem_cons, List.not_mem_nil, or_false] at hx
    rcases hx with rfl | rfl <;> omega
  · rintro e w' ⟨s', rl, A', c', rfl, hl, hal, ho, hr, hv, hb⟩
    obtain ⟨u, v, rfl⟩ : ∃ u v, rl = [u, v] := by
      match rl, hl with
      | [u, v], _ => exact ⟨u, v, rfl⟩
    have hf := hal.fits hsm.fits
    have hal0 : AllIs s.pl [a, b] s'.pl [u.x, v.x] := hal
    obtain ⟨s1, r1, t1, h1, e1, s2, r2, t2, h2, e2, e3, e4⟩ := hal
    have hf1 := h1.fits hsm.fits
    injection e1 with e5 e6
    have l1 := exe_vals h1 hsm.fits
    have l2 := exe_vals h2 hf1
    have e9 : [v.x] = r2 :: t2 := e6.trans e2
    injection e9 with e7 e8
    refine ⟨s', u, v, A', c', rfl, hal0, hf.more (by simp), ho.see, hr.see, (hv u (by simp)).see, (hv v (by simp)).see, by rw [e5]; omega, by rw [e7]; omega, hb⟩

attribute [local go_sem ↓] ldRp_def stRp_def ldSt_def stSt_def ldReq_def stReq_def bdReq_def bdOp10_def ldPr_def stPr_def bsT_def

end Go.Proofs.YtbgbidgggjkmmaaGreatDoor
