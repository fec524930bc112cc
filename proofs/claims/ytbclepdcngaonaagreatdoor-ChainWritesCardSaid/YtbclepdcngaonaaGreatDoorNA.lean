/-
  The registry on plain lists: lists that stand by rising keys, what is looked up, put and taken out; what a request makes of a state.
  Rows of elements of any kind: a kind's facts, rows that are owned: literals, appends, stores, cuts, copies.
-/
import Derived.Test.YtbclepdcngaonaaGreatDoorRA
import Derived.Test.YtbclepdcngaonaaGreatDoorCA
import Derived.Great.BuildSlice
import Derived.Lib.SliceRun
import Derived.Lib.AppendZerosOnto
import Derived.Lib.Overlaps
import Derived.Deep.Onto
namespace Go.Proofs.YtbclepdcngaonaaGreatDoor
open Go.RowKit

/-! ### Lists that stand by rising keys -/
structure Lt3 {K : Type} (lt : K → K → Bool) : Prop where
  irr : ∀ a, lt a a = false
  tr : ∀ {a b c}, lt a b = true → lt b c = true → lt a c = true
  tot : ∀ a b, lt a b = true ∨ a = b ∨ lt b a = true
section
variable {α K : Type} {lt : K → K → Bool} {key : α → K}
def SortedK (lt : K → K → Bool) (key : α → K) (l : List α) : Prop := l.Pairwise (fun x y => lt (key x) (key y) = true)
set_option maxRecDepth 100000 in
theorem SortedK.tail {x : α} {l : List α} (h : SortedK lt key (x :: l)) : SortedK lt key l := (List.pairwise_cons.1 h).2
set_option maxRecDepth 100000 in
theorem Lt3.ne (o : Lt3 lt) {a b : K} (h : lt a b = true) : a ≠ b := by
  rintro rfl
  rw [o.irr] at h
  cases h
/-! ### A place that a search tells -/
structure Fnd (lt : K → K → Bool) (key : α → K) (l : List α) (k : K) (i : Nat) (b : Bool) : Prop where
  le : i ≤ l.length
  before : ∀ (h : 0 < i), lt (key (l[i - 1]'(by omega))) k = true
  after : ∀ (h : i < l.length), lt (key (l[i]'h)) k = false
  hit : b = true ↔ ∃ h : i < l.length, key (l[i]'h) = k
set_option maxRecDepth 100000 in
theorem Fnd.at_ {l : List α} {k : K} {i : Nat} (h : Fnd lt key l k i true) : ∃ hi : i < l.length, key (l[i]'hi) = k := h.hit.1 rfl
set_option maxRecDepth 100000 in
theorem sorted_at {l : List α} (hs : SortedK lt key l) {i j : Nat} (hj : j < l.length) (hij : i < j) : lt (key (l[i]'(by omega))) (key (l[j]'hj)) = true := List.pairwise_iff_getElem.1 hs i j (by omega) hj hij
set_option maxRecDepth 100000 in
theorem Fnd.low {l : List α} {k : K} {i : Nat} {b : Bool} (o : Lt3 lt) (hs : SortedK lt key l) (h : Fnd lt key l k i b) : ∀ x ∈ l.take i, lt (key x) k = true := by
  intro x hx
  obtain ⟨j, hj, rfl⟩ := List.mem_iff_getElem.1 hx
  rw [List.length_take] at hj
  rw [List.getElem_take]
  have hle := h.le
  have hb := h.before (by omega)
  by_cases e : j = i - 1
  · subst e
    exact hb
  · exact o.tr (sorted_at hs (by omega) (by omega)) hb
set_option maxRecDepth 100000 in
theorem Fnd.high {l : List α} {k : K} {i : Nat} {b : Bool} (o : Lt3 lt) (hs : SortedK lt key l) (h : Fnd lt key l k i b) : ∀ x ∈ l.drop i, lt (key x) k = false := by
  intro x hx
  obtain ⟨j, hj, rfl⟩ := List.mem_iff_getElem.1 hx
  rw [List.length_drop] at hj
  rw [List.getElem_drop]
  have ha := h.after (by omega)
  rcases Nat.eq_zero_or_pos j with rfl | hp
  · exact ha
  · rw [← Bool.not_eq_true]
    intro h2
    have h3 := o.tr (sorted_at hs (i := i) (j := i + j) (by omega) (by omega)) h2
    rw [ha] at h3
    cases h3
variable [DecidableEq K]
def lookK (key : α → K) (k : K) (l : List α) : Option α := l.find? (fun x => decide (key x = k))
def putK (lt : K → K → Bool) (key : α → K) (x : α) : List α → List α
  | [] => [x]
  | y :: r => if lt (key y) (key x) = true then y :: putK lt key x r else if key y = key x then x :: r else x :: y :: r
def delK (key : α → K) (k : K) (l : List α) : List α := l.filter (fun x => decide (key x ≠ k))

set_option maxRecDepth 100000 in
theorem put_mem {x y : α} {l : List α} (h : y ∈ putK lt key x l) : y = x ∨ y ∈ l := by
  induction l with
  | nil => exact .inl (by simpa [putK] using h)
  | cons z r ih =>
    unfold putK at h
    split at h
    · rcases List.mem_cons.1 h with rfl | h
      · exact .inr (by simp)
      · exact (ih h).imp id (fun h => List.mem_cons_of_mem _ h)
    · split at h
      · rcases List.mem_cons.1 h with rfl | h
        · exact .inl rfl
        · exact .inr (List.mem_cons_of_mem _ h)
      · rcases List.mem_cons.1 h with rfl | h
        · exact .inl rfl
        · exact .inr h
set_option maxRecDepth 100000 in
theorem put_len (x : α) (l : List α) : (putK lt key x l).length ≤ l.length + 1 := by
  induction l with
  | nil => simp [putK]
  | cons z r ih =>
    unfold putK
    split
    · simpa using ih
    · split <;> simp
set_option maxRecDepth 100000 in
theorem del_len (k : K) (l : List α) : (delK key k l).length ≤ l.length := List.length_filter_le _ _
end

/-! ### Texts and numbers, as keys -/
def sLt (a b : ByteArray) : Bool := Op.bytesLess a.toList b.toList
def iLt (a b : Int) : Bool := decide (a < b)
/-! ### States -/
structure PairX where
  key : ByteArray
  val : ByteArray
structure RepX where
  client : Int
  num : Int
  code : Int
  vals : List ByteArray
structure StX where
  ps : List PairX
  rs : List RepX
  ep : Int
  ms : List MemX
set_option maxRecDepth 100000 in
theorem PairX.same {x y : PairX} (h1 : x.key = y.key) (h2 : x.val = y.val) : x = y := by
  cases x; cases y
  simp only at h1 h2
  rw [h1, h2]
instance : DecidableEq PairX := fun x y => decidable_of_iff (x.key = y.key ∧ x.val = y.val) ⟨fun h => PairX.same h.1 h.2, fun h => by rw [h]; exact ⟨rfl, rfl⟩⟩
set_option maxRecDepth 100000 in
theorem RepX.same {x y : RepX} (h1 : x.client = y.client) (h2 : x.num = y.num) (h3 : x.code = y.code) (h4 : x.vals = y.vals) : x = y := by
  cases x; cases y
  simp only at h1 h2 h3 h4
  rw [h1, h2, h3, h4]
instance : DecidableEq RepX := fun x y => decidable_of_iff (x.client = y.client ∧ x.num = y.num ∧ x.code = y.code ∧ x.vals = y.vals) ⟨fun h => RepX.same h.1 h.2.1 h.2.2.1 h.2.2.2, fun h => by rw [h]; exact ⟨rfl, rfl, rfl, rfl⟩⟩
abbrev RS (l : List RepX) : Prop := SortedK iLt RepX.client l
abbrev pLook (k : ByteArray) (l : List PairX) : Option PairX := lookK PairX.key k l
abbrev rLook (c : Int) (l : List RepX) : Option RepX := lookK RepX.client c l
abbrev pPut (x : PairX) (l : List PairX) : List PairX := putK sLt PairX.key x l
abbrev rPut (x : RepX) (l : List RepX) : List RepX := putK iLt RepX.client x l
abbrev pDel (k : ByteArray) (l : List PairX) : List PairX := delK PairX.key k l
/-- Its numbers are numbers of 64 bits. -/
def StX.Ok (s : StX) : Prop := R64 s.ep ∧ ∀ m ∈ s.ms, R64 m.id
def MsOk (s s' : StX) : Prop := s'.ms.length ≤ 20 ∧ (s.Ok → s'.Ok)
/-- No more than so many parts. -/
structure StX.Fits (n : Nat) (s : StX) : Prop where
  ps : s.ps.length ≤ 300 + n
  rs : s.rs.length ≤ 300 + n
  vals : ∀ r ∈ s.rs, r.vals.length ≤ 300 + n
  ms : s.ms.length ≤ 20
  ok : s.Ok
def beginsB (p s : ByteArray) : Bool := decide (p.size ≤ s.size) && ((s.extract 0 p.size).toList == p.toList)
def begunL (p : ByteArray) (l : List PairX) : List ByteArray := (l.filter (fun x => beginsB p x.key)).map PairX.key

/-- What an operation makes, but for those that tell or change the configuration. -/
def opF (s : StX) (q : ReqX) : StX × Int × List ByteArray :=
  if q.kind = 2 then
    (if (pLook q.key s.ps).isNone = true ∧ 256 ≤ s.ps.length then (s, 11, []) else ({ s with ps := pPut ⟨q.key, q.val⟩ s.ps }, 0, []))
  else if q.kind = 5 then (s, 0, begunL q.key s.ps)
  else match pLook q.key s.ps with
    | none => (s, 7, [])
    | some p => if q.kind = 1 then (s, 0, [p.val]) else if q.kind = 3 then ({ s with ps := pDel q.key s.ps }, 0, []) else
        (if p.val = q.old then ({ s with ps := pPut ⟨q.key, q.val⟩ s.ps }, 0, []) else (s, 9, [p.val]))
def OpIs (s : StX) (q : ReqX) (s' : StX) (c : Int) (vs : List ByteArray) : Prop :=
  if q.kind = 6 then s' = s ∧ c = 0 ∧ vs.length = s.ms.length + 1
  else if q.kind = 7 then s'.ps = s.ps ∧ s'.rs = s.rs ∧ vs = [] ∧ c ≠ 8 ∧ MsOk s s'
  else s' = (opF s q).1 ∧ c = (opF s q).2.1 ∧ vs = (opF s q).2.2
def FreshIs (s : StX) (q : ReqX) (s' : StX) (a : RepX) : Prop := ∃ s1 c vs, OpIs s q s1 c vs ∧ a = ⟨q.client, q.num, c, vs⟩ ∧ s' = { s1 with rs := rPut a s1.rs }
def ExeIs (s : StX) (q : ReqX) (s' : StX) (a : RepX) : Prop :=
  if reqGood q = true then
    match rLook q.client s.rs with
    | some r => if r.num = q.num then s' = s ∧ a = r else if q.num < r.num then s' = s ∧ a = ⟨q.client, q.num, 8, []⟩ else FreshIs s q s' a
    | none => FreshIs s q s' a
  else s' = s ∧ a = ⟨q.client, q.num, 1, []⟩

set_option maxRecDepth 100000 in
theorem OpIs.rs {s s' : StX} {q : ReqX} {c : Int} {vs : List ByteArray} (h : OpIs s q s' c vs) : s'.rs = s.rs := by
  unfold OpIs at h
  split at h
  · rw [h.1]
  · split at h
    · exact h.2.1
    · rw [h.1]
      unfold opF
      split
      · split <;> rfl
      · split
        · rfl
        · split
          · rfl
          · split
            · rfl
            · split
              · rfl
              · split <;> rfl
set_option maxRecDepth 100000 in
theorem opF_ps (s : StX) (q : ReqX) : (opF s q).1.ps = s.ps ∨ (opF s q).1.ps = pPut ⟨q.key, q.val⟩ s.ps ∨ (opF s q).1.ps = pDel q.key s.ps := by
  unfold opF
  split
  · split
    · exact .inl rfl
    · exact .inr (.inl rfl)
  · split
    · exact .inl rfl
    · split
      · exact .inl rfl
      · split
        · exact .inl rfl
        · split
          · exact .inr (.inr rfl)
          · split
            · exact .inr (.inl rfl)
            · exact .inl rfl
set_option maxRecDepth 100000 in
theorem opF_ms (s : StX) (q : ReqX) : (opF s q).1.ms = s.ms := by
  unfold opF
  split
  · split <;> rfl
  · split
    · rfl
    · split
      · rfl
      · split
        · rfl
        · split
          · rfl
          · split <;> rfl
set_option maxRecDepth 100000 in
theorem opF_ep (s : StX) (q : ReqX) : (opF s q).1.ep = s.ep := by
  unfold opF
  split
  · split <;> rfl
  · split
    · rfl
    · split
      · rfl
      · split
        · rfl
        · split
          · rfl
          · split <;> rfl
set_option maxRecDepth 100000 in
theorem opF_ok {s : StX} (h : s.Ok) (q : ReqX) : (opF s q).1.Ok := by
  unfold StX.Ok
  rw [opF_ms, opF_ep]
  exact h
set_option maxRecDepth 100000 in
theorem begun_len (p : ByteArray) (l : List PairX) : (begunL p l).length ≤ l.length := by
  unfold begunL
  rw [List.length_map]
  exact List.length_filter_le _ _
set_option maxRecDepth 100000 in
theorem opF_vals (s : StX) (q : ReqX) : (opF s q).2.2.length ≤ s.ps.length + 1 := by
  have hb := begun_len q.key s.ps
  unfold opF
  split
  · split <;> simp
  · split
    · show (begunL q.key s.ps).length ≤ _
      omega
    · split
      · simp
      · split
        · simp
        · split
          · simp
          · split <;> simp
set_option maxRecDepth 100000 in
theorem opF_code (s : StX) (q : ReqX) : (opF s q).2.1 ≠ 8 := by
  unfold opF
  split
  · split <;> simp
  · split
    · simp
    · split
      · simp
      · split
        · simp
        · split
          · simp
          · split <;> simp
set_option maxRecDepth 100000 in
theorem OpIs.ps {s s' : StX} {q : ReqX} {c : Int} {vs : List ByteArray} (h : OpIs s q s' c vs) : s'.ps = s.ps ∨ s'.ps = pPut ⟨q.key, q.val⟩ s.ps ∨ s'.ps = pDel q.key s.ps := by
  unfold OpIs at h
  split at h
  · rw [h.1]
    exact .inl rfl
  · split at h
    · exact .inl h.1
    · rw [h.1]
      exact opF_ps s q
set_option maxRecDepth 100000 in
theorem OpIs.code {s s' : StX} {q : ReqX} {c : Int} {vs : List ByteArray} (h : OpIs s q s' c vs) : c ≠ 8 := by
  unfold OpIs at h
  split at h
  · rw [h.2.1]
    decide
  · split at h
    · exact h.2.2.2.1
    · rw [h.2.1]
      exact opF_code s q
set_option maxRecDepth 100000 in
theorem OpIs.fits {s s' : StX} {q : ReqX} {c : Int} {vs : List ByteArray} {n : Nat} (h : OpIs s q s' c vs) (hs : s.Fits n) : s'.Fits (n + 1) ∧ vs.length ≤ 300 + (n + 1) := by
  have hp := hs.ps
  have hr := hs.rs
  have hm := hs.ms
  refine ⟨⟨?_, by rw [h.rs]; omega, fun r hr => by rw [h.rs] at hr; have := hs.vals r hr; omega, ?_, ?_⟩, ?_⟩
  · rcases h.ps with e | e | e <;> rw [e]
    · omega
    · have := put_len (lt := sLt) (key := PairX.key) ⟨q.key, q.val⟩ s.ps
      show (putK _ _ _ _).length ≤ _
      omega
    · have := del_len (key := PairX.key) q.key s.ps
      show (delK _ _ _).length ≤ _
      omega
  · unfold OpIs at h
    split at h
    · rw [h.1]; exact hm
    · split at h
      · exact h.2.2.2.2.1
      · rw [h.1, opF_ms]; exact hm
  · unfold OpIs at h
    split at h
    · rw [h.1]; exact hs.ok
    · split at h
      · exact h.2.2.2.2.2 hs.ok
      · rw [h.1]; exact opF_ok hs.ok q
  · unfold OpIs at h
    split at h
    · rw [h.2.2]; omega
    · split at h
      · rw [h.2.2.1]; simp
      · rw [h.2.2]
        have := opF_vals s q
        omega
set_option maxRecDepth 100000 in
theorem StX.Fits.more {s : StX} {n m : Nat} (h : s.Fits n) (hm : n ≤ m) : s.Fits m := ⟨by have := h.ps; omega, by have := h.rs; omega, fun r hr => by have := h.vals r hr; omega, h.ms, h.ok⟩
set_option maxRecDepth 100000 in
theorem ExeIs.fits {s s' : StX} {q : ReqX} {a : RepX} {n : Nat} (h : ExeIs s q s' a) (hs : s.Fits n) : s'.Fits (n + 1) := by
  have fr : FreshIs s q s' a → s'.Fits (n + 1) := by
    rintro ⟨s1, c, vs, ho, ha, rfl⟩
    obtain ⟨h1, h2⟩ := ho.fits hs
    refine ⟨h1.ps, ?_, fun r hr => ?_, h1.ms, h1.ok⟩
    · have := put_len (lt := iLt) (key := RepX.client) a s1.rs
      have h3 := hs.rs
      rw [ho.rs] at this
      show (putK _ _ _ s1.rs).length ≤ _
      rw [ho.rs]
      omega
    · rcases put_mem hr with rfl | hr
      · rw [ha]; exact h2
      · exact h1.vals r hr
  unfold ExeIs at h
  split at h
  · split at h
    · split at h
      · rw [h.1]; exact hs.more (by omega)
      · split at h
        · rw [h.1]; exact hs.more (by omega)
        · exact fr h
    · exact fr h
  · rw [h.1]; exact hs.more (by omega)

end Go.Proofs.YtbclepdcngaonaaGreatDoor

namespace Go.Proofs.YtbclepdcngaonaaGreatDoor
open Go.RowKit

noncomputable def cpAll (ts : Array TypeId) (ty : TypeId) (vs : Array Value) : Sem Value := Builtin.copy_ ts ty vs
set_option maxRecDepth 100000 in
theorem cpAll_def (ts : Array TypeId) (ty : TypeId) (vs : Array Value) : Builtin.copy_ ts ty vs = cpAll ts ty vs := rfl
noncomputable def clAll (ts : Array TypeId) (ty : TypeId) (vs : Array Value) : Sem Value := Builtin.clear_ ts ty vs
set_option maxRecDepth 100000 in
theorem clAll_def (ts : Array TypeId) (ty : TypeId) (vs : Array Value) : Builtin.clear_ ts ty vs = clAll ts ty vs := rfl

/-- A kind of elements: their type, their slice's, how many cells and bytes, the zero value, and the cells of each. -/
structure EK (α : Type) where
  e : TypeId
  sl : TypeId
  k : Nat
  bys : Nat
  z : Value
  enc : α → List Value
  hk : 0 < k
  und : Tryz.prog.underlying sl = some (.slice e)
  els : Tryz.prog.elem sl = e
  info : (Tryz.prog.info? e).map (fun i => (i.zero, i.size, i.bytes)) = some (some z, k, bys)
  hzs : z.cells.size = k
  zone : ∀ v ∈ z.cells.toList, v.oneCell' = true
  len : ∀ x, (enc x).length = k
  one : ∀ x, ∀ v ∈ enc x, v.oneCell' = true
  hby : bys ≤ 200
section
variable {α : Type} (K : EK α)
abbrev EK.flat (xs : List α) : List Value := xs.flatMap K.enc
set_option maxRecDepth 100000 in
theorem EK.flat_len (xs : List α) : (K.flat xs).length = xs.length * K.k := cf_len K.enc K.k K.len xs
set_option maxRecDepth 100000 in
theorem EK.flat_one (xs : List α) : ∀ v ∈ K.flat xs, v.oneCell' = true := by
  intro v hv
  obtain ⟨x, _, hx⟩ := List.mem_flatMap.1 hv
  exact K.one x v hx
set_option maxRecDepth 100000 in
theorem EK.flat_app (xs ys : List α) : K.flat (xs ++ ys) = K.flat xs ++ K.flat ys := List.flatMap_append
set_option maxRecDepth 100000 in
theorem EK.flat_one' (x : α) : K.flat [x] = K.enc x := by simp
abbrev EK.Own (w : World) (base : Nat) (v : Value) (xs : List α) : Prop := w.ownsRow base K.e K.k v xs.length (K.flat xs)
abbrev EK.See (w : World) (B : Nat) (A : Option Addr) (xs : List α) : Prop := Sees w B A (K.flat xs)
set_option maxRecDepth 100000 in
theorem EK.sz (w : World) : (sizeOf K.e).run Tryz.prog w = .ok K.k w := by
  obtain ⟨i0, hi0, _, hz1, _⟩ := info_parts K.info
  rw [run_sizeOf w hi0]
  unfold Program.cellsOf
  rw [hi0]
  show Result.ok i0.size w = _
  rw [hz1]
set_option maxRecDepth 100000 in
theorem EK.size : (Tryz.prog.info? K.e).map (·.size) = some K.k := by
  obtain ⟨i0, hi0, _, hz1, _⟩ := info_parts K.info
  rw [hi0, Option.map_some, hz1]

/-! ### What is seen -/
variable {K} {w w' : World}
set_option maxRecDepth 100000 in
theorem EK.See.range {B : Nat} {A : Option Addr} {xs : List α} (h : K.See w B A xs) {i : Nat} (hi : i < xs.length) : ∃ g o, A = some ⟨g, o, none⟩ ∧ g < B ∧ ∀ j (hj : j < xs.length), w.rangeAt g (o + j * K.k) (K.enc (xs[j]'hj)) := by
  rcases h with hn | ⟨g, o, rfl, hg, hc⟩
  · have hl := K.flat_len xs
    rw [hn, List.length_nil] at hl
    have := Nat.mul_le_mul_right K.k (show 1 ≤ xs.length by omega)
    have hk := K.hk
    omega
  · refine ⟨g, o, rfl, hg, fun j hj => ?_⟩
    rw [← cf_at K.enc K.k K.len xs j hj]
    exact cf_range hc _ _
set_option maxRecDepth 100000 in
theorem EK.See.nil {B : Nat} {xs : List α} (h : K.See w B none xs) : xs = [] := by
  rcases h with h | ⟨g, o, h, _⟩
  · have hl := K.flat_len xs
    rw [h, List.length_nil] at hl
    have hk := K.hk
    rcases Nat.eq_zero_or_pos xs.length with h0 | h0
    · exact List.eq_nil_of_length_eq_zero h0
    · have := Nat.mul_pos h0 hk
      omega
  · cases h
set_option maxRecDepth 100000 in
theorem EK.See.add {B : Nat} {ad : Addr} {xs : List α} (h : K.See w B (some ad) xs) : ∀ j u, (K.flat xs)[j]? = some u → w.cell? (ad.add j) = some u := by
  intro j u hu
  rcases h with hn | ⟨g, o, e, _, hc⟩
  · rw [hn] at hu
    cases hu
  · injection e with e
    subst e
    rw [plain_add]
    exact hc j u hu
set_option maxRecDepth 100000 in
theorem EK.See.far {A : Option Addr} {xs : List α} (h : K.See w w.heap.size A xs) (hb : Below w.heap.size w w') : K.See w' w'.heap.size A xs := (Sees.below h hb).more hb.size

/-! ### What is owned -/
set_option maxRecDepth 100000 in
theorem EK.Own.slice {base : Nat} {v : Value} {xs : List α} (h : K.Own w base v xs) : ∃ A c, v = .slice A xs.length c := own_slice_s h
set_option maxRecDepth 100000 in
theorem EK.Own.see {base n c : Nat} {A : Option Addr} {xs : List α} (h : K.Own w base (.slice A n c) xs) : K.See w w.heap.size A xs := by
  obtain ⟨A', c', e⟩ := h.slice
  injection e with e1 e2 e3
  subst e2
  exact sees_own h
set_option maxRecDepth 100000 in
theorem EK.Own.base {B B' : Nat} {v : Value} {xs : List α} (h : K.Own w B v xs) (hB : B' ≤ B) : K.Own w B' v xs := by
  refine ⟨h.1, ?_⟩
  rcases h.2 with h1 | ⟨g, cap, cur, h1, h2, h3⟩
  · exact .inl h1
  · exact .inr ⟨g, cap, cur, h1, Nat.le_trans hB h2, h3⟩
set_option maxRecDepth 100000 in
theorem EK.Own.keep {B : Nat} {v : Value} {xs : List α} (h : K.Own w B v xs) (hb : Below w.heap.size w w') : K.Own w' B v xs :=
  World.ownsRow.kept h (only_below hb none) (by cases v.ownBlock <;> simp)
set_option maxRecDepth 100000 in
theorem EK.Own.bounds {base n c : Nat} {A : Option Addr} {xs : List α} (h : K.Own w base (.slice A n c) xs) : n = xs.length ∧ xs.length ≤ c ∧ c ≤ maxLen ∧ (0 < xs.length → ∃ g, A = some ⟨g, 0, none⟩ ∧ base ≤ g ∧ g < w.heap.size) := by
  rcases h.2 with ⟨h1, h2⟩ | ⟨g, cap, cur, h1, hbase, hb, hcap, hmax, hsz, htk⟩
  · injection h1 with e1 e2 e3
    exact ⟨by omega, by omega, by rw [e3]; simp [maxLen], fun hp => by omega⟩
  · injection h1 with e1 e2 e3
    subst e3
    exact ⟨e2, hcap, hmax, fun _ => ⟨g, e1, hbase, (Array.getElem?_eq_some_iff.1 hb).1⟩⟩
set_option maxRecDepth 100000 in
theorem own_box {base n s g : Nat} {e t : TypeId} {v : Value} {xs : List Value} {cs : Array Value} (h : w.ownsRow base e s v n xs) (hb : Box w g t cs) (hne : e ≠ t) (hg : w.grownBy w' (some g)) : w'.ownsRow base e s v n xs := World.ownsRow.kept h hg (.inr (Box.own_ne hb h hne))
set_option maxRecDepth 100000 in
theorem box_own {base n s g : Nat} {e t : TypeId} {v : Value} {xs : List Value} {cs : Array Value} (hb : Box w g t cs) (h : w.ownsRow base e s v n xs) (hne : e ≠ t) (hg : w.grownBy w' v.ownBlock) : Box w' g t cs := hb.grown hg (fun e => Box.own_ne hb h hne e.symm)

set_option maxRecDepth 100000 in
theorem EK.own_nil (K : EK α) (w : World) (base : Nat) : K.Own w base (.slice none 0 0) [] := ⟨by simp, .inl ⟨rfl, rfl⟩⟩
set_option maxRecDepth 100000 in
theorem EK.own_lit (K : EK α) (w : World) {base : Nat} (hb : base ≤ w.heap.size) (r : List α) (h : r.length ≤ maxLen) : K.Own (w.alloc (.cells (K.flat r).toArray K.e)) base (.slice (some ⟨w.heap.size, 0, none⟩) r.length r.length) r := by
  have := World.ownsRow_lit (base := base) (size := K.k) w (e := K.e) (K.flat r).toArray r.length hb h (by rw [List.size_toArray, K.flat_len])
  rw [List.toList_toArray] at this
  exact this
set_option maxRecDepth 100000 in
theorem EK.see_one (K : EK α) (w : World) (x : α) : K.See (w.alloc (.cells (K.enc x).toArray K.e)) (w.alloc (.cells (K.enc x).toArray K.e)).heap.size (some ⟨w.heap.size, 0, none⟩) [x] := by
  have hX : Box (w.alloc (.cells (K.enc x).toArray K.e)) w.heap.size K.e (K.enc x).toArray := Box.made _ _ _
  show Sees _ _ _ (K.flat [x])
  rw [K.flat_one']
  simpa using Sees.of_box hX hX.lt

set_option maxRecDepth 100000 in
/-- append of what is seen onto an owned row (nil or not), as the frozen call's run. -/
theorem EK.append (K : EK α) {base : Nat} {v : Value} {xs : List α} (hown : K.Own w base v xs) {A : Option Addr} {m c : Nat} {es : List α} (hm : m = es.length) (he : K.See w w.heap.size A es)
    (hl : xs.length + m ≤ 140737488351232) (hb : (xs.length + m) * K.bys ≤ 140737488355328) (hbase : base ≤ w.heap.size) :
    ∃ v' w', (apAll #[K.sl, K.sl] K.sl #[v, .slice A m c]).run Tryz.prog w = .ok v' w' ∧ K.Own w' base v' (xs ++ es) ∧ w.grownBy w' v.ownBlock := by
  obtain ⟨i0, hi0, hz0, hz1, hz2⟩ := info_parts K.info
  have hfl := K.flat_len es
  have hk := K.hk
  have hap : ∀ (w' : World) (v' : Value), w'.ownsRow base K.e K.k v' (xs.length + m) (K.flat xs ++ K.flat es) → K.Own w' base v' (xs ++ es) := fun w' v' h => by
    show w'.ownsRow base K.e K.k v' (xs ++ es).length (K.flat (xs ++ es))
    rw [K.flat_app, List.length_append, ← hm]
    exact h
  cases A with
  | some ad =>
    obtain ⟨v', w', hr, ho, hg, _⟩ := run_append_own (P := Tryz.prog) w base K.sl K.sl K.e i0 _ K.k K.bys K.und hi0 hz0 hz1 hz2 K.hzs hk v xs.length _ hown ad m c (K.flat es) (by rw [hfl, hm]) he.add (K.flat_one es) (by unfold maxLen; omega) hb hbase
    exact ⟨v', w', hr, hap w' v' ho, hg⟩
  | none =>
    have hes : es = [] := he.nil
    subst hes
    have hm0 : m = 0 := hm
    subst hm0
    refine ⟨v, w, ?_, hap w v (by simpa using hown), only_refl _ _⟩
    have hu := K.und
    show (Builtin.append_ _ _ _).run _ _ = _
    rcases hown.2 with ⟨rfl, h0⟩ | ⟨g, cap, cur, rfl, _, _, hnc, _⟩
    · simp [Builtin.append_, run_underlying hu, sizeOf, typeInfo, hi0, Builtin.lenOf, Builtin.firstCells]
    · simp [Builtin.append_, run_underlying hu, sizeOf, typeInfo, hi0, Builtin.lenOf, Builtin.firstCells, hnc, storeCells]

set_option maxRecDepth 100000 in
theorem EK.flat_set (K : EK α) {L : List α} {i : Nat} (h : i < L.length) (x : α) : K.flat (L.set i x) = K.flat (L.take i) ++ (K.enc x ++ K.flat (L.drop (i + 1))) := by
  rw [List.set_eq_take_append_cons_drop, if_pos h]
  show (L.take i ++ x :: L.drop (i + 1)).flatMap _ = _
  rw [List.flatMap_append, List.flatMap_cons]
set_option maxRecDepth 100000 in
theorem EK.flat_split (K : EK α) {L : List α} {i : Nat} (h : i < L.length) : K.flat L = K.flat (L.take i) ++ (K.enc (L[i]'h) ++ K.flat (L.drop (i + 1))) := by
  have := K.flat_set h (L[i]'h)
  rwa [List.set_getElem_self] at this
set_option maxRecDepth 100000 in
/-- A row, as its block. -/
theorem EK.Own.row {base g n c : Nat} {L : List α} (h : K.Own w base (.slice (some ⟨g, 0, none⟩) n c) L) : ∃ post : List Value, Box w g K.e (K.flat L ++ post).toArray ∧ post.length = (c - L.length) * K.k ∧ L.length ≤ c ∧ c ≤ maxLen ∧ base ≤ g ∧ n = L.length := by
  rcases h.2 with ⟨h1, _⟩ | ⟨g', cap, cur, h1, hbase, hb, hcap, hmax, hsz, htk⟩
  · cases h1
  · injection h1 with e1 e2 e3
    injection e1 with e1
    injection e1 with e1
    subst e1
    subst e3
    refine ⟨cur.toList.drop (L.length * K.k), ?_, ?_, hcap, hmax, hbase, e2⟩
    · have := List.take_append_drop (L.length * K.k) cur.toList
      rw [htk] at this
      rw [this]
      exact hb
    · rw [List.length_drop, Array.length_toList, hsz, Nat.sub_mul]
set_option maxRecDepth 100000 in
theorem EK.own_row (K : EK α) {base g c : Nat} {L : List α} {post : List Value} (hb : Box w g K.e (K.flat L ++ post).toArray) (hp : post.length = (c - L.length) * K.k) (hc : L.length ≤ c) (hm : c ≤ maxLen) (hg : base ≤ g) : K.Own w base (.slice (some ⟨g, 0, none⟩) L.length c) L := by
  refine ⟨K.flat_len L, .inr ⟨g, c, _, rfl, hg, hb, hc, hm, ?_, ?_⟩⟩
  · rw [List.size_toArray, List.length_append, K.flat_len, hp, ← Nat.add_mul]
    congr 1
    omega
  · rw [List.toList_toArray, ← K.flat_len, List.take_left']
    rfl
set_option maxRecDepth 100000 in
/-- An element is stored into an owned row. -/
theorem EK.Own.put {base g n c : Nat} {L : List α} (h : K.Own w base (.slice (some ⟨g, 0, none⟩) n c) L) {i : Nat} (hi : i < L.length) (x : α) :
    (Instr.storeAt K.e (.pointer (some ⟨g, i * K.k, none⟩)) (.agg (K.enc x).toArray)).run Tryz.prog w = .ok () (w.setCells g (i * K.k) (K.enc x)) ∧ K.Own (w.setCells g (i * K.k) (K.enc x)) base (.slice (some ⟨g, 0, none⟩) n c) (L.set i x) ∧ w.grownBy (w.setCells g (i * K.k) (K.enc x)) (some g) := by
  obtain ⟨post, hb, hp, hc, hm, hg, rfl⟩ := h.row
  have hpl : (K.flat (L.take i)).length = i * K.k := by rw [K.flat_len, List.length_take]; congr 1; omega
  have hb2 := hb
  rw [K.flat_split hi] at hb2
  simp only [List.append_assoc] at hb2
  refine ⟨?_, ?_, only_cells (g := g) _ _ _⟩
  · exact run_storeAt_mid (P := Tryz.prog) _ g (i * K.k) K.e (K.enc x).toArray (fun j hj => by
      rw [List.size_toArray, K.len] at hj
      have h1 := hb.cell (i * K.k + j)
      rw [h1, hb.free, Array.getElem?_eq_getElem (by
        rw [List.size_toArray, List.length_append, K.flat_len]
        have := Nat.mul_le_mul_right K.k (show i + 1 ≤ L.length by omega)
        rw [Nat.add_mul] at this
        omega)]
      exact ⟨rfl, rfl⟩) (by rw [List.size_toArray, K.len]; exact K.size) (by have := all_oneCell_toArray (K.one x); simpa using this)
  · have h3 := Box.put_mid hb2 hpl (vs := K.enc x) (by rw [K.len, K.len])
    have e : K.flat (L.take i) ++ (K.enc x ++ (K.flat (L.drop (i + 1)) ++ post)) = K.flat (L.set i x) ++ post := by
      rw [K.flat_set hi]
      simp only [List.append_assoc]
    rw [e] at h3
    have := K.own_row (c := c) h3 (by rw [List.length_set]; exact hp) (by rw [List.length_set]; exact hc) hm hg
    rwa [List.length_set] at this

end

/-! ### Pairs, replies, texts -/
def PairX.cells (x : PairX) : List Value := [.string x.key, .string x.val]
/-- A reply as memory has it. -/
structure RepM where
  x : RepX
  A : Option Addr
  z : Nat
def RepM.cells (r : RepM) : List Value := [.int .i64 r.x.client, .int .i64 r.x.num, .int .i64 r.x.code, .slice r.A r.x.vals.length r.z]
noncomputable def MK : EK MemX where
  e := 66
  sl := 22
  k := 34
  bys := 48
  z := .agg zmemV
  enc := MemX.cells
  hk := by decide
  und := Tryz.underlying22
  els := by kernel_rfl
  info := by kernel_rfl
  hzs := rfl
  zone := zmem.cells_one
  len := MemX.cells_len
  one := MemX.cells_one
  hby := by decide

noncomputable def QK : EK ReqX where
  e := 100
  sl := 30
  k := 42
  bys := 136
  z := .agg zreqV
  enc := ReqX.cells
  hk := by decide
  und := Tryz.underlying30
  els := by kernel_rfl
  info := by kernel_rfl
  hzs := rfl
  zone := zreq.cells_one
  len := ReqX.cells_len
  one := ReqX.cells_one
  hby := by decide

/-! ### States -/
structure StM where
  ps : List PairX
  pA : Option Addr
  pc : Nat
  rs : List RepM
  rA : Option Addr
  rc : Nat
  ep : Int
  ms : List MemX
  mA : Option Addr
  mc : Nat
abbrev stV (pA : Option Addr) (pn pc : Nat) (rA : Option Addr) (rn rc : Nat) (ep : Int) (mA : Option Addr) (mn mc : Nat) : Array Value := #[.slice pA pn pc, .slice rA rn rc, .int .i64 ep, .slice mA mn mc]
abbrev StM.cells (s : StM) : Array Value := stV s.pA s.ps.length s.pc s.rA s.rs.length s.rc s.ep s.mA s.ms.length s.mc
def StM.pl (s : StM) : StX := ⟨s.ps, s.rs.map RepM.x, s.ep, s.ms⟩
end Go.Proofs.YtbclepdcngaonaaGreatDoor
