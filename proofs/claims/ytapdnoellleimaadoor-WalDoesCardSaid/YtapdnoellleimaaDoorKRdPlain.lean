/-
  Signatures as bytes: written and read, on plain lists. No program, no memory.
-/
import Derived.Test.YtapdnoellleimaaDoorRd
import Derived.Test.YtapdnoellleimaaDoorWr
import Derived.Test.YtapdnoellleimaaDoorTG
namespace Go.Proofs.YtapdnoellleimaaDoor
open Go.RowKit

theorem kfoldl_be (l : List UInt8) : ∀ n : Nat, l.foldl (fun n b => n * 256 + b.toNat) n = n * 256 ^ l.length + beNat l := by
  induction l with
  | nil => intro n; simp [beNat]
  | cons b r ih =>
    intro n
    rw [List.foldl_cons, ih, List.length_cons, Nat.pow_succ]
    unfold beNat
    rw [List.foldl_cons, ih (0 * 256 + b.toNat)]
    unfold beNat
    rw [Nat.add_mul, Nat.zero_mul, Nat.zero_add, Nat.mul_assoc, Nat.mul_comm 256, Nat.add_assoc]
theorem kbeNat_cons (b : UInt8) (r : List UInt8) : beNat (b :: r) = b.toNat * 256 ^ r.length + beNat r := by
  conv => lhs; unfold beNat
  rw [List.foldl_cons, kfoldl_be, Nat.zero_mul, Nat.zero_add]
theorem kbeNat_beBytes : ∀ (k n : Nat), beNat (beBytes k n) = n % 256 ^ k
  | 0, n => by simp [beBytes, beNat, Nat.mod_one]
  | k + 1, n => by
    have h : n % (256 ^ k * 256) = n % 256 ^ k + 256 ^ k * (n / 256 ^ k % 256) := Nat.mod_mul
    rw [beBytes, kbeNat_cons, beBytes_length, kbeNat_beBytes k n, UInt8.toNat_ofNat']
    show n / 256 ^ k % 256 * 256 ^ k + n % 256 ^ k = n % (256 ^ k * 256)
    rw [h, Nat.add_comm, Nat.mul_comm (n / 256 ^ k % 256)]
theorem knumV_back {n : Int} (hn : -9223372036854775808 ≤ n ∧ n ≤ 9223372036854775807) (rest : List UInt8) : numV (numBytes n ++ rest) false = n := by
  unfold numV
  have hl := numBytes_len n
  rw [tk_yes (by rw [List.length_append]; omega)]
  simp only
  rw [List.take_left' hl]
  unfold numBytes
  rw [kbeNat_beBytes]
  unfold wrap64
  omega
theorem ktk_app (a rest : List UInt8) {n : Nat} (h : a.length = n) : tk n (a ++ rest) false = (a, rest, false) := by
  rw [tk_yes (by rw [List.length_append]; omega), List.take_left' h, List.drop_left' h]
theorem ktk_bad (n : Nat) (l : List UInt8) : tk n l true = ([], [], true) := tk_no (fun h => by cases h.1)

/-- What is left behind k digests. -/
def stT : Nat → List UInt8 → Bool → List UInt8 × Bool
  | 0, l, b => (l, b)
  | k + 1, l, b => (tk 32 (stT k l b).1 (stT k l b).2).2
/-- The i-th digest. -/
def dgT (l : List UInt8) (b : Bool) (i : Nat) : List UInt8 := digV (stT i l b).1 (stT i l b).2
/-- The first n digests. -/
def dgsT (n : Nat) (l : List UInt8) (b : Bool) : List (List UInt8) := (List.range n).map (dgT l b)
theorem dgs_len (n : Nat) (l : List UInt8) (b : Bool) : (dgsT n l b).length = n := by simp [dgsT]
theorem dgs_all (n : Nat) (l : List UInt8) (b : Bool) : AllD (dgsT n l b) := by
  intro d hd
  obtain ⟨i, _, rfl⟩ := List.mem_map.1 hd
  exact digV_len _ _
theorem dgs_at {n i : Nat} (h : i < n) (l : List UInt8) (b : Bool) : (dgsT n l b).getD i [] = dgT l b i := by
  unfold dgsT
  rw [List.getD_eq_getElem?_getD, List.getElem?_map, List.getElem?_range h]
  rfl
theorem stT_add (i : Nat) (l : List UInt8) (b : Bool) : ∀ j, stT (i + j) l b = stT j (stT i l b).1 (stT i l b).2
  | 0 => rfl
  | j + 1 => by
    show (tk 32 (stT (i + j) l b).1 (stT (i + j) l b).2).2 = _
    rw [stT_add i l b j]
    rfl
theorem dgT_add (i j : Nat) (l : List UInt8) (b : Bool) : dgT l b (i + j) = dgT (stT i l b).1 (stT i l b).2 j := by
  unfold dgT
  rw [stT_add]
theorem stT_bad : ∀ (k : Nat) (l : List UInt8), 0 < k → stT k l true = ([], true)
  | 0, _, h => by omega
  | 1, l, _ => by
    show (tk 32 l true).2 = _
    rw [ktk_bad]
  | k + 2, l, _ => by
    show (tk 32 (stT (k + 1) l true).1 (stT (k + 1) l true).2).2 = _
    rw [stT_bad (k + 1) l (by omega), ktk_bad]
theorem stT_bad' (k : Nat) : stT k [] true = ([], true) := by
  cases k with
  | zero => rfl
  | succ k => exact stT_bad _ _ (by omega)
/-- Behind a fault all is a fault: what isn't one at last has been none ahead. -/
theorem stT_good {k : Nat} {l : List UInt8} {b : Bool} (h : (stT k l b).2 = false) : ∀ i, i ≤ k → (stT i l b).2 = false := by
  intro i hi
  cases hb : (stT i l b).2 with
  | false => rfl
  | true =>
    exfalso
    obtain ⟨j, rfl⟩ : ∃ j, k = i + j := ⟨k - i, by omega⟩
    rw [stT_add, hb] at h
    cases j with
    | zero => cases h
    | succ j =>
      rw [stT_bad _ _ (by omega)] at h
      cases h
theorem stT_flat : ∀ (ds : List (List UInt8)) (rest : List UInt8), AllD ds → stT ds.length (ds.flatten ++ rest) false = (rest, false) ∧ dgsT ds.length (ds.flatten ++ rest) false = ds
  | [], rest, _ => ⟨rfl, rfl⟩
  | d :: ds, rest, h => by
    have hd := h d (List.mem_cons_self ..)
    obtain ⟨h1, h2⟩ := stT_flat ds rest h.tail
    have e : (d :: ds).flatten ++ rest = d ++ (ds.flatten ++ rest) := by simp
    have e1 : stT 1 (d ++ (ds.flatten ++ rest)) false = (ds.flatten ++ rest, false) := by
      show (tk 32 (d ++ (ds.flatten ++ rest)) false).2 = _
      rw [ktk_app d _ hd]
    have e0 : dgT (d ++ (ds.flatten ++ rest)) false 0 = d := by
      show digV (d ++ (ds.flatten ++ rest)) false = d
      unfold digV
      rw [ktk_app d _ hd]
      rfl
    rw [e, List.length_cons]
    refine ⟨?_, ?_⟩
    · rw [show ds.length + 1 = 1 + ds.length by omega, stT_add, e1]
      exact h1
    · unfold dgsT
      rw [List.range_succ_eq_map, List.map_cons, e0, List.map_map]
      congr 1
      conv => rhs; rw [← h2]
      unfold dgsT
      refine List.map_congr_left fun i _ => ?_
      show dgT (d ++ (ds.flatten ++ rest)) false (i + 1) = _
      rw [Nat.add_comm i 1, dgT_add, e1]

/-! ### A signature -/
def sigBytes (n : Int) (X Y P : List (List UInt8)) : List UInt8 := numBytes n ++ (numBytes (P.length : Int) ++ (X.flatten ++ (Y.flatten ++ P.flatten)))
def fitsT (X Y P : List (List UInt8)) : Bool := decide (X.length = 32 ∧ Y.length = 32 ∧ P.length ≤ 6)
/-- Behind the number: how many digests the path has, and what is left. -/
def rdL (l : List UInt8) (b : Bool) : Int × List UInt8 × Bool := inV 0 6 (tk 8 l b).2.1 (tk 8 l b).2.2
def rdC (l : List UInt8) (b : Bool) : Nat := (rdL l b).1.toNat
def rdF (l : List UInt8) (b : Bool) : List UInt8 × Bool := stT (64 + rdC l b) (rdL l b).2.1 (rdL l b).2.2
theorem rdL_bounds (l : List UInt8) (b : Bool) : 0 ≤ (rdL l b).1 ∧ (rdL l b).1 ≤ 6 := by
  unfold rdL inV
  split
  · simp
  · simp only
    omega
theorem rdC_int (l : List UInt8) (b : Bool) : (rdL l b).1 = (rdC l b : Int) := by
  have := rdL_bounds l b
  unfold rdC
  omega
theorem rdC_le (l : List UInt8) (b : Bool) : rdC l b ≤ 6 := by
  have := rdL_bounds l b
  unfold rdC
  omega
/-- What Read answers. -/
def rdN (l : List UInt8) (b : Bool) : Int := if (rdF l b).2 = true then 0 else numV l b
def rdX (l : List UInt8) (b : Bool) : List (List UInt8) := if (rdF l b).2 = true then [] else dgsT 32 (rdL l b).2.1 (rdL l b).2.2
def rdY (l : List UInt8) (b : Bool) : List (List UInt8) := if (rdF l b).2 = true then [] else dgsT 32 (stT 32 (rdL l b).2.1 (rdL l b).2.2).1 (stT 32 (rdL l b).2.1 (rdL l b).2.2).2
def rdP (l : List UInt8) (b : Bool) : List (List UInt8) := if (rdF l b).2 = true then [] else dgsT (rdC l b) (stT 64 (rdL l b).2.1 (rdL l b).2.2).1 (stT 64 (rdL l b).2.1 (rdL l b).2.2).2
theorem sig_len {n : Int} {X Y P : List (List UInt8)} (hX : AllD X) (hY : AllD Y) (hP : AllD P) (h : fitsT X Y P = true) : (sigBytes n X Y P).length ≤ 2256 := by
  unfold fitsT at h
  rw [decide_eq_true_iff] at h
  unfold sigBytes
  simp only [List.length_append, numBytes_len, hX.flat, hY.flat, hP.flat]
  omega
/-- What was written is read. -/
theorem sig_back {n : Int} (hn : -9223372036854775808 ≤ n ∧ n ≤ 9223372036854775807) {X Y P : List (List UInt8)} (hX : AllD X) (hY : AllD Y) (hP : AllD P) (h : fitsT X Y P = true) :
    rdN (sigBytes n X Y P) false = n ∧ rdX (sigBytes n X Y P) false = X ∧ rdY (sigBytes n X Y P) false = Y ∧ rdP (sigBytes n X Y P) false = P ∧ rdF (sigBytes n X Y P) false = ([], false) := by
  unfold fitsT at h
  rw [decide_eq_true_iff] at h
  obtain ⟨h1, h2, h3⟩ := h
  have eN : numV (sigBytes n X Y P) false = n := knumV_back hn _
  have eT : (tk 8 (sigBytes n X Y P) false).2 = (numBytes (P.length : Int) ++ (X.flatten ++ (Y.flatten ++ P.flatten)), false) := by
    unfold sigBytes
    rw [ktk_app _ _ (numBytes_len n)]
  have eL : rdL (sigBytes n X Y P) false = ((P.length : Int), X.flatten ++ (Y.flatten ++ P.flatten), false) := by
    unfold rdL
    rw [eT]
    have e1 : numV (numBytes (P.length : Int) ++ (X.flatten ++ (Y.flatten ++ P.flatten))) false = (P.length : Int) := knumV_back (by omega) _
    unfold inV
    rw [e1, if_neg (by omega), ktk_app _ _ (numBytes_len _)]
  have eC : rdC (sigBytes n X Y P) false = P.length := by
    unfold rdC
    rw [eL]
    exact Int.toNat_natCast _
  obtain ⟨x1, x2⟩ := stT_flat X (Y.flatten ++ P.flatten) hX
  obtain ⟨y1, y2⟩ := stT_flat Y P.flatten hY
  obtain ⟨p1, p2⟩ := stT_flat P [] hP
  rw [List.append_nil] at p1 p2
  rw [h1] at x1 x2
  rw [h2] at y1 y2
  have e64 : stT 64 (X.flatten ++ (Y.flatten ++ P.flatten)) false = (P.flatten, false) := by
    have e := stT_add 32 (X.flatten ++ (Y.flatten ++ P.flatten)) false 32
    rw [x1] at e
    simp only at e
    rw [y1] at e
    exact e
  have eF : rdF (sigBytes n X Y P) false = ([], false) := by
    unfold rdF
    rw [eC, eL]
    simp only
    rw [stT_add, e64]
    simp only
    exact p1
  refine ⟨?_, ?_, ?_, ?_, eF⟩
  · unfold rdN
    rw [eF, if_neg (by simp)]
    exact eN
  · unfold rdX
    rw [eF, if_neg (by simp), eL]
    simp only
    exact x2
  · unfold rdY
    rw [eF, if_neg (by simp), eL]
    simp only
    rw [x1]
    simp only
    exact y2
  · unfold rdP
    rw [eF, if_neg (by simp), eC, eL]
    simp only
    rw [e64]
    simp only
    exact p2
end Go.Proofs.YtapdnoellleimaaDoor
