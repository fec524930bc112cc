/-
  Many words side by side in one number (64 bits each, the lower half used): what the operations of SHA-256 do in each lane.
  The rounds of SHA-256 in lanes.
  SHA-256 in lanes: of a list of bytes, each a number that holds one byte a lane.
  SHA-256 in lanes, whole: shaL of packed bytes is shaN in each lane.
  Digests, secrets, public halves and leaves in lanes.
  The roots of the trees that a script may name, in lanes: reckoned once.
  The first four bytes of the roots of the trees that a script may name (256 seeds, heights 0, 1, 2), as numbers; the same trees in lanes, from one seed on.
-/
import Derived.Test.YtojgmdagamdcfaaGreatDoorOX
import Derived.Test.YtojgmdagamdcfaaGreatDoorKA
namespace Go.Proofs.YtojgmdagamdcfaaGreatDoor
open Go.RowKit
def lane (k x : Nat) : Nat := (x >>> (64 * k)) % 2 ^ 32
/-- Of each 64 bits the lower half is used. -/
def Wf (x : Nat) : Prop := ∀ j, 32 ≤ j % 64 → x.testBit j = false
/-- The halves above are almost free. -/
def Low (c x : Nat) : Prop := ∀ k, x % 2 ^ (64 * k + 64) < c * 2 ^ (64 * k + 32)

set_option maxRecDepth 100000 in
theorem lane_bit (k x j : Nat) : (lane k x).testBit j = (decide (j < 32) && x.testBit (64 * k + j)) := by
  unfold lane
  rw [Nat.testBit_mod_two_pow, Nat.testBit_shiftRight]
set_option maxRecDepth 100000 in
theorem lane_lt (k x : Nat) : lane k x < 2 ^ 32 := Nat.mod_lt _ (by decide)
set_option maxRecDepth 100000 in
theorem lane_xor (k x y : Nat) : lane k (x ^^^ y) = lane k x ^^^ lane k y := by
  apply Nat.eq_of_testBit_eq
  intro j
  rw [Nat.testBit_xor, lane_bit, lane_bit, lane_bit, Nat.testBit_xor]
  cases decide (j < 32) <;> simp
set_option maxRecDepth 100000 in
theorem lane_and (k x y : Nat) : lane k (x &&& y) = lane k x &&& lane k y := by
  apply Nat.eq_of_testBit_eq
  intro j
  rw [Nat.testBit_and, lane_bit, lane_bit, lane_bit, Nat.testBit_and]
  cases decide (j < 32) <;> simp
set_option maxRecDepth 100000 in
theorem lane_or (k x y : Nat) : lane k (x ||| y) = lane k x ||| lane k y := by
  apply Nat.eq_of_testBit_eq
  intro j
  rw [Nat.testBit_or, lane_bit, lane_bit, lane_bit, Nat.testBit_or]
  cases decide (j < 32) <;> simp
set_option maxRecDepth 100000 in
theorem Wf.xor {x y : Nat} (h : Wf x) (k : Wf y) : Wf (x ^^^ y) := fun j hj => by rw [Nat.testBit_xor, h j hj, k j hj]; rfl
set_option maxRecDepth 100000 in
theorem Wf.and {x : Nat} (h : Wf x) (y : Nat) : Wf (x &&& y) := fun j hj => by rw [Nat.testBit_and, h j hj]; rfl
set_option maxRecDepth 100000 in
theorem Wf.and' {y : Nat} (x : Nat) (h : Wf y) : Wf (x &&& y) := fun j hj => by rw [Nat.testBit_and, h j hj, Bool.and_false]
set_option maxRecDepth 100000 in
theorem Wf.or {x y : Nat} (h : Wf x) (k : Wf y) : Wf (x ||| y) := fun j hj => by rw [Nat.testBit_or, h j hj, k j hj]; rfl
set_option maxRecDepth 100000 in
theorem Wf.low {x : Nat} (h : Wf x) : Low 1 x := fun k => by
  rw [Nat.one_mul]
  apply Nat.lt_pow_two_of_testBit
  intro i hi
  rw [Nat.testBit_mod_two_pow]
  by_cases h1 : i < 64 * k + 64
  · rw [h i (by omega), Bool.and_false]
  · simp [h1]
set_option maxRecDepth 100000 in
theorem Low.add {c d x y : Nat} (h : Low c x) (k : Low d y) (hcd : c + d ≤ 2 ^ 32) : Low (c + d) (x + y) := fun q => by
  have h1 := h q
  have h2 := k q
  have e : (2 : Nat) ^ (64 * q + 64) = 2 ^ 32 * 2 ^ (64 * q + 32) := by rw [← Nat.pow_add]; congr 1; omega
  have hs : x % 2 ^ (64 * q + 64) + y % 2 ^ (64 * q + 64) < (c + d) * 2 ^ (64 * q + 32) := by rw [Nat.add_mul]; omega
  have hb : (c + d) * 2 ^ (64 * q + 32) ≤ 2 ^ (64 * q + 64) := by rw [e]; exact Nat.mul_le_mul_right _ hcd
  rw [Nat.add_mod, Nat.mod_eq_of_lt (Nat.lt_of_lt_of_le hs hb)]
  exact hs
set_option maxRecDepth 100000 in
theorem Low.more {c d x : Nat} (h : Low c x) (hcd : c ≤ d) : Low d x := fun q => Nat.lt_of_lt_of_le (h q) (Nat.mul_le_mul_right _ hcd)
set_option maxRecDepth 100000 in
/-- Sums don't run over from lane to lane. -/
theorem lane_add {c d x y : Nat} (h : Low c x) (k : Low d y) (hcd : c + d ≤ 2 ^ 32) (q : Nat) : lane q (x + y) = (lane q x + lane q y) % 2 ^ 32 := by
  unfold lane
  rw [Nat.shiftRight_eq_div_pow, Nat.shiftRight_eq_div_pow, Nat.shiftRight_eq_div_pow, ← Nat.add_mod]
  congr 1
  rcases q with _ | q
  · simp
  · have h1 := h q
    have h2 := k q
    have e : (2 : Nat) ^ (64 * q + 64) = 2 ^ 32 * 2 ^ (64 * q + 32) := by rw [← Nat.pow_add]; congr 1; omega
    have hb : (c + d) * 2 ^ (64 * q + 32) ≤ 2 ^ (64 * q + 64) := by rw [e]; exact Nat.mul_le_mul_right _ hcd
    rw [Nat.add_mul] at hb
    rw [show 64 * (q + 1) = 64 * q + 64 from rfl]
    generalize 2 ^ (64 * q + 64) = M at *
    have hM : 0 < M := by omega
    have e1 := Nat.div_add_mod x M
    have e2 := Nat.div_add_mod y M
    rw [Nat.div_eq_iff hM]
    have e3 : (x / M + y / M) * M = M * (x / M) + M * (y / M) := by rw [Nat.add_mul, Nat.mul_comm, Nat.mul_comm (y / M)]
    omega
set_option maxRecDepth 100000 in
/-- A rotation, and a shift, in each lane. -/
theorem lane_shr {x : Nat} (h : Wf x) (n : Nat) (hn : n ≤ 32) (q : Nat) : lane q (x >>> n) = lane q x >>> n := by
  apply Nat.eq_of_testBit_eq
  intro j
  rw [Nat.testBit_shiftRight, lane_bit, lane_bit, Nat.testBit_shiftRight, show n + (64 * q + j) = 64 * q + (n + j) by omega]
  by_cases h1 : n + j < 32
  · simp [h1, show j < 32 by omega]
  · by_cases h2 : j < 32
    · rw [h _ (by omega)]
      simp
    · simp [h1, h2]
set_option maxRecDepth 100000 in
theorem lane_shl {x : Nat} (h : Wf x) (n : Nat) (hn : n ≤ 32) (q : Nat) : lane q (x <<< n) = (lane q x <<< n) % 2 ^ 32 := by
  apply Nat.eq_of_testBit_eq
  intro j
  rw [Nat.testBit_mod_two_pow, Nat.testBit_shiftLeft, lane_bit, lane_bit, Nat.testBit_shiftLeft]
  by_cases h1 : j < 32
  · simp only [h1, decide_true, Bool.true_and]
    by_cases h2 : n ≤ j
    · simp [h2, show 64 * q + j - n = 64 * q + (j - n) by omega, show n ≤ 64 * q + j by omega, show j - n < 32 by omega]
    · simp only [h2, decide_false, Bool.false_and]
      by_cases h3 : n ≤ 64 * q + j
      · rw [h _ (by omega), Bool.and_false]
      · simp [h3]
  · simp [h1]
/-- The lanes' lower halves. -/
def maskOf : Nat → Nat
  | 0 => 0
  | n + 1 => maskOf n * 2 ^ 64 + 4294967295
set_option maxRecDepth 100000 in
theorem mask_bit : ∀ (n j : Nat), (maskOf n).testBit j = (decide (j / 64 < n) && decide (j % 64 < 32))
  | 0, j => by simp [maskOf]
  | n + 1, j => by
    unfold maskOf
    rw [Nat.mul_comm, Nat.testBit_two_pow_mul_add _ (by decide)]
    by_cases h : j < 64
    · rw [if_pos h, show (4294967295 : Nat) = 2 ^ 32 - 1 from rfl, Nat.testBit_two_pow_sub_one, show j / 64 = 0 by omega, Nat.mod_eq_of_lt h]
      simp
    · rw [if_neg h, mask_bit n (j - 64)]
      have e1 : (j - 64) % 64 = j % 64 := by omega
      have e2 : (j - 64) / 64 < n ↔ j / 64 < n + 1 := by omega
      rw [e1]
      simp only [e2]
set_option maxRecDepth 100000 in
theorem wf_mask (n : Nat) : Wf (maskOf n) := fun j hj => by
  rw [mask_bit]
  simp [show ¬ j % 64 < 32 by omega]
set_option maxRecDepth 100000 in
theorem lane_mask (n x q : Nat) (hq : q < n) : lane q (x &&& maskOf n) = lane q x := by
  apply Nat.eq_of_testBit_eq
  intro j
  rw [lane_bit, lane_bit, Nat.testBit_and, mask_bit]
  by_cases h : j < 32
  · have e1 : (64 * q + j) / 64 = q := by omega
    have e2 : (64 * q + j) % 64 = j := by omega
    simp [h, e1, e2, hq]
  · simp [h]
end Go.Proofs.YtojgmdagamdcfaaGreatDoor

namespace Go.Proofs.YtojgmdagamdcfaaGreatDoor
open Go.RowKit

def rotL (M x k j : Nat) : Nat := Nat.land (Nat.lor (Nat.shiftRight x k) (Nat.shiftLeft x j)) M
def bigEL (M e : Nat) : Nat := Nat.xor (Nat.xor (rotL M e 6 26) (rotL M e 11 21)) (rotL M e 25 7)
def bigAL (M a : Nat) : Nat := Nat.xor (Nat.xor (rotL M a 2 30) (rotL M a 13 19)) (rotL M a 22 10)
def chL (M e f g : Nat) : Nat := Nat.xor (Nat.land e f) (Nat.land (Nat.xor M e) g)
def lowXL (M x : Nat) : Nat := Nat.xor (Nat.xor (rotL M x 7 25) (rotL M x 18 14)) (Nat.land (Nat.shiftRight x 3) M)
def lowYL (M y : Nat) : Nat := Nat.xor (Nat.xor (rotL M y 17 15) (rotL M y 19 13)) (Nat.land (Nat.shiftRight y 10) M)
def pL (M h e f g k w : Nat) : Nat := Nat.land (Nat.add (Nat.add (Nat.add (Nat.add h (bigEL M e)) (chL M e f g)) k) w) M
def newWL (M w0 w1 w9 w14 : Nat) : Nat := Nat.land (Nat.add (Nat.add (Nat.add w0 (lowXL M w1)) w9) (lowYL M w14)) M
def aL (M p a b c : Nat) : Nat := Nat.land (Nat.add p (Nat.add (bigAL M a) (majN a b c))) M
def eL (M d p : Nat) : Nat := Nat.land (Nat.add d p) M

set_option maxRecDepth 100000 in
theorem rotL_wf (n x k j : Nat) : Wf (rotL (maskOf n) x k j) := Wf.and' _ (wf_mask n)
variable {n q : Nat}
set_option maxRecDepth 100000 in
theorem rotL_lane (hq : q < n) {x : Nat} (h : Wf x) (k j : Nat) (hk : k ≤ 32) (hj : j ≤ 32) : lane q (rotL (maskOf n) x k j) = rotN (lane q x) k j := by
  show lane q (((x >>> k) ||| (x <<< j)) &&& maskOf n) = _
  rw [lane_mask _ _ _ hq, lane_or, lane_shr h k hk, lane_shl h j hj]
  rfl
set_option maxRecDepth 100000 in
theorem xor3_lane (x y z : Nat) : lane q (Nat.xor (Nat.xor x y) z) = Nat.xor (Nat.xor (lane q x) (lane q y)) (lane q z) := by
  show lane q ((x ^^^ y) ^^^ z) = _
  rw [lane_xor, lane_xor]
  rfl
set_option maxRecDepth 100000 in
theorem bigEL_lane (hq : q < n) {x : Nat} (h : Wf x) : lane q (bigEL (maskOf n) x) = bigE (lane q x) := by
  unfold bigEL bigE
  rw [xor3_lane, rotL_lane hq h _ _ (by decide) (by decide), rotL_lane hq h _ _ (by decide) (by decide), rotL_lane hq h _ _ (by decide) (by decide)]
set_option maxRecDepth 100000 in
theorem bigAL_lane (hq : q < n) {x : Nat} (h : Wf x) : lane q (bigAL (maskOf n) x) = bigA (lane q x) := by
  unfold bigAL bigA
  rw [xor3_lane, rotL_lane hq h _ _ (by decide) (by decide), rotL_lane hq h _ _ (by decide) (by decide), rotL_lane hq h _ _ (by decide) (by decide)]
set_option maxRecDepth 100000 in
theorem shrL_lane (hq : q < n) {x : Nat} (h : Wf x) (k : Nat) (hk : k ≤ 32) : lane q (Nat.land (Nat.shiftRight x k) (maskOf n)) = Nat.shiftRight (lane q x) k := by
  show lane q ((x >>> k) &&& maskOf n) = _
  rw [lane_mask _ _ _ hq, lane_shr h k hk]
  rfl
set_option maxRecDepth 100000 in
theorem lowXL_lane (hq : q < n) {x : Nat} (h : Wf x) : lane q (lowXL (maskOf n) x) = lowX (lane q x) := by
  unfold lowXL lowX
  rw [xor3_lane, rotL_lane hq h _ _ (by decide) (by decide), rotL_lane hq h _ _ (by decide) (by decide), shrL_lane hq h _ (by decide)]
set_option maxRecDepth 100000 in
theorem lowYL_lane (hq : q < n) {x : Nat} (h : Wf x) : lane q (lowYL (maskOf n) x) = lowY (lane q x) := by
  unfold lowYL lowY
  rw [xor3_lane, rotL_lane hq h _ _ (by decide) (by decide), rotL_lane hq h _ _ (by decide) (by decide), shrL_lane hq h _ (by decide)]
set_option maxRecDepth 100000 in
theorem mask_lane (hq : q < n) : lane q (maskOf n) = 4294967295 := by
  apply Nat.eq_of_testBit_eq
  intro j
  rw [lane_bit, mask_bit, show (4294967295 : Nat) = 2 ^ 32 - 1 from rfl, Nat.testBit_two_pow_sub_one]
  by_cases h : j < 32
  · have e1 : (64 * q + j) / 64 = q := by omega
    have e2 : (64 * q + j) % 64 = j := by omega
    simp [h, e1, e2, hq]
  · simp [h]
set_option maxRecDepth 100000 in
theorem not_lane (hq : q < n) (x : Nat) : lane q (Nat.xor (maskOf n) x) = Nat.sub 4294967295 (lane q x) := by
  show lane q (maskOf n ^^^ x) = 4294967295 - lane q x
  rw [lane_xor, mask_lane hq]
  have hl := lane_lt q x
  generalize lane q x = y at *
  apply Nat.eq_of_testBit_eq
  intro j
  rw [Nat.testBit_xor, show (4294967295 : Nat) - y = 2 ^ 32 - (y + 1) by omega, Nat.testBit_two_pow_sub_succ hl, show (4294967295 : Nat) = 2 ^ 32 - 1 from rfl, Nat.testBit_two_pow_sub_one]
  by_cases h : j < 32
  · simp [h]
  · have : y.testBit j = false := Nat.testBit_lt_two_pow (Nat.lt_of_lt_of_le hl (Nat.pow_le_pow_right (by decide) (by omega)))
    simp [h, this]
set_option maxRecDepth 100000 in
theorem chL_lane (hq : q < n) (e f g : Nat) : lane q (chL (maskOf n) e f g) = chN (lane q e) (lane q f) (lane q g) := by
  show lane q ((e &&& f) ^^^ ((maskOf n ^^^ e) &&& g)) = _
  rw [lane_xor, lane_and, lane_and]
  have h := not_lane hq e
  rw [show lane q (maskOf n ^^^ e) = Nat.sub 4294967295 (lane q e) from h]
  rfl
set_option maxRecDepth 100000 in
theorem majL_lane (a b c : Nat) : lane q (majN a b c) = majN (lane q a) (lane q b) (lane q c) := by
  show lane q (((a &&& b) ^^^ (a &&& c)) ^^^ (b &&& c)) = _
  rw [lane_xor, lane_xor, lane_and, lane_and, lane_and]
  rfl
set_option maxRecDepth 100000 in
theorem bigEL_wf (x : Nat) : Wf (bigEL (maskOf n) x) := Wf.xor (Wf.xor (rotL_wf _ _ _ _) (rotL_wf _ _ _ _)) (rotL_wf _ _ _ _)
set_option maxRecDepth 100000 in
theorem bigAL_wf (x : Nat) : Wf (bigAL (maskOf n) x) := Wf.xor (Wf.xor (rotL_wf _ _ _ _) (rotL_wf _ _ _ _)) (rotL_wf _ _ _ _)
set_option maxRecDepth 100000 in
theorem lowXL_wf (x : Nat) : Wf (lowXL (maskOf n) x) := Wf.xor (Wf.xor (rotL_wf _ _ _ _) (rotL_wf _ _ _ _)) (Wf.and' _ (wf_mask n))
set_option maxRecDepth 100000 in
theorem lowYL_wf (x : Nat) : Wf (lowYL (maskOf n) x) := Wf.xor (Wf.xor (rotL_wf _ _ _ _) (rotL_wf _ _ _ _)) (Wf.and' _ (wf_mask n))
set_option maxRecDepth 100000 in
theorem chL_wf {e f g : Nat} (he : Wf e) (hg : Wf g) : Wf (chL (maskOf n) e f g) := (he.and f).xor (Wf.and' _ hg)
set_option maxRecDepth 100000 in
theorem majL_wf {a b c : Nat} (ha : Wf a) (hb : Wf b) : Wf (majN a b c) := ((ha.and b).xor (ha.and c)).xor (hb.and c)
set_option maxRecDepth 100000 in
theorem add2_lane (hq : q < n) {x y : Nat} (hx : Wf x) (hy : Wf y) : lane q (Nat.land (Nat.add x y) (maskOf n)) = Nat.mod (Nat.add (lane q x) (lane q y)) 4294967296 := by
  show lane q ((x + y) &&& maskOf n) = (lane q x + lane q y) % 2 ^ 32
  rw [lane_mask _ _ _ hq, lane_add hx.low hy.low (by decide)]
set_option maxRecDepth 100000 in
theorem add3_lane (hq : q < n) {x y z : Nat} (hx : Wf x) (hy : Wf y) (hz : Wf z) : lane q (Nat.land (Nat.add x (Nat.add y z)) (maskOf n)) = Nat.mod (Nat.add (lane q x) (Nat.add (lane q y) (lane q z))) 4294967296 := by
  show lane q ((x + (y + z)) &&& maskOf n) = (lane q x + (lane q y + lane q z)) % 2 ^ 32
  rw [lane_mask _ _ _ hq, lane_add hx.low (hy.low.add hz.low (by decide)) (by decide), lane_add hy.low hz.low (by decide), Nat.add_mod_mod]
set_option maxRecDepth 100000 in
theorem add4_lane (hq : q < n) {x y z u : Nat} (hx : Wf x) (hy : Wf y) (hz : Wf z) (hu : Wf u) : lane q (Nat.land (Nat.add (Nat.add (Nat.add x y) z) u) (maskOf n)) = Nat.mod (Nat.add (Nat.add (Nat.add (lane q x) (lane q y)) (lane q z)) (lane q u)) 4294967296 := by
  show lane q ((x + y + z + u) &&& maskOf n) = (lane q x + lane q y + lane q z + lane q u) % 2 ^ 32
  have h2 := hx.low.add hy.low (by decide)
  have h3 := h2.add hz.low (by decide)
  rw [lane_mask _ _ _ hq, lane_add h3 hu.low (by decide), lane_add h2 hz.low (by decide), lane_add hx.low hy.low (by decide)]
  omega
set_option maxRecDepth 100000 in
theorem add5_lane (hq : q < n) {x y z u v : Nat} (hx : Wf x) (hy : Wf y) (hz : Wf z) (hu : Wf u) (hv : Wf v) : lane q (Nat.land (Nat.add (Nat.add (Nat.add (Nat.add x y) z) u) v) (maskOf n)) = Nat.mod (Nat.add (Nat.add (Nat.add (Nat.add (lane q x) (lane q y)) (lane q z)) (lane q u)) (lane q v)) 4294967296 := by
  show lane q ((x + y + z + u + v) &&& maskOf n) = (lane q x + lane q y + lane q z + lane q u + lane q v) % 2 ^ 32
  have h2 := hx.low.add hy.low (by decide)
  have h3 := h2.add hz.low (by decide)
  have h4 := h3.add hu.low (by decide)
  rw [lane_mask _ _ _ hq, lane_add h4 hv.low (by decide), lane_add h3 hu.low (by decide), lane_add h2 hz.low (by decide), lane_add hx.low hy.low (by decide)]
  omega
set_option maxRecDepth 100000 in
theorem pL_lane (hq : q < n) {h e f g k w : Nat} (hh : Wf h) (he : Wf e) (hg : Wf g) (hk : Wf k) (hw : Wf w) : lane q (pL (maskOf n) h e f g k w) = pN (lane q h) (lane q e) (lane q f) (lane q g) (lane q k) (lane q w) := by
  unfold pL pN
  rw [add5_lane hq hh (bigEL_wf e) (chL_wf he hg) hk hw, bigEL_lane hq he, chL_lane hq]
set_option maxRecDepth 100000 in
theorem newWL_lane (hq : q < n) {w0 w1 w9 w14 : Nat} (h0 : Wf w0) (h1 : Wf w1) (h9 : Wf w9) (h14 : Wf w14) : lane q (newWL (maskOf n) w0 w1 w9 w14) = newW (lane q w0) (lane q w1) (lane q w9) (lane q w14) := by
  unfold newWL newW
  rw [add4_lane hq h0 (lowXL_wf w1) h9 (lowYL_wf w14), lowXL_lane hq h1, lowYL_lane hq h14]
set_option maxRecDepth 100000 in
theorem aL_lane (hq : q < n) {p a b c : Nat} (hp : Wf p) (ha : Wf a) (hb : Wf b) : lane q (aL (maskOf n) p a b c) = Nat.mod (Nat.add (lane q p) (Nat.add (bigA (lane q a)) (majN (lane q a) (lane q b) (lane q c)))) 4294967296 := by
  unfold aL
  rw [add3_lane hq hp (bigAL_wf a) (majL_wf ha hb), bigAL_lane hq ha, majL_lane]
set_option maxRecDepth 100000 in
theorem eL_lane (hq : q < n) {d p : Nat} (hd : Wf d) (hp : Wf p) : lane q (eL (maskOf n) d p) = Nat.mod (Nat.add (lane q d) (lane q p)) 4294967296 := add2_lane hq hd hp

/-- All the rounds that are left, in lanes. -/
noncomputable def loopL (M : Nat) (ks : List Nat) : Nat → Nat → Nat → Nat → Nat → Nat → Nat → Nat → Nat → Nat → Nat → Nat → Nat → Nat → Nat → Nat → Nat → Nat → Nat → Nat → Nat → Nat → Nat → Nat → List Nat :=
  List.rec (fun _ _ _ _ _ _ _ _ _ _ _ _ _ _ _ _ a b c d e f g h => [a, b, c, d, e, f, g, h])
    (fun k _ ih w0 w1 w2 w3 w4 w5 w6 w7 w8 w9 w10 w11 w12 w13 w14 w15 a b c d e f g h =>
      force (pL M h e f g k w0) fun p => force (aL M p a b c) fun a' => force (eL M d p) fun e' => force (newWL M w0 w1 w9 w14) fun w16 =>
        ih w1 w2 w3 w4 w5 w6 w7 w8 w9 w10 w11 w12 w13 w14 w15 w16 a' a b c e' e f g) ks
set_option maxRecDepth 100000 in
theorem loopL_cons (M : Nat) {k : Nat} {ks : List Nat} {w0 w1 w2 w3 w4 w5 w6 w7 w8 w9 w10 w11 w12 w13 w14 w15 a b c d e f g h : Nat} : loopL M (k :: ks) w0 w1 w2 w3 w4 w5 w6 w7 w8 w9 w10 w11 w12 w13 w14 w15 a b c d e f g h =
    loopL M ks w1 w2 w3 w4 w5 w6 w7 w8 w9 w10 w11 w12 w13 w14 w15 (newWL M w0 w1 w9 w14) (aL M (pL M h e f g k w0) a b c) a b c (eL M d (pL M h e f g k w0)) e f g := by
  unfold loopL
  simp only [force_eq]
set_option maxRecDepth 100000 in
theorem loopL_lane (hq : q < n) : ∀ (ks : List Nat) (_ : ∀ k ∈ ks, Wf k) (w0 w1 w2 w3 w4 w5 w6 w7 w8 w9 w10 w11 w12 w13 w14 w15 a b c d e f g h : Nat) (_ : Wf w0) (_ : Wf w1) (_ : Wf w2) (_ : Wf w3) (_ : Wf w4) (_ : Wf w5) (_ : Wf w6) (_ : Wf w7) (_ : Wf w8) (_ : Wf w9) (_ : Wf w10) (_ : Wf w11) (_ : Wf w12) (_ : Wf w13) (_ : Wf w14) (_ : Wf w15) (_ : Wf a) (_ : Wf b) (_ : Wf c) (_ : Wf d) (_ : Wf e) (_ : Wf f) (_ : Wf g) (_ : Wf h),
    (loopL (maskOf n) ks w0 w1 w2 w3 w4 w5 w6 w7 w8 w9 w10 w11 w12 w13 w14 w15 a b c d e f g h).map (lane q) = loopN (ks.map (lane q)) (lane q w0) (lane q w1) (lane q w2) (lane q w3) (lane q w4) (lane q w5) (lane q w6) (lane q w7) (lane q w8) (lane q w9) (lane q w10) (lane q w11) (lane q w12) (lane q w13) (lane q w14) (lane q w15) (lane q a) (lane q b) (lane q c) (lane q d) (lane q e) (lane q f) (lane q g) (lane q h)
  | [], _, w0, w1, w2, w3, w4, w5, w6, w7, w8, w9, w10, w11, w12, w13, w14, w15, a, b, c, d, e, f, g, h, _, _, _, _, _, _, _, _, _, _, _, _, _, _, _, _, _, _, _, _, _, _, _, _ => rfl
  | k :: ks, hks, w0, w1, w2, w3, w4, w5, w6, w7, w8, w9, w10, w11, w12, w13, w14, w15, a, b, c, d, e, f, g, h, Hw0, Hw1, Hw2, Hw3, Hw4, Hw5, Hw6, Hw7, Hw8, Hw9, Hw10, Hw11, Hw12, Hw13, Hw14, Hw15, Ha, Hb, Hc, Hd, He, Hf, Hg, Hh => by
    have hk := hks k (List.mem_cons_self ..)
    have hp : Wf (pL (maskOf n) h e f g k w0) := Wf.and' _ (wf_mask n)
    have hw : Wf (newWL (maskOf n) w0 w1 w9 w14) := Wf.and' _ (wf_mask n)
    have ha : Wf (aL (maskOf n) (pL (maskOf n) h e f g k w0) a b c) := Wf.and' _ (wf_mask n)
    have he : Wf (eL (maskOf n) d (pL (maskOf n) h e f g k w0)) := Wf.and' _ (wf_mask n)
    rw [loopL_cons, List.map_cons, loopN_cons, loopL_lane hq ks (fun x hx => hks x (List.mem_cons_of_mem _ hx)) w1 w2 w3 w4 w5 w6 w7 w8 w9 w10 w11 w12 w13 w14 w15 _ _ a b c _ e f g Hw1 Hw2 Hw3 Hw4 Hw5 Hw6 Hw7 Hw8 Hw9 Hw10 Hw11 Hw12 Hw13 Hw14 Hw15 hw ha Ha Hb Hc he He Hf Hg,
      newWL_lane hq Hw0 Hw1 Hw9 Hw14, aL_lane hq hp Ha Hb, eL_lane hq Hd hp, pL_lane hq Hh He Hg hk Hw0]
end Go.Proofs.YtojgmdagamdcfaaGreatDoor

namespace Go.Proofs.YtojgmdagamdcfaaGreatDoor
open Go.RowKit
variable {n q : Nat}

/-- One value in each of n lanes. -/
def rep : Nat → Nat → Nat
  | 0, _ => 0
  | n + 1, k => Nat.add (Nat.mul (rep n k) 18446744073709551616) k
set_option maxRecDepth 100000 in
theorem rep_bit (k : Nat) (hk : k < 2 ^ 64) : ∀ (n j : Nat), (rep n k).testBit j = (decide (j / 64 < n) && k.testBit (j % 64))
  | 0, j => by simp [rep]
  | n + 1, j => by
    show (rep n k * 2 ^ 64 + k).testBit j = _
    rw [Nat.mul_comm, Nat.testBit_two_pow_mul_add _ hk]
    by_cases h : j < 64
    · rw [if_pos h, show j / 64 = 0 by omega, Nat.mod_eq_of_lt h]
      simp
    · rw [if_neg h, rep_bit k hk n (j - 64)]
      have e1 : (j - 64) % 64 = j % 64 := by omega
      have e2 : (j - 64) / 64 < n ↔ j / 64 < n + 1 := by omega
      rw [e1]
      simp only [e2]
set_option maxRecDepth 100000 in
theorem rep_lane (hq : q < n) {k : Nat} (hk : k < 2 ^ 32) : lane q (rep n k) = k := by
  apply Nat.eq_of_testBit_eq
  intro j
  rw [lane_bit, rep_bit k (Nat.lt_of_lt_of_le hk (by decide))]
  by_cases h : j < 32
  · have e1 : (64 * q + j) / 64 = q := by omega
    have e2 : (64 * q + j) % 64 = j := by omega
    simp [h, e1, e2, hq]
  · have : k.testBit j = false := Nat.testBit_lt_two_pow (Nat.lt_of_lt_of_le hk (Nat.pow_le_pow_right (by decide) (by omega)))
    simp [h, this]
/-- Of each 64 bits the lowest m are used. -/
def WfN (m x : Nat) : Prop := ∀ j, m ≤ j % 64 → x.testBit j = false
set_option maxRecDepth 100000 in
theorem WfN.wf {m x : Nat} (h : WfN m x) (hm : m ≤ 32) : Wf x := fun j hj => h j (by omega)
set_option maxRecDepth 100000 in
theorem Wf.wfN {x : Nat} (h : Wf x) : WfN 32 x := h
set_option maxRecDepth 100000 in
theorem rep_wfN {m k : Nat} (n : Nat) (hm : m ≤ 32) (hk : k < 2 ^ m) : WfN m (rep n k) := fun j hj => by
  rw [rep_bit k (Nat.lt_of_lt_of_le hk (Nat.pow_le_pow_right (by decide) (by omega))), Nat.testBit_lt_two_pow (Nat.lt_of_lt_of_le hk (Nat.pow_le_pow_right (by decide) hj)), Bool.and_false]
set_option maxRecDepth 100000 in
theorem WfN.lane_lt {m x : Nat} (h : WfN m x) (q : Nat) : lane q x < 2 ^ m := by
  apply Nat.lt_pow_two_of_testBit
  intro j hj
  rw [lane_bit]
  by_cases h1 : j < 32
  · rw [h _ (by omega), Bool.and_false]
  · simp [h1]
set_option maxRecDepth 100000 in
theorem lane_put {m x y : Nat} (hm : m ≤ 24) (hx : WfN m x) (hy : WfN 8 y) : WfN (m + 8) (Nat.lor (Nat.shiftLeft x 8) y) ∧ ∀ q, lane q (Nat.lor (Nat.shiftLeft x 8) y) = lane q x * 256 + lane q y := by
  refine ⟨fun j hj => ?_, fun q => ?_⟩
  · show ((x <<< 8) ||| y).testBit j = false
    rw [Nat.testBit_or, Nat.testBit_shiftLeft, hy j (by omega), Bool.or_false]
    by_cases h : 8 ≤ j
    · rw [hx _ (by omega), Bool.and_false]
    · simp [h]
  · show lane q ((x <<< 8) ||| y) = _
    have h1 := hx.lane_lt q
    have h2 := hy.lane_lt q
    have h3 : (2 : Nat) ^ m ≤ 2 ^ 24 := Nat.pow_le_pow_right (by decide) hm
    rw [lane_or, lane_shl (hx.wf (by omega)) 8 (by decide), Nat.shiftLeft_eq, Nat.mod_eq_of_lt (by omega), ← Nat.shiftLeft_eq, ← Nat.shiftLeft_add_eq_or_of_lt h2, Nat.shiftLeft_eq]

noncomputable def wordsL : List Nat → List Nat
  | a :: b :: c :: d :: r => force (Nat.lor (Nat.shiftLeft (Nat.lor (Nat.shiftLeft (Nat.lor (Nat.shiftLeft a 8) b) 8) c) 8) d) fun x => x :: wordsL r
  | _ => []
set_option maxRecDepth 100000 in
theorem wordsL_lane (q : Nat) : ∀ l : List Nat, (∀ x ∈ l, WfN 8 x) → (wordsL l).map (lane q) = wordsOf (l.map (lane q)) ∧ ∀ x ∈ wordsL l, Wf x
  | a :: b :: c :: d :: r, h => by
    obtain ⟨i1, i2⟩ := wordsL_lane q r (fun x hx => h x (by simp [hx]))
    have h1 := lane_put (m := 8) (by decide) (h a (by simp)) (h b (by simp))
    have h2 := lane_put (by decide) h1.1 (h c (by simp))
    have h3 := lane_put (by decide) h2.1 (h d (by simp))
    simp only [wordsL, force_eq, List.map_cons, wordsOf]
    refine ⟨?_, fun x hx => ?_⟩
    · rw [i1, h3.2, h2.2, h1.2]
      rfl
    · rcases List.mem_cons.1 hx with rfl | hx
      · exact h3.1.wf (by decide)
      · exact i2 x hx
  | [], _ => ⟨rfl, fun x hx => by cases hx⟩
  | [_], _ => ⟨rfl, fun x hx => by cases hx⟩
  | [_, _], _ => ⟨rfl, fun x hx => by cases hx⟩
  | [_, _, _], _ => ⟨rfl, fun x hx => by cases hx⟩
def bytesL (M8 : Nat) : List Nat → List Nat
  | [] => []
  | x :: r => Nat.land (Nat.shiftRight x 24) M8 :: Nat.land (Nat.shiftRight x 16) M8 :: Nat.land (Nat.shiftRight x 8) M8 :: Nat.land x M8 :: bytesL M8 r
set_option maxRecDepth 100000 in
theorem byte_lane (hq : q < n) {x : Nat} (h : Wf x) (k : Nat) (hk : k ≤ 32) : lane q (Nat.land (Nat.shiftRight x k) (rep n 255)) = Nat.mod (Nat.div (lane q x) (2 ^ k)) 256 := by
  show lane q ((x >>> k) &&& rep n 255) = lane q x / 2 ^ k % 256
  rw [lane_and, rep_lane hq (by decide), lane_shr h k hk, Nat.shiftRight_eq_div_pow]
  exact Nat.and_two_pow_sub_one_eq_mod _ 8
set_option maxRecDepth 100000 in
theorem bytesL_lane (hq : q < n) : ∀ l : List Nat, (∀ x ∈ l, Wf x) → (bytesL (rep n 255) l).map (lane q) = bytesN (l.map (lane q)) ∧ ∀ x ∈ bytesL (rep n 255) l, WfN 8 x
  | [], _ => ⟨rfl, fun x hx => by cases hx⟩
  | x :: r, h => by
    obtain ⟨i1, i2⟩ := bytesL_lane hq r (fun y hy => h y (by simp [hy]))
    have hx := h x (by simp)
    have h0 := byte_lane hq hx 0 (by decide)
    have hm : ∀ y, WfN 8 (Nat.land y (rep n 255)) := fun y j hj => by
      show (y &&& rep n 255).testBit j = false
      rw [Nat.testBit_and, rep_wfN (m := 8) n (by decide) (by decide) j hj, Bool.and_false]
    refine ⟨?_, fun y hy => ?_⟩
    · show lane q _ :: lane q _ :: lane q _ :: lane q _ :: _ = _ :: _ :: _ :: _ :: _
      rw [byte_lane hq hx 24 (by decide), byte_lane hq hx 16 (by decide), byte_lane hq hx 8 (by decide), i1]
      have e : lane q (Nat.land x (rep n 255)) = Nat.mod (lane q x) 256 := by
        have h1 : Nat.shiftRight x 0 = x := rfl
        have h2 : Nat.div (lane q x) (2 ^ 0) = lane q x := Nat.div_one _
        rw [h1, h2] at h0
        exact h0
      rw [e]
    · simp only [bytesL, List.mem_cons] at hy
      rcases hy with rfl | rfl | rfl | rfl | hy
      · exact hm _
      · exact hm _
      · exact hm _
      · exact hm _
      · exact i2 y hy
noncomputable def addFL (M : Nat) : List Nat → List Nat → List Nat
  | x :: s, y :: t => force (Nat.land (Nat.add x y) M) fun z => z :: addFL M s t
  | _, _ => []
set_option maxRecDepth 100000 in
theorem addFL_lane (hq : q < n) : ∀ s t : List Nat, (∀ x ∈ s, Wf x) → (∀ x ∈ t, Wf x) → (addFL (maskOf n) s t).map (lane q) = addF (s.map (lane q)) (t.map (lane q)) ∧ ∀ x ∈ addFL (maskOf n) s t, Wf x
  | x :: s, y :: t, h, k => by
    obtain ⟨i1, i2⟩ := addFL_lane hq s t (fun z hz => h z (by simp [hz])) (fun z hz => k z (by simp [hz]))
    simp only [addFL, force_eq, List.map_cons, addF]
    refine ⟨by rw [i1, add2_lane hq (h x (by simp)) (k y (by simp))], fun z hz => ?_⟩
    rcases List.mem_cons.1 hz with rfl | hz
    · exact Wf.and' _ (wf_mask n)
    · exact i2 z hz
  | [], t, _, _ => ⟨by cases t <;> rfl, fun x hx => by cases t <;> cases hx⟩
  | _ :: _, [], _, _ => ⟨rfl, fun x hx => by cases hx⟩
end Go.Proofs.YtojgmdagamdcfaaGreatDoor

namespace Go.Proofs.YtojgmdagamdcfaaGreatDoor
open Go.RowKit
variable {n q : Nat}

set_option maxRecDepth 100000 in
theorem loopL_wf : ∀ (ks : List Nat) (w0 w1 w2 w3 w4 w5 w6 w7 w8 w9 w10 w11 w12 w13 w14 w15 a b c d e f g h : Nat) (_ : Wf a) (_ : Wf b) (_ : Wf c) (_ : Wf d) (_ : Wf e) (_ : Wf f) (_ : Wf g) (_ : Wf h), ∀ x ∈ loopL (maskOf n) ks w0 w1 w2 w3 w4 w5 w6 w7 w8 w9 w10 w11 w12 w13 w14 w15 a b c d e f g h, Wf x
  | [], w0, w1, w2, w3, w4, w5, w6, w7, w8, w9, w10, w11, w12, w13, w14, w15, a, b, c, d, e, f, g, h, Ha, Hb, Hc, Hd, He, Hf, Hg, Hh => fun x hx => by
    have hx' : x ∈ [a, b, c, d, e, f, g, h] := hx
    simp only [List.mem_cons, List.not_mem_nil, or_false] at hx'
    rcases hx' with rfl | rfl | rfl | rfl | rfl | rfl | rfl | rfl <;> assumption
  | k :: ks, w0, w1, w2, w3, w4, w5, w6, w7, w8, w9, w10, w11, w12, w13, w14, w15, a, b, c, d, e, f, g, h, Ha, Hb, Hc, _, He, Hf, Hg, _ => fun x hx => by
    rw [loopL_cons] at hx
    exact loopL_wf ks w1 w2 w3 w4 w5 w6 w7 w8 w9 w10 w11 w12 w13 w14 w15 _ _ a b c _ e f g (Wf.and' _ (wf_mask n)) Ha Hb Hc (Wf.and' _ (wf_mask n)) He Hf Hg x hx
/-- The state that a block makes of another one, in lanes. -/
noncomputable def blockL (M : Nat) (ks s ws : List Nat) : List Nat :=
  match s with
  | [a, b, c, d, e, f, g, h] => (match ws with
    | w0 :: w1 :: w2 :: w3 :: w4 :: w5 :: w6 :: w7 :: w8 :: w9 :: w10 :: w11 :: w12 :: w13 :: w14 :: w15 :: _ => addFL M [a, b, c, d, e, f, g, h] (loopL M ks w0 w1 w2 w3 w4 w5 w6 w7 w8 w9 w10 w11 w12 w13 w14 w15 a b c d e f g h)
    | _ => [])
  | _ => []
set_option maxRecDepth 100000 in
theorem blockL_lane (hq : q < n) (ks : List Nat) (hk : ∀ k ∈ ks, Wf k) (hr : ks.map (lane q) = rootsN) (s ws : List Nat) (hs : ∀ x ∈ s, Wf x) (hw : ∀ x ∈ ws, Wf x) :
    (blockL (maskOf n) ks s ws).map (lane q) = blockN (s.map (lane q)) (ws.map (lane q)) ∧ ∀ x ∈ blockL (maskOf n) ks s ws, Wf x := by
  by_cases h1 : s.length = 8
  · match s, h1 with
    | [a, b, c, d, e, f, g, h], _ =>
      by_cases h2 : 16 ≤ ws.length
      · match ws, h2 with
        | w0 :: w1 :: w2 :: w3 :: w4 :: w5 :: w6 :: w7 :: w8 :: w9 :: w10 :: w11 :: w12 :: w13 :: w14 :: w15 :: r, _ =>
          have hst : ∀ x, x ∈ [a, b, c, d, e, f, g, h] → Wf x := hs
          have W0 : ∀ x ∈ [w0, w1, w2, w3, w4, w5, w6, w7, w8, w9, w10, w11, w12, w13, w14, w15], Wf x := fun x hx => hw x (by
            simp only [List.mem_cons, List.not_mem_nil, or_false] at hx ⊢
            rcases hx with rfl | rfl | rfl | rfl | rfl | rfl | rfl | rfl | rfl | rfl | rfl | rfl | rfl | rfl | rfl | rfl <;> simp)
          have hl := loopL_lane hq ks hk w0 w1 w2 w3 w4 w5 w6 w7 w8 w9 w10 w11 w12 w13 w14 w15 a b c d e f g h (W0 w0 (by simp)) (W0 w1 (by simp)) (W0 w2 (by simp)) (W0 w3 (by simp)) (W0 w4 (by simp)) (W0 w5 (by simp)) (W0 w6 (by simp)) (W0 w7 (by simp)) (W0 w8 (by simp)) (W0 w9 (by simp)) (W0 w10 (by simp)) (W0 w11 (by simp)) (W0 w12 (by simp)) (W0 w13 (by simp)) (W0 w14 (by simp)) (W0 w15 (by simp)) (hst a (by simp)) (hst b (by simp)) (hst c (by simp)) (hst d (by simp)) (hst e (by simp)) (hst f (by simp)) (hst g (by simp)) (hst h (by simp))
          have hf := loopL_wf (n := n) ks w0 w1 w2 w3 w4 w5 w6 w7 w8 w9 w10 w11 w12 w13 w14 w15 a b c d e f g h (hst a (by simp)) (hst b (by simp)) (hst c (by simp)) (hst d (by simp)) (hst e (by simp)) (hst f (by simp)) (hst g (by simp)) (hst h (by simp))
          obtain ⟨i1, i2⟩ := addFL_lane hq [a, b, c, d, e, f, g, h] _ hst hf
          refine ⟨?_, i2⟩
          show (addFL (maskOf n) [a, b, c, d, e, f, g, h] (loopL (maskOf n) ks w0 w1 w2 w3 w4 w5 w6 w7 w8 w9 w10 w11 w12 w13 w14 w15 a b c d e f g h)).map (lane q) = _
          rw [i1, hl, hr]
          rfl
      · match ws, h2 with
        | [], _ => exact ⟨rfl, fun x hx => by cases hx⟩
        | [_], _ => exact ⟨rfl, fun x hx => by cases hx⟩
        | [_, _], _ => exact ⟨rfl, fun x hx => by cases hx⟩
        | [_, _, _], _ => exact ⟨rfl, fun x hx => by cases hx⟩
        | [_, _, _, _], _ => exact ⟨rfl, fun x hx => by cases hx⟩
        | [_, _, _, _, _], _ => exact ⟨rfl, fun x hx => by cases hx⟩
        | [_, _, _, _, _, _], _ => exact ⟨rfl, fun x hx => by cases hx⟩
        | [_, _, _, _, _, _, _], _ => exact ⟨rfl, fun x hx => by cases hx⟩
        | [_, _, _, _, _, _, _, _], _ => exact ⟨rfl, fun x hx => by cases hx⟩
        | [_, _, _, _, _, _, _, _, _], _ => exact ⟨rfl, fun x hx => by cases hx⟩
        | [_, _, _, _, _, _, _, _, _, _], _ => exact ⟨rfl, fun x hx => by cases hx⟩
        | [_, _, _, _, _, _, _, _, _, _, _], _ => exact ⟨rfl, fun x hx => by cases hx⟩
        | [_, _, _, _, _, _, _, _, _, _, _, _], _ => exact ⟨rfl, fun x hx => by cases hx⟩
        | [_, _, _, _, _, _, _, _, _, _, _, _, _], _ => exact ⟨rfl, fun x hx => by cases hx⟩
        | [_, _, _, _, _, _, _, _, _, _, _, _, _, _], _ => exact ⟨rfl, fun x hx => by cases hx⟩
        | [_, _, _, _, _, _, _, _, _, _, _, _, _, _, _], _ => exact ⟨rfl, fun x hx => by cases hx⟩
        | w0 :: w1 :: w2 :: w3 :: w4 :: w5 :: w6 :: w7 :: w8 :: w9 :: w10 :: w11 :: w12 :: w13 :: w14 :: w15 :: r, h2 => exact absurd (by simp) h2
  · match s, h1 with
    | [], _ => exact ⟨rfl, fun x hx => by cases hx⟩
    | [_], _ => exact ⟨rfl, fun x hx => by cases hx⟩
    | [_, _], _ => exact ⟨rfl, fun x hx => by cases hx⟩
    | [_, _, _], _ => exact ⟨rfl, fun x hx => by cases hx⟩
    | [_, _, _, _], _ => exact ⟨rfl, fun x hx => by cases hx⟩
    | [_, _, _, _, _], _ => exact ⟨rfl, fun x hx => by cases hx⟩
    | [_, _, _, _, _, _], _ => exact ⟨rfl, fun x hx => by cases hx⟩
    | [_, _, _, _, _, _, _], _ => exact ⟨rfl, fun x hx => by cases hx⟩
    | [_, _, _, _, _, _, _, _], h1 => exact absurd rfl h1
    | _ :: _ :: _ :: _ :: _ :: _ :: _ :: _ :: _ :: _, _ => exact ⟨rfl, fun x hx => by cases hx⟩
noncomputable def runL (M : Nat) (ks : List Nat) : Nat → List Nat → List Nat → List Nat
  | 0, _, s => s
  | m + 1, ws, s => runL M ks m (ws.drop 16) (blockL M ks s ws)
set_option maxRecDepth 100000 in
theorem runL_lane (hq : q < n) (ks : List Nat) (hk : ∀ k ∈ ks, Wf k) (hr : ks.map (lane q) = rootsN) : ∀ (m : Nat) (ws s : List Nat), (∀ x ∈ s, Wf x) → (∀ x ∈ ws, Wf x) →
    (runL (maskOf n) ks m ws s).map (lane q) = runN m (ws.map (lane q)) (s.map (lane q)) ∧ ∀ x ∈ runL (maskOf n) ks m ws s, Wf x
  | 0, _, _, hs, _ => ⟨rfl, hs⟩
  | m + 1, ws, s, hs, hw => by
    obtain ⟨i1, i2⟩ := blockL_lane hq ks hk hr s ws hs hw
    obtain ⟨j1, j2⟩ := runL_lane hq ks hk hr m (ws.drop 16) _ i2 (fun x hx => hw x (List.mem_of_mem_drop hx))
    refine ⟨?_, j2⟩
    show (runL (maskOf n) ks m (ws.drop 16) (blockL (maskOf n) ks s ws)).map (lane q) = runN m ((ws.map (lane q)).drop 16) (blockN (s.map (lane q)) (ws.map (lane q)))
    rw [j1, i1, List.map_drop]
/-- SHA-256 of packed bytes: ks the roots and s the first state, in each lane. -/
noncomputable def shaL (n : Nat) (ks s l : List Nat) : List Nat := bytesL (rep n 255) (runL (maskOf n) ks ((l ++ (padN l.length).map (rep n)).length / 64) (wordsL (l ++ (padN l.length).map (rep n))) s)
set_option maxRecDepth 100000 in
theorem padN_lt (m : Nat) : ∀ x ∈ padN m, x < 256 := by
  intro x hx
  unfold padN at hx
  simp only [List.mem_cons, List.mem_append, List.mem_replicate, List.not_mem_nil, or_false] at hx
  omega
set_option maxRecDepth 100000 in
theorem shaL_lane (hq : q < n) (ks s : List Nat) (hk : ∀ k ∈ ks, Wf k) (hr : ks.map (lane q) = rootsN) (hs : ∀ x ∈ s, Wf x) (hi : s.map (lane q) = initN) (l : List Nat) (hl : ∀ x ∈ l, WfN 8 x) :
    (shaL n ks s l).map (lane q) = shaN (l.map (lane q)) ∧ ∀ x ∈ shaL n ks s l, WfN 8 x := by
  have hp : ∀ x ∈ l ++ (padN l.length).map (rep n), WfN 8 x := fun x hx => by
    rcases List.mem_append.1 hx with hx | hx
    · exact hl x hx
    · obtain ⟨y, hy, rfl⟩ := List.mem_map.1 hx
      exact rep_wfN n (by decide) (padN_lt _ y hy)
  have he : (l ++ (padN l.length).map (rep n)).map (lane q) = l.map (lane q) ++ padN (l.map (lane q)).length := by
    rw [List.map_append, List.map_map, List.length_map]
    congr 1
    have hid : ∀ y ∈ padN l.length, (lane q ∘ rep n) y = id y := fun y hy => rep_lane hq (Nat.lt_of_lt_of_le (padN_lt _ y hy) (by decide))
    rw [List.map_congr_left hid, List.map_id]
  obtain ⟨w1, w2⟩ := wordsL_lane q _ hp
  obtain ⟨r1, r2⟩ := runL_lane hq ks hk hr ((l ++ (padN l.length).map (rep n)).length / 64) _ s hs w2
  obtain ⟨b1, b2⟩ := bytesL_lane hq _ r2
  refine ⟨?_, b2⟩
  show (bytesL (rep n 255) _).map (lane q) = _
  rw [b1, r1, w1, hi, he]
  unfold shaN
  rw [← he, List.length_map, he]
end Go.Proofs.YtojgmdagamdcfaaGreatDoor

namespace Go.Proofs.YtojgmdagamdcfaaGreatDoor
open Go.RowKit
variable {n q : Nat} {ks s : List Nat}

/-- What a lane of packed bytes reads as. -/
structure LaneOf (q : Nat) (l : List Nat) (x : List UInt8) : Prop where
  eq : l.map (lane q) = x.map UInt8.toNat
  wf : ∀ y ∈ l, WfN 8 y
structure LaneBase (n q : Nat) (ks s : List Nat) : Prop where
  lt : q < n
  wk : ∀ k ∈ ks, Wf k
  ek : ks.map (lane q) = rootsN
  ws : ∀ x ∈ s, Wf x
  es : s.map (lane q) = initN
set_option maxRecDepth 100000 in
theorem LaneOf.sha (b : LaneBase n q ks s) {l : List Nat} {x : List UInt8} (h : LaneOf q l x) : LaneOf q (shaL n ks s l) (shaOf x) := by
  obtain ⟨h1, h2⟩ := shaL_lane b.lt ks s b.wk b.ek b.ws b.es l h.wf
  exact ⟨by rw [h1, h.eq, shaN_eq], h2⟩
set_option maxRecDepth 100000 in
theorem LaneOf.app {l m : List Nat} {x y : List UInt8} (h : LaneOf q l x) (k : LaneOf q m y) : LaneOf q (l ++ m) (x ++ y) :=
  ⟨by rw [List.map_append, List.map_append, h.eq, k.eq], fun z hz => (List.mem_append.1 hz).elim (h.wf z) (k.wf z)⟩
def cst (n : Nat) (x : List UInt8) : List Nat := x.map fun b => rep n b.toNat
set_option maxRecDepth 100000 in
theorem LaneOf.cst (hq : q < n) (x : List UInt8) : LaneOf q (cst n x) x := by
  refine ⟨?_, fun y hy => ?_⟩
  · unfold Go.Proofs.YtojgmdagamdcfaaGreatDoor.cst
    rw [List.map_map]
    exact List.map_congr_left fun b _ => rep_lane hq (Nat.lt_of_lt_of_le b.toNat_lt (by decide))
  · obtain ⟨b, _, rfl⟩ := List.mem_map.1 hy
    exact rep_wfN n (by decide) b.toNat_lt
set_option maxRecDepth 100000 in
theorem LaneOf.flat {α : Type} (f : α → List Nat) (g : α → List UInt8) : ∀ r : List α, (∀ k ∈ r, LaneOf q (f k) (g k)) → LaneOf q (r.flatMap f) (r.flatMap g)
  | [], _ => ⟨rfl, fun y hy => by cases hy⟩
  | k :: r, h => by
    rw [List.flatMap_cons, List.flatMap_cons]
    exact (h k (List.mem_cons_self ..)).app (LaneOf.flat f g r fun x hx => h x (List.mem_cons_of_mem _ hx))
noncomputable def secL (n : Nat) (ks s seed : List Nat) (leaf : Int) (k : Nat) : List Nat := shaL n ks s (cst n [2] ++ (seed ++ (cst n (num8 leaf) ++ cst n (num8 k))))
noncomputable def pubL (n : Nat) (ks s seed : List Nat) (leaf : Int) : List Nat := shaL n ks s ((List.range 64).flatMap fun k => shaL n ks s (secL n ks s seed leaf k))
noncomputable def leafL (n : Nat) (ks s p : List Nat) : List Nat := shaL n ks s (cst n [0] ++ p)
noncomputable def pairL (n : Nat) (ks s a b : List Nat) : List Nat := shaL n ks s (cst n [1] ++ (a ++ b))
set_option maxRecDepth 100000 in
theorem LaneOf.sec (b : LaneBase n q ks s) {seed : List Nat} {x : List UInt8} (h : LaneOf q seed x) (leaf : Int) (k : Nat) : LaneOf q (secL n ks s seed leaf k) (secT x leaf k) :=
  LaneOf.sha b ((LaneOf.cst b.lt [2]).app (h.app ((LaneOf.cst b.lt _).app (LaneOf.cst b.lt _))))
set_option maxRecDepth 100000 in
theorem LaneOf.pub (b : LaneBase n q ks s) {seed : List Nat} {x : List UInt8} (h : LaneOf q seed x) (leaf : Int) : LaneOf q (pubL n ks s seed leaf) (pubT x leaf) :=
  LaneOf.sha b (LaneOf.flat _ _ _ fun k _ => LaneOf.sha b (h.sec b leaf k))
set_option maxRecDepth 100000 in
theorem LaneOf.leaf (b : LaneBase n q ks s) {l : List Nat} {x : List UInt8} (h : LaneOf q l x) : LaneOf q (leafL n ks s l) (leafT x) :=
  LaneOf.sha b ((LaneOf.cst b.lt [0]).app h)
set_option maxRecDepth 100000 in
theorem LaneOf.pair (b : LaneBase n q ks s) {l m : List Nat} {x y : List UInt8} (h : LaneOf q l x) (k : LaneOf q m y) : LaneOf q (pairL n ks s l m) (pT x y) :=
  LaneOf.sha b ((LaneOf.cst b.lt [1]).app (h.app k))
/-- The numbers c, c + 1, .. in n lanes. -/
def iotaL : Nat → Nat → Nat
  | 0, _ => 0
  | n + 1, c => Nat.add (Nat.mul (iotaL n (Nat.succ c)) 18446744073709551616) c
set_option maxRecDepth 100000 in
theorem iota_bit {n c : Nat} (hc : c < 2 ^ 64) (j : Nat) : (iotaL (n + 1) c).testBit j = if j < 64 then c.testBit j else (iotaL n (c + 1)).testBit (j - 64) := by
  show (iotaL n (c + 1) * 2 ^ 64 + c).testBit j = _
  rw [Nat.mul_comm, Nat.testBit_two_pow_mul_add _ hc]
set_option maxRecDepth 100000 in
theorem iota_wf : ∀ (n c : Nat), c + n ≤ 256 → WfN 8 (iotaL n c)
  | 0, c, _ => fun j _ => Nat.zero_testBit j
  | n + 1, c, h => fun j hj => by
    rw [iota_bit (by omega)]
    split
    · exact Nat.testBit_lt_two_pow (Nat.lt_of_lt_of_le (show c < 2 ^ 8 by omega) (Nat.pow_le_pow_right (by decide) (by omega)))
    · exact iota_wf n (c + 1) (by omega) _ (by omega)
set_option maxRecDepth 100000 in
theorem iota_lane : ∀ (n c q : Nat), c + n ≤ 256 → q < n → lane q (iotaL n c) = c + q
  | 0, _, _, _, h => by omega
  | n + 1, c, 0, h, _ => by
    apply Nat.eq_of_testBit_eq
    intro j
    rw [lane_bit, iota_bit (by omega)]
    by_cases h1 : j < 32
    · simp [h1, show j < 64 by omega]
    · have : c.testBit j = false := Nat.testBit_lt_two_pow (Nat.lt_of_lt_of_le (show c < 2 ^ 8 by omega) (Nat.pow_le_pow_right (by decide) (by omega)))
      simp [h1, this]
  | n + 1, c, q + 1, h, hq => by
    rw [show c + (q + 1) = c + 1 + q by omega, ← iota_lane n (c + 1) q (by omega) (by omega)]
    apply Nat.eq_of_testBit_eq
    intro j
    rw [lane_bit, lane_bit, iota_bit (by omega), if_neg (by omega), show 64 * (q + 1) + j - 64 = 64 * q + j by omega]
/-- The seeds that a script may name. -/
def seedsL (n : Nat) : List Nat := iotaL n 0 :: cst n (List.replicate 31 0)
set_option maxRecDepth 100000 in
theorem seeds_lane (hn : n ≤ 256) (b : UInt8) (hb : b.toNat < n) : LaneOf b.toNat (seedsL n) (b :: List.replicate 31 0) := by
  have h := LaneOf.cst hb (List.replicate 31 0)
  refine ⟨?_, fun y hy => ?_⟩
  · show lane b.toNat (iotaL n 0) :: (cst n (List.replicate 31 0)).map (lane b.toNat) = b.toNat :: (List.replicate 31 0).map UInt8.toNat
    rw [iota_lane n 0 b.toNat (by omega) hb, Nat.zero_add, h.eq]
  · rcases List.mem_cons.1 hy with rfl | hy
    · exact iota_wf n 0 (by omega)
    · exact h.wf y hy
end Go.Proofs.YtojgmdagamdcfaaGreatDoor

namespace Go.Proofs.YtojgmdagamdcfaaGreatDoor
open Go.RowKit

/-- f of l, each of its numbers being reckoned first. -/
noncomputable def forceL {α : Type} : List Nat → (List Nat → α) → α
  | [], f => f []
  | x :: r, f => force x fun y => forceL r fun t => f (y :: t)
set_option maxRecDepth 100000 in
theorem forceL_eq {α : Type} : ∀ (l : List Nat) (f : List Nat → α), forceL l f = f l
  | [], _ => rfl
  | x :: r, f => by rw [forceL, force_eq, forceL_eq r]
noncomputable def treesL (n : Nat) (F : List Nat → List Nat → List Nat → Bool) : Bool :=
  forceL (rootsN.map (rep n)) fun ks => forceL (initN.map (rep n)) fun s => forceL (seedsL n) fun sd =>
    forceL (leafL n ks s (pubL n ks s sd 0)) fun l0 => forceL (leafL n ks s (pubL n ks s sd 1)) fun l1 => forceL (leafL n ks s (pubL n ks s sd 2)) fun l2 => forceL (leafL n ks s (pubL n ks s sd 3)) fun l3 =>
      forceL (pairL n ks s l0 l1) fun r1 => forceL (pairL n ks s l2 l3) fun p2 => forceL (pairL n ks s r1 p2) fun r2 => F l0 r1 r2
set_option maxRecDepth 100000 in
theorem lane_base {n q : Nat} (hq : q < n) : LaneBase n q (rootsN.map (rep n)) (initN.map (rep n)) := by
  have hr : ∀ x ∈ rootsN, x < 2 ^ 32 := by decide
  have hi : ∀ x ∈ initN, x < 2 ^ 32 := by decide
  have h1 : ∀ l : List Nat, (∀ x ∈ l, x < 2 ^ 32) → (∀ k ∈ l.map (rep n), Wf k) ∧ (l.map (rep n)).map (lane q) = l := fun l hl => by
    refine ⟨fun k hk => ?_, ?_⟩
    · obtain ⟨x, hx, rfl⟩ := List.mem_map.1 hk
      exact (rep_wfN n (Nat.le_refl _) (hl x hx)).wf (Nat.le_refl _)
    · rw [List.map_map]
      have h : ∀ y ∈ l, (lane q ∘ rep n) y = id y := fun y hy => rep_lane hq (hl y hy)
      rw [List.map_congr_left h, List.map_id]
  exact ⟨hq, (h1 _ hr).1, (h1 _ hr).2, (h1 _ hi).1, (h1 _ hi).2⟩
set_option maxRecDepth 100000 in
theorem root_one (a : List UInt8) : rootT [a] = a := by
  unfold rootT
  rw [top_one pT _ (by simp)]
  rfl
set_option maxRecDepth 100000 in
theorem root_two (a b : List UInt8) : rootT [a, b] = pT a b := by
  unfold rootT
  rw [top_up pT _ (by simp)]
  exact root_one (pT a b)
set_option maxRecDepth 100000 in
theorem root_four (a b c d : List UInt8) : rootT [a, b, c, d] = pT (pT a b) (pT c d) := by
  unfold rootT
  rw [top_up pT _ (by simp)]
  exact root_two (pT a b) (pT c d)
set_option maxRecDepth 100000 in
/-- What is reckoned holds of the trees' roots: of heights 0, 1, 2, in each lane. -/
theorem trees_lane (n : Nat) (hn : n ≤ 256) (F : List Nat → List Nat → List Nat → Bool) (h : treesL n F = true) : ∃ R0 R1 R2 : List Nat, F R0 R1 R2 = true ∧ ∀ b : UInt8, b.toNat < n →
    LaneOf b.toNat R0 (keyT (b :: List.replicate 31 0) 0) ∧ LaneOf b.toNat R1 (keyT (b :: List.replicate 31 0) 1) ∧ LaneOf b.toNat R2 (keyT (b :: List.replicate 31 0) 2) := by
  unfold treesL at h
  simp only [forceL_eq] at h
  refine ⟨_, _, _, h, fun b hb => ?_⟩
  have hB := lane_base hb
  have hs := seeds_lane hn b hb
  have l0 := (hs.pub hB 0).leaf hB
  have l1 := (hs.pub hB 1).leaf hB
  have l2 := (hs.pub hB 2).leaf hB
  have l3 := (hs.pub hB 3).leaf hB
  have e0 : keyT (b :: List.replicate 31 0) 0 = leafT (pubT (b :: List.replicate 31 0) 0) := root_one _
  have e1 : keyT (b :: List.replicate 31 0) 1 = pT (leafT (pubT (b :: List.replicate 31 0) 0)) (leafT (pubT (b :: List.replicate 31 0) 1)) := root_two _ _
  have e2 : keyT (b :: List.replicate 31 0) 2 = pT (pT (leafT (pubT (b :: List.replicate 31 0) 0)) (leafT (pubT (b :: List.replicate 31 0) 1))) (pT (leafT (pubT (b :: List.replicate 31 0) 2)) (leafT (pubT (b :: List.replicate 31 0) 3))) := root_four _ _ _ _
  rw [e0, e1, e2]
  exact ⟨l0, l0.pair hB l1, (l0.pair hB l1).pair hB (l2.pair hB l3)⟩
end Go.Proofs.YtojgmdagamdcfaaGreatDoor

namespace Go.Proofs.YtojgmdagamdcfaaGreatDoor
open Go.RowKit

def firstT0 : List Nat := [3327465945, 4195327024, 3354290305, 1584293766, 2675319973, 197601599, 1114232328, 3352106609, 4082756876, 3687972306, 3265263301, 1432444805, 574662543, 2426564913, 3737508196, 2148402704,
  2222311147, 3218040269, 3335037635, 3026486739, 4230999692, 3015200572, 2607570505, 3697343533, 3041608530, 4031042677, 895847429, 2177066128, 819467422, 4035039166, 2687241959, 528053822,
  3423551770, 2727043499, 2783809765, 3739094144, 3887564968, 1782216505, 2411071970, 1035879049, 3718012319, 4050026080, 1895560409, 3250212107, 2326485749, 1419478440, 981505203, 1855999872,
  270433858, 4800319, 2531204705, 3517071633, 220925599, 3429849801, 1953720438, 933100377, 3671872533, 2857832419, 3043969394, 728538394, 2130147574, 3924868727, 3297212397, 4076378765,
  1416467289, 58168169, 289364597, 2485106745, 1300619934, 4178995209, 4133973956, 1409441854, 1520111098, 1609668975, 1935083987, 123117274, 3975782577, 2206743096, 1414496723, 3392684983,
  2243439568, 3679711312, 2346867499, 3879820253, 1465142541, 558350466, 550586001, 1938364745, 2887621086, 2994563835, 4090685199, 3361428917, 2120162768, 795254569, 2169475409, 2683583548,
  2407137821, 4129487022, 1331770896, 1624585816, 54742758, 3207753824, 2723297523, 1812956197, 833476308, 1397771119, 1464836411, 786462059, 2936916940, 3125177532, 3475689069, 2612156200,
  4043638614, 1007494233, 3180874161, 2012284495, 2424301343, 4067718435, 3418681326, 238912501, 3497619658, 3413864115, 849859236, 3127804663, 744445657, 1541486719, 1616396965, 1326739826,
  685082401, 3932174735, 3722748686, 1096801388, 4198821376, 1506034436, 2936178224, 1290838182, 57172124, 1898748879, 1354924170, 870983309, 1820370162, 1198456130, 2724487427, 61519403,
  1620915137, 2160378755, 1361051886, 1691591822, 211714648, 12652043, 2286817299, 1508794340, 140748355, 1553607815, 2675143737, 3973776835, 354303199, 15948524, 4136804694, 3421881027,
  253922933, 1619512340, 1256273473, 4029458498, 3202425411, 507822036, 2336148826, 731782778, 409751050, 2072851870, 1498153680, 2968535419, 4276850892, 933671078, 166927538, 1097691802,
  2740752469, 1659675041, 184903395, 2265192967, 841274964, 1481015845, 1882984834, 2372773923, 4225597315, 3601369564, 1483739081, 1465666191, 2840179582, 2410061149, 1963982957, 2146040750,
  4018150736, 2089533207, 3924427660, 1866506794, 2982910216, 692477730, 1672191520, 1117066509, 1190465483, 2661863242, 3093426464, 3971249799, 197983914, 3861177038, 1052607266, 3733939814,
  4173238418, 3880472459, 828251111, 522594775, 3615098043, 3193221356, 2685266574, 2305488990, 2918075007, 47866983, 607489371, 2205708704, 2229199758, 835967974, 3504250981, 2805235011,
  263524963, 861584817, 104140400, 3820205265, 3883108113, 1730811022, 3376603301, 2312406246, 3933585458, 2314403415, 2571114074, 3288654220, 441490992, 2672951701, 4058648507, 3487569205,
  2832458499, 4231935994, 3472325617, 2289154764, 3156786473, 2372552313, 2681743363, 2256927211, 531342687, 2124094478, 1692577423, 3910253661, 730560636, 617293942, 3091512110, 788240190]
def firstT1 : List Nat := [3394418017, 4225801609, 2078348591, 1071520146, 4180245571, 824678922, 3958986807, 2354240106, 4224813175, 1179451620, 314292964, 1124111070, 497695521, 3612290897, 3895877316, 8404724,
  905533462, 2075818374, 429190944, 2587337406, 2278027637, 1605603354, 3866009332, 3619674996, 1018467246, 1753442396, 1365697937, 3496348834, 2934074388, 2585151916, 1087309954, 4047207293,
  2011721775, 4252678213, 595357707, 841969779, 4073966048, 2952728381, 2913304416, 3861017117, 471019362, 1502058645, 1251001391, 555709098, 66123265, 2475150785, 3235702156, 2658650032,
  2833678113, 1696471103, 3451588357, 1616859820, 1634135406, 2968428500, 2527742550, 711426731, 3860682732, 3818212999, 2929229662, 1110396792, 3719482822, 1986216181, 205277142, 27981501,
  2592461712, 1014368505, 2463937228, 1024244399, 1787566028, 1899158100, 302400218, 2149939255, 2791839091, 212509853, 1259983777, 90129337, 1780910640, 2919346795, 2376548627, 2163541467,
  50053282, 1726449067, 2934806696, 662411728, 2913243617, 1439640009, 334012674, 3639729422, 3417466924, 4091777455, 3289106127, 369676959, 265282422, 2703345561, 3744177298, 3815860932,
  911102412, 2278645311, 4128651135, 3662503842, 4109418626, 3193839735, 2397926445, 1232160500, 2206893914, 2814197245, 4158647327, 4167969305, 445397166, 562561700, 1608795766, 2716375427,
  4215330442, 3639758752, 1543277169, 2185589981, 4018527601, 4116930225, 1406953806, 3727060448, 2957293096, 2848083733, 2479609623, 791826328, 755688205, 112272148, 959447490, 825261145,
  1698206820, 2840166700, 502163388, 4024479644, 3603631759, 1362199971, 3465441393, 4203196079, 2232723429, 4098355083, 2002509272, 426740837, 3137510134, 939656916, 3077606591, 4264391912,
  1698616484, 3011413850, 2809152690, 4205120344, 2539425234, 3530116847, 1137592728, 1173695184, 564609524, 3606296949, 975889916, 3798125417, 1680809418, 1832581181, 3964895538, 1909998571,
  2432117873, 821644626, 2879246798, 1237165074, 178113873, 1028031439, 3239751140, 3962568249, 3473811538, 3763216661, 1641188876, 3350291062, 229100452, 2958405325, 3934533740, 3042371416,
  582750134, 716239739, 2792088208, 3592567687, 1226207013, 246051131, 1381576529, 2537329246, 3687325048, 355000255, 909897126, 3950297777, 3859928972, 3163138563, 2620176931, 2445080659,
  1748191291, 156122541, 1271642049, 1896009941, 2050954906, 1808740967, 2100634266, 1627549719, 3604448022, 2466860609, 2135159717, 97890707, 2180488193, 191148972, 120986191, 3352309106,
  2060214353, 620462652, 3406616602, 217389903, 586887177, 1699737951, 3852552232, 644812125, 2171578795, 1149679990, 4044168055, 235837406, 2786833245, 3952617590, 3865946005, 694352218,
  2847957377, 2765120808, 3282649907, 1155522620, 2022688023, 2929421338, 3410078114, 2050751840, 1151351257, 2387821077, 70711777, 2774782230, 4109083041, 3027736177, 3802573587, 373021114,
  3668658170, 2692068293, 587643826, 306636570, 1027291404, 4257884723, 686008980, 4070301494, 1478518959, 3896863971, 654161571, 1444832379, 2061871791, 727915551, 1548460897, 2291821108]
def firstT2 : List Nat := [228483949, 2122658344, 2429441544, 4285201171, 2161358095, 2750348381, 3297182478, 95304738, 639279833, 3167476583, 2242440480, 3314905391, 2239144248, 2339472428, 622178496, 713137216,
  4249003511, 1330533102, 2464117893, 1588678962, 707269930, 350380629, 4101661188, 2682270856, 2753013744, 4133513778, 1806378953, 2114208117, 910478224, 605291923, 1968660491, 1109444419,
  1917687709, 2921854295, 3478621333, 1509796680, 3098046702, 2466630525, 4178557653, 410848874, 3538181714, 3206067473, 3916833558, 2533233511, 102636351, 1189109291, 3352127461, 1941782349,
  3648974480, 1180003032, 1525815272, 1624463786, 2276447466, 346746542, 2075859907, 2474576782, 2365770424, 3381804367, 3633624659, 1688228005, 1914018034, 4220827242, 1649076630, 252629978,
  2251466402, 1694302243, 2008182403, 3116602351, 2064470712, 1965371063, 1694965953, 2276200818, 1338873624, 3446512608, 4265583939, 2465561358, 2070255761, 1178824878, 3797546374, 2664615784,
  1388636327, 1634807642, 4166909212, 282186573, 2108011278, 2144502041, 3111750840, 1500408158, 3708012733, 2226945381, 4176187260, 129506711, 330698576, 3443160867, 144860883, 2754303017,
  333213536, 3270270765, 2264691745, 959989189, 1130486775, 3347691977, 471834142, 2715167352, 3737238844, 3841901372, 713525168, 3605187693, 2588677418, 396994175, 780093804, 1141848579,
  2105671316, 794374003, 2114638723, 1662584456, 2194139217, 1320554647, 702173863, 1915490925, 828502989, 4169990601, 3728652150, 1532360851, 2870141428, 1489533416, 1406593759, 223658606,
  7174706, 2046546646, 2814561204, 895197446, 3046170232, 2593539282, 1138232365, 235425388, 1871990127, 1347294364, 3860594622, 2679868955, 1932861492, 3063504304, 1623702270, 461166583,
  3435217061, 277104323, 1830726118, 93281039, 776448790, 705940167, 1519590196, 388075636, 3775964125, 1850011594, 84932195, 1952652186, 3563426068, 741402467, 3780210317, 3415093831,
  2015044471, 279943093, 2364010444, 2407038400, 4274817719, 896512512, 1790499344, 4187736285, 1098807816, 1134809330, 1786736211, 1050368661, 2543089434, 572391533, 1550464538, 638084078,
  1579911308, 3829334359, 3162334712, 578118737, 2760996684, 2935467995, 2532739457, 3656257654, 4261419006, 3787381683, 1823530168, 1160395484, 1780863322, 4187594214, 3750664182, 3355056443,
  3298899455, 3630335638, 4284946276, 3934807482, 2190743851, 2689329201, 2679789688, 2525899616, 3264328283, 1185152868, 4070445648, 2406190936, 1301415646, 3495286574, 3181741016, 73116408,
  1744585493, 2048674809, 1022022074, 1744956167, 293684294, 707580180, 313183110, 2532895884, 2332791831, 124640848, 2430521033, 3174153378, 152846608, 1344140207, 2193954878, 2857380856,
  1087641397, 1444368155, 362920543, 1271410821, 2284368153, 575310272, 369392228, 1304356601, 926143464, 1875538971, 947722482, 3998039685, 2383144866, 711248137, 181741804, 1110105105,
  1732077863, 2987695023, 4210501792, 3354510508, 4242658630, 2699228431, 2212492779, 3228468587, 759998254, 2213417261, 2743902280, 3906856497, 684441758, 4069361352, 431493530, 2598480730]

def num4 (l : List Nat) : Nat := ((l.getD 0 0 * 256 + l.getD 1 0) * 256 + l.getD 2 0) * 256 + l.getD 3 0
/-- The seeds from c on. -/
def seedsG (n c : Nat) : List Nat := iotaL n c :: cst n (List.replicate 31 0)
set_option maxRecDepth 100000 in
theorem seedsG_lane {n c q : Nat} (hn : c + n ≤ 256) (hq : q < n) (b : UInt8) (hb : b.toNat = c + q) : LaneOf q (seedsG n c) (b :: List.replicate 31 0) := by
  have h := LaneOf.cst hq (List.replicate 31 0)
  refine ⟨?_, fun y hy => ?_⟩
  · show lane q (iotaL n c) :: (cst n (List.replicate 31 0)).map (lane q) = b.toNat :: (List.replicate 31 0).map UInt8.toNat
    rw [iota_lane n c q hn hq, hb, h.eq]
  · rcases List.mem_cons.1 hy with rfl | hy
    · exact iota_wf n c hn
    · exact h.wf y hy
noncomputable def treesG (n c : Nat) (F : List Nat → List Nat → List Nat → Bool) : Bool :=
  forceL (rootsN.map (rep n)) fun ks => forceL (initN.map (rep n)) fun s => forceL (seedsG n c) fun sd =>
    forceL (leafL n ks s (pubL n ks s sd 0)) fun l0 => forceL (leafL n ks s (pubL n ks s sd 1)) fun l1 => forceL (leafL n ks s (pubL n ks s sd 2)) fun l2 => forceL (leafL n ks s (pubL n ks s sd 3)) fun l3 =>
      forceL (pairL n ks s l0 l1) fun r1 => forceL (pairL n ks s l2 l3) fun p2 => forceL (pairL n ks s r1 p2) fun r2 => F l0 r1 r2
set_option maxRecDepth 100000 in
theorem treesG_lane (n c : Nat) (hn : c + n ≤ 256) (F : List Nat → List Nat → List Nat → Bool) (h : treesG n c F = true) : ∃ R0 R1 R2 : List Nat, F R0 R1 R2 = true ∧ ∀ (b : UInt8) (q : Nat), q < n → b.toNat = c + q →
    LaneOf q R0 (keyT (b :: List.replicate 31 0) 0) ∧ LaneOf q R1 (keyT (b :: List.replicate 31 0) 1) ∧ LaneOf q R2 (keyT (b :: List.replicate 31 0) 2) := by
  unfold treesG at h
  simp only [forceL_eq] at h
  refine ⟨_, _, _, h, fun b q hq hb => ?_⟩
  have hB := lane_base hq
  have hs := seedsG_lane hn hq b hb
  have l0 := (hs.pub hB 0).leaf hB
  have l1 := (hs.pub hB 1).leaf hB
  have l2 := (hs.pub hB 2).leaf hB
  have l3 := (hs.pub hB 3).leaf hB
  have e0 : keyT (b :: List.replicate 31 0) 0 = leafT (pubT (b :: List.replicate 31 0) 0) := root_one _
  have e1 : keyT (b :: List.replicate 31 0) 1 = pT (leafT (pubT (b :: List.replicate 31 0) 0)) (leafT (pubT (b :: List.replicate 31 0) 1)) := root_two _ _
  have e2 : keyT (b :: List.replicate 31 0) 2 = pT (pT (leafT (pubT (b :: List.replicate 31 0) 0)) (leafT (pubT (b :: List.replicate 31 0) 1))) (pT (leafT (pubT (b :: List.replicate 31 0) 2)) (leafT (pubT (b :: List.replicate 31 0) 3))) := root_four _ _ _ _
  rw [e0, e1, e2]
  exact ⟨l0, l0.pair hB l1, (l0.pair hB l1).pair hB (l2.pair hB l3)⟩
def first4 (q : Nat) (R : List Nat) : Nat := num4 [lane q (R.getD 0 0), lane q (R.getD 1 0), lane q (R.getD 2 0), lane q (R.getD 3 0)]
/-- What is asked of a group of lanes. -/
def askG (n c : Nat) (R0 R1 R2 : List Nat) : Bool := (List.range n).all fun q => Nat.beq (first4 q R0) (firstT0.getD (c + q) 0) && (Nat.beq (first4 q R1) (firstT1.getD (c + q) 0) && Nat.beq (first4 q R2) (firstT2.getD (c + q) 0))
def rootNum (x : List UInt8) : Nat := num4 (x.map UInt8.toNat)
set_option maxRecDepth 100000 in
theorem first4_lane {q : Nat} {R : List Nat} {x : List UInt8} (h : LaneOf q R x) : first4 q R = rootNum x := by
  unfold rootNum first4
  rw [← h.eq]
  have hl : ∀ i, (R.map (lane q)).getD i 0 = lane q (R.getD i 0) := fun i => by
    rw [List.getD_eq_getElem?_getD, List.getElem?_map, List.getD_eq_getElem?_getD]
    cases R[i]? with
    | none => simp [lane]
    | some v => rfl
  unfold num4
  simp only [hl]
  rfl
set_option maxRecDepth 100000 in
/-- What was reckoned says of the roots. -/
theorem group_says {n c : Nat} (hn : c + n ≤ 256) (h : treesG n c (askG n c) = true) (b : UInt8) (h1 : c ≤ b.toNat) (h2 : b.toNat < c + n) :
    rootNum (keyT (b :: List.replicate 31 0) 0) = firstT0.getD b.toNat 0 ∧ rootNum (keyT (b :: List.replicate 31 0) 1) = firstT1.getD b.toNat 0 ∧ rootNum (keyT (b :: List.replicate 31 0) 2) = firstT2.getD b.toNat 0 := by
  obtain ⟨R0, R1, R2, hF, hL⟩ := treesG_lane n c hn _ h
  obtain ⟨l0, l1, l2⟩ := hL b (b.toNat - c) (by omega) (by omega)
  unfold askG at hF
  rw [List.all_eq_true] at hF
  have hq := hF (b.toNat - c) (List.mem_range.2 (by omega))
  rw [show c + (b.toNat - c) = b.toNat from by omega] at hq
  simp only [Bool.and_eq_true] at hq
  rw [first4_lane l0, first4_lane l1, first4_lane l2] at hq
  exact ⟨Nat.eq_of_beq_eq_true hq.1, Nat.eq_of_beq_eq_true hq.2.1, Nat.eq_of_beq_eq_true hq.2.2⟩
end Go.Proofs.YtojgmdagamdcfaaGreatDoor
