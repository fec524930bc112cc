/-
  SHA-256 over natural numbers, made so that the kernel reckons it quickly; it is shaOf.
  One-time signatures on plain lists: secrets, the public half, a signature, under what it is right; two public halves that are not the same. No program, no memory.
-/
import Derived.Test.YtapdnoellleimaaDoorSA
namespace Go.Proofs.YtapdnoellleimaaDoor
open Go.RowKit

/-- f of n, n being reckoned first. -/
noncomputable def force {α : Type} (n : Nat) (f : Nat → α) : α := Nat.rec (f 0) (fun m _ => f (Nat.succ m)) n
theorem force_eq {α : Type} (n : Nat) (f : Nat → α) : force n f = f n := by cases n <;> rfl

def rotN (x k j : Nat) : Nat := Nat.lor (Nat.shiftRight x k) (Nat.mod (Nat.shiftLeft x j) 4294967296)
def bigE (e : Nat) : Nat := Nat.xor (Nat.xor (rotN e 6 26) (rotN e 11 21)) (rotN e 25 7)
def bigA (a : Nat) : Nat := Nat.xor (Nat.xor (rotN a 2 30) (rotN a 13 19)) (rotN a 22 10)
def chN (e f g : Nat) : Nat := Nat.xor (Nat.land e f) (Nat.land (Nat.sub 4294967295 e) g)
def majN (a b c : Nat) : Nat := Nat.xor (Nat.xor (Nat.land a b) (Nat.land a c)) (Nat.land b c)
def lowX (x : Nat) : Nat := Nat.xor (Nat.xor (rotN x 7 25) (rotN x 18 14)) (Nat.shiftRight x 3)
def lowY (y : Nat) : Nat := Nat.xor (Nat.xor (rotN y 17 15) (rotN y 19 13)) (Nat.shiftRight y 10)
def pN (h e f g k w : Nat) : Nat := Nat.mod (Nat.add (Nat.add (Nat.add (Nat.add h (bigE e)) (chN e f g)) k) w) 4294967296
def newW (w0 w1 w9 w14 : Nat) : Nat := Nat.mod (Nat.add (Nat.add (Nat.add w0 (lowX w1)) w9) (lowY w14)) 4294967296

/-- All the rounds that are left, k behind k. -/
noncomputable def loopN (ks : List Nat) : Nat → Nat → Nat → Nat → Nat → Nat → Nat → Nat → Nat → Nat → Nat → Nat → Nat → Nat → Nat → Nat → Nat → Nat → Nat → Nat → Nat → Nat → Nat → Nat → List Nat :=
  List.rec (fun _ _ _ _ _ _ _ _ _ _ _ _ _ _ _ _ a b c d e f g h => [a, b, c, d, e, f, g, h])
    (fun k _ ih w0 w1 w2 w3 w4 w5 w6 w7 w8 w9 w10 w11 w12 w13 w14 w15 a b c d e f g h =>
      force (pN h e f g k w0) fun p => force (Nat.mod (Nat.add p (Nat.add (bigA a) (majN a b c))) 4294967296) fun a' => force (Nat.mod (Nat.add d p) 4294967296) fun e' => force (newW w0 w1 w9 w14) fun w16 =>
        ih w1 w2 w3 w4 w5 w6 w7 w8 w9 w10 w11 w12 w13 w14 w15 w16 a' a b c e' e f g) ks
theorem loopN_nil {w0 w1 w2 w3 w4 w5 w6 w7 w8 w9 w10 w11 w12 w13 w14 w15 a b c d e f g h : Nat} : loopN [] w0 w1 w2 w3 w4 w5 w6 w7 w8 w9 w10 w11 w12 w13 w14 w15 a b c d e f g h = [a, b, c, d, e, f, g, h] := rfl
theorem loopN_cons {k : Nat} {ks : List Nat} {w0 w1 w2 w3 w4 w5 w6 w7 w8 w9 w10 w11 w12 w13 w14 w15 a b c d e f g h : Nat} : loopN (k :: ks) w0 w1 w2 w3 w4 w5 w6 w7 w8 w9 w10 w11 w12 w13 w14 w15 a b c d e f g h =
    loopN ks w1 w2 w3 w4 w5 w6 w7 w8 w9 w10 w11 w12 w13 w14 w15 (newW w0 w1 w9 w14) (Nat.mod (Nat.add (pN h e f g k w0) (Nat.add (bigA a) (majN a b c))) 4294967296) a b c (Nat.mod (Nat.add d (pN h e f g k w0)) 4294967296) e f g := by
  unfold loopN
  simp only [force_eq]
def rootsN : List Nat := [0x428a2f98, 0x71374491, 0xb5c0fbcf, 0xe9b5dba5, 0x3956c25b, 0x59f111f1, 0x923f82a4, 0xab1c5ed5,
  0xd807aa98, 0x12835b01, 0x243185be, 0x550c7dc3, 0x72be5d74, 0x80deb1fe, 0x9bdc06a7, 0xc19bf174,
  0xe49b69c1, 0xefbe4786, 0x0fc19dc6, 0x240ca1cc, 0x2de92c6f, 0x4a7484aa, 0x5cb0a9dc, 0x76f988da,
  0x983e5152, 0xa831c66d, 0xb00327c8, 0xbf597fc7, 0xc6e00bf3, 0xd5a79147, 0x06ca6351, 0x14292967,
  0x27b70a85, 0x2e1b2138, 0x4d2c6dfc, 0x53380d13, 0x650a7354, 0x766a0abb, 0x81c2c92e, 0x92722c85,
  0xa2bfe8a1, 0xa81a664b, 0xc24b8b70, 0xc76c51a3, 0xd192e819, 0xd6990624, 0xf40e3585, 0x106aa070,
  0x19a4c116, 0x1e376c08, 0x2748774c, 0x34b0bcb5, 0x391c0cb3, 0x4ed8aa4a, 0x5b9cca4f, 0x682e6ff3,
  0x748f82ee, 0x78a5636f, 0x84c87814, 0x8cc70208, 0x90befffa, 0xa4506ceb, 0xbef9a3f7, 0xc67178f2]
theorem rootsN_eq : rootsN = roots.map UInt32.toNat := by decide +kernel

theorem rotN_eq (x : UInt32) (k : Nat) : (rotr x k).toNat = rotN x.toNat k (32 - k) := by
  unfold rotr rotN
  have hx := x.toNat_lt
  have l1 : x.toNat >>> k < 2 ^ 32 := by
    rw [Nat.shiftRight_eq_div_pow]
    exact Nat.lt_of_le_of_lt (Nat.div_le_self _ _) hx
  have l2 : x.toNat <<< (32 - k) % 4294967296 < 2 ^ 32 := Nat.mod_lt _ (by decide)
  rw [UInt32.toNat_ofNat', Nat.mod_eq_of_lt (Nat.or_lt_two_pow l1 l2)]
  rfl
theorem shrN_eq (x : UInt32) (k : Nat) : (shr x k).toNat = Nat.shiftRight x.toNat k := by
  unfold shr
  rw [UInt32.toNat_ofNat', Nat.mod_eq_of_lt]
  · rfl
  · rw [Nat.shiftRight_eq_div_pow]
    exact Nat.lt_of_le_of_lt (Nat.div_le_self _ _) x.toNat_lt
theorem bigE_eq (e : UInt32) : (rotr e 6 ^^^ rotr e 11 ^^^ rotr e 25).toNat = bigE e.toNat := by
  rw [UInt32.toNat_xor, UInt32.toNat_xor, rotN_eq, rotN_eq, rotN_eq]
  rfl
theorem bigA_eq (e : UInt32) : (rotr e 2 ^^^ rotr e 13 ^^^ rotr e 22).toNat = bigA e.toNat := by
  rw [UInt32.toNat_xor, UInt32.toNat_xor, rotN_eq, rotN_eq, rotN_eq]
  rfl
theorem lowX_eq (e : UInt32) : (rotr e 7 ^^^ rotr e 18 ^^^ shr e 3).toNat = lowX e.toNat := by
  rw [UInt32.toNat_xor, UInt32.toNat_xor, rotN_eq, rotN_eq, shrN_eq]
  rfl
theorem lowY_eq (e : UInt32) : (rotr e 17 ^^^ rotr e 19 ^^^ shr e 10).toNat = lowY e.toNat := by
  rw [UInt32.toNat_xor, UInt32.toNat_xor, rotN_eq, rotN_eq, shrN_eq]
  rfl
theorem notN (e : UInt32) : (~~~e).toNat = Nat.sub 4294967295 e.toNat := by
  have h := wi_not e
  unfold wi at h
  have := e.toNat_lt
  show _ = 4294967295 - e.toNat
  omega
theorem chN_eq (e f g : UInt32) : ((e &&& f) ^^^ (~~~e &&& g)).toNat = chN e.toNat f.toNat g.toNat := by
  rw [UInt32.toNat_xor, UInt32.toNat_and, UInt32.toNat_and, notN]
  rfl
theorem majN_eq (a b c : UInt32) : ((a &&& b) ^^^ (a &&& c) ^^^ (b &&& c)).toNat = majN a.toNat b.toNat c.toNat := by
  rw [UInt32.toNat_xor, UInt32.toNat_xor, UInt32.toNat_and, UInt32.toNat_and, UInt32.toNat_and]
  rfl
theorem pN_eq (s : St) (k w : UInt32) : (s.p k w).toNat = pN s.h.toNat s.e.toNat s.f.toNat s.g.toNat k.toNat w.toNat := by
  unfold St.p pN
  rw [UInt32.toNat_add, UInt32.toNat_add, UInt32.toNat_add, UInt32.toNat_add, bigE_eq, chN_eq]
  show _ = (s.h.toNat + bigE s.e.toNat + chN s.e.toNat s.f.toNat s.g.toNat + k.toNat + w.toNat) % 4294967296
  omega
theorem aN_eq (s : St) (k w : UInt32) : (s.p k w + s.q).toNat = Nat.mod (Nat.add (pN s.h.toNat s.e.toNat s.f.toNat s.g.toNat k.toNat w.toNat) (Nat.add (bigA s.a.toNat) (majN s.a.toNat s.b.toNat s.c.toNat))) 4294967296 := by
  unfold St.q
  rw [UInt32.toNat_add, UInt32.toNat_add, pN_eq, bigA_eq, majN_eq]
  show _ = (pN _ _ _ _ _ _ + (bigA _ + majN _ _ _)) % 4294967296
  omega
theorem eN_eq (s : St) (k w : UInt32) : (s.d + s.p k w).toNat = Nat.mod (Nat.add s.d.toNat (pN s.h.toNat s.e.toNat s.f.toNat s.g.toNat k.toNat w.toNat)) 4294967296 := by
  rw [UInt32.toNat_add, pN_eq]
  rfl
theorem newW_eq (b : List UInt8) (n : Nat) : (wd b (n + 16)).toNat = newW (wd b n).toNat (wd b (n + 1)).toNat (wd b (n + 9)).toNat (wd b (n + 14)).toNat := by
  rw [wd_hi, UInt32.toNat_add, UInt32.toNat_add, UInt32.toNat_add, lowX_eq, lowY_eq]
  show _ = ((wd b n).toNat + lowX _ + (wd b (n + 9)).toNat + lowY _) % 4294967296
  omega
/-- A state's words as numbers. -/
def St.nats (s : St) : List Nat := [s.a.toNat, s.b.toNat, s.c.toNat, s.d.toNat, s.e.toNat, s.f.toNat, s.g.toNat, s.h.toNat]
theorem loopN_rnd (b : List UInt8) (s : St) : ∀ (n i : Nat), i + n = 64 →
    loopN ((roots.drop i).map UInt32.toNat) (wd b i).toNat (wd b (i + 1)).toNat (wd b (i + 2)).toNat (wd b (i + 3)).toNat (wd b (i + 4)).toNat (wd b (i + 5)).toNat (wd b (i + 6)).toNat (wd b (i + 7)).toNat (wd b (i + 8)).toNat (wd b (i + 9)).toNat (wd b (i + 10)).toNat (wd b (i + 11)).toNat (wd b (i + 12)).toNat (wd b (i + 13)).toNat (wd b (i + 14)).toNat (wd b (i + 15)).toNat (rnd b s i).a.toNat (rnd b s i).b.toNat (rnd b s i).c.toNat (rnd b s i).d.toNat (rnd b s i).e.toNat (rnd b s i).f.toNat (rnd b s i).g.toNat (rnd b s i).h.toNat = (rnd b s 64).nats
  | 0, i, h => by
    obtain rfl : i = 64 := by omega
    rfl
  | n + 1, i, h => by
    have hl : i < roots.length := by
      show i < 64
      omega
    rw [List.drop_eq_getElem_cons hl, List.map_cons, loopN_cons]
    have ih := loopN_rnd b s n (i + 1) (by omega)
    have hk : roots.getD i 0 = roots[i] := by
      rw [List.getD_eq_getElem?_getD, List.getElem?_eq_getElem hl]
      rfl
    rw [rnd, hk] at ih
    have e1 := aN_eq (rnd b s i) roots[i] (wd b i)
    have e2 := eN_eq (rnd b s i) roots[i] (wd b i)
    have e3 := newW_eq b i
    rw [← e1, ← e2, ← e3]
    exact ih

noncomputable def addF : List Nat → List Nat → List Nat
  | x :: s, y :: t => force (Nat.mod (Nat.add x y) 4294967296) fun z => z :: addF s t
  | _, _ => []
/-- The state that a block makes of another one: of its words, sixteen of them. -/
noncomputable def blockN (s ws : List Nat) : List Nat :=
  match s with
  | [a, b, c, d, e, f, g, h] => (match ws with
    | w0 :: w1 :: w2 :: w3 :: w4 :: w5 :: w6 :: w7 :: w8 :: w9 :: w10 :: w11 :: w12 :: w13 :: w14 :: w15 :: _ => addF [a, b, c, d, e, f, g, h] (loopN rootsN w0 w1 w2 w3 w4 w5 w6 w7 w8 w9 w10 w11 w12 w13 w14 w15 a b c d e f g h)
    | _ => [])
  | _ => []
noncomputable def wordsOf : List Nat → List Nat
  | a :: b :: c :: d :: r => force (Nat.add (Nat.mul (Nat.add (Nat.mul (Nat.add (Nat.mul a 256) b) 256) c) 256) d) fun x => x :: wordsOf r
  | _ => []
noncomputable def runN : Nat → List Nat → List Nat → List Nat
  | 0, _, s => s
  | n + 1, ws, s => runN n (ws.drop 16) (blockN s ws)
def bytesN : List Nat → List Nat
  | [] => []
  | x :: r => Nat.mod (Nat.div x 16777216) 256 :: Nat.mod (Nat.div x 65536) 256 :: Nat.mod (Nat.div x 256) 256 :: Nat.mod x 256 :: bytesN r
def padN (n : Nat) : List Nat := 128 :: (List.replicate ((119 - n % 64) % 64) 0 ++ [8 * n / 256 ^ 7 % 256, 8 * n / 256 ^ 6 % 256, 8 * n / 256 ^ 5 % 256, 8 * n / 256 ^ 4 % 256, 8 * n / 256 ^ 3 % 256, 8 * n / 256 ^ 2 % 256, 8 * n / 256 % 256, 8 * n % 256])
def initN : List Nat := [0x6a09e667, 0xbb67ae85, 0x3c6ef372, 0xa54ff53a, 0x510e527f, 0x9b05688c, 0x1f83d9ab, 0x5be0cd19]
/-- The digest's bytes, as numbers. -/
noncomputable def shaN (l : List Nat) : List Nat := bytesN (runN ((l ++ padN l.length).length / 64) (wordsOf (l ++ padN l.length)) initN)

theorem addF_nats (s t : St) : addF s.nats t.nats = (s.plus t).nats := by
  unfold St.nats St.plus
  simp only [addF, force_eq, UInt32.toNat_add]
  rfl
theorem blockN_mix (s : St) (blk : List UInt8) (rest : List Nat) : blockN s.nats ((wd blk 0).toNat :: (wd blk 1).toNat :: (wd blk 2).toNat :: (wd blk 3).toNat :: (wd blk 4).toNat :: (wd blk 5).toNat :: (wd blk 6).toNat :: (wd blk 7).toNat :: (wd blk 8).toNat :: (wd blk 9).toNat :: (wd blk 10).toNat :: (wd blk 11).toNat :: (wd blk 12).toNat :: (wd blk 13).toNat :: (wd blk 14).toNat :: (wd blk 15).toNat :: rest) = (mix s blk).nats := by
  have h := loopN_rnd blk s 64 0 rfl
  rw [List.drop_zero, ← rootsN_eq] at h
  unfold mix
  rw [← addF_nats, ← h]
  simp only [Nat.zero_add]
  rfl
theorem words_step (l : List UInt8) (j : Nat) (h : 4 * j + 4 ≤ l.length) : wordsOf ((l.drop (4 * j)).map UInt8.toNat) = (be32 (l.getD (4 * j) 0) (l.getD (4 * j + 1) 0) (l.getD (4 * j + 2) 0) (l.getD (4 * j + 3) 0)).toNat :: wordsOf ((l.drop (4 * (j + 1))).map UInt8.toNat) := by
  have g : ∀ k, k < l.length → l.getD k 0 = l[k]! := fun k hk => by
    rw [List.getD_eq_getElem?_getD, List.getElem?_eq_getElem hk, getElem!_pos l k hk]
    rfl
  have h0 : 4 * j < l.length := by omega
  have h1 : 4 * j + 1 < l.length := by omega
  have h2 : 4 * j + 2 < l.length := by omega
  have h3 : 4 * j + 3 < l.length := by omega
  have e : l.drop (4 * j) = l.getD (4 * j) 0 :: l.getD (4 * j + 1) 0 :: l.getD (4 * j + 2) 0 :: l.getD (4 * j + 3) 0 :: l.drop (4 * (j + 1)) := by
    rw [g _ h0, g _ h1, g _ h2, g _ h3, List.drop_eq_getElem_cons h0, List.drop_eq_getElem_cons h1, List.drop_eq_getElem_cons h2, List.drop_eq_getElem_cons h3, getElem!_pos l _ h0, getElem!_pos l _ h1, getElem!_pos l _ h2, getElem!_pos l _ h3]
    rfl
  rw [e]
  generalize l.getD (4 * j) 0 = b0
  generalize l.getD (4 * j + 1) 0 = b1
  generalize l.getD (4 * j + 2) 0 = b2
  generalize l.getD (4 * j + 3) 0 = b3
  simp only [List.map_cons, wordsOf, force_eq]
  congr 1
  have hb := wi_be32 b0 b1 b2 b3
  unfold wi at hb
  show ((b0.toNat * 256 + b1.toNat) * 256 + b2.toNat) * 256 + b3.toNat = _
  omega
theorem take_getD (l : List UInt8) (i : Nat) (h : i < 64) : (l.take 64).getD i 0 = l.getD i 0 := by
  rw [List.getD_eq_getElem?_getD, List.getD_eq_getElem?_getD, List.getElem?_take, if_pos h]
theorem words_block (l : List UInt8) (h : 64 ≤ l.length) : wordsOf (l.map UInt8.toNat) = (wd (l.take 64) 0).toNat :: (wd (l.take 64) 1).toNat :: (wd (l.take 64) 2).toNat :: (wd (l.take 64) 3).toNat :: (wd (l.take 64) 4).toNat :: (wd (l.take 64) 5).toNat :: (wd (l.take 64) 6).toNat :: (wd (l.take 64) 7).toNat :: (wd (l.take 64) 8).toNat :: (wd (l.take 64) 9).toNat :: (wd (l.take 64) 10).toNat :: (wd (l.take 64) 11).toNat :: (wd (l.take 64) 12).toNat :: (wd (l.take 64) 13).toNat :: (wd (l.take 64) 14).toNat :: (wd (l.take 64) 15).toNat :: wordsOf ((l.drop 64).map UInt8.toNat) := by
  have hw : ∀ j, j < 16 → (wd (l.take 64) j) = be32 (l.getD (4 * j) 0) (l.getD (4 * j + 1) 0) (l.getD (4 * j + 2) 0) (l.getD (4 * j + 3) 0) := fun j hj => by
    rw [wd_lo _ j hj, take_getD _ _ (by omega), take_getD _ _ (by omega), take_getD _ _ (by omega), take_getD _ _ (by omega)]
  rw [hw 0 (by decide), hw 1 (by decide), hw 2 (by decide), hw 3 (by decide), hw 4 (by decide), hw 5 (by decide), hw 6 (by decide), hw 7 (by decide), hw 8 (by decide), hw 9 (by decide), hw 10 (by decide), hw 11 (by decide), hw 12 (by decide), hw 13 (by decide), hw 14 (by decide), hw 15 (by decide)]
  have h0 := words_step l 0 (by omega)
  rw [Nat.mul_zero, List.drop_zero] at h0
  rw [h0, words_step l 1 (by omega), words_step l 2 (by omega), words_step l 3 (by omega), words_step l 4 (by omega), words_step l 5 (by omega), words_step l 6 (by omega), words_step l 7 (by omega), words_step l 8 (by omega), words_step l 9 (by omega), words_step l 10 (by omega), words_step l 11 (by omega), words_step l 12 (by omega), words_step l 13 (by omega), words_step l 14 (by omega), words_step l 15 (by omega)]
theorem words_drop (l : List UInt8) (h : 64 ≤ l.length) : (wordsOf (l.map UInt8.toNat)).drop 16 = wordsOf ((l.drop 64).map UInt8.toNat) := by
  rw [words_block l h]
  rfl
theorem runN_mixAll (l : List UInt8) : ∀ (n i : Nat), 64 * (i + n) ≤ l.length → runN n (wordsOf ((l.drop (64 * i)).map UInt8.toNat)) (mixAll st0 i l).nats = (mixAll st0 (i + n) l).nats
  | 0, i, _ => rfl
  | n + 1, i, h => by
    have hl : 64 ≤ (l.drop (64 * i)).length := by rw [List.length_drop]; omega
    have ih := runN_mixAll l n (i + 1) (by omega)
    rw [runN, words_drop _ hl, List.drop_drop, words_block _ hl, blockN_mix]
    rw [show 64 * i + 64 = 64 * (i + 1) by omega, show i + (n + 1) = i + 1 + n by omega]
    exact ih
theorem bytes_nats (s : St) : s.bytes.map UInt8.toNat = bytesN s.nats := by
  have hb : ∀ n : Nat, (beBytes 4 n).map UInt8.toNat = [n / 16777216 % 256, n / 65536 % 256, n / 256 % 256, n % 256] := fun n => by
    simp [beBytes]
  unfold St.bytes St.list wordBytes St.nats
  simp only [List.flatMap_cons, List.flatMap_nil, List.map_append, hb]
  rfl
theorem pad_nats (n : Nat) : (pad n).map UInt8.toNat = padN n := by
  have hb : ∀ n : Nat, (beBytes 8 n).map UInt8.toNat = [n / 256 ^ 7 % 256, n / 256 ^ 6 % 256, n / 256 ^ 5 % 256, n / 256 ^ 4 % 256, n / 256 ^ 3 % 256, n / 256 ^ 2 % 256, n / 256 % 256, n % 256] := fun n => by
    simp [beBytes]
  unfold pad padN
  rw [List.map_cons, List.map_append, hb, List.map_replicate]
  rfl
/-- It is SHA-256. -/
theorem shaN_eq (l : List UInt8) : (shaOf l).map UInt8.toNat = shaN (l.map UInt8.toNat) := by
  have hp : l.map UInt8.toNat ++ padN (l.map UInt8.toNat).length = (padded l).map UInt8.toNat := by
    unfold padded
    rw [List.map_append, pad_nats, List.length_map]
  have h := runN_mixAll (padded l) ((padded l).length / 64) 0 (by omega)
  rw [Nat.mul_zero, List.drop_zero, Nat.zero_add] at h
  unfold shaN shaOf
  rw [bytes_nats, hp, List.length_map, ← h]
  rfl
end Go.Proofs.YtapdnoellleimaaDoor

namespace Go.Proofs.YtapdnoellleimaaDoor
open Go.RowKit

def num8 (n : Int) : List UInt8 := beBytes 8 (n % 18446744073709551616).toNat
/-- The secret of a bit and what it is: k is twice the bit, and that. -/
def secT (seed : List UInt8) (leaf : Int) (k : Nat) : List UInt8 := shaOf (2 :: (seed ++ (num8 leaf ++ num8 k)))
def bitT (d : List UInt8) (i : Nat) : Nat := (d.getD (i / 8) 0).toNat / 2 ^ (7 - i % 8) % 2
theorem bitT_lt (d : List UInt8) (i : Nat) : bitT d i < 2 := Nat.mod_lt _ (by decide)
def pubT (seed : List UInt8) (leaf : Int) : List UInt8 := shaOf ((List.range 64).flatMap fun k => shaOf (secT seed leaf k))
def openT (seed : List UInt8) (leaf : Int) (d : List UInt8) : List (List UInt8) := (List.range 32).map fun i => secT seed leaf (2 * i + bitT d i)
def shutT (seed : List UInt8) (leaf : Int) (d : List UInt8) : List (List UInt8) := (List.range 32).map fun i => shaOf (secT seed leaf (2 * i + (1 - bitT d i)))
/-- A bit's two digests, that of 0 ahead. -/
def bothT (d : List UInt8) (op sh : List (List UInt8)) (i : Nat) : List UInt8 := if bitT d i = 0 then shaOf (op.getD i []) ++ sh.getD i [] else sh.getD i [] ++ shaOf (op.getD i [])
def ofT (d : List UInt8) (op sh : List (List UInt8)) : List UInt8 := shaOf ((List.range 32).flatMap (bothT d op sh))

theorem range_pairs {α : Type} (f : Nat → List α) : ∀ n, (List.range (2 * n)).flatMap f = (List.range n).flatMap fun i => f (2 * i) ++ f (2 * i + 1)
  | 0 => rfl
  | n + 1 => by
    rw [show 2 * (n + 1) = 2 * n + 1 + 1 from by omega, List.range_succ, List.range_succ, List.range_succ, List.flatMap_append, List.flatMap_append, List.flatMap_append, range_pairs f n]
    simp
theorem flatMap_same {α β : Type} {f g : α → List β} : ∀ {l : List α}, (∀ x ∈ l, f x = g x) → l.flatMap f = l.flatMap g
  | [], _ => rfl
  | x :: l, h => by
    rw [List.flatMap_cons, List.flatMap_cons, h x (List.mem_cons_self ..), flatMap_same fun y hy => h y (List.mem_cons_of_mem _ hy)]
/-- A signature is right under the public half of its seed and leaf. -/
theorem of_sign (seed : List UInt8) (leaf : Int) (d : List UInt8) : ofT d (openT seed leaf d) (shutT seed leaf d) = pubT seed leaf := by
  unfold ofT pubT
  rw [show (64 : Nat) = 2 * 32 from rfl, range_pairs]
  congr 1
  refine flatMap_same fun i hi => ?_
  have h32 : i < 32 := List.mem_range.1 hi
  have e1 : (openT seed leaf d).getD i [] = secT seed leaf (2 * i + bitT d i) := by
    unfold openT
    rw [List.getD_eq_getElem?_getD, List.getElem?_map, List.getElem?_range h32]
    rfl
  have e2 : (shutT seed leaf d).getD i [] = shaOf (secT seed leaf (2 * i + (1 - bitT d i))) := by
    unfold shutT
    rw [List.getD_eq_getElem?_getD, List.getElem?_map, List.getElem?_range h32]
    rfl
  unfold bothT
  rw [e1, e2]
  have hb := bitT_lt d i
  by_cases h0 : bitT d i = 0
  · rw [if_pos h0, h0]
    rfl
  · have h1 : bitT d i = 1 := by omega
    rw [if_neg h0, h1]
    rfl
/-- Nothing but the first 32 bits of a digest is signed. -/
theorem bit_same {d e : List UInt8} (h : ∀ j, j < 4 → d.getD j 0 = e.getD j 0) {i : Nat} (hi : i < 32) : bitT d i = bitT e i := by
  unfold bitT
  rw [h (i / 8) (by omega)]
theorem sign_same {d e : List UInt8} (h : ∀ j, j < 4 → d.getD j 0 = e.getD j 0) (seed : List UInt8) (leaf : Int) : openT seed leaf d = openT seed leaf e ∧ shutT seed leaf d = shutT seed leaf e := by
  unfold openT shutT
  refine ⟨List.map_congr_left fun i hi => ?_, List.map_congr_left fun i hi => ?_⟩
  · rw [bit_same h (List.mem_range.1 hi)]
  · rw [bit_same h (List.mem_range.1 hi)]

/-! ### Two public halves, reckoned -/
def be8N (n : Nat) : List Nat := [n / 256 ^ 7 % 256, n / 256 ^ 6 % 256, n / 256 ^ 5 % 256, n / 256 ^ 4 % 256, n / 256 ^ 3 % 256, n / 256 ^ 2 % 256, n / 256 % 256, n % 256]
theorem num8_nats (n : Nat) (h : n < 18446744073709551616) : (num8 (n : Int)).map UInt8.toNat = be8N n := by
  have e : ((n : Int) % 18446744073709551616).toNat = n := by omega
  unfold num8 be8N
  rw [e]
  simp [beBytes]
noncomputable def secN (seed : List Nat) (leaf k : Nat) : List Nat := shaN (2 :: (seed ++ (be8N leaf ++ be8N k)))
noncomputable def pubN (seed : List Nat) (leaf : Nat) : List Nat := shaN ((List.range 64).flatMap fun k => shaN (secN seed leaf k))
theorem pub_nats (seed : List UInt8) (leaf : Nat) (h : leaf < 18446744073709551616) : (pubT seed (leaf : Int)).map UInt8.toNat = pubN (seed.map UInt8.toNat) leaf := by
  unfold pubT pubN
  rw [shaN_eq, List.map_flatMap]
  congr 1
  refine flatMap_same fun k hk => ?_
  have hk' : k < 64 := List.mem_range.1 hk
  rw [shaN_eq]
  unfold secT secN
  rw [shaN_eq, List.map_cons, List.map_append, List.map_append, num8_nats leaf h, num8_nats k (by omega)]
  rfl
def oneSeed : List UInt8 := 1 :: List.replicate 31 0
theorem pub_first0 : (pubN (1 :: List.replicate 31 0) 0).headD 0 = 152 := by decide +kernel
theorem pub_first1 : (pubN (1 :: List.replicate 31 0) 1).headD 0 = 112 := by decide +kernel
/-- The public halves of the leaves 0 and 1 of one seed are not the same. -/
theorem pub_apart : pubT oneSeed 0 ≠ pubT oneSeed 1 := by
  intro h
  have h0 := pub_nats oneSeed 0 (by decide)
  have h1 := pub_nats oneSeed 1 (by decide)
  have e : oneSeed.map UInt8.toNat = 1 :: List.replicate 31 0 := by decide
  rw [e] at h0 h1
  change (pubT oneSeed 0).map UInt8.toNat = _ at h0
  change (pubT oneSeed 1).map UInt8.toNat = _ at h1
  rw [h, h1] at h0
  have h2 := congrArg (fun l => l.headD 0) h0
  change (pubN (1 :: List.replicate 31 0) 1).headD 0 = (pubN (1 :: List.replicate 31 0) 0).headD 0 at h2
  rw [pub_first0, pub_first1] at h2
  exact absurd h2 (by decide)
end Go.Proofs.YtapdnoellleimaaDoor
