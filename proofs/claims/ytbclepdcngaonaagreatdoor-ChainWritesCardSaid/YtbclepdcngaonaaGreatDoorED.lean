/-
  Votes and words as bytes, on plain lists: what is written, what is read.
  What the walks over a reading of votes carry: a vote that is filled while a reader is turned.
  A vote is read: vote.Read. Written by gen_cevread.py.
  A vote is read, by the document: wapentakeref13.Read. Written by gen_cevread.py.
  What the walks over a reading of words carry: a row of votes that grows while a reader is turned.
  A word is read: cert.Read. Written by gen_cecread.py.
  A word is read, by the document: wapentakeref14.Read. Written by gen_cecread.py.
-/
import Derived.Test.YtbclepdcngaonaaGreatDoorKW
import Derived.Test.YtbclepdcngaonaaGreatDoorEB
import Derived.Test.YtbclepdcngaonaaGreatDoorEA
import Derived.Test.YtbclepdcngaonaaGreatDoorRB
import Derived.Test.YtbclepdcngaonaaGreatDoorRD
namespace Go.Proofs.YtbclepdcngaonaaGreatDoor
open Go.RowKit Go.Maps

/-! ### Bytes -/
def voteB (x : VtX) : List UInt8 := headB x ++ sigBytes x.leaf x.opn x.sht x.pth
def vFits (x : VtX) : Bool := fitsT x.opn x.sht x.pth
def crtB (r : Int) (xs : List VtX) : List UInt8 := numBytes r ++ (numBytes (xs.length : Int) ++ xs.flatMap voteB)

/-! ### A vote is read -/
def zvx : VtX := zvt.x
def vr0 (l : List UInt8) (b : Bool) := inV 1 2 l b
def vr1 (l : List UInt8) (b : Bool) := inV 0 1073741824 (vr0 l b).2.1 (vr0 l b).2.2
def vr2 (l : List UInt8) (b : Bool) := inV 1 1024 (vr1 l b).2.1 (vr1 l b).2.2
def vr3 (l : List UInt8) (b : Bool) := inV 0 1024 (vr2 l b).2.1 (vr2 l b).2.2
def vr4 (l : List UInt8) (b : Bool) := inV 1 63 (vr3 l b).2.1 (vr3 l b).2.2
def vr5 (l : List UInt8) (b : Bool) := dgV (vr4 l b).2.1 (vr4 l b).2.2
set_option maxRecDepth 100000 in
theorem vr5_len (l : List UInt8) (b : Bool) : (vr5 l b).1.length = 32 := digV_len _ _
def vtF (l : List UInt8) (b : Bool) : List UInt8 × Bool := rdF (vr5 l b).2.1 (vr5 l b).2.2
def vtX (l : List UInt8) (b : Bool) : VtX :=
  if (vtF l b).2 = true then zvx else
  ⟨(vr0 l b).1, (vr1 l b).1, (vr2 l b).1, (vr3 l b).1, (vr5 l b).1, (vr4 l b).1, rdN (vr5 l b).2.1 (vr5 l b).2.2, rdX (vr5 l b).2.1 (vr5 l b).2.2, rdY (vr5 l b).2.1 (vr5 l b).2.2, rdP (vr5 l b).2.1 (vr5 l b).2.2, vr5_len l b⟩
set_option maxRecDepth 100000 in
theorem vtx_ext14 {x y : VtX} (h0 : x.kind = y.kind) (h1 : x.epoch = y.epoch) (h2 : x.height = y.height) (h3 : x.round = y.round) (h4 : x.dig = y.dig) (h5 : x.frm = y.frm) (h6 : x.leaf = y.leaf) (h7 : x.opn = y.opn) (h8 : x.sht = y.sht) (h9 : x.pth = y.pth) : x = y := by
  cases x
  cases y
  simp only at h0 h1 h2 h3 h4 h5 h6 h7 h8 h9
  subst h0 h1 h2 h3 h4 h5 h6 h7 h8 h9
  rfl
/-- What a vote is read as, as facts on names. -/
structure VtFacts (l : List UInt8) (b : Bool) (X : VtX) (F : List UInt8 × Bool) (r0 r1 r2 r3 r4 : Int × List UInt8 × Bool) (r5 : List UInt8 × List UInt8 × Bool) : Prop where
  e0 : inV 1 2 l b = r0
  e1 : inV 0 1073741824 r0.2.1 r0.2.2 = r1
  e2 : inV 1 1024 r1.2.1 r1.2.2 = r2
  e3 : inV 0 1024 r2.2.1 r2.2.2 = r3
  e4 : inV 1 63 r3.2.1 r3.2.2 = r4
  e5 : dgV r4.2.1 r4.2.2 = r5
  l5 : r5.1.length = 32
  fin : rdF r5.2.1 r5.2.2 = F
  good : F.2 = false → X.kind = r0.1 ∧ X.epoch = r1.1 ∧ X.height = r2.1 ∧ X.round = r3.1 ∧ X.dig = r5.1 ∧ X.frm = r4.1 ∧ X.leaf = rdN r5.2.1 r5.2.2 ∧ X.opn = rdX r5.2.1 r5.2.2 ∧ X.sht = rdY r5.2.1 r5.2.2 ∧ X.pth = rdP r5.2.1 r5.2.2
  bad : F.2 = true → X = zvx
set_option maxRecDepth 100000 in
theorem vtx_if14 {F : Bool} {k e h r f n : Int} {d : List UInt8} {u v p : List (List UInt8)} {hl : d.length = 32} {X : VtX} (hX : X = if F = true then zvx else ⟨k, e, h, r, d, f, n, u, v, p, hl⟩) (hF : F = false) : X.kind = k ∧ X.epoch = e ∧ X.height = h ∧ X.round = r ∧ X.dig = d ∧ X.frm = f ∧ X.leaf = n ∧ X.opn = u ∧ X.sht = v ∧ X.pth = p := by
  subst hX
  subst hF
  exact ⟨rfl, rfl, rfl, rfl, rfl, rfl, rfl, rfl, rfl, rfl⟩
set_option maxRecDepth 100000 in
theorem vtX_good {l : List UInt8} {b : Bool} (h : (vtF l b).2 = false) : (vtX l b).kind = (vr0 l b).1 ∧ (vtX l b).epoch = (vr1 l b).1 ∧ (vtX l b).height = (vr2 l b).1 ∧ (vtX l b).round = (vr3 l b).1 ∧ (vtX l b).dig = (vr5 l b).1 ∧ (vtX l b).frm = (vr4 l b).1 ∧ (vtX l b).leaf = rdN (vr5 l b).2.1 (vr5 l b).2.2 ∧ (vtX l b).opn = rdX (vr5 l b).2.1 (vr5 l b).2.2 ∧ (vtX l b).sht = rdY (vr5 l b).2.1 (vr5 l b).2.2 ∧ (vtX l b).pth = rdP (vr5 l b).2.1 (vr5 l b).2.2 :=
  vtx_if14 (vtX.eq_1 l b) h
set_option maxRecDepth 100000 in
theorem vtX_bad {l : List UInt8} {b : Bool} (h : (vtF l b).2 = true) : vtX l b = zvx := by
  unfold vtX
  rw [if_pos h]
set_option maxRecDepth 100000 in
theorem vt_facts (l : List UInt8) (b : Bool) : ∃ r0 r1 r2 r3 r4 r5, VtFacts l b (vtX l b) (vtF l b) r0 r1 r2 r3 r4 r5 :=
  ⟨vr0 l b, vr1 l b, vr2 l b, vr3 l b, vr4 l b, vr5 l b, rfl, rfl, rfl, rfl, rfl, rfl, vr5_len l b, rfl, vtX_good, vtX_bad⟩
set_option maxRecDepth 100000 in
theorem vtF_left {l : List UInt8} {b : Bool} (h : (vtF l b).2 = true) : vtF l b = ([], true) := stT_nil (fun e => rdL_nil e) h
set_option maxRecDepth 100000 in
theorem vtF_bad (l : List UInt8) : vtF l true = ([], true) := by
  have h0 : (vr0 l true).2 = ([], true) := by unfold vr0; rw [inV_bad]
  have h1 : (vr1 l true).2 = ([], true) := by unfold vr1; exact inV_at _ _ h0
  have h2 : (vr2 l true).2 = ([], true) := by unfold vr2; exact inV_at _ _ h1
  have h3 : (vr3 l true).2 = ([], true) := by unfold vr3; exact inV_at _ _ h2
  have h4 : (vr4 l true).2 = ([], true) := by unfold vr4; exact inV_at _ _ h3
  have h5 : (vr5 l true).2 = ([], true) := by unfold vr5; exact dgV_at h4
  have hL : (rdL [] true).2 = ([], true) := by unfold rdL; rw [ktk_bad]; exact congrArg Prod.snd (inV_bad 0 6 [])
  unfold vtF
  rw [h5]
  unfold rdF
  rw [hL]
  exact stT_bad' _
set_option maxRecDepth 100000 in
theorem rdX_few (l : List UInt8) (b : Bool) : (rdX l b).length ≤ 200 ∧ (rdY l b).length ≤ 200 ∧ (rdP l b).length ≤ 200 := by
  have h := rdC_le l b
  unfold rdX rdY rdP
  split
  · exact ⟨Nat.zero_le _, Nat.zero_le _, Nat.zero_le _⟩
  · rw [dgs_len, dgs_len, dgs_len]
    omega
set_option maxRecDepth 100000 in
theorem vtX_few (l : List UInt8) (b : Bool) : VFew (vtX l b) := by
  cases h : (vtF l b).2 with
  | true =>
    rw [vtX_bad h]
    exact ⟨Nat.zero_le _, Nat.zero_le _, Nat.zero_le _⟩
  | false =>
    obtain ⟨_, _, _, _, _, _, _, h1, h2, h3⟩ := vtX_good h
    obtain ⟨g1, g2, g3⟩ := rdX_few (vr5 l b).2.1 (vr5 l b).2.2
    exact ⟨by rw [h1]; exact g1, by rw [h2]; exact g2, by rw [h3]; exact g3⟩

/-! ### Votes are read -/
def vsS : Nat → List UInt8 × Bool → List UInt8 × Bool
  | 0, s => s
  | k + 1, s => vtF (vsS k s).1 (vsS k s).2
def vsT : Nat → List UInt8 × Bool → List VtX
  | 0, _ => []
  | k + 1, s => vsT k s ++ [vtX (vsS k s).1 (vsS k s).2]
set_option maxRecDepth 100000 in
theorem vsT_len (s : List UInt8 × Bool) : ∀ k, (vsT k s).length = k
  | 0 => rfl
  | k + 1 => by rw [vsT, List.length_append, vsT_len s k]; rfl
set_option maxRecDepth 100000 in
theorem vsS_add (s : List UInt8 × Bool) (j : Nat) : ∀ k, vsS (j + k) s = vsS k (vsS j s)
  | 0 => rfl
  | k + 1 => by rw [← Nat.add_assoc, vsS, vsS, vsS_add s j k]
set_option maxRecDepth 100000 in
theorem vsT_add (s : List UInt8 × Bool) (j : Nat) : ∀ k, vsT (j + k) s = vsT j s ++ vsT k (vsS j s)
  | 0 => by rw [Nat.add_zero, vsT, List.append_nil]
  | k + 1 => by rw [← Nat.add_assoc, vsT, vsT, vsT_add s j k, vsS_add s j k, List.append_assoc]
set_option maxRecDepth 100000 in
theorem vsS_left {s : List UInt8 × Bool} (hs : s.2 = true → s.1 = []) : ∀ k, (vsS k s).2 = true → vsS k s = ([], true)
  | 0, h => Prod.ext (hs h) h
  | _ + 1, h => vtF_left h
set_option maxRecDepth 100000 in
theorem vsS_bad : ∀ k, vsS k ([], true) = ([], true)
  | 0 => rfl
  | k + 1 => by rw [vsS, vsS_bad k]; exact vtF_bad _
set_option maxRecDepth 100000 in
theorem vsS_past {s : List UInt8 × Bool} {k m : Nat} (hkm : k ≤ m) (h : vsS k s = ([], true)) : vsS m s = ([], true) := by
  obtain ⟨j, rfl⟩ : ∃ j, m = k + j := ⟨m - k, by omega⟩
  rw [vsS_add, h]
  exact vsS_bad j
set_option maxRecDepth 100000 in
theorem vsT_few (s : List UInt8 × Bool) : ∀ k, ∀ x ∈ vsT k s, VFew x
  | 0, _, h => by cases h
  | k + 1, x, h => by
    rw [vsT] at h
    rcases List.mem_append.1 h with h | h
    · exact vsT_few s k x h
    · rw [List.mem_singleton.1 h]
      exact vtX_few _ _

/-! ### A word is read -/
set_option maxRecDepth 100000 in
theorem inV_ten14 (l : List UInt8) (b : Bool) : (inV 1 10 l b).1 = (((inV 1 10 l b).1.toNat : Nat) : Int) ∧ (inV 1 10 l b).1.toNat ≤ 10 := by
  have h : (inV 1 10 l b).1 = 0 ∨ (1 ≤ (inV 1 10 l b).1 ∧ (inV 1 10 l b).1 ≤ 10) := by
    unfold inV
    by_cases h : numV l b < 1 ∨ 10 < numV l b
    · rw [if_pos h]
      exact .inl rfl
    · rw [if_neg h]
      generalize numV l b = n at *
      refine .inr ⟨?_, ?_⟩ <;> (show _ ≤ _) <;> omega
  generalize inV 1 10 l b = x at *
  omega
def ct0 (l : List UInt8) (b : Bool) := inV 0 1024 l b
def ct1 (l : List UInt8) (b : Bool) := inV 1 10 (ct0 l b).2.1 (ct0 l b).2.2
def ctN (l : List UInt8) (b : Bool) : Nat := (ct1 l b).1.toNat
def ctF (l : List UInt8) (b : Bool) : List UInt8 × Bool := vsS (ctN l b) (ct1 l b).2
def ctR (l : List UInt8) (b : Bool) : Int := if (ctF l b).2 = true then 0 else (ct0 l b).1
def ctX (l : List UInt8) (b : Bool) : List VtX := if (ctF l b).2 = true then [] else vsT (ctN l b) (ct1 l b).2
set_option maxRecDepth 100000 in
theorem ctN_in (l : List UInt8) (b : Bool) : (ct1 l b).1 = (ctN l b : Int) ∧ ctN l b ≤ 10 := inV_ten14 _ _
set_option maxRecDepth 100000 in
theorem ctX_few (l : List UInt8) (b : Bool) : ∀ x ∈ ctX l b, VFew x := by
  unfold ctX
  split
  · exact fun x h => by cases h
  · exact vsT_few _ _
set_option maxRecDepth 100000 in
theorem ctX_len (l : List UInt8) (b : Bool) : (ctX l b).length ≤ 10 := by
  unfold ctX
  split
  · exact Nat.zero_le _
  · rw [vsT_len]
    exact (ctN_in l b).2
structure CtFacts (l : List UInt8) (b : Bool) (r : Int) (X : List VtX) (c0 c1 : Int × List UInt8 × Bool) (N : Nat) (F : List UInt8 × Bool) (S : Nat → List UInt8 × Bool) (T : Nat → List VtX) : Prop where
  good : F.2 = false → r = c0.1 ∧ X = T N
  bad : F.2 = true → r = 0 ∧ X = []
  fin : F = S N
  n1 : c1.1 = (N : Int)
  n2 : N ≤ 10
  e0 : inV 0 1024 l b = c0
  e1 : inV 1 10 c0.2.1 c0.2.2 = c1
  s0 : S 0 = c1.2
  t0 : T 0 = []
  len : ∀ k, (T k).length = k
  step : ∀ k, ∃ (q : VtX) (s : List UInt8 × Bool), vtX (S k).1 (S k).2 = q ∧ vtF (S k).1 (S k).2 = s ∧ T (k + 1) = T k ++ [q] ∧ S (k + 1) = s
  stop : ∀ k, k ≤ N → (S k).2 = true → S k = F
set_option maxRecDepth 100000 in
theorem ct_facts14 {l : List UInt8} {b : Bool} {c0 c1 : Int × List UInt8 × Bool} {N : Nat} (e0 : inV 0 1024 l b = c0) (e1 : inV 1 10 c0.2.1 c0.2.2 = c1) (hN : c1.1 = (N : Int) ∧ N ≤ 10) (hl : c1.2.2 = true → c1.2.1 = []) {F : List UInt8 × Bool} {r : Int} {X : List VtX} (hF : F = vsS N c1.2) (hr : r = if F.2 = true then 0 else c0.1) (hX : X = if F.2 = true then [] else vsT N c1.2) : CtFacts l b r X c0 c1 N F (fun k => vsS k c1.2) (fun k => vsT k c1.2) := by
  refine ⟨fun h => ?_, fun h => ?_, hF, hN.1, hN.2, e0, e1, rfl, rfl, vsT_len _, fun k => ⟨_, _, rfl, rfl, rfl, rfl⟩, fun k hk h => ?_⟩
  · rw [hr, hX, h, if_neg (by simp), if_neg (by simp)]
    exact ⟨rfl, rfl⟩
  · rw [hr, hX, if_pos h, if_pos h]
    exact ⟨rfl, rfl⟩
  · have h1 := vsS_left (s := c1.2) hl k h
    show vsS k c1.2 = F
    rw [h1, hF]
    exact (vsS_past hk h1).symm
set_option maxRecDepth 100000 in
theorem ct_left (l : List UInt8) (b : Bool) (h : (ct1 l b).2.2 = true) : (ct1 l b).2.1 = [] := by
  rw [ct1.eq_1] at h ⊢
  exact inV_left _ _ _ _ h
set_option maxRecDepth 100000 in
theorem ct_facts (l : List UInt8) (b : Bool) : ∃ c0 c1 N S T, CtFacts l b (ctR l b) (ctX l b) c0 c1 N (ctF l b) S T :=
  ⟨_, _, _, _, _, ct_facts14 (ct0.eq_1 l b).symm (ct1.eq_1 l b).symm (ctN_in l b) (ct_left l b) (ctF.eq_1 l b) (ctR.eq_1 l b) (ctX.eq_1 l b)⟩

/-! ### There and back -/
set_option maxRecDepth 100000 in
theorem sig_back14 {n : Int} (hn : R64 n) {X Y P : List (List UInt8)} (hX : AllD X) (hY : AllD Y) (hP : AllD P) (h : fitsT X Y P = true) (rest : List UInt8) :
    rdN (sigBytes n X Y P ++ rest) false = n ∧ rdX (sigBytes n X Y P ++ rest) false = X ∧ rdY (sigBytes n X Y P ++ rest) false = Y ∧ rdP (sigBytes n X Y P ++ rest) false = P ∧ rdF (sigBytes n X Y P ++ rest) false = (rest, false) := by
  unfold fitsT at h
  rw [decide_eq_true_iff] at h
  obtain ⟨h1, h2, h3⟩ := h
  have E : sigBytes n X Y P ++ rest = numBytes n ++ (numBytes (P.length : Int) ++ (X.flatten ++ (Y.flatten ++ (P.flatten ++ rest)))) := by
    unfold sigBytes
    simp only [List.append_assoc]
  rw [E]
  generalize hT : numBytes n ++ (numBytes (P.length : Int) ++ (X.flatten ++ (Y.flatten ++ (P.flatten ++ rest)))) = T
  have eN : numV T false = n := by rw [← hT]; exact knumV_back hn _
  have eT : (tk 8 T false).2 = (numBytes (P.length : Int) ++ (X.flatten ++ (Y.flatten ++ (P.flatten ++ rest))), false) := by
    rw [← hT, ktk_app _ _ (numBytes_len n)]
  have eL : rdL T false = ((P.length : Int), X.flatten ++ (Y.flatten ++ (P.flatten ++ rest)), false) := by
    unfold rdL
    rw [eT]
    have e1 : numV (numBytes (P.length : Int) ++ (X.flatten ++ (Y.flatten ++ (P.flatten ++ rest)))) false = (P.length : Int) := knumV_back (by omega) _
    unfold inV
    rw [e1, if_neg (by omega), ktk_app _ _ (numBytes_len _)]
  have eC : rdC T false = P.length := by
    unfold rdC
    rw [eL]
    exact Int.toNat_natCast _
  obtain ⟨x1, x2⟩ := stT_flat X (Y.flatten ++ (P.flatten ++ rest)) hX
  obtain ⟨y1, y2⟩ := stT_flat Y (P.flatten ++ rest) hY
  obtain ⟨p1, p2⟩ := stT_flat P rest hP
  rw [h1] at x1 x2
  rw [h2] at y1 y2
  have e64 : stT 64 (X.flatten ++ (Y.flatten ++ (P.flatten ++ rest))) false = (P.flatten ++ rest, false) := by
    have e := stT_add 32 (X.flatten ++ (Y.flatten ++ (P.flatten ++ rest))) false 32
    rw [x1] at e
    simp only at e
    rw [y1] at e
    exact e
  have eF : rdF T false = (rest, false) := by
    unfold rdF
    rw [eC, eL]
    simp only
    rw [stT_add, e64]
    simp only
    exact p1
  refine ⟨?_, ?_, ?_, ?_, eF⟩
  · unfold rdN
    rw [eF, if_neg (by simp)]
    exact eN
  · unfold rdX
    rw [eF, if_neg (by simp), eL]
    simp only
    exact x2
  · unfold rdY
    rw [eF, if_neg (by simp), eL]
    simp only
    rw [x1]
    simp only
    exact y2
  · unfold rdP
    rw [eF, if_neg (by simp), eC, eL]
    simp only
    rw [e64]
    simp only
    exact p2
/-- A vote that can be written and be read. -/
structure VtBack (x : VtX) : Prop where
  good : vGood x = true
  fits : vFits x = true
  leaf : R64 x.leaf
  opn : AllD x.opn
  sht : AllD x.sht
  pth : AllD x.pth
set_option maxRecDepth 100000 in
theorem vote_back {x : VtX} (h : VtBack x) (rest : List UInt8) : vtF (voteB x ++ rest) false = (rest, false) ∧ vtX (voteB x ++ rest) false = x := by
  obtain ⟨⟨g0, g0'⟩, ⟨g1, g1'⟩, ⟨g2, g2'⟩, ⟨g3, g3'⟩, g4, g4'⟩ := vGood_iff.1 h.good
  have E : voteB x ++ rest = numBytes x.kind ++ (numBytes x.epoch ++ (numBytes x.height ++ (numBytes x.round ++ (numBytes x.frm ++ (x.dig ++ (sigBytes x.leaf x.opn x.sht x.pth ++ rest)))))) := by
    unfold voteB headB
    simp
  rw [E]
  generalize hL : sigBytes x.leaf x.opn x.sht x.pth ++ rest = L
  generalize hT : numBytes x.kind ++ (numBytes x.epoch ++ (numBytes x.height ++ (numBytes x.round ++ (numBytes x.frm ++ (x.dig ++ L))))) = T
  have e0 : vr0 T false = (x.kind, numBytes x.epoch ++ (numBytes x.height ++ (numBytes x.round ++ (numBytes x.frm ++ (x.dig ++ L)))), false) := by
    unfold vr0
    rw [← hT, inV_app ⟨by omega, by omega⟩, if_pos ⟨g0, g0'⟩]
  have e1 : vr1 T false = (x.epoch, numBytes x.height ++ (numBytes x.round ++ (numBytes x.frm ++ (x.dig ++ L))), false) := by
    unfold vr1
    rw [e0]
    exact (inV_app ⟨by omega, by omega⟩ _ _ _).trans (if_pos ⟨g1, g1'⟩)
  have e2 : vr2 T false = (x.height, numBytes x.round ++ (numBytes x.frm ++ (x.dig ++ L)), false) := by
    unfold vr2
    rw [e1]
    exact (inV_app ⟨by omega, by omega⟩ _ _ _).trans (if_pos ⟨g2, g2'⟩)
  have e3 : vr3 T false = (x.round, numBytes x.frm ++ (x.dig ++ L), false) := by
    unfold vr3
    rw [e2]
    exact (inV_app ⟨by omega, by omega⟩ _ _ _).trans (if_pos ⟨g3, g3'⟩)
  have e4 : vr4 T false = (x.frm, x.dig ++ L, false) := by
    unfold vr4
    rw [e3]
    exact (inV_app ⟨by omega, by omega⟩ _ _ _).trans (if_pos ⟨g4, g4'⟩)
  have e5 : vr5 T false = (x.dig, L, false) := by
    unfold vr5
    rw [e4]
    exact dgV_app x.len _
  obtain ⟨s1, s2, s3, s4, s5⟩ := sig_back14 h.leaf h.opn h.sht h.pth h.fits rest
  rw [hL] at s1 s2 s3 s4 s5
  have eF : vtF T false = (rest, false) := by
    unfold vtF
    rw [e5]
    exact s5
  refine ⟨eF, ?_⟩
  obtain ⟨x0, x1, x2, x3, x4, x5, x6, x7, x8, x9⟩ := vtX_good (l := T) (b := false) (by rw [eF])
  rw [e0] at x0
  rw [e1] at x1
  rw [e2] at x2
  rw [e3] at x3
  rw [e5] at x4 x6 x7 x8 x9
  rw [e4] at x5
  exact vtx_ext14 x0 x1 x2 x3 x4 x5 (x6.trans s1) (x7.trans s2) (x8.trans s3) (x9.trans s4)
set_option maxRecDepth 100000 in
theorem votes_back : ∀ (xs : List VtX) (rest : List UInt8), (∀ x ∈ xs, VtBack x) → vsS xs.length (xs.flatMap voteB ++ rest, false) = (rest, false) ∧ vsT xs.length (xs.flatMap voteB ++ rest, false) = xs
  | [], _, _ => ⟨rfl, rfl⟩
  | x :: xs, rest, h => by
    obtain ⟨i1, i2⟩ := votes_back xs rest (fun y hy => h y (List.mem_cons_of_mem _ hy))
    obtain ⟨v1, v2⟩ := vote_back (h x (List.mem_cons_self ..)) (xs.flatMap voteB ++ rest)
    have E : (x :: xs).flatMap voteB ++ rest = voteB x ++ (xs.flatMap voteB ++ rest) := by rw [List.flatMap_cons, List.append_assoc]
    have s1 : vsS 1 (voteB x ++ (xs.flatMap voteB ++ rest), false) = (xs.flatMap voteB ++ rest, false) := v1
    have t1 : vsT 1 (voteB x ++ (xs.flatMap voteB ++ rest), false) = [x] := congrArg (fun y => [] ++ [y]) v2
    rw [E, List.length_cons, Nat.add_comm xs.length 1, vsS_add, vsT_add, s1, t1]
    exact ⟨i1, by rw [i2]; rfl⟩
/-! ### What is right can be written -/
set_option maxRecDepth 100000 in
theorem goodK_fits {root d : List UInt8} {h n : Int} {X Y P : List (List UInt8)} (hg : goodK root d h n X Y P = true) : fitsT X Y P = true := by
  unfold goodK checkT at hg
  simp only [Bool.and_eq_true, decide_eq_true_eq] at hg
  obtain ⟨⟨h0, h6⟩, ⟨hX, hY⟩, _, hc⟩ := hg
  have hs := ends_steps pT (2 ^ h.toNat) (2 ^ h.toNat) n.toNat (leafT (ofT d X Y)) P root (Nat.le_refl _) hc
  have hp : 1 ≤ 2 ^ h.toNat := Nat.one_le_two_pow
  have hl := steps_lt (2 ^ h.toNat) (2 ^ h.toNat) n.toNat (Nat.le_refl _) hp
  rw [← hs] at hl
  have h7 : P.length < h.toNat + 1 := by
    have e : 2 * 2 ^ h.toNat = 2 ^ (h.toNat + 1) := by rw [Nat.pow_succ, Nat.mul_comm]
    rw [e] at hl
    exact (Nat.pow_lt_pow_iff_right (by omega)).1 hl
  unfold fitsT
  rw [decide_eq_true_eq]
  exact ⟨hX, hY, by omega⟩
set_option maxRecDepth 100000 in
theorem certB_back {ep : Int} {ms : List MemX} {b : BlkX} {r : Int} {xs : List VtX} (h : certB ep ms b r xs = true) (hd : ∀ x ∈ xs, R64 x.leaf ∧ AllD x.opn ∧ AllD x.sht ∧ AllD x.pth) : (0 ≤ r ∧ r ≤ 1024) ∧ 1 ≤ xs.length ∧ ∀ x ∈ xs, VtBack x := by
  obtain ⟨_, hq, _, hok⟩ := certB_true h
  have hq1 : 1 ≤ quorumN ms.length := by unfold quorumN; omega
  have hv : ∀ x ∈ xs, vGood x = true ∧ x.round = r ∧ vFits x = true := fun x hx => by
    have ho := hok x hx
    unfold ok14 says14 rightX14 at ho
    simp only [Bool.and_eq_true, decide_eq_true_eq] at ho
    exact ⟨ho.2.1, ho.1.2.2.1, goodK_fits ho.2.2.2.2⟩
  refine ⟨?_, by omega, fun x hx => ⟨(hv x hx).1, (hv x hx).2.2, (hd x hx).1, (hd x hx).2.1, (hd x hx).2.2.1, (hd x hx).2.2.2⟩⟩
  obtain ⟨x, hx⟩ : ∃ x, x ∈ xs := ⟨_, List.getElem_mem (by omega : 0 < xs.length)⟩
  have h1 := (vGood_iff.1 (hv x hx).1).2.2.2.1
  rw [(hv x hx).2.1] at h1
  exact h1
set_option maxRecDepth 100000 in
theorem crtB_len {r : Int} {xs : List VtX} (hl : xs.length ≤ 12) (hf : ∀ x ∈ xs, VFew x) (hd : ∀ x ∈ xs, AllD x.opn ∧ AllD x.sht ∧ AllD x.pth) : (crtB r xs).length ≤ 300000 := by
  have h1 : ∀ ys : List VtX, (∀ x ∈ ys, VFew x) → (∀ x ∈ ys, AllD x.opn ∧ AllD x.sht ∧ AllD x.pth) → (ys.flatMap voteB).length ≤ ys.length * 20000 := fun ys => by
    induction ys with
    | nil => exact fun _ _ => Nat.zero_le _
    | cons y ys ih =>
      intro hf hd
      have i := ih (fun x hx => hf x (List.mem_cons_of_mem _ hx)) (fun x hx => hd x (List.mem_cons_of_mem _ hx))
      obtain ⟨f1, f2, f3⟩ := hf y (List.mem_cons_self ..)
      obtain ⟨d1, d2, d3⟩ := hd y (List.mem_cons_self ..)
      have e : (voteB y).length ≤ 20000 := by
        unfold voteB sigBytes
        simp only [List.length_append, headB_len, numBytes_len, d1.flat, d2.flat, d3.flat]
        omega
      rw [List.flatMap_cons, List.length_append, List.length_cons]
      omega
  have h2 := h1 xs hf hd
  unfold crtB
  simp only [List.length_append, numBytes_len]
  omega
end Go.Proofs.YtbclepdcngaonaaGreatDoor

namespace Go.Proofs.YtbclepdcngaonaaGreatDoor
open Go.RowKit Go.Maps Go.Sort

/-! ### Readers of both kinds -/
structure RdOk14 (R : World → Nat → List UInt8 → Bool → Prop) : Prop where
  below : ∀ {w w' : World} {a : Nat} {l : List UInt8} {b : Bool}, R w a l b → Below w.heap.size w w' → R w' a l b
  put : ∀ {w w' : World} {a g : Nat} {l : List UInt8} {b : Bool}, R w a l b → w.grownBy w' (some g) → a < g → R w' a l b
  lt : ∀ {w : World} {a : Nat} {l : List UInt8} {b : Bool}, R w a l b → a < w.heap.size
set_option maxRecDepth 100000 in
theorem RdOk14.own {R : World → Nat → List UInt8 → Bool → Prop} (hR : RdOk14 R) {w w' : World} {a B s n : Nat} {e : TypeId} {v : Value} {xs : List Value} {l : List UInt8} {b : Bool} (h : R w a l b) (ho : w.ownsRow B e s v n xs) (hg : w.grownBy w' v.ownBlock) (ha : a < B) : R w' a l b := by
  cases e : v.ownBlock with
  | none =>
    rw [e] at hg
    exact hR.below h ⟨hg.os, hg.tape, hg.output, hg.size, fun i hi => hg.block i hi (by simp)⟩
  | some q =>
    have h1 := (ho.lt q e).1
    rw [e] at hg
    exact hR.put h hg (by omega)
set_option maxRecDepth 100000 in
theorem rd_ok14 : RdOk14 Rd := ⟨fun h hb => h.below hb h.lt, fun h hg hl => h.only hg hl, fun h => h.lt⟩
set_option maxRecDepth 100000 in
theorem rrd_ok14 : RdOk14 RRd := ⟨fun h hb => Box.below h hb (Box.lt h), fun h hg hl => Box.grown h hg (fun e => by injection e with e; omega), fun h => Box.lt h⟩

/-! ### A vote's cells are written -/
abbrev nil14 : Value := .slice none 0 0
section
variable {w : World} {g : Nat} {t : TypeId} {k e h r f n : Int} {d : List UInt8} {u v p : Value}
set_option maxRecDepth 100000 in
theorem Box.vt_putk (hb : Box w g t (vtL k e h r d f n u v p).toArray) (z : Int) : Box (w.setCell ⟨g, 0, none⟩ (.int .i64 z)) g t (vtL z e h r d f n u v p).toArray := Box.put_in (pre := []) hb rfl _
set_option maxRecDepth 100000 in
theorem Box.vt_pute (hb : Box w g t (vtL k e h r d f n u v p).toArray) (z : Int) : Box (w.setCell ⟨g, 1, none⟩ (.int .i64 z)) g t (vtL k z h r d f n u v p).toArray := Box.put_in (pre := [.int .i64 k]) hb rfl _
set_option maxRecDepth 100000 in
theorem Box.vt_puth (hb : Box w g t (vtL k e h r d f n u v p).toArray) (z : Int) : Box (w.setCell ⟨g, 2, none⟩ (.int .i64 z)) g t (vtL k e z r d f n u v p).toArray := Box.put_in (pre := [.int .i64 k, .int .i64 e]) hb rfl _
set_option maxRecDepth 100000 in
theorem Box.vt_putr (hb : Box w g t (vtL k e h r d f n u v p).toArray) (z : Int) : Box (w.setCell ⟨g, 3, none⟩ (.int .i64 z)) g t (vtL k e h z d f n u v p).toArray := Box.put_in (pre := [.int .i64 k, .int .i64 e, .int .i64 h]) hb rfl _
set_option maxRecDepth 100000 in
theorem Box.vt_putf (hd : d.length = 32) (hb : Box w g t (vtL k e h r d f n u v p).toArray) (z : Int) : Box (w.setCell ⟨g, 36, none⟩ (.int .i64 z)) g t (vtL k e h r d z n u v p).toArray := by
  rw [vtL_tail] at hb ⊢
  exact Box.put_in hb (by simp [hd]) _
set_option maxRecDepth 100000 in
theorem Box.vt_putd (hd : d.length = 32) (hb : Box w g t (vtL k e h r d f n u v p).toArray) (z : List UInt8) (hz : z.length = 32) :
    (stDigest (.pointer (some ⟨g, 4, none⟩)) (.agg (z.map bv).toArray)).run Tryz.prog w = .ok () (w.setCells g 4 (z.map bv)) ∧ Box (w.setCells g 4 (z.map bv)) g t (vtL k e h r z f n u v p).toArray ∧ w.grownBy (w.setCells g 4 (z.map bv)) (some g) := by
  refine ⟨hb.store_mid (o := 4) (by rw [List.size_toArray, vtL_len hd]; decide) z hz, ?_, only_cells (g := g) _ 4 w⟩
  rw [vtL_dig] at hb ⊢
  exact Box.put_mid hb rfl (by simp [hd, hz])
end
set_option maxRecDepth 100000 in
theorem bd_vt014 (w : World) : (bdVt14 #[]).run Tryz.prog w = .ok (.agg zvtV) w := run_build w _ _ _ (by kernel_rfl)

/-- What is carried of memory: the result's block, the one that is filled, the reader. -/
structure VrW (R : World → Nat → List UInt8 → Bool → Prop) (w0 : World) (a o g : Nat) (k e h r : Int) (d : List UInt8) (f : Int) (t : List UInt8 × Bool) (w : World) : Prop where
  out : Box w o 74 zvtV
  box : Box w g 74 (vtL k e h r d f 0 nil14 nil14 nil14).toArray
  rd : R w a t.1 t.2
  far : w0.grownBy w (some a)
  ha : a < w0.heap.size
  ho : w0.heap.size ≤ o
  hg : w0.heap.size ≤ g
  ne : o ≠ g
  hd : d.length = 32
section
variable {R : World → Nat → List UInt8 → Bool → Prop} {w0 w w' : World} {a o g : Nat} {k e h r f : Int} {d : List UInt8} {t t' : List UInt8 × Bool}
set_option maxRecDepth 100000 in
theorem VrW.start (hR : RdOk14 R) (l : List UInt8) (c : Bool) (hr : R w a l c) :
    VrW R w a w.heap.size (w.heap.size + 1) 0 0 0 0 zeros 0 (l, c) ((w.alloc (.cells zvtV 74)).alloc (.cells zvtV 74)) :=
  have hb : Below w.heap.size w ((w.alloc (.cells zvtV 74)).alloc (.cells zvtV 74)) := ((Below.refl _ _).alloc (Nat.le_refl _) _).alloc (by simp) _
  ⟨(Box.made _ _ _).alloc _, Box.made_at (by simp) _ _, hR.below hr hb, only_below hb _, hR.lt hr, Nat.le_refl _, by omega, by omega, rfl⟩
set_option maxRecDepth 100000 in
theorem VrW.turn (hw : VrW R w0 a o g k e h r d f t w) (hg : w.grownBy w' (some a)) (hr : R w' a t'.1 t'.2) : VrW R w0 a o g k e h r d f t' w' :=
  ⟨hw.out.grown hg (by have := hw.ha; have := hw.ho; intro e; cases e; omega), hw.box.grown hg (by have := hw.ha; have := hw.hg; intro e; cases e; omega), hr, only_trans hw.far hg, hw.ha, hw.ho, hw.hg, hw.ne, hw.hd⟩
set_option maxRecDepth 100000 in
theorem VrW.put {k' e' h' r' f' : Int} {d' : List UInt8} (hw : VrW R w0 a o g k e h r d f t w) (hR : RdOk14 R) (hb : Box w' g 74 (vtL k' e' h' r' d' f' 0 nil14 nil14 nil14).toArray) (hg : w.grownBy w' (some g)) (hd : d'.length = 32) : VrW R w0 a o g k' e' h' r' d' f' t w' :=
  ⟨hw.out.grown hg (by intro e; cases e; exact hw.ne rfl), hb, hR.put hw.rd hg (by have := hw.ha; have := hw.hg; omega), only_new hw.far hg hw.hg, hw.ha, hw.ho, hw.hg, hw.ne, hd⟩
end
/-- What a reading of a vote answers, and leaves. -/
def VtIs (R : World → Nat → List UInt8 → Bool → Prop) (a : Nat) (X : VtX) (F : List UInt8 × Bool) (w : World) (e : Ending) (w' : World) : Prop :=
  ∃ m : VtM, m.x = X ∧ e = .returned (.agg m.cells.toArray) ∧ VSee w' m ∧ FreshM w.heap.size m ∧ R w' a F.1 F.2 ∧ w.grownBy w' (some a)
/-- What a reading of a signature answers, where its lists lie. -/
def SgIs (R : World → Nat → List UInt8 → Bool → Prop) (w0 : World) (a o g : Nat) (k e h r : Int) (d : List UInt8) (f : Int) (l : List UInt8) (b : Bool) (F : List UInt8 × Bool) (w : World) (en : Ending) (w' : World) : Prop :=
  ∃ s : SgM, (s.n = rdN l b ∧ s.X = rdX l b ∧ s.Y = rdY l b ∧ s.P = rdP l b) ∧ en = .returned (.agg s.cells) ∧ (Digs w' w'.heap.size s.A s.X ∧ Digs w' w'.heap.size s.B s.Y ∧ Digs w' w'.heap.size s.C s.P) ∧ (NewD w.heap.size s.A s.X ∧ NewD w.heap.size s.B s.Y ∧ NewD w.heap.size s.C s.P) ∧ VrW R w0 a o g k e h r d f F w'
set_option maxRecDepth 100000 in
theorem zvt_see (w : World) : VSee w zvt := ⟨Digs.empty _ _ _, Digs.empty _ _ _, Digs.empty _ _ _⟩
set_option maxRecDepth 100000 in
theorem zvt_fresh (B : Nat) : FreshM B zvt := ⟨.inl rfl, .inl rfl, .inl rfl⟩
end Go.Proofs.YtbclepdcngaonaaGreatDoor

namespace Go.Proofs.YtbclepdcngaonaaGreatDoor
open Go.RowKit Go.Maps Go.Sort

attribute [local go_sem ↓] ldVt_def stVt_def bdVt14_def ldDigest_def stDigest_def stSg14_def
set_option maxRecDepth 100000 in
set_option maxHeartbeats 8000000 in
theorem vread_gen14 (a : Nat) (l : List UInt8) (b : Bool) (w : World) (h : Rd w a l b) {X : VtX} {F : List UInt8 × Bool} {r0 r1 r2 r3 r4 : Int × List UInt8 × Bool} {r5 : List UInt8 × List UInt8 × Bool} (hf : VtFacts l b X F r0 r1 r2 r3 r4 r5) :
    Calls Tryz.prog 74 #[.pointer (some ⟨a, 0, none⟩)] w (VtIs Rd a X F w) := by
  have HG := Lib.hid hf.good
  have HX := Lib.hid hf.bad
  have L5 := Lib.hid hf.l5
  have HW1 := Lib.hid (VrW.start rd_ok14 l b h)
  have HIN : Hid (∀ w' (lo hi : Int) k e h r d f (t : List UInt8 × Bool) (q : Int × List UInt8 × Bool), inV lo hi t.1 t.2 = q → VrW Rd w a w.heap.size (w.heap.size + 1) k e h r d f t w' → Calls Tryz.prog 71 #[.pointer (some ⟨a, 0, none⟩), .int .i64 lo, .int .i64 hi] w' fun e' w'' => e' = .returned (.int .i64 q.1) ∧ VrW Rd w a w.heap.size (w.heap.size + 1) k e h r d f q.2 w'') :=
    Lib.hid (fun w' lo hi k e h r d f t q hq hw => by subst hq; exact (in_any a lo hi t.1 t.2 w' hw.rd).mono fun e' w'' ⟨he, hr, hg⟩ => ⟨he, hw.turn hg hr⟩)
  have HDG : Hid (∀ w' k e h r d f (t : List UInt8 × Bool) (q : List UInt8 × List UInt8 × Bool), dgV t.1 t.2 = q → VrW Rd w a w.heap.size (w.heap.size + 1) k e h r d f t w' → Calls Tryz.prog 72 #[.pointer (some ⟨a, 0, none⟩)] w' fun e' w'' => e' = .returned (.agg (q.1.map bv).toArray) ∧ VrW Rd w a w.heap.size (w.heap.size + 1) k e h r d f q.2 w'') :=
    Lib.hid (fun w' k e h r d f t q hq hw => by subst hq; exact (digest_any a t.1 t.2 w' hw.rd).mono fun e' w'' ⟨he, hr, hg⟩ => ⟨he, hw.turn hg hr⟩)
  have HSG : Hid (∀ w' k e h r d f (t : List UInt8 × Bool) (q : List UInt8 × Bool), rdF t.1 t.2 = q → VrW Rd w a w.heap.size (w.heap.size + 1) k e h r d f t w' → Calls Tryz.prog 113 #[.pointer (some ⟨a, 0, none⟩)] w' (SgIs Rd w a w.heap.size (w.heap.size + 1) k e h r d f t.1 t.2 q w')) :=
    Lib.hid (fun w' k e h r d f t q hq hw => by subst hq; exact (kread_new a t.1 t.2 w' hw.rd).mono fun e' w'' ⟨A, B, C, x, y, z, he, h1, h2, h3, _, hr, hg, hn⟩ => ⟨⟨rdN t.1 t.2, rdX t.1 t.2, rdY t.1 t.2, rdP t.1 t.2, A, x, B, y, C, z⟩, ⟨rfl, rfl, rfl, rfl⟩, he, ⟨h1, h2, h3⟩, hn, hw.turn hg hr⟩)
  have HGD : Hid (∀ w' (t : List UInt8 × Bool), Rd w' a t.1 t.2 → Calls Tryz.prog 19 #[.pointer (some ⟨a, 0, none⟩)] w' fun e' w'' => e' = .returned (.bool !t.2) ∧ w' = w'') := Lib.hid (fun w' t hw => good_any a t.1 t.2 w' hw)
  have E0 := Lib.hid hf.e0
  have E1 := Lib.hid hf.e1
  have E2 := Lib.hid hf.e2
  have E3 := Lib.hid hf.e3
  have E4 := Lib.hid hf.e4
  have E5 := Lib.hid hf.e5
  have EF := Lib.hid hf.fin
  have hzv := zero_vt
  clear h hf
  go_enter Tryz.func74, Tryz.ntmps74
  go_upto_region 2 with fail
  change Code.wp _ _ _ _ ((w.alloc (.cells zvtV 74)).alloc (.cells zvtV 74))
  generalize (w.alloc (.cells zvtV 74)).alloc (.cells zvtV 74) = w1 at *
  clear hzv
  have HC := Lib.hid (HIN.out w1 1 2 _ _ _ _ _ _ _ r0 E0.out HW1.out)
  go_upto_region 3 with (go_at_call 71; (with_reducible refine (HC.out).mono ?_); rintro e w2 ⟨rfl, hw⟩; have m0 : w2.cell? ⟨w.heap.size + 1, 0, none⟩ = some (.int .i64 0) := hw.box.vt_0; have f0 := hw.box.free 0; have HW2 := Lib.hid hw; clear hw)
  have HW3 : Hid (VrW Rd w a w.heap.size (w.heap.size + 1) r0.1 0 0 0 zeros 0 r0.2 (w2.setCell ⟨w.heap.size + 1, 0, none⟩ (.int .i64 r0.1))) := Lib.hid (HW2.out.put rd_ok14 (HW2.out.box.vt_putk  _) (only_put (only_refl _ _) _ _) HW2.out.hd)
  clear m0 f0 HC HW1 HW2
  generalize w2.setCell ⟨w.heap.size + 1, 0, none⟩ (.int .i64 r0.1) = w3 at *
  have HC := Lib.hid (HIN.out w3 0 1073741824 _ _ _ _ _ _ _ r1 E1.out HW3.out)
  go_upto_region 4 with (go_at_call 71; (with_reducible refine (HC.out).mono ?_); rintro e w4 ⟨rfl, hw⟩; have m0 : w4.cell? ⟨w.heap.size + 1, 1, none⟩ = some (.int .i64 0) := hw.box.vt_1; have f0 := hw.box.free 1; have HW4 := Lib.hid hw; clear hw)
  have HW5 : Hid (VrW Rd w a w.heap.size (w.heap.size + 1) r0.1 r1.1 0 0 zeros 0 r1.2 (w4.setCell ⟨w.heap.size + 1, 1, none⟩ (.int .i64 r1.1))) := Lib.hid (HW4.out.put rd_ok14 (HW4.out.box.vt_pute  _) (only_put (only_refl _ _) _ _) HW4.out.hd)
  clear m0 f0 HC HW3 HW4
  generalize w4.setCell ⟨w.heap.size + 1, 1, none⟩ (.int .i64 r1.1) = w5 at *
  have HC := Lib.hid (HIN.out w5 1 1024 _ _ _ _ _ _ _ r2 E2.out HW5.out)
  go_upto_region 5 with (go_at_call 71; (with_reducible refine (HC.out).mono ?_); rintro e w6 ⟨rfl, hw⟩; have m0 : w6.cell? ⟨w.heap.size + 1, 2, none⟩ = some (.int .i64 0) := hw.box.vt_2; have f0 := hw.box.free 2; have HW6 := Lib.hid hw; clear hw)
  have HW7 : Hid (VrW Rd w a w.heap.size (w.heap.size + 1) r0.1 r1.1 r2.1 0 zeros 0 r2.2 (w6.setCell ⟨w.heap.size + 1, 2, none⟩ (.int .i64 r2.1))) := Lib.hid (HW6.out.put rd_ok14 (HW6.out.box.vt_puth  _) (only_put (only_refl _ _) _ _) HW6.out.hd)
  clear m0 f0 HC HW5 HW6
  generalize w6.setCell ⟨w.heap.size + 1, 2, none⟩ (.int .i64 r2.1) = w7 at *
  have HC := Lib.hid (HIN.out w7 0 1024 _ _ _ _ _ _ _ r3 E3.out HW7.out)
  go_upto_region 6 with (go_at_call 71; (with_reducible refine (HC.out).mono ?_); rintro e w8 ⟨rfl, hw⟩; have m0 : w8.cell? ⟨w.heap.size + 1, 3, none⟩ = some (.int .i64 0) := hw.box.vt_3; have f0 := hw.box.free 3; have HW8 := Lib.hid hw; clear hw)
  have HW9 : Hid (VrW Rd w a w.heap.size (w.heap.size + 1) r0.1 r1.1 r2.1 r3.1 zeros 0 r3.2 (w8.setCell ⟨w.heap.size + 1, 3, none⟩ (.int .i64 r3.1))) := Lib.hid (HW8.out.put rd_ok14 (HW8.out.box.vt_putr  _) (only_put (only_refl _ _) _ _) HW8.out.hd)
  clear m0 f0 HC HW7 HW8
  generalize w8.setCell ⟨w.heap.size + 1, 3, none⟩ (.int .i64 r3.1) = w9 at *
  have HC := Lib.hid (HIN.out w9 1 63 _ _ _ _ _ _ _ r4 E4.out HW9.out)
  go_upto_region 7 with (go_at_call 71; (with_reducible refine (HC.out).mono ?_); rintro e w10 ⟨rfl, hw⟩; have m0 : w10.cell? ⟨w.heap.size + 1, 36, none⟩ = some (.int .i64 0) := hw.box.vt_36 hw.hd; have f0 := hw.box.free 36; have HW10 := Lib.hid hw; clear hw)
  have HW11 : Hid (VrW Rd w a w.heap.size (w.heap.size + 1) r0.1 r1.1 r2.1 r3.1 zeros r4.1 r4.2 (w10.setCell ⟨w.heap.size + 1, 36, none⟩ (.int .i64 r4.1))) := Lib.hid (HW10.out.put rd_ok14 (HW10.out.box.vt_putf HW10.out.hd _) (only_put (only_refl _ _) _ _) HW10.out.hd)
  clear m0 f0 HC HW9 HW10
  generalize w10.setCell ⟨w.heap.size + 1, 36, none⟩ (.int .i64 r4.1) = w11 at *
  have HC := Lib.hid (HDG.out w11 _ _ _ _ _ _ _ r5 E5.out HW11.out)
  go_upto_region 8 with (go_at_call 72; (with_reducible refine (HC.out).mono ?_); rintro e w12 ⟨rfl, hw⟩; obtain ⟨hst, hb, hg⟩ := hw.box.vt_putd hw.hd r5.1 L5.out; have HW13 := Lib.hid (hw.put rd_ok14 hb hg L5.out); clear hw hb hg)
  clear HC HW11 hst
  generalize w12.setCells (w.heap.size + 1) 4 (r5.1.map bv) = w13 at *
  have HC := Lib.hid (HSG.out w13 _ _ _ _ _ _ r5.2 F EF.out HW13.out)
  clear HIN HDG HSG E0 E1 E2 E3 E4 E5 EF
  go_upto_region 9 with (go_at_call 113; (with_reducible refine (HC.out).mono ?_); rintro e w20 ⟨s, hs, rfl, hd, hn, hw⟩; obtain ⟨w21, hst, hb, hg⟩ := Box.st_vsg14 (m := ⟨⟨r0.1, r1.1, r2.1, r3.1, r5.1, r4.1, 0, [], [], [], L5.out⟩, none, 0, none, 0, none, 0⟩) hw.box s; have HS := Lib.hid hs; have HB21 := Lib.hid hb; have HNW := Lib.hid hn; have HD21 := Lib.hid (And.intro (Digs.fresh_aside hd.1 hn.1 hg HW13.out.box.lt) (And.intro (Digs.fresh_aside hd.2.1 hn.2.1 hg HW13.out.box.lt) (Digs.fresh_aside hd.2.2 hn.2.2 hg HW13.out.box.lt))); have HO21 := Lib.hid (hw.out.grown hg (fun e => by injection e with e; exact hw.ne e)); have HR21 := Lib.hid (rd_ok14.put hw.rd hg (by have := hw.ha; have := hw.hg; omega)); have HF21 := Lib.hid (only_new hw.far hg hw.hg); clear hs hd hn hw hb hg)
  clear hst HC
  have HSZ : Hid (w.heap.size < w13.heap.size) := Lib.hid HW13.out.out.lt
  have HA := Lib.hid HW13.out.ha
  have HGK := Lib.hid (HGD.out w21 F HR21.out)
  clear HGD HW13
  generalize w13.heap.size = B0 at *
  obtain ⟨gd, hgd⟩ : ∃ gd, F.2 = gd := ⟨_, rfl⟩
  rw [hgd] at HGK
  rcases gd with _ | _
  · have HXX := Lib.hid (HG.out hgd)
    clear HG HX hgd
    obtain ⟨M, hM⟩ : ∃ M : VtM, M = ⟨⟨r0.1, r1.1, r2.1, r3.1, r5.1, r4.1, s.n, s.X, s.Y, s.P, L5.out⟩, s.A, s.a, s.B, s.b, s.C, s.c⟩ := ⟨_, rfl⟩
    have HBM : Hid (Box w21 (w.heap.size + 1) 74 M.cells.toArray) := Lib.hid (by rw [hM]; exact HB21.out)
    have HMX : Hid (M.x = X) := Lib.hid (by
      obtain ⟨x0, x1, x2, x3, x4, x5, x6, x7, x8, x9⟩ := HXX.out
      obtain ⟨s1, s2, s3, s4⟩ := HS.out
      rw [hM]
      exact vtx_ext14 x0.symm x1.symm x2.symm x3.symm x4.symm x5.symm (s1.trans x6.symm) (s2.trans x7.symm) (s3.trans x8.symm) (s4.trans x9.symm))
    have HMS : Hid (VSee w21 M) := Lib.hid (by rw [hM]; exact ⟨HD21.out.1, HD21.out.2.1, HD21.out.2.2⟩)
    have HMN : Hid (FreshM B0 M) := Lib.hid (by rw [hM]; exact ⟨HNW.out.1, HNW.out.2.1, HNW.out.2.2⟩)
    clear hM HXX HS HD21 HNW HB21
    have lv := HBM.out.ld_vt
    obtain ⟨w22, hst, hb, hg⟩ := HO21.out.st_vt zvtV_size M
    have HB22 := Lib.hid hb
    have HR22 := Lib.hid (rd_ok14.put HR21.out hg HA.out)
    have HF22 := Lib.hid (only_new HF21.out hg (Nat.le_refl _))
    have HS22 : Hid (VSee w22 M) := Lib.hid ⟨Digs.fresh_aside HMS.out.opn HMN.out.opn hg HSZ.out, Digs.fresh_aside HMS.out.sht HMN.out.sht hg HSZ.out, Digs.fresh_aside HMS.out.pth HMN.out.pth hg HSZ.out⟩
    have HN22 : Hid (FreshM w.heap.size M) := Lib.hid ⟨HMN.out.opn.low (Nat.le_of_lt HSZ.out), HMN.out.sht.low (Nat.le_of_lt HSZ.out), HMN.out.pth.low (Nat.le_of_lt HSZ.out)⟩
    clear hb hg HMS HMN HBM HR21 HF21 HO21
    go_wp2_with (go_at_call 19; (with_reducible refine (HGK.out).mono ?_); rintro e wg ⟨rfl, rfl⟩)
    exact ret_vt rfl rfl rfl HB22.out ⟨M, HMX.out, rfl, HS22.out, HN22.out, HR22.out, HF22.out⟩
  · have HXZ := Lib.hid (HX.out hgd)
    clear HG HX hgd HS HD21 HNW HB21
    have hbd := bd_vt014 w21
    obtain ⟨w22, hst, hb, hg⟩ := HO21.out.st_vt zvtV_size zvt
    rw [zvt_cells] at hst hb
    have HB22 : Hid (Box w22 w.heap.size 74 zvt.cells.toArray) := Lib.hid (by rw [zvt_cells]; exact hb)
    have HR22 := Lib.hid (rd_ok14.put HR21.out hg HA.out)
    have HF22 := Lib.hid (only_new HF21.out hg (Nat.le_refl _))
    clear hb hg HR21 HF21 HO21
    go_wp2_with (go_at_call 19; (with_reducible refine (HGK.out).mono ?_); rintro e wg ⟨rfl, rfl⟩)
    exact ret_vt rfl rfl rfl HB22.out ⟨zvt, HXZ.out.symm, rfl, zvt_see _, zvt_fresh _, HR22.out, HF22.out⟩
set_option maxRecDepth 100000 in
theorem vread_any14 (a : Nat) (l : List UInt8) (b : Bool) (w : World) (h : Rd w a l b) : Calls Tryz.prog 74 #[.pointer (some ⟨a, 0, none⟩)] w (VtIs Rd a (vtX l b) (vtF l b) w) := by
  obtain ⟨r0, r1, r2, r3, r4, r5, hf⟩ := vt_facts l b
  exact vread_gen14 a l b w h hf
end Go.Proofs.YtbclepdcngaonaaGreatDoor

namespace Go.Proofs.YtbclepdcngaonaaGreatDoor
open Go.RowKit Go.Maps Go.Sort

attribute [local go_sem ↓] ldVt_def stVt_def bdVt14_def ldDigest_def stDigest_def stSg14_def
set_option maxRecDepth 100000 in
set_option maxHeartbeats 8000000 in
theorem rvread_gen14 (a : Nat) (l : List UInt8) (b : Bool) (w : World) (h : RRd w a l b) {X : VtX} {F : List UInt8 × Bool} {r0 r1 r2 r3 r4 : Int × List UInt8 × Bool} {r5 : List UInt8 × List UInt8 × Bool} (hf : VtFacts l b X F r0 r1 r2 r3 r4 r5) :
    Calls Tryz.prog 78 #[.pointer (some ⟨a, 0, none⟩)] w (VtIs RRd a X F w) := by
  have HG := Lib.hid hf.good
  have HX := Lib.hid hf.bad
  have L5 := Lib.hid hf.l5
  have HW1 := Lib.hid (VrW.start rrd_ok14 l b h)
  have HIN : Hid (∀ w' (lo hi : Int) k e h r d f (t : List UInt8 × Bool) (q : Int × List UInt8 × Bool), inV lo hi t.1 t.2 = q → VrW RRd w a w.heap.size (w.heap.size + 1) k e h r d f t w' → Calls Tryz.prog 75 #[.pointer (some ⟨a, 0, none⟩), .int .i64 lo, .int .i64 hi] w' fun e' w'' => e' = .returned (.int .i64 q.1) ∧ VrW RRd w a w.heap.size (w.heap.size + 1) k e h r d f q.2 w'') :=
    Lib.hid (fun w' lo hi k e h r d f t q hq hw => by subst hq; exact (rin_any a lo hi t.1 t.2 w' hw.rd).mono fun e' w'' ⟨he, hr, hg⟩ => ⟨he, hw.turn hg hr⟩)
  have HDG : Hid (∀ w' k e h r d f (t : List UInt8 × Bool) (q : List UInt8 × List UInt8 × Bool), dgV t.1 t.2 = q → VrW RRd w a w.heap.size (w.heap.size + 1) k e h r d f t w' → Calls Tryz.prog 76 #[.pointer (some ⟨a, 0, none⟩)] w' fun e' w'' => e' = .returned (.agg (q.1.map bv).toArray) ∧ VrW RRd w a w.heap.size (w.heap.size + 1) k e h r d f q.2 w'') :=
    Lib.hid (fun w' k e h r d f t q hq hw => by subst hq; exact (rdigest_any a t.1 t.2 w' hw.rd).mono fun e' w'' ⟨he, hr, hg⟩ => ⟨he, hw.turn hg hr⟩)
  have HSG : Hid (∀ w' k e h r d f (t : List UInt8 × Bool) (q : List UInt8 × Bool), rdF t.1 t.2 = q → VrW RRd w a w.heap.size (w.heap.size + 1) k e h r d f t w' → Calls Tryz.prog 117 #[.pointer (some ⟨a, 0, none⟩)] w' (SgIs RRd w a w.heap.size (w.heap.size + 1) k e h r d f t.1 t.2 q w')) :=
    Lib.hid (fun w' k e h r d f t q hq hw => by subst hq; exact (rkread_new a t.1 t.2 w' hw.rd).mono fun e' w'' ⟨A, B, C, x, y, z, he, h1, h2, h3, hr, hg, hn⟩ => ⟨⟨rdN t.1 t.2, rdX t.1 t.2, rdY t.1 t.2, rdP t.1 t.2, A, x, B, y, C, z⟩, ⟨rfl, rfl, rfl, rfl⟩, he, ⟨h1, h2, h3⟩, hn, hw.turn hg hr⟩)
  have HGD : Hid (∀ w' (t : List UInt8 × Bool), RRd w' a t.1 t.2 → Calls Tryz.prog 20 #[.pointer (some ⟨a, 0, none⟩)] w' fun e' w'' => e' = .returned (.bool !t.2) ∧ w' = w'') := Lib.hid (fun w' t hw => rgood_any a t.1 t.2 w' hw)
  have E0 := Lib.hid hf.e0
  have E1 := Lib.hid hf.e1
  have E2 := Lib.hid hf.e2
  have E3 := Lib.hid hf.e3
  have E4 := Lib.hid hf.e4
  have E5 := Lib.hid hf.e5
  have EF := Lib.hid hf.fin
  have hzv := zero_vt
  clear h hf
  go_enter Tryz.func78, Tryz.ntmps78
  go_upto_region 2 with fail
  change Code.wp _ _ _ _ ((w.alloc (.cells zvtV 74)).alloc (.cells zvtV 74))
  generalize (w.alloc (.cells zvtV 74)).alloc (.cells zvtV 74) = w1 at *
  clear hzv
  have HC := Lib.hid (HIN.out w1 1 2 _ _ _ _ _ _ _ r0 E0.out HW1.out)
  go_upto_region 3 with (go_at_call 75; (with_reducible refine (HC.out).mono ?_); rintro e w2 ⟨rfl, hw⟩; have m0 : w2.cell? ⟨w.heap.size + 1, 0, none⟩ = some (.int .i64 0) := hw.box.vt_0; have f0 := hw.box.free 0; have HW2 := Lib.hid hw; clear hw)
  have HW3 : Hid (VrW RRd w a w.heap.size (w.heap.size + 1) r0.1 0 0 0 zeros 0 r0.2 (w2.setCell ⟨w.heap.size + 1, 0, none⟩ (.int .i64 r0.1))) := Lib.hid (HW2.out.put rrd_ok14 (HW2.out.box.vt_putk  _) (only_put (only_refl _ _) _ _) HW2.out.hd)
  clear m0 f0 HC HW1 HW2
  generalize w2.setCell ⟨w.heap.size + 1, 0, none⟩ (.int .i64 r0.1) = w3 at *
  have HC := Lib.hid (HIN.out w3 0 1073741824 _ _ _ _ _ _ _ r1 E1.out HW3.out)
  go_upto_region 4 with (go_at_call 75; (with_reducible refine (HC.out).mono ?_); rintro e w4 ⟨rfl, hw⟩; have m0 : w4.cell? ⟨w.heap.size + 1, 1, none⟩ = some (.int .i64 0) := hw.box.vt_1; have f0 := hw.box.free 1; have HW4 := Lib.hid hw; clear hw)
  have HW5 : Hid (VrW RRd w a w.heap.size (w.heap.size + 1) r0.1 r1.1 0 0 zeros 0 r1.2 (w4.setCell ⟨w.heap.size + 1, 1, none⟩ (.int .i64 r1.1))) := Lib.hid (HW4.out.put rrd_ok14 (HW4.out.box.vt_pute  _) (only_put (only_refl _ _) _ _) HW4.out.hd)
  clear m0 f0 HC HW3 HW4
  generalize w4.setCell ⟨w.heap.size + 1, 1, none⟩ (.int .i64 r1.1) = w5 at *
  have HC := Lib.hid (HIN.out w5 1 1024 _ _ _ _ _ _ _ r2 E2.out HW5.out)
  go_upto_region 5 with (go_at_call 75; (with_reducible refine (HC.out).mono ?_); rintro e w6 ⟨rfl, hw⟩; have m0 : w6.cell? ⟨w.heap.size + 1, 2, none⟩ = some (.int .i64 0) := hw.box.vt_2; have f0 := hw.box.free 2; have HW6 := Lib.hid hw; clear hw)
  have HW7 : Hid (VrW RRd w a w.heap.size (w.heap.size + 1) r0.1 r1.1 r2.1 0 zeros 0 r2.2 (w6.setCell ⟨w.heap.size + 1, 2, none⟩ (.int .i64 r2.1))) := Lib.hid (HW6.out.put rrd_ok14 (HW6.out.box.vt_puth  _) (only_put (only_refl _ _) _ _) HW6.out.hd)
  clear m0 f0 HC HW5 HW6
  generalize w6.setCell ⟨w.heap.size + 1, 2, none⟩ (.int .i64 r2.1) = w7 at *
  have HC := Lib.hid (HIN.out w7 0 1024 _ _ _ _ _ _ _ r3 E3.out HW7.out)
  go_upto_region 6 with (go_at_call 75; (with_reducible refine (HC.out).mono ?_); rintro e w8 ⟨rfl, hw⟩; have m0 : w8.cell? ⟨w.heap.size + 1, 3, none⟩ = some (.int .i64 0) := hw.box.vt_3; have f0 := hw.box.free 3; have HW8 := Lib.hid hw; clear hw)
  have HW9 : Hid (VrW RRd w a w.heap.size (w.heap.size + 1) r0.1 r1.1 r2.1 r3.1 zeros 0 r3.2 (w8.setCell ⟨w.heap.size + 1, 3, none⟩ (.int .i64 r3.1))) := Lib.hid (HW8.out.put rrd_ok14 (HW8.out.box.vt_putr  _) (only_put (only_refl _ _) _ _) HW8.out.hd)
  clear m0 f0 HC HW7 HW8
  generalize w8.setCell ⟨w.heap.size + 1, 3, none⟩ (.int .i64 r3.1) = w9 at *
  have HC := Lib.hid (HIN.out w9 1 63 _ _ _ _ _ _ _ r4 E4.out HW9.out)
  go_upto_region 7 with (go_at_call 75; (with_reducible refine (HC.out).mono ?_); rintro e w10 ⟨rfl, hw⟩; have m0 : w10.cell? ⟨w.heap.size + 1, 36, none⟩ = some (.int .i64 0) := hw.box.vt_36 hw.hd; have f0 := hw.box.free 36; have HW10 := Lib.hid hw; clear hw)
  have HW11 : Hid (VrW RRd w a w.heap.size (w.heap.size + 1) r0.1 r1.1 r2.1 r3.1 zeros r4.1 r4.2 (w10.setCell ⟨w.heap.size + 1, 36, none⟩ (.int .i64 r4.1))) := Lib.hid (HW10.out.put rrd_ok14 (HW10.out.box.vt_putf HW10.out.hd _) (only_put (only_refl _ _) _ _) HW10.out.hd)
  clear m0 f0 HC HW9 HW10
  generalize w10.setCell ⟨w.heap.size + 1, 36, none⟩ (.int .i64 r4.1) = w11 at *
  have HC := Lib.hid (HDG.out w11 _ _ _ _ _ _ _ r5 E5.out HW11.out)
  go_upto_region 8 with (go_at_call 76; (with_reducible refine (HC.out).mono ?_); rintro e w12 ⟨rfl, hw⟩; obtain ⟨hst, hb, hg⟩ := hw.box.vt_putd hw.hd r5.1 L5.out; have HW13 := Lib.hid (hw.put rrd_ok14 hb hg L5.out); clear hw hb hg)
  clear HC HW11 hst
  generalize w12.setCells (w.heap.size + 1) 4 (r5.1.map bv) = w13 at *
  have HC := Lib.hid (HSG.out w13 _ _ _ _ _ _ r5.2 F EF.out HW13.out)
  clear HIN HDG HSG E0 E1 E2 E3 E4 E5 EF
  go_upto_region 9 with (go_at_call 117; (with_reducible refine (HC.out).mono ?_); rintro e w20 ⟨s, hs, rfl, hd, hn, hw⟩; obtain ⟨w21, hst, hb, hg⟩ := Box.st_vsg14 (m := ⟨⟨r0.1, r1.1, r2.1, r3.1, r5.1, r4.1, 0, [], [], [], L5.out⟩, none, 0, none, 0, none, 0⟩) hw.box s; have HS := Lib.hid hs; have HB21 := Lib.hid hb; have HNW := Lib.hid hn; have HD21 := Lib.hid (And.intro (Digs.fresh_aside hd.1 hn.1 hg HW13.out.box.lt) (And.intro (Digs.fresh_aside hd.2.1 hn.2.1 hg HW13.out.box.lt) (Digs.fresh_aside hd.2.2 hn.2.2 hg HW13.out.box.lt))); have HO21 := Lib.hid (hw.out.grown hg (fun e => by injection e with e; exact hw.ne e)); have HR21 := Lib.hid (rrd_ok14.put hw.rd hg (by have := hw.ha; have := hw.hg; omega)); have HF21 := Lib.hid (only_new hw.far hg hw.hg); clear hs hd hn hw hb hg)
  clear hst HC
  have HSZ : Hid (w.heap.size < w13.heap.size) := Lib.hid HW13.out.out.lt
  have HA := Lib.hid HW13.out.ha
  have HGK := Lib.hid (HGD.out w21 F HR21.out)
  clear HGD HW13
  generalize w13.heap.size = B0 at *
  obtain ⟨gd, hgd⟩ : ∃ gd, F.2 = gd := ⟨_, rfl⟩
  rw [hgd] at HGK
  rcases gd with _ | _
  · have HXX := Lib.hid (HG.out hgd)
    clear HG HX hgd
    obtain ⟨M, hM⟩ : ∃ M : VtM, M = ⟨⟨r0.1, r1.1, r2.1, r3.1, r5.1, r4.1, s.n, s.X, s.Y, s.P, L5.out⟩, s.A, s.a, s.B, s.b, s.C, s.c⟩ := ⟨_, rfl⟩
    have HBM : Hid (Box w21 (w.heap.size + 1) 74 M.cells.toArray) := Lib.hid (by rw [hM]; exact HB21.out)
    have HMX : Hid (M.x = X) := Lib.hid (by
      obtain ⟨x0, x1, x2, x3, x4, x5, x6, x7, x8, x9⟩ := HXX.out
      obtain ⟨s1, s2, s3, s4⟩ := HS.out
      rw [hM]
      exact vtx_ext14 x0.symm x1.symm x2.symm x3.symm x4.symm x5.symm (s1.trans x6.symm) (s2.trans x7.symm) (s3.trans x8.symm) (s4.trans x9.symm))
    have HMS : Hid (VSee w21 M) := Lib.hid (by rw [hM]; exact ⟨HD21.out.1, HD21.out.2.1, HD21.out.2.2⟩)
    have HMN : Hid (FreshM B0 M) := Lib.hid (by rw [hM]; exact ⟨HNW.out.1, HNW.out.2.1, HNW.out.2.2⟩)
    clear hM HXX HS HD21 HNW HB21
    have lv := HBM.out.ld_vt
    obtain ⟨w22, hst, hb, hg⟩ := HO21.out.st_vt zvtV_size M
    have HB22 := Lib.hid hb
    have HR22 := Lib.hid (rrd_ok14.put HR21.out hg HA.out)
    have HF22 := Lib.hid (only_new HF21.out hg (Nat.le_refl _))
    have HS22 : Hid (VSee w22 M) := Lib.hid ⟨Digs.fresh_aside HMS.out.opn HMN.out.opn hg HSZ.out, Digs.fresh_aside HMS.out.sht HMN.out.sht hg HSZ.out, Digs.fresh_aside HMS.out.pth HMN.out.pth hg HSZ.out⟩
    have HN22 : Hid (FreshM w.heap.size M) := Lib.hid ⟨HMN.out.opn.low (Nat.le_of_lt HSZ.out), HMN.out.sht.low (Nat.le_of_lt HSZ.out), HMN.out.pth.low (Nat.le_of_lt HSZ.out)⟩
    clear hb hg HMS HMN HBM HR21 HF21 HO21
    go_wp2_with (go_at_call 20; (with_reducible refine (HGK.out).mono ?_); rintro e wg ⟨rfl, rfl⟩)
    exact ret_vt rfl rfl rfl HB22.out ⟨M, HMX.out, rfl, HS22.out, HN22.out, HR22.out, HF22.out⟩
  · have HXZ := Lib.hid (HX.out hgd)
    clear HG HX hgd HS HD21 HNW HB21
    have hbd := bd_vt014 w21
    obtain ⟨w22, hst, hb, hg⟩ := HO21.out.st_vt zvtV_size zvt
    rw [zvt_cells] at hst hb
    have HB22 : Hid (Box w22 w.heap.size 74 zvt.cells.toArray) := Lib.hid (by rw [zvt_cells]; exact hb)
    have HR22 := Lib.hid (rrd_ok14.put HR21.out hg HA.out)
    have HF22 := Lib.hid (only_new HF21.out hg (Nat.le_refl _))
    clear hb hg HR21 HF21 HO21
    go_wp2_with (go_at_call 20; (with_reducible refine (HGK.out).mono ?_); rintro e wg ⟨rfl, rfl⟩)
    exact ret_vt rfl rfl rfl HB22.out ⟨zvt, HXZ.out.symm, rfl, zvt_see _, zvt_fresh _, HR22.out, HF22.out⟩
set_option maxRecDepth 100000 in
theorem rvread_any14 (a : Nat) (l : List UInt8) (b : Bool) (w : World) (h : RRd w a l b) : Calls Tryz.prog 78 #[.pointer (some ⟨a, 0, none⟩)] w (VtIs RRd a (vtX l b) (vtF l b) w) := by
  obtain ⟨r0, r1, r2, r3, r4, r5, hf⟩ := vt_facts l b
  exact rvread_gen14 a l b w h hf
end Go.Proofs.YtbclepdcngaonaaGreatDoor

namespace Go.Proofs.YtbclepdcngaonaaGreatDoor
open Go.RowKit Go.Maps Go.Sort

set_option maxRecDepth 100000 in
theorem crt_size14 (r : Int) (A : Option Addr) (n c : Nat) : (Tryz.prog.info? 35).map (·.size) = some (crtV r A n c).size := by
  show _ = some 2
  kernel_rfl
set_option maxRecDepth 100000 in
theorem ret_ct14 {fn : Func} {q : Tmp} (hf : fn.results = #[.cell q 35]) {a : Act} {w : World} {g : Nat} (hq : a.tmps.getD q undef = .pointer (some ⟨g, 0, none⟩)) (hdf : a.defers = []) {t : TypeId} {r : Int} {A : Option Addr} {n c : Nat} (hb : Box w g t (crtV r A n c))
    {R : Ending → World → Prop} (hR : R (.returned (.agg (crtV r A n c))) w) : bodyPost Tryz.prog fn R .ret a w :=
  bodyPost_ret (results_cell_row hf _ w g t _ (0, 0) _ hq hb Tryz.underlying35 rfl (crt_size14 r A n c)) hdf hR

/-- What is carried of memory: the result's block, the word's, the reader, the row, its votes' lists. -/
structure CrW (R : World → Nat → List UInt8 → Bool → Prop) (w0 : World) (a o g : Nat) (r : Int) (A : Option Addr) (n c : Nat) (ms : List VtM) (t : List UInt8 × Bool) (w : World) : Prop where
  out : Box w o 35 (crtV 0 none 0 0)
  box : Box w g 35 (crtV r A n c)
  rd : R w a t.1 t.2
  own : VtK.Own w w0.heap.size (.slice A n c) ms
  see : BSee w ms
  fr : ∀ m ∈ ms, FreshM w0.heap.size m
  off : ∀ m ∈ ms, OffM (Value.slice A n c).ownBlock m
  far : w0.grownBy w (some a)
  ha : a < w0.heap.size
  ho : w0.heap.size ≤ o
  hg : w0.heap.size ≤ g
  ne : o ≠ g
set_option maxRecDepth 100000 in
theorem VSee.fresh14 {w w' : World} {B r : Nat} {m : VtM} (h : VSee w m) (hf : FreshM B m) (hg : w.grownBy w' (some r)) (hr : r < B) : VSee w' m :=
  ⟨Digs.fresh_aside h.opn hf.opn hg hr, Digs.fresh_aside h.sht hf.sht hg hr, Digs.fresh_aside h.pth hf.pth hg hr⟩
set_option maxRecDepth 100000 in
theorem FreshM.low14 {B B' : Nat} {m : VtM} (h : FreshM B m) (hb : B' ≤ B) : FreshM B' m := ⟨h.opn.low hb, h.sht.low hb, h.pth.low hb⟩
set_option maxRecDepth 100000 in
theorem only_low14 {w0 w w' : World} {row : Option Nat} (h : w0.grownBy w row) (hb : Below w0.heap.size w w') : w0.grownBy w' row :=
  ⟨hb.os.trans h.os, hb.tape.trans h.tape, hb.output.trans h.output, Nat.le_trans h.size hb.size, fun i hi hn => (hb.block i hi).trans (h.block i hi hn)⟩
section
variable {R : World → Nat → List UInt8 → Bool → Prop} {w0 w w' : World} {a o g n c : Nat} {r : Int} {A : Option Addr} {ms : List VtM} {t t' : List UInt8 × Bool}
set_option maxRecDepth 100000 in
theorem CrW.turn (h : CrW R w0 a o g r A n c ms t w) (hg : w.grownBy w' (some a)) (hr : R w' a t'.1 t'.2) : CrW R w0 a o g r A n c ms t' w' :=
  ⟨h.out.grown hg (by have := h.ha; have := h.ho; intro e; cases e; omega), h.box.grown hg (by have := h.ha; have := h.hg; intro e; cases e; omega), hr,
    World.ownsRow.kept h.own hg (.inr (fun e => by have := (h.own.lt a e).1; have := h.ha; omega)), fun m hm => (h.see m hm).fresh14 (h.fr m hm) hg h.ha, h.fr, h.off, only_trans h.far hg, h.ha, h.ho, h.hg, h.ne⟩
set_option maxRecDepth 100000 in
theorem CrW.call (h : CrW R w0 a o g r A n c ms t w) (hR : RdOk14 R) (hb : Below w.heap.size w w') : CrW R w0 a o g r A n c ms t w' :=
  ⟨h.out.below hb h.out.lt, h.box.below hb h.box.lt, hR.below h.rd hb, EK.Own.keep h.own hb, h.see.call hb, h.fr, h.off, only_trans h.far (only_below hb (some a)), h.ha, h.ho, h.hg, h.ne⟩
set_option maxRecDepth 100000 in
theorem CrW.cell (h : CrW R w0 a o g r A n c ms t w) : w.cell? ⟨g, 1, none⟩ = some (.slice A n c) := h.box.cell 1
set_option maxRecDepth 100000 in
theorem CrW.put0 {r' : Int} (h : CrW R w0 a o g r A n c ms t w) (hR : RdOk14 R) (hms : ms = []) (hA : A = none ∧ n = 0 ∧ c = 0) : CrW R w0 a o g r' A n c ms t (w.setCell ⟨g, 0, none⟩ (.int .i64 r')) := by
  subst hms
  obtain ⟨rfl, rfl, rfl⟩ := hA
  have hp : w.grownBy (w.setCell ⟨g, 0, none⟩ (.int .i64 r')) (some g) := only_put (only_refl _ _) 0 _
  exact ⟨h.out.grown hp (fun e => by injection e with e; exact h.ne e), Box.put_in (pre := []) (post := [.slice none 0 0]) h.box rfl _, hR.put h.rd hp (by have := h.ha; have := h.hg; omega), EK.own_nil _ _ _, fun m hm => (by cases hm), fun m hm => (by cases hm), fun m hm => (by cases hm), only_new h.far hp h.hg, h.ha, h.ho, h.hg, h.ne⟩
set_option maxRecDepth 100000 in
theorem CrW.push (h : CrW R w0 a o g r A n c ms t w) (hR : RdOk14 R) {m : VtM} (hm : VSee w m) (hf : FreshM w0.heap.size m) (hom : OffM (Value.slice A n c).ownBlock m) (hl : ms.length < 1000000) :
    (bsT 33 1 #[(0, .agg m.cells.toArray)]).run Tryz.prog w = .ok (.slice (some ⟨w.heap.size, 0, none⟩) 1 1) (w.alloc (.cells m.cells.toArray 74)) ∧
    (w.alloc (.cells m.cells.toArray 74)).cell? ⟨g, 1, none⟩ = some (.slice A n c) ∧
    ∃ A' n' c' w', (apAll #[33, 33] 33 #[.slice A n c, .slice (some ⟨w.heap.size, 0, none⟩) 1 1]).run Tryz.prog (w.alloc (.cells m.cells.toArray 74)) = .ok (.slice A' n' c') w' ∧
      w'.cell? ⟨g, 1, none⟩ = some (.slice A n c) ∧ w'.frozen? ⟨g, 1, none⟩ = false ∧ CrW R w0 a o g r A' n' c' (ms ++ [m]) t (w'.setCell ⟨g, 1, none⟩ (.slice A' n' c')) := by
  obtain ⟨h1, A', c', w', h2, ho, hs, hf', hb, hg⟩ := vt_push14 h.own h.see h.off hm hom hl h.far.size
  have hal : Below w.heap.size w (w.alloc (.cells m.cells.toArray 74)) := (Below.refl _ _).alloc (Nat.le_refl _) _
  have h3 := h.call hR hal
  have hbx : Box w' g 35 (crtV r A n c) := box_own h3.box h3.own (by decide) hg
  have hox : Box w' o 35 (crtV 0 none 0 0) := box_own h3.out h3.own (by decide) hg
  have hrx : R w' a t.1 t.2 := hR.own h3.rd h3.own hg h.ha
  have hp : w'.grownBy (w'.setCell ⟨g, 1, none⟩ (.slice A' (ms.length + 1) c')) (some g) := only_put (only_refl _ _) 1 _
  refine ⟨h1, h3.cell, A', _, c', w', h2, hbx.cell 1, hbx.free 1, ?_⟩
  refine ⟨hox.grown hp (fun e => h.ne (by injection e)), Box.put_in (pre := [.int .i64 r]) (post := []) hbx rfl _, hR.put hrx hp (by have := h.ha; have := h.hg; omega), own_box ho hbx (by decide) hp, fun u hu => (hs u hu).aside14 hbx (crt_nobyte _ _ _ _) hp, fun u hu => ?_, hf', only_new (only_low14 h.far hb) hp h.hg, h.ha, h.ho, h.hg, h.ne⟩
  rcases List.mem_append.1 hu with hu | hu
  · exact h.fr u hu
  · rw [List.mem_singleton.1 hu]
    exact hf
end
/-- What a reading of a word answers, and leaves. -/
def CrtIs (R : World → Nat → List UInt8 → Bool → Prop) (a : Nat) (r : Int) (X : List VtX) (F : List UInt8 × Bool) (w : World) (e : Ending) (w' : World) : Prop :=
  ∃ (A : Option Addr) (n c : Nat) (us : List VtM), us.map VtM.x = X ∧ e = .returned (.agg (crtV r A n c)) ∧ VtK.Own w' w.heap.size (.slice A n c) us ∧ BSee w' us ∧ (∀ m ∈ us, FreshM w.heap.size m) ∧ R w' a F.1 F.2 ∧ w.grownBy w' (some a)
set_option maxRecDepth 100000 in
theorem nil_is14 {R : World → Nat → List UInt8 → Bool → Prop} {a : Nat} {r : Int} {X : List VtX} {F : List UInt8 × Bool} {w w' : World} (hz : r = 0 ∧ X = []) (hr : R w' a F.1 F.2) (hg : w.grownBy w' (some a)) : CrtIs R a r X F w (.returned (.agg (crtV 0 none 0 0))) w' := by
  obtain ⟨rfl, rfl⟩ := hz
  exact ⟨none, 0, 0, [], rfl, rfl, EK.own_nil _ _ _, fun m hm => (by cases hm), fun m hm => (by cases hm), hr, hg⟩
end Go.Proofs.YtbclepdcngaonaaGreatDoor

namespace Go.Proofs.YtbclepdcngaonaaGreatDoor
open Go.RowKit Go.Maps Go.Sort

attribute [local go_sem ↓] ldVt_def stVt_def ldCt_def stCt_def bdCt14_def bsT_def apAll_def
set_option maxRecDepth 100000 in
set_option maxHeartbeats 8000000 in
theorem cread_gen14 (a : Nat) (l : List UInt8) (b : Bool) (w : World) (h : Rd w a l b) {r : Int} {X : List VtX} {c0 c1 : Int × List UInt8 × Bool} {N : Nat} {F : List UInt8 × Bool} {S : Nat → List UInt8 × Bool} {T : Nat → List VtX} (hf : CtFacts l b r X c0 c1 N F S T) :
    Calls Tryz.prog 40 #[.pointer (some ⟨a, 0, none⟩)] w (CrtIs Rd a r X F w) := by
  have HG := Lib.hid hf.good
  have HX := Lib.hid hf.bad
  have HF := Lib.hid hf.fin
  have HN2 := Lib.hid hf.n2
  have HN1 := Lib.hid hf.n1
  have HFC := Lib.hid hf
  have E0 := Lib.hid hf.e0
  have E1 := Lib.hid hf.e1
  have HA := Lib.hid (rd_ok14.lt h)
  have HIN : Hid (∀ w' g (lo hi : Int) rr (t : List UInt8 × Bool) (q : Int × List UInt8 × Bool), inV lo hi t.1 t.2 = q → CrW Rd w a w.heap.size g rr none 0 0 [] t w' → Calls Tryz.prog 71 #[.pointer (some ⟨a, 0, none⟩), .int .i64 lo, .int .i64 hi] w' fun e' w'' => e' = .returned (.int .i64 q.1) ∧ CrW Rd w a w.heap.size g rr none 0 0 [] q.2 w'') :=
    Lib.hid (fun w' g lo hi rr t q hq hw => by subst hq; exact (in_any a lo hi t.1 t.2 w' hw.rd).mono fun e' w'' ⟨he, hr, hg⟩ => ⟨he, hw.turn hg hr⟩)
  have HGD : Hid (∀ w' g rr A n c us (t : List UInt8 × Bool), CrW Rd w a w.heap.size g rr A n c us t w' → Calls Tryz.prog 19 #[.pointer (some ⟨a, 0, none⟩)] w' fun e' w'' => e' = .returned (.bool !t.2) ∧ w' = w'') := Lib.hid (fun w' g rr A n c us t hw => good_any a t.1 t.2 w' hw.rd)
  have HRV : Hid (∀ w' g rr A n c us (t : List UInt8 × Bool) (q : VtX) (t' : List UInt8 × Bool), vtX t.1 t.2 = q → vtF t.1 t.2 = t' → CrW Rd w a w.heap.size g rr A n c us t w' → Calls Tryz.prog 74 #[.pointer (some ⟨a, 0, none⟩)] w' (VtIs Rd a q t' w')) :=
    Lib.hid (fun w' g rr A n c us t q t' hq ht hw => by subst hq ht; exact vread_any14 a t.1 t.2 w' hw.rd)
  obtain ⟨w1, hw1⟩ : ∃ w1, w1 = w.alloc (.cells (crtV 0 none 0 0) 35) := ⟨_, rfl⟩
  have hb1 : Below w.heap.size w w1 := by rw [hw1]; exact (Below.refl _ _).alloc (Nat.le_refl _) _
  have HO : Hid (Box w1 w.heap.size 35 (crtV 0 none 0 0)) := by rw [hw1]; exact Box.made _ _ _
  have HF1 := Lib.hid hb1
  have HC : Hid (Calls Tryz.prog 71 #[.pointer (some ⟨a, 0, none⟩), .int .i64 0, .int .i64 1024] w1 fun e' w'' => e' = .returned (.int .i64 c0.1) ∧ Rd w'' a c0.2.1 c0.2.2 ∧ w1.grownBy w'' (some a)) := Lib.hid (by rw [← E0.out]; exact in_any a 0 1024 l b w1 (rd_ok14.below h hb1))
  clear h hf hb1
  go_enter Tryz.func40, Tryz.ntmps40
  go_upto_region 1 with fail
  change Code.wp _ _ _ _ (w.alloc (.cells (crtV 0 none 0 0) 35))
  rw [← hw1]
  clear hw1
  have bd1 := bd_ct1 c0.1
  go_upto_region 2 with (go_at_call 71; (with_reducible refine (HC.out).mono ?_); rintro e w2 ⟨rfl, hr, hg⟩; have HR2 := Lib.hid hr; have HG2 := Lib.hid hg; obtain ⟨w4, hst, hb4, hbl4⟩ := laid_ct w2 c0.1 none 0 0; have HX4 := Lib.hid hb4; have HB4 := Lib.hid hbl4; clear hr hg hb4 hbl4)
  clear hst bd1 HC
  have HW4 : Hid (CrW Rd w a w.heap.size w2.heap.size c0.1 none 0 0 [] c0.2 w4) := Lib.hid (by
    have h1 := HO.out.grown HG2.out (by have := HA.out; intro e; injection e with e; omega)
    have h2 := HG2.out.size
    have h3 := HO.out.lt
    exact ⟨h1.below HB4.out h1.lt, HX4.out, rd_ok14.below HR2.out HB4.out, EK.own_nil _ _ _, fun m hm => (by cases hm), fun m hm => (by cases hm), fun m hm => (by cases hm), only_trans (only_trans (only_below HF1.out (some a)) HG2.out) (only_below HB4.out (some a)), HA.out, Nat.le_refl _, by omega, by omega⟩)
  clear HX4 HB4 HR2 HG2 HO HF1
  generalize w2.heap.size = gb at *
  have HC := Lib.hid (HIN.out w4 _ 1 10 _ _ c1 E1.out HW4.out)
  go_upto_region 3 with (go_at_call 71; (with_reducible refine (HC.out).mono ?_); rintro e w5 ⟨rfl, hw⟩; have HW5 := Lib.hid hw; clear hw)
  rw [HN1.out]
  clear HC HW4 HIN E0 E1 HN1
  rw [← HFC.out.s0] at HW5
  generalize c0.1 = x0 at *
  go_loopw [9] (fun i wr => ∃ (j : Nat) (A : Option Addr) (n c : Nat) (us : List VtM), j ≤ N ∧ i = .int .i64 (j : Int) ∧ Hid (us.map VtM.x = T j) ∧ Hid (CrW Rd w a w.heap.size gb x0 A n c us (S j) wr)) (fun i _ => N - (intOf i).toNat)
  case atStart => exact ⟨0, none, 0, 0, [], Nat.zero_le _, rfl, Lib.hid (by rw [HFC.out.t0]; rfl), HW5⟩
  case round =>
    clear HW5
    obtain ⟨j, A, n, c, us, hj, rfl, HU, HW⟩ := hrel
    have HGK := Lib.hid (HGD.out _ _ _ _ _ _ _ _ HW.out)
    by_cases hlt : j < N
    · have i1 : (j : Int) < (N : Int) := by omega
      have i2 : decide ((j : Int) < (N : Int)) = true := decide_eq_true (by omega)
      have i3 : decide (j < N) = true := decide_eq_true hlt
      have wk : IntKind.i64.wrap ((j : Int) + 1) = ((j + 1 : Nat) : Int) := by
        rw [IntKind.wrap_i64]
        have := HN2.out
        omega
      have HLT := Lib.hid hlt
      obtain ⟨q, t', hq, ht, hsu, hss⟩ := HFC.out.step j
      have HSU := Lib.hid hsu
      have HSS := Lib.hid hss
      have HLL : Hid (us.length < 1000000) := Lib.hid (by
        have h1 := congrArg List.length HU.out
        rw [List.length_map, HFC.out.len j] at h1
        have := HN2.out
        omega)
      have HWd := Lib.hid (HW.out.call rd_ok14 ((Below.refl wr.heap.size wr).drew))
      have HTC := Lib.hid (HRV.out wr.drew _ _ _ _ _ _ _ q t' hq ht HWd.out)
      have c3 := HWd.out.cell
      clear hlt hj HX HG HF HFC hq ht hsu hss
      generalize S j = sj at *
      go_upto_region 4 with fail
      refine wp_region_held_drew (S := fun _ => True) (by kernel_rfl) trivial (fun hS => ?_)
      (refine wpAnyH_take (i := 0) (v := .pointer (some ⟨gb, 1, none⟩)) rfl (by kernel_rfl) (by kernel_rfl) (by kernel_rfl) (fun _ _ _ h => h) (Or.inl ⟨by kernel_rfl, fun w hSw => by go_simp⟩) hS ?_)
      (try simp only [Act.put])
      (refine wpAnyH_take (i := 2) (v := .pointer (some ⟨a, 0, none⟩)) rfl (by kernel_rfl) (by kernel_rfl) (by kernel_rfl) (fun _ _ _ h => h) (Or.inl ⟨by kernel_rfl, fun w hSw => by go_simp⟩) hS ?_)
      (try simp only [Act.put])
      refine wpAnyH_ready (rs := [1, 3]) (by decide +kernel) (by simp) (AllReadyH.cons rfl (fun K hK => ?_) (AllReadyH.cons rfl (fun K hK => ?_) AllReadyH.nil))
      · go_simp
        refine hK.out _ _ trivial (fun hS => ?_)
        clear hK K
        (try simp only [Act.put])
        refine wpAnyH_ready (rs := [3]) (by decide +kernel) (by simp) (AllReadyH.cons rfl (fun K hK => ?_) AllReadyH.nil)
        go_simp
        (go_at_call 74; (with_reducible refine (HTC.out).mono ?_); rintro e w5 ⟨m9, hx9, rfl, hs9, hf9, hr9, hg9⟩)
        refine hK.out _ _ trivial (fun hS => ?_)
        clear hK K
        (try simp only [Act.put])
        have HX9 := Lib.hid hx9
        have HW5 := Lib.hid (HWd.out.turn hg9 hr9)
        obtain ⟨hbs, hca, A7, n7, c7, w7, hap, hc7, hf7, hw7⟩ := HW5.out.push rd_ok14 hs9 (hf9.low14 HWd.out.far.size) (hf9.off (fun g hg => own_lt14 HWd.out.own g hg)) HLL.out
        have c3b := HW5.out.cell
        have HW7 := Lib.hid hw7
        clear hx9 hs9 hf9 hr9 hg9 hw7
        refine wpAnyH_ready (rs := [4]) (by decide +kernel) (by simp) (AllReadyH.cons rfl (fun K hK => ?_) AllReadyH.nil)
        go_simp
        refine hK.out _ _ trivial (fun hS => ?_)
        clear hK K
        (try simp only [Act.put])
        refine wpAnyH_ready (rs := [5]) (by decide +kernel) (by simp) (AllReadyH.cons rfl (fun K hK => ?_) AllReadyH.nil)
        go_simp
        refine hK.out _ _ trivial (fun hS => ?_)
        clear hK K
        (try simp only [Act.put])
        (refine wpAnyH_take (i := 6) (v := .pointer (some ⟨gb, 1, none⟩)) rfl (by kernel_rfl) (by kernel_rfl) (by kernel_rfl) (fun _ _ _ h => h) (Or.inl ⟨by kernel_rfl, fun w hSw => by go_simp⟩) hS ?_)
        (try simp only [Act.put])
        refine wpAnyH_ready (rs := [7]) (by decide +kernel) (by simp) (AllReadyH.cons rfl (fun K hK => ?_) AllReadyH.nil)
        go_simp
        refine hK.out _ _ trivial (fun hS => ?_)
        clear hK K
        (try simp only [Act.put])
        refine wpAnyH_done (by kernel_rfl) ?_ _
        clear hap hc7 hf7 c3 c3b hca hbs HW5 HTC HWd HW HGK HLL
        generalize w7.setCell ⟨gb, 1, none⟩ (.slice A7 n7 c7) = w8 at *
        have HU8 : Hid ((us ++ [m9]).map VtM.x = T (j + 1)) := Lib.hid (by rw [HSU.out, ← HU.out, List.map_append, List.map_singleton, HX9.out])
        rw [← HSS.out] at HW7
        go_wp2
        go_roundw
        case rel => exact ⟨j + 1, A7, n7, c7, us ++ [m9], HLT.out, by go_num, HU8, HW7⟩
        case measure => have := HLT.out; simp [intOf]; omega
      · go_simp
        (go_at_call 74; (with_reducible refine (HTC.out).mono ?_); rintro e w5 ⟨m9, hx9, rfl, hs9, hf9, hr9, hg9⟩)
        refine hK.out _ _ trivial (fun hS => ?_)
        clear hK K
        (try simp only [Act.put])
        have HX9 := Lib.hid hx9
        have HW5 := Lib.hid (HWd.out.turn hg9 hr9)
        obtain ⟨hbs, hca, A7, n7, c7, w7, hap, hc7, hf7, hw7⟩ := HW5.out.push rd_ok14 hs9 (hf9.low14 HWd.out.far.size) (hf9.off (fun g hg => own_lt14 HWd.out.own g hg)) HLL.out
        have c3b := HW5.out.cell
        have HW7 := Lib.hid hw7
        clear hx9 hs9 hf9 hr9 hg9 hw7
        refine wpAnyH_ready (rs := [1, 4]) (by decide +kernel) (by simp) (AllReadyH.cons rfl (fun K hK => ?_) (AllReadyH.cons rfl (fun K hK => ?_) AllReadyH.nil))
        · go_simp
          refine hK.out _ _ trivial (fun hS => ?_)
          clear hK K
          (try simp only [Act.put])
          refine wpAnyH_ready (rs := [4]) (by decide +kernel) (by simp) (AllReadyH.cons rfl (fun K hK => ?_) AllReadyH.nil)
          go_simp
          refine hK.out _ _ trivial (fun hS => ?_)
          clear hK K
          (try simp only [Act.put])
          refine wpAnyH_ready (rs := [5]) (by decide +kernel) (by simp) (AllReadyH.cons rfl (fun K hK => ?_) AllReadyH.nil)
          go_simp
          refine hK.out _ _ trivial (fun hS => ?_)
          clear hK K
          (try simp only [Act.put])
          (refine wpAnyH_take (i := 6) (v := .pointer (some ⟨gb, 1, none⟩)) rfl (by kernel_rfl) (by kernel_rfl) (by kernel_rfl) (fun _ _ _ h => h) (Or.inl ⟨by kernel_rfl, fun w hSw => by go_simp⟩) hS ?_)
          (try simp only [Act.put])
          refine wpAnyH_ready (rs := [7]) (by decide +kernel) (by simp) (AllReadyH.cons rfl (fun K hK => ?_) AllReadyH.nil)
          go_simp
          refine hK.out _ _ trivial (fun hS => ?_)
          clear hK K
          (try simp only [Act.put])
          refine wpAnyH_done (by kernel_rfl) ?_ _
          clear hap hc7 hf7 c3 c3b hca hbs HW5 HTC HWd HW HGK HLL
          generalize w7.setCell ⟨gb, 1, none⟩ (.slice A7 n7 c7) = w8 at *
          have HU8 : Hid ((us ++ [m9]).map VtM.x = T (j + 1)) := Lib.hid (by rw [HSU.out, ← HU.out, List.map_append, List.map_singleton, HX9.out])
          rw [← HSS.out] at HW7
          go_wp2
          go_roundw
          case rel => exact ⟨j + 1, A7, n7, c7, us ++ [m9], HLT.out, by go_num, HU8, HW7⟩
          case measure => have := HLT.out; simp [intOf]; omega
        · go_simp
          refine hK.out _ _ trivial (fun hS => ?_)
          clear hK K
          (try simp only [Act.put])
          refine wpAnyH_ready (rs := [1]) (by decide +kernel) (by simp) (AllReadyH.cons rfl (fun K hK => ?_) AllReadyH.nil)
          go_simp
          refine hK.out _ _ trivial (fun hS => ?_)
          clear hK K
          (try simp only [Act.put])
          refine wpAnyH_ready (rs := [5]) (by decide +kernel) (by simp) (AllReadyH.cons rfl (fun K hK => ?_) AllReadyH.nil)
          go_simp
          refine hK.out _ _ trivial (fun hS => ?_)
          clear hK K
          (try simp only [Act.put])
          (refine wpAnyH_take (i := 6) (v := .pointer (some ⟨gb, 1, none⟩)) rfl (by kernel_rfl) (by kernel_rfl) (by kernel_rfl) (fun _ _ _ h => h) (Or.inl ⟨by kernel_rfl, fun w hSw => by go_simp⟩) hS ?_)
          (try simp only [Act.put])
          refine wpAnyH_ready (rs := [7]) (by decide +kernel) (by simp) (AllReadyH.cons rfl (fun K hK => ?_) AllReadyH.nil)
          go_simp
          refine hK.out _ _ trivial (fun hS => ?_)
          clear hK K
          (try simp only [Act.put])
          refine wpAnyH_done (by kernel_rfl) ?_ _
          clear hap hc7 hf7 c3 c3b hca hbs HW5 HTC HWd HW HGK HLL
          generalize w7.setCell ⟨gb, 1, none⟩ (.slice A7 n7 c7) = w8 at *
          have HU8 : Hid ((us ++ [m9]).map VtM.x = T (j + 1)) := Lib.hid (by rw [HSU.out, ← HU.out, List.map_append, List.map_singleton, HX9.out])
          rw [← HSS.out] at HW7
          go_wp2
          go_roundw
          case rel => exact ⟨j + 1, A7, n7, c7, us ++ [m9], HLT.out, by go_num, HU8, HW7⟩
          case measure => have := HLT.out; simp [intOf]; omega
    · have i1 : ¬ (j : Int) < (N : Int) := by omega
      have hke : j = N := by omega
      subst hke
      have HFE : Hid (F = S j) := HF
      rw [← HFE.out] at HW HGK
      clear hlt hj HF HFE HRV i1
      obtain ⟨gd, hgd⟩ : ∃ gd, F.2 = gd := ⟨_, rfl⟩
      rw [hgd] at HGK
      have i1 : ¬ (j : Int) < (j : Int) := by omega
      have i2 : decide ((j : Int) < (j : Int)) = false := decide_eq_false (by omega)
      rcases gd with _ | _
      · obtain ⟨z0, z1⟩ := HG.out hgd
        have HZ0 := Lib.hid z0
        have HUX : Hid (us.map VtM.x = X) := Lib.hid (by rw [z1, HU.out])
        clear HG HX hgd z0 z1 HFC HU
        have lc := HW.out.box.l_ct
        obtain ⟨wz, hst, hb, hg⟩ := HW.out.out.s_ct rfl x0 A n c
        have HBZ := Lib.hid hb
        have HRZ := Lib.hid (rd_ok14.put HW.out.rd hg (Nat.lt_of_lt_of_le HW.out.ha HW.out.ho))
        have HGZ := Lib.hid (only_new HW.out.far hg HW.out.ho)
        have HOZ : Hid (VtK.Own wz w.heap.size (.slice A n c) us) := Lib.hid (own_box HW.out.own HW.out.out (by decide) hg)
        have HSZ : Hid (BSee wz us) := Lib.hid (fun m hm => (HW.out.see m hm).aside14 HW.out.out (crt_nobyte _ _ _ _) hg)
        have HFZ := Lib.hid HW.out.fr
        clear hb hg HW
        go_wp2_with (go_at_call 19; (with_reducible refine (HGK.out).mono ?_); rintro e wg ⟨rfl, rfl⟩)
        refine ret_ct14 rfl rfl rfl HBZ.out ⟨A, n, c, us, HUX.out, ?_, HOZ.out, HSZ.out, HFZ.out, HRZ.out, HGZ.out⟩
        rw [HZ0.out]
      · have HXZ := Lib.hid (HX.out hgd)
        clear HG HX hgd HFC HU
        have hbd0 := bd_ct0 wr
        obtain ⟨wz, hst, hb, hg⟩ := HW.out.out.s_ct rfl 0 none 0 0
        have HBZ := Lib.hid hb
        have HRZ := Lib.hid (rd_ok14.put HW.out.rd hg (Nat.lt_of_lt_of_le HW.out.ha HW.out.ho))
        have HGZ := Lib.hid (only_new HW.out.far hg HW.out.ho)
        clear hb hg HW
        go_wp2_with (go_at_call 19; (with_reducible refine (HGK.out).mono ?_); rintro e wg ⟨rfl, rfl⟩)
        exact ret_ct14 rfl rfl rfl HBZ.out (nil_is14 HXZ.out HRZ.out HGZ.out)
set_option maxRecDepth 100000 in
theorem cread_any14 (a : Nat) (l : List UInt8) (b : Bool) (w : World) (h : Rd w a l b) : Calls Tryz.prog 40 #[.pointer (some ⟨a, 0, none⟩)] w (CrtIs Rd a (ctR l b) (ctX l b) (ctF l b) w) := by
  obtain ⟨c0, c1, N, S, T, hf⟩ := ct_facts l b
  exact cread_gen14 a l b w h hf
end Go.Proofs.YtbclepdcngaonaaGreatDoor

namespace Go.Proofs.YtbclepdcngaonaaGreatDoor
open Go.RowKit Go.Maps Go.Sort

attribute [local go_sem ↓] ldVt_def stVt_def ldCt_def stCt_def bdCt14_def bsT_def apAll_def
set_option maxRecDepth 100000 in
set_option maxHeartbeats 8000000 in
theorem rcread_gen14 (a : Nat) (l : List UInt8) (b : Bool) (w : World) (h : RRd w a l b) {r : Int} {X : List VtX} {c0 c1 : Int × List UInt8 × Bool} {N : Nat} {F : List UInt8 × Bool} {S : Nat → List UInt8 × Bool} {T : Nat → List VtX} (hf : CtFacts l b r X c0 c1 N F S T) :
    Calls Tryz.prog 43 #[.pointer (some ⟨a, 0, none⟩)] w (CrtIs RRd a r X F w) := by
  have HG := Lib.hid hf.good
  have HX := Lib.hid hf.bad
  have HF := Lib.hid hf.fin
  have HN2 := Lib.hid hf.n2
  have HN1 := Lib.hid hf.n1
  have HFC := Lib.hid hf
  have E0 := Lib.hid hf.e0
  have E1 := Lib.hid hf.e1
  have HA := Lib.hid (rrd_ok14.lt h)
  have HIN : Hid (∀ w' g (lo hi : Int) rr (t : List UInt8 × Bool) (q : Int × List UInt8 × Bool), inV lo hi t.1 t.2 = q → CrW RRd w a w.heap.size g rr none 0 0 [] t w' → Calls Tryz.prog 75 #[.pointer (some ⟨a, 0, none⟩), .int .i64 lo, .int .i64 hi] w' fun e' w'' => e' = .returned (.int .i64 q.1) ∧ CrW RRd w a w.heap.size g rr none 0 0 [] q.2 w'') :=
    Lib.hid (fun w' g lo hi rr t q hq hw => by subst hq; exact (rin_any a lo hi t.1 t.2 w' hw.rd).mono fun e' w'' ⟨he, hr, hg⟩ => ⟨he, hw.turn hg hr⟩)
  have HGD : Hid (∀ w' g rr A n c us (t : List UInt8 × Bool), CrW RRd w a w.heap.size g rr A n c us t w' → Calls Tryz.prog 20 #[.pointer (some ⟨a, 0, none⟩)] w' fun e' w'' => e' = .returned (.bool !t.2) ∧ w' = w'') := Lib.hid (fun w' g rr A n c us t hw => rgood_any a t.1 t.2 w' hw.rd)
  have HRV : Hid (∀ w' g rr A n c us (t : List UInt8 × Bool) (q : VtX) (t' : List UInt8 × Bool), vtX t.1 t.2 = q → vtF t.1 t.2 = t' → CrW RRd w a w.heap.size g rr A n c us t w' → Calls Tryz.prog 78 #[.pointer (some ⟨a, 0, none⟩)] w' (VtIs RRd a q t' w')) :=
    Lib.hid (fun w' g rr A n c us t q t' hq ht hw => by subst hq ht; exact rvread_any14 a t.1 t.2 w' hw.rd)
  have HW1 : Hid (CrW RRd w a w.heap.size (w.heap.size + 1) 0 none 0 0 [] (l, b) ((w.alloc (.cells (crtV 0 none 0 0) 35)).alloc (.cells (crtV 0 none 0 0) 35))) := Lib.hid (by
    have hb : Below w.heap.size w ((w.alloc (.cells (crtV 0 none 0 0) 35)).alloc (.cells (crtV 0 none 0 0) 35)) := ((Below.refl _ _).alloc (Nat.le_refl _) _).alloc (by simp) _
    exact ⟨(Box.made _ _ _).alloc _, Box.made_at (by simp) _ _, rrd_ok14.below h hb, EK.own_nil _ _ _, fun m hm => (by cases hm), fun m hm => (by cases hm), fun m hm => (by cases hm), only_below hb _, HA.out, Nat.le_refl _, by omega, by omega⟩)
  clear h hf
  go_enter Tryz.func43, Tryz.ntmps43
  go_upto_region 2 with fail
  change Code.wp _ _ _ _ ((w.alloc (.cells (crtV 0 none 0 0) 35)).alloc (.cells (crtV 0 none 0 0) 35))
  generalize (w.alloc (.cells (crtV 0 none 0 0) 35)).alloc (.cells (crtV 0 none 0 0) 35) = w1 at *
  have HC := Lib.hid (HIN.out w1 _ 0 1024 _ _ c0 E0.out HW1.out)
  go_upto_region 3 with (go_at_call 75; (with_reducible refine (HC.out).mono ?_); rintro e w2 ⟨rfl, hw⟩; have m0 : w2.cell? ⟨w.heap.size + 1, 0, none⟩ = some (.int .i64 0) := hw.box.cell 0; have f0 := hw.box.free 0; have HW2 := Lib.hid hw; clear hw)
  have HW4 : Hid (CrW RRd w a w.heap.size (w.heap.size + 1) c0.1 none 0 0 [] c0.2 (w2.setCell ⟨w.heap.size + 1, 0, none⟩ (.int .i64 c0.1))) := Lib.hid (HW2.out.put0 rrd_ok14 rfl ⟨rfl, rfl, rfl⟩)
  clear m0 f0 HC HW1 HW2
  generalize w2.setCell ⟨w.heap.size + 1, 0, none⟩ (.int .i64 c0.1) = w4 at *
  have HC := Lib.hid (HIN.out w4 _ 1 10 _ _ c1 E1.out HW4.out)
  go_upto_region 5 with (go_at_call 75; (with_reducible refine (HC.out).mono ?_); rintro e w5 ⟨rfl, hw⟩; have HW5 := Lib.hid hw; clear hw)
  rw [HN1.out]
  clear HC HW4 HIN E0 E1 HN1
  rw [← HFC.out.s0] at HW5
  generalize c0.1 = x0 at *
  go_loopw [5] (fun i wr => ∃ (j : Nat) (A : Option Addr) (n c : Nat) (us : List VtM), j ≤ N ∧ i = .int .i64 (j : Int) ∧ Hid (us.map VtM.x = T j) ∧ Hid (CrW RRd w a w.heap.size (w.heap.size + 1) x0 A n c us (S j) wr)) (fun i _ => N - (intOf i).toNat)
  case atStart => exact ⟨0, none, 0, 0, [], Nat.zero_le _, rfl, Lib.hid (by rw [HFC.out.t0]; rfl), HW5⟩
  case round =>
    clear HW5
    obtain ⟨j, A, n, c, us, hj, rfl, HU, HW⟩ := hrel
    have HGK := Lib.hid (HGD.out _ _ _ _ _ _ _ _ HW.out)
    by_cases hlt : j < N
    · have i1 : (j : Int) < (N : Int) := by omega
      have i2 : decide ((j : Int) < (N : Int)) = true := decide_eq_true (by omega)
      have i3 : decide (j < N) = true := decide_eq_true hlt
      have wk : IntKind.i64.wrap ((j : Int) + 1) = ((j + 1 : Nat) : Int) := by
        rw [IntKind.wrap_i64]
        have := HN2.out
        omega
      have HLT := Lib.hid hlt
      obtain ⟨bd, hbd⟩ : ∃ bd, (S j).2 = bd := ⟨_, rfl⟩
      rw [hbd] at HGK
      rcases bd with _ | _
      rotate_left
      · have HFE : Hid (S j = F) := Lib.hid (HFC.out.stop j hj hbd)
        have HXZ := Lib.hid (HX.out (by rw [← HFE.out]; exact hbd))
        rw [HFE.out] at HW
        have hbd0 := bd_ct0 wr
        obtain ⟨wz, hst, hb, hg⟩ := HW.out.out.s_ct rfl 0 none 0 0
        have HBZ := Lib.hid hb
        have HRZ := Lib.hid (rrd_ok14.put HW.out.rd hg (Nat.lt_of_lt_of_le HW.out.ha HW.out.ho))
        have HGZ := Lib.hid (only_new HW.out.far hg HW.out.ho)
        clear hb hg HW HX HG HF HFC hbd HFE HRV hj HU
        go_wp2_with (go_at_call 20; (with_reducible refine (HGK.out).mono ?_); rintro e wg ⟨rfl, rfl⟩)
        exact ret_ct14 rfl rfl rfl HBZ.out (nil_is14 HXZ.out HRZ.out HGZ.out)
      clear hbd
      obtain ⟨q, t', hq, ht, hsu, hss⟩ := HFC.out.step j
      have HSU := Lib.hid hsu
      have HSS := Lib.hid hss
      have HLL : Hid (us.length < 1000000) := Lib.hid (by
        have h1 := congrArg List.length HU.out
        rw [List.length_map, HFC.out.len j] at h1
        have := HN2.out
        omega)
      have HWd := Lib.hid (HW.out.call rrd_ok14 ((Below.refl wr.heap.size wr).drew))
      have HTC := Lib.hid (HRV.out wr.drew _ _ _ _ _ _ _ q t' hq ht HWd.out)
      have c3 := HWd.out.cell
      clear hlt hj HX HG HF HFC hq ht hsu hss
      generalize S j = sj at *
      go_wp2_with (go_at_call 20; (with_reducible refine (HGK.out).mono ?_); rintro e wg ⟨rfl, rfl⟩)
      refine wp_region_held_drew (S := fun _ => True) (by kernel_rfl) trivial (fun hS => ?_)
      (refine wpAnyH_take (i := 0) (v := .pointer (some ⟨w.heap.size + 1, 1, none⟩)) rfl (by kernel_rfl) (by kernel_rfl) (by kernel_rfl) (fun _ _ _ h => h) (Or.inl ⟨by kernel_rfl, fun w hSw => by go_simp⟩) hS ?_)
      (try simp only [Act.put])
      (refine wpAnyH_take (i := 2) (v := .pointer (some ⟨a, 0, none⟩)) rfl (by kernel_rfl) (by kernel_rfl) (by kernel_rfl) (fun _ _ _ h => h) (Or.inl ⟨by kernel_rfl, fun w hSw => by go_simp⟩) hS ?_)
      (try simp only [Act.put])
      refine wpAnyH_ready (rs := [1, 3]) (by decide +kernel) (by simp) (AllReadyH.cons rfl (fun K hK => ?_) (AllReadyH.cons rfl (fun K hK => ?_) AllReadyH.nil))
      · go_simp
        refine hK.out _ _ trivial (fun hS => ?_)
        clear hK K
        (try simp only [Act.put])
        refine wpAnyH_ready (rs := [3]) (by decide +kernel) (by simp) (AllReadyH.cons rfl (fun K hK => ?_) AllReadyH.nil)
        go_simp
        (go_at_call 78; (with_reducible refine (HTC.out).mono ?_); rintro e w5 ⟨m9, hx9, rfl, hs9, hf9, hr9, hg9⟩)
        refine hK.out _ _ trivial (fun hS => ?_)
        clear hK K
        (try simp only [Act.put])
        have HX9 := Lib.hid hx9
        have HW5 := Lib.hid (HWd.out.turn hg9 hr9)
        obtain ⟨hbs, hca, A7, n7, c7, w7, hap, hc7, hf7, hw7⟩ := HW5.out.push rrd_ok14 hs9 (hf9.low14 HWd.out.far.size) (hf9.off (fun g hg => own_lt14 HWd.out.own g hg)) HLL.out
        have c3b := HW5.out.cell
        have HW7 := Lib.hid hw7
        clear hx9 hs9 hf9 hr9 hg9 hw7
        refine wpAnyH_ready (rs := [4]) (by decide +kernel) (by simp) (AllReadyH.cons rfl (fun K hK => ?_) AllReadyH.nil)
        go_simp
        refine hK.out _ _ trivial (fun hS => ?_)
        clear hK K
        (try simp only [Act.put])
        refine wpAnyH_ready (rs := [5]) (by decide +kernel) (by simp) (AllReadyH.cons rfl (fun K hK => ?_) AllReadyH.nil)
        go_simp
        refine hK.out _ _ trivial (fun hS => ?_)
        clear hK K
        (try simp only [Act.put])
        (refine wpAnyH_take (i := 6) (v := .pointer (some ⟨w.heap.size + 1, 1, none⟩)) rfl (by kernel_rfl) (by kernel_rfl) (by kernel_rfl) (fun _ _ _ h => h) (Or.inl ⟨by kernel_rfl, fun w hSw => by go_simp⟩) hS ?_)
        (try simp only [Act.put])
        refine wpAnyH_ready (rs := [7]) (by decide +kernel) (by simp) (AllReadyH.cons rfl (fun K hK => ?_) AllReadyH.nil)
        go_simp
        refine hK.out _ _ trivial (fun hS => ?_)
        clear hK K
        (try simp only [Act.put])
        refine wpAnyH_done (by kernel_rfl) ?_ _
        clear hap hc7 hf7 c3 c3b hca hbs HW5 HTC HWd HW HGK HLL
        generalize w7.setCell ⟨w.heap.size + 1, 1, none⟩ (.slice A7 n7 c7) = w8 at *
        have HU8 : Hid ((us ++ [m9]).map VtM.x = T (j + 1)) := Lib.hid (by rw [HSU.out, ← HU.out, List.map_append, List.map_singleton, HX9.out])
        rw [← HSS.out] at HW7
        go_wp2
        go_roundw
        case rel => exact ⟨j + 1, A7, n7, c7, us ++ [m9], HLT.out, by go_num, HU8, HW7⟩
        case measure => have := HLT.out; simp [intOf]; omega
      · go_simp
        (go_at_call 78; (with_reducible refine (HTC.out).mono ?_); rintro e w5 ⟨m9, hx9, rfl, hs9, hf9, hr9, hg9⟩)
        refine hK.out _ _ trivial (fun hS => ?_)
        clear hK K
        (try simp only [Act.put])
        have HX9 := Lib.hid hx9
        have HW5 := Lib.hid (HWd.out.turn hg9 hr9)
        obtain ⟨hbs, hca, A7, n7, c7, w7, hap, hc7, hf7, hw7⟩ := HW5.out.push rrd_ok14 hs9 (hf9.low14 HWd.out.far.size) (hf9.off (fun g hg => own_lt14 HWd.out.own g hg)) HLL.out
        have c3b := HW5.out.cell
        have HW7 := Lib.hid hw7
        clear hx9 hs9 hf9 hr9 hg9 hw7
        refine wpAnyH_ready (rs := [1, 4]) (by decide +kernel) (by simp) (AllReadyH.cons rfl (fun K hK => ?_) (AllReadyH.cons rfl (fun K hK => ?_) AllReadyH.nil))
        · go_simp
          refine hK.out _ _ trivial (fun hS => ?_)
          clear hK K
          (try simp only [Act.put])
          refine wpAnyH_ready (rs := [4]) (by decide +kernel) (by simp) (AllReadyH.cons rfl (fun K hK => ?_) AllReadyH.nil)
          go_simp
          refine hK.out _ _ trivial (fun hS => ?_)
          clear hK K
          (try simp only [Act.put])
          refine wpAnyH_ready (rs := [5]) (by decide +kernel) (by simp) (AllReadyH.cons rfl (fun K hK => ?_) AllReadyH.nil)
          go_simp
          refine hK.out _ _ trivial (fun hS => ?_)
          clear hK K
          (try simp only [Act.put])
          (refine wpAnyH_take (i := 6) (v := .pointer (some ⟨w.heap.size + 1, 1, none⟩)) rfl (by kernel_rfl) (by kernel_rfl) (by kernel_rfl) (fun _ _ _ h => h) (Or.inl ⟨by kernel_rfl, fun w hSw => by go_simp⟩) hS ?_)
          (try simp only [Act.put])
          refine wpAnyH_ready (rs := [7]) (by decide +kernel) (by simp) (AllReadyH.cons rfl (fun K hK => ?_) AllReadyH.nil)
          go_simp
          refine hK.out _ _ trivial (fun hS => ?_)
          clear hK K
          (try simp only [Act.put])
          refine wpAnyH_done (by kernel_rfl) ?_ _
          clear hap hc7 hf7 c3 c3b hca hbs HW5 HTC HWd HW HGK HLL
          generalize w7.setCell ⟨w.heap.size + 1, 1, none⟩ (.slice A7 n7 c7) = w8 at *
          have HU8 : Hid ((us ++ [m9]).map VtM.x = T (j + 1)) := Lib.hid (by rw [HSU.out, ← HU.out, List.map_append, List.map_singleton, HX9.out])
          rw [← HSS.out] at HW7
          go_wp2
          go_roundw
          case rel => exact ⟨j + 1, A7, n7, c7, us ++ [m9], HLT.out, by go_num, HU8, HW7⟩
          case measure => have := HLT.out; simp [intOf]; omega
        · go_simp
          refine hK.out _ _ trivial (fun hS => ?_)
          clear hK K
          (try simp only [Act.put])
          refine wpAnyH_ready (rs := [1]) (by decide +kernel) (by simp) (AllReadyH.cons rfl (fun K hK => ?_) AllReadyH.nil)
          go_simp
          refine hK.out _ _ trivial (fun hS => ?_)
          clear hK K
          (try simp only [Act.put])
          refine wpAnyH_ready (rs := [5]) (by decide +kernel) (by simp) (AllReadyH.cons rfl (fun K hK => ?_) AllReadyH.nil)
          go_simp
          refine hK.out _ _ trivial (fun hS => ?_)
          clear hK K
          (try simp only [Act.put])
          (refine wpAnyH_take (i := 6) (v := .pointer (some ⟨w.heap.size + 1, 1, none⟩)) rfl (by kernel_rfl) (by kernel_rfl) (by kernel_rfl) (fun _ _ _ h => h) (Or.inl ⟨by kernel_rfl, fun w hSw => by go_simp⟩) hS ?_)
          (try simp only [Act.put])
          refine wpAnyH_ready (rs := [7]) (by decide +kernel) (by simp) (AllReadyH.cons rfl (fun K hK => ?_) AllReadyH.nil)
          go_simp
          refine hK.out _ _ trivial (fun hS => ?_)
          clear hK K
          (try simp only [Act.put])
          refine wpAnyH_done (by kernel_rfl) ?_ _
          clear hap hc7 hf7 c3 c3b hca hbs HW5 HTC HWd HW HGK HLL
          generalize w7.setCell ⟨w.heap.size + 1, 1, none⟩ (.slice A7 n7 c7) = w8 at *
          have HU8 : Hid ((us ++ [m9]).map VtM.x = T (j + 1)) := Lib.hid (by rw [HSU.out, ← HU.out, List.map_append, List.map_singleton, HX9.out])
          rw [← HSS.out] at HW7
          go_wp2
          go_roundw
          case rel => exact ⟨j + 1, A7, n7, c7, us ++ [m9], HLT.out, by go_num, HU8, HW7⟩
          case measure => have := HLT.out; simp [intOf]; omega
    · have i1 : ¬ (j : Int) < (N : Int) := by omega
      have hke : j = N := by omega
      subst hke
      have HFE : Hid (F = S j) := HF
      rw [← HFE.out] at HW HGK
      clear hlt hj HF HFE HRV i1
      obtain ⟨gd, hgd⟩ : ∃ gd, F.2 = gd := ⟨_, rfl⟩
      rw [hgd] at HGK
      have i1 : ¬ (j : Int) < (j : Int) := by omega
      have i2 : decide ((j : Int) < (j : Int)) = false := decide_eq_false (by omega)
      rcases gd with _ | _
      · obtain ⟨z0, z1⟩ := HG.out hgd
        have HZ0 := Lib.hid z0
        have HUX : Hid (us.map VtM.x = X) := Lib.hid (by rw [z1, HU.out])
        clear HG HX hgd z0 z1 HFC HU
        have lc := HW.out.box.l_ct
        obtain ⟨wz, hst, hb, hg⟩ := HW.out.out.s_ct rfl x0 A n c
        have HBZ := Lib.hid hb
        have HRZ := Lib.hid (rrd_ok14.put HW.out.rd hg (Nat.lt_of_lt_of_le HW.out.ha HW.out.ho))
        have HGZ := Lib.hid (only_new HW.out.far hg HW.out.ho)
        have HOZ : Hid (VtK.Own wz w.heap.size (.slice A n c) us) := Lib.hid (own_box HW.out.own HW.out.out (by decide) hg)
        have HSZ : Hid (BSee wz us) := Lib.hid (fun m hm => (HW.out.see m hm).aside14 HW.out.out (crt_nobyte _ _ _ _) hg)
        have HFZ := Lib.hid HW.out.fr
        clear hb hg HW
        go_wp2_with (go_at_call 20; (with_reducible refine (HGK.out).mono ?_); rintro e wg ⟨rfl, rfl⟩)
        refine ret_ct14 rfl rfl rfl HBZ.out ⟨A, n, c, us, HUX.out, ?_, HOZ.out, HSZ.out, HFZ.out, HRZ.out, HGZ.out⟩
        rw [HZ0.out]
      · have HXZ := Lib.hid (HX.out hgd)
        clear HG HX hgd HFC HU
        have hbd0 := bd_ct0 wr
        obtain ⟨wz, hst, hb, hg⟩ := HW.out.out.s_ct rfl 0 none 0 0
        have HBZ := Lib.hid hb
        have HRZ := Lib.hid (rrd_ok14.put HW.out.rd hg (Nat.lt_of_lt_of_le HW.out.ha HW.out.ho))
        have HGZ := Lib.hid (only_new HW.out.far hg HW.out.ho)
        clear hb hg HW
        go_wp2_with (go_at_call 20; (with_reducible refine (HGK.out).mono ?_); rintro e wg ⟨rfl, rfl⟩)
        exact ret_ct14 rfl rfl rfl HBZ.out (nil_is14 HXZ.out HRZ.out HGZ.out)
set_option maxRecDepth 100000 in
theorem rcread_any14 (a : Nat) (l : List UInt8) (b : Bool) (w : World) (h : RRd w a l b) : Calls Tryz.prog 43 #[.pointer (some ⟨a, 0, none⟩)] w (CrtIs RRd a (ctR l b) (ctX l b) (ctF l b) w) := by
  obtain ⟨c0, c1, N, S, T, hf⟩ := ct_facts l b
  exact rcread_gen14 a l b w h hf
end Go.Proofs.YtbclepdcngaonaaGreatDoor
