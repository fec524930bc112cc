/-
  Opening the handed arguments of state's laws: states, requests, lists of requests, strings.
-/
import Derived.Test.YtbgbidgggjkmmaaGreatDoorNG
import Derived.Test.YtbgbidgggjkmmaaGreatDoorRqRowKit
import Derived.Test.YtbgbidgggjkmmaaGreatDoorCfRowKit
namespace Go.Proofs.YtbgbidgggjkmmaaGreatDoor
open Go.ChangeShapes Go.WideShapes Go.ChangeAt Go.RowKit Go.Deep

section
variable {H : Type} {enc : TypeId × Value → H} {w : World} {base : Nat} {spare : Nat → Bool} {held : Bool} {fuel : Nat} {cs : List Value} {x : DataW H × List MemPlace}
set_option maxRecDepth 100000 in
theorem weigh_slice {e t : TypeId} (ht : Tryz.prog.underlying t = some (.slice e)) {ls sp : List (DataW H)} {b : Nat} (h : ∀ u ∈ (DataW.slice ls sp).weights Tryz.prog t, u ≤ b) :
    (ls.length + sp.length) * Tryz.prog.bytesOf e ≤ b ∧ ∀ d ∈ ls, ∀ u ∈ d.weights Tryz.prog e, u ≤ b := by
  simp only [DataW.weights, ht, List.mem_cons, List.mem_append] at h
  exact ⟨h _ (.inl rfl), fun d hd u hu => h u (.inr (.inl (mem_weightsAll9 hd hu)))⟩
set_option maxRecDepth 100000 in
/-- A slice of any kind of elements. -/
theorem open_rowK {α : Type} (K : EK α) (a0 : α) (b : Nat) (P : α → Prop) (hkc : Tryz.prog.cellsOf K.e = K.k) (hbc : Tryz.prog.bytesOf K.e = K.bys)
    (hop : ∀ n cs (y : DataW H × List MemPlace), DataW.trod enc Tryz.prog w base spare held n K.e cs = some y → (∀ u ∈ y.1.weights Tryz.prog K.e, u ≤ b) → ∃ a, cs = K.enc a ∧ P a)
    (hw : ∀ u ∈ x.1.weights Tryz.prog K.sl, u ≤ b) (h : DataW.trod enc Tryz.prog w base spare held fuel K.sl cs = some x) :
    ∃ (A : Option Addr) (xs : List α) (cap : Nat), cs = [.slice A xs.length cap] ∧ xs.length ≤ cap ∧ cap ≤ maxLen ∧ K.See w w.heap.size A xs ∧ xs.length * K.bys ≤ b ∧ ∀ a ∈ xs, P a := by
  rcases open_slice K.und h with ⟨rfl, rfl⟩ | ⟨a, len, cap, m, n, D, Pl, rfl, hb, hl, hm, hmm, rfl, hi⟩
  · exact ⟨none, [], 0, rfl, Nat.le_refl _, by simp [maxLen], .inl rfl, by simp, fun a ha => by cases ha⟩
  · have hlm : len ≤ m := by rw [hmm]; split <;> omega
    obtain ⟨hwb, hwe⟩ := weigh_slice K.und hw
    rw [hbc] at hwb
    have hlb : len * K.bys ≤ b := by
      refine Nat.le_trans (Nat.mul_le_mul_right _ ?_) hwb
      simp
    have hex : ∀ i, i < len → ∃ y : α, P y ∧ ∀ j, j < K.k → w.cell? (a.add (i * K.k + j)) = (K.enc y)[j]? := by
      intro i hil
      obtain ⟨cs', hc, ht⟩ := hi i (by omega)
      rw [hkc] at hc
      obtain ⟨_, hcl, hat⟩ := World.cells?_some hc
      obtain ⟨y, e, hp⟩ := hop _ _ _ ht (hwe _ (List.mem_map.2 ⟨i, List.mem_range.2 hil, rfl⟩))
      subst e
      refine ⟨y, hp, fun j hj => ?_⟩
      have h1 := hat j hj
      rw [add_two8] at h1
      exact h1
    obtain ⟨F, hF⟩ : ∃ F : Nat → α, ∀ i, i < len → P (F i) ∧ ∀ j, j < K.k → w.cell? (a.add (i * K.k + j)) = (K.enc (F i))[j]? :=
      ⟨fun i => if hi : i < len then (hex i hi).choose else a0, fun i hi => by
        simp only [dif_pos hi]
        exact (hex i hi).choose_spec⟩
    have hlen : ((List.range len).map F).length = len := by simp
    refine ⟨some a, (List.range len).map F, cap, by rw [hlen], by rw [hlen]; exact hl, hm, ?_, by rw [hlen]; exact hlb, fun y hy => ?_⟩
    · refine sees_of_addr8 fun j u hu => ?_
      have hk := K.hk
      have hj : j < len * K.k := by
        have := (List.getElem?_eq_some_iff.1 hu).1
        rw [K.flat_len, hlen] at this
        exact this
      obtain ⟨y, h1, h2⟩ := cf_get K.enc K.k K.len ((List.range len).map F) j (by rw [hlen]; exact hj)
      have h2' : (K.flat ((List.range len).map F))[j]? = (K.enc y)[j % K.k]? := h2
      rw [h2'] at hu
      have hkl : j / K.k < len := (Nat.div_lt_iff_lt_mul hk).2 hj
      rw [List.getElem?_map, List.getElem?_range hkl] at h1
      obtain rfl : F (j / K.k) = y := by simpa using h1
      have hc := (hF (j / K.k) hkl).2 (j % K.k) (Nat.mod_lt _ hk)
      rw [Nat.div_add_mod' j K.k] at hc
      rw [hc, hu]
    · obtain ⟨i, hi, rfl⟩ := List.mem_map.1 hy
      exact (hF i (List.mem_range.1 hi)).1
set_option maxRecDepth 100000 in
theorem open_str10 {b : Nat} (hw : ∀ u ∈ x.1.weights Tryz.prog 9, u ≤ b) (h : DataW.trod enc Tryz.prog w base spare held fuel 9 cs = some x) : ∃ s : ByteArray, cs = [.string s] ∧ s.size ≤ b := by
  obtain ⟨s, e, hx, _⟩ := DataW.trod_string Tryz.underlying9 h
  subst hx
  refine ⟨s, e, hw _ ?_⟩
  simp [DataW.weights]
set_option maxRecDepth 100000 in
theorem open_mem10 (h : DataW.trod enc Tryz.prog w base spare held fuel 74 cs = some x) : ∃ y : MemX, cs = y.cells ∧ R64 y.id := by
  obtain ⟨y0, y1, n, _, hl, h0, h1⟩ := trod_struct2 Tryz.underlying74 h
  rw [cells_mem8] at hl
  have e0 : DataW.trod enc Tryz.prog w base spare held n 3 (cs.take 1) = some y0 := by
    have h := h0
    rw [cells_int8] at h
    exact h
  have e1 : DataW.trod enc Tryz.prog w base spare held n 50 ((cs.drop 1).take 33) = some y1 := by
    have h := h1
    rw [cells_key8] at h
    exact h
  obtain ⟨i, hi, _, hwf⟩ := DataW.trod_int Tryz.underlying3 e0
  obtain ⟨r, k, hr, _, hc⟩ := open_key8 e1
  refine ⟨⟨i, r, k, hr⟩, ?_, i64_wf9 hwf⟩
  have e : cs = cs.take 1 ++ cs.drop 1 := (List.take_append_drop 1 cs).symm
  have e2 : (cs.drop 1).take 33 = cs.drop 1 := List.take_of_length_le (by rw [List.length_drop, hl]; omega)
  rw [e, hi, ← e2, hc]
  rfl
set_option maxRecDepth 100000 in
theorem bytes_string10 : Tryz.prog.bytesOf 9 = 16 := by kernel_rfl
set_option maxRecDepth 100000 in
theorem bytes_pair10 : Tryz.prog.bytesOf 42 = 32 := by kernel_rfl
set_option maxRecDepth 100000 in
theorem bytes_rep10 : Tryz.prog.bytesOf 36 = 48 := by kernel_rfl
set_option maxRecDepth 100000 in
theorem bytes_mem10 : Tryz.prog.bytesOf 74 = 48 := by kernel_rfl
set_option maxRecDepth 100000 in
theorem bytes_req10 : Tryz.prog.bytesOf 56 = 136 := by kernel_rfl
set_option maxRecDepth 100000 in
theorem cells_pair10 : Tryz.prog.cellsOf 42 = 2 := by kernel_rfl
set_option maxRecDepth 100000 in
theorem cells_state10 : Tryz.prog.cellsOf 28 = 4 := by kernel_rfl
set_option maxRecDepth 100000 in
theorem cells_pairs10 : Tryz.prog.cellsOf 22 = 1 := by kernel_rfl
set_option maxRecDepth 100000 in
theorem cells_reps10 : Tryz.prog.cellsOf 23 = 1 := by kernel_rfl
set_option maxRecDepth 100000 in
theorem cells_config10 : Tryz.prog.cellsOf 26 = 2 := by kernel_rfl
set_option maxRecDepth 100000 in
theorem cells_mems10 : Tryz.prog.cellsOf 24 = 1 := by kernel_rfl
set_option maxRecDepth 100000 in
theorem open_pair10 {b : Nat} (hw : ∀ u ∈ x.1.weights Tryz.prog 42, u ≤ b) (h : DataW.trod enc Tryz.prog w base spare held fuel 42 cs = some x) : ∃ p : PairX, cs = PK.enc p ∧ p.key.size ≤ b ∧ p.val.size ≤ b := by
  obtain ⟨xs, m, _, hx, hl, hxl, hf⟩ := DataW.trod_struct Tryz.underlying42 h
  rw [cells_pair10] at hl
  match xs, hxl with
  | [y0, y1], _ =>
    have h0 : DataW.trod enc Tryz.prog w base spare held m 9 ((cs.drop 0).take (Tryz.prog.cellsOf 9)) = some y0 := hf 0 _ rfl
    have h1 : DataW.trod enc Tryz.prog w base spare held m 9 ((cs.drop 1).take (Tryz.prog.cellsOf 9)) = some y1 := hf 1 _ rfl
    rw [cells_string9] at h0 h1
    subst hx
    simp only [DataW.weights, DataW.weightsEach, Tryz.underlying42, List.map_cons, List.map_nil, List.mem_append, List.not_mem_nil, or_false] at hw
    obtain ⟨k, e0, w0⟩ := open_str10 (fun u hu => hw u (.inl hu)) h0
    obtain ⟨v, e1, w1⟩ := open_str10 (fun u hu => hw u (.inr hu)) h1
    refine ⟨⟨k, v⟩, ?_, w0, w1⟩
    have e : cs = cs.drop 0 := rfl
    rw [e, cut9 cs 0 1, e0, cut9 cs (0 + 1) 1, e1, List.drop_eq_nil_of_le (by omega)]
    rfl
set_option maxRecDepth 100000 in
theorem open_rep10 {b : Nat} (hw : ∀ u ∈ x.1.weights Tryz.prog 36, u ≤ b) (h : DataW.trod enc Tryz.prog w base spare held fuel 36 cs = some x) :
    ∃ r : RepM, cs = RK.enc r ∧ (R64 r.x.client ∧ R64 r.x.num ∧ R64 r.x.code) ∧ r.x.vals.length * 16 ≤ b ∧ (∀ v ∈ r.x.vals, v.size ≤ b) ∧ SK.See w w.heap.size r.A r.x.vals := by
  obtain ⟨xs, m, _, hx, hl, hxl, hf⟩ := DataW.trod_struct Tryz.underlying36 h
  rw [cells_rep9] at hl
  match xs, hxl with
  | [y0, y1, y2, y3], _ =>
    have h0 : DataW.trod enc Tryz.prog w base spare held m 3 ((cs.drop 0).take (Tryz.prog.cellsOf 3)) = some y0 := hf 0 _ rfl
    have h1 : DataW.trod enc Tryz.prog w base spare held m 3 ((cs.drop 1).take (Tryz.prog.cellsOf 3)) = some y1 := hf 1 _ rfl
    have h2 : DataW.trod enc Tryz.prog w base spare held m 33 ((cs.drop 2).take (Tryz.prog.cellsOf 33)) = some y2 := hf 2 _ rfl
    have h3 : DataW.trod enc Tryz.prog w base spare held m 34 ((cs.drop 3).take (Tryz.prog.cellsOf 34)) = some y3 := hf 3 _ rfl
    rw [cells_int9] at h0 h1
    rw [cells_errno9] at h2
    rw [cells_strings9] at h3
    subst hx
    simp only [DataW.weights, DataW.weightsEach, Tryz.underlying36, List.map_cons, List.map_nil, List.mem_append, List.not_mem_nil, or_false] at hw
    obtain ⟨c, e0, _, w0⟩ := DataW.trod_int Tryz.underlying3 h0
    obtain ⟨n, e1, _, w1⟩ := DataW.trod_int Tryz.underlying3 h1
    obtain ⟨k, e2, _, w2⟩ := DataW.trod_int Tryz.underlying33 h2
    obtain ⟨A, vs, z, e3, _, _, hs, hwl, hwv⟩ := open_rowK SK ⟨#[]⟩ b (fun s => s.size ≤ b) cells_string9 bytes_string10 (fun n cs y hy hu => open_str10 hu hy) (fun u hu => hw u (.inr (.inr (.inr hu)))) h3
    refine ⟨⟨⟨c, n, k, vs⟩, A, z⟩, ?_, ⟨i64_wf9 w0, i64_wf9 w1, i64_wf9 w2⟩, hwl, hwv, hs⟩
    have e : cs = cs.drop 0 := rfl
    rw [e, cut9 cs 0 1, e0, cut9 cs (0 + 1) 1, e1, cut9 cs (0 + 1 + 1) 1, e2, cut9 cs (0 + 1 + 1 + 1) 1, e3, List.drop_eq_nil_of_le (by omega)]
    rfl
set_option maxRecDepth 100000 in
theorem cut_at10 (l : List Value) (o : Nat) {v : Value} (h : (l.drop o).take 1 = [v]) : l[o]? = some v := by
  have h2 : ((l.drop o).take 1)[0]? = some v := by rw [h]; rfl
  rw [List.getElem?_take, if_pos (by decide), List.getElem?_drop] at h2
  simpa using h2
set_option maxRecDepth 100000 in
theorem size_op10 {b : Nat} (hw : ∀ u ∈ x.1.weights Tryz.prog 54, u ≤ b) (h : DataW.trod enc Tryz.prog w base spare held fuel 54 cs = some x) :
    ∀ s : ByteArray, cs[1]? = some (.string s) ∨ cs[2]? = some (.string s) ∨ cs[3]? = some (.string s) → s.size ≤ b := by
  obtain ⟨xs, m, _, hx, hl, hxl, hf⟩ := DataW.trod_struct Tryz.underlying54 h
  match xs, hxl with
  | [y0, y1, y2, y3, y4], _ =>
    have h1 : DataW.trod enc Tryz.prog w base spare held m 9 ((cs.drop 1).take (Tryz.prog.cellsOf 9)) = some y1 := hf 1 _ rfl
    have h2 : DataW.trod enc Tryz.prog w base spare held m 9 ((cs.drop 2).take (Tryz.prog.cellsOf 9)) = some y2 := hf 2 _ rfl
    have h3 : DataW.trod enc Tryz.prog w base spare held m 9 ((cs.drop 3).take (Tryz.prog.cellsOf 9)) = some y3 := hf 3 _ rfl
    rw [cells_string9] at h1 h2 h3
    subst hx
    simp only [DataW.weights, DataW.weightsEach, Tryz.underlying54, List.map_cons, List.map_nil, List.mem_append, List.not_mem_nil, or_false] at hw
    obtain ⟨s1, e1, w1⟩ := open_str10 (fun u hu => hw u (.inr (.inl hu))) h1
    obtain ⟨s2, e2, w2⟩ := open_str10 (fun u hu => hw u (.inr (.inr (.inl hu)))) h2
    obtain ⟨s3, e3, w3⟩ := open_str10 (fun u hu => hw u (.inr (.inr (.inr (.inl hu))))) h3
    intro s hs
    rw [cut_at10 cs 1 e1, cut_at10 cs 2 e2, cut_at10 cs 3 e3] at hs
    rcases hs with hs | hs | hs <;> injection hs with hs <;> injection hs with hs <;> subst hs <;> assumption
set_option maxRecDepth 100000 in
theorem open_req10 {b : Nat} (hw : ∀ u ∈ x.1.weights Tryz.prog 56, u ≤ b) (h : DataW.trod enc Tryz.prog w base spare held fuel 56 cs = some x) :
    ∃ y : ReqX, cs = y.cells ∧ (R64 y.client ∧ R64 y.num ∧ R64 y.kind ∧ R64 y.ck ∧ R64 y.cid ∧ R64 y.cn ∧ R64 y.high) ∧ y.key.size ≤ b ∧ y.val.size ≤ b ∧ y.old.size ≤ b := by
  obtain ⟨y, hI, rfl⟩ := open_req9 h
  obtain ⟨xs, m, _, hx, hl, hxl, hf⟩ := DataW.trod_struct Tryz.underlying56 h
  match xs, hxl with
  | [y0, y1, y2], _ =>
    have h2 : DataW.trod enc Tryz.prog w base spare held m 54 ((y.cells.drop 2).take (Tryz.prog.cellsOf 54)) = some y2 := hf 2 _ rfl
    rw [cells_op9, show (y.cells.drop 2).take 40 = opL y from by
      show (opL y).take 40 = opL y
      exact List.take_of_length_le (by rw [opL_len]; decide)] at h2
    subst hx
    simp only [DataW.weights, DataW.weightsEach, Tryz.underlying56, List.map_cons, List.map_nil, List.mem_append, List.not_mem_nil, or_false] at hw
    have hz := size_op10 (fun u hu => hw u (.inr (.inr hu))) h2
    exact ⟨y, rfl, hI, hz _ (.inl rfl), hz _ (.inr (.inl rfl)), hz _ (.inr (.inr rfl))⟩
set_option maxRecDepth 100000 in
theorem open_reqs10 {b : Nat} (hw : ∀ u ∈ x.1.weights Tryz.prog 57, u ≤ b) (h : DataW.trod enc Tryz.prog w base spare held fuel 57 cs = some x) :
    ∃ (A : Option Addr) (qs : List ReqX) (cap : Nat), cs = [.slice A qs.length cap] ∧ qs.length * 136 ≤ b ∧ QK.See w w.heap.size A qs ∧ ∀ q ∈ qs, (R64 q.client ∧ R64 q.num ∧ R64 q.kind ∧ R64 q.ck ∧ R64 q.cid ∧ R64 q.cn ∧ R64 q.high) ∧ q.key.size ≤ b ∧ q.val.size ≤ b ∧ q.old.size ≤ b := by
  obtain ⟨A, qs, cap, h1, _, _, h4, h5, h6⟩ := open_rowK QK zreq b (fun q => (R64 q.client ∧ R64 q.num ∧ R64 q.kind ∧ R64 q.ck ∧ R64 q.cid ∧ R64 q.cn ∧ R64 q.high) ∧ q.key.size ≤ b ∧ q.val.size ≤ b ∧ q.old.size ≤ b) cells_req9 bytes_req10 (fun n cs y hy hu => open_req10 hu hy) hw h
  exact ⟨A, qs, cap, h1, h5, h4, h6⟩
set_option maxRecDepth 100000 in
theorem open_state10 {b : Nat} (hb : b ≤ 140737488351232) (hw : ∀ u ∈ x.1.weights Tryz.prog 28, u ≤ b) (h : DataW.trod enc Tryz.prog w base spare held fuel 28 cs = some x) :
    ∃ s : StM, cs = s.cells.toList ∧ s.Sz ∧ (∀ r ∈ s.rs, R64 r.x.client ∧ R64 r.x.num ∧ R64 r.x.code) ∧ R64 s.ep ∧ s.See w w.heap.size := by
  obtain ⟨xs, m, _, hx, hl, hxl, hf⟩ := DataW.trod_struct Tryz.underlying28 h
  rw [cells_state10] at hl
  match xs, hxl with
  | [y0, y1, y2], _ =>
    have h0 : DataW.trod enc Tryz.prog w base spare held m 22 ((cs.drop 0).take (Tryz.prog.cellsOf 22)) = some y0 := hf 0 _ rfl
    have h1 : DataW.trod enc Tryz.prog w base spare held m 23 ((cs.drop 1).take (Tryz.prog.cellsOf 23)) = some y1 := hf 1 _ rfl
    have h2 : DataW.trod enc Tryz.prog w base spare held m 26 ((cs.drop 2).take (Tryz.prog.cellsOf 26)) = some y2 := hf 2 _ rfl
    rw [cells_pairs10] at h0
    rw [cells_reps10] at h1
    rw [cells_config10] at h2
    subst hx
    simp only [DataW.weights, DataW.weightsEach, Tryz.underlying28, List.map_cons, List.map_nil, List.mem_append, List.not_mem_nil, or_false] at hw
    obtain ⟨pA, ps, pc, e0, _, _, hp, hpl, hpv⟩ := open_rowK PK ⟨⟨#[]⟩, ⟨#[]⟩⟩ b (fun p => p.key.size ≤ b ∧ p.val.size ≤ b) cells_pair10 bytes_pair10 (fun n cs y hy hu => open_pair10 hu hy) (fun u hu => hw u (.inl hu)) h0
    obtain ⟨rA, rs, rc, e1, _, _, hr, hrl, hrv⟩ := open_rowK RK ⟨⟨0, 0, 0, []⟩, none, 0⟩ b (fun r => (R64 r.x.client ∧ R64 r.x.num ∧ R64 r.x.code) ∧ r.x.vals.length * 16 ≤ b ∧ (∀ v ∈ r.x.vals, v.size ≤ b) ∧ SK.See w w.heap.size r.A r.x.vals) cells_rep9 bytes_rep10 (fun n cs y hy hu => open_rep10 hu hy) (fun u hu => hw u (.inr (.inl hu))) h1
    have hw2 : ∀ u ∈ y2.1.weights Tryz.prog 26, u ≤ b := fun u hu => hw u (.inr (.inr hu))
    obtain ⟨zs, n, _, hz, hzl, hzn, hg⟩ := DataW.trod_struct Tryz.underlying26 h2
    match zs, hzn with
    | [z0, z1], _ =>
      have g0 : DataW.trod enc Tryz.prog w base spare held n 3 ((((cs.drop 2).take 2).drop 0).take (Tryz.prog.cellsOf 3)) = some z0 := hg 0 _ rfl
      have g1 : DataW.trod enc Tryz.prog w base spare held n 24 ((((cs.drop 2).take 2).drop 1).take (Tryz.prog.cellsOf 24)) = some z1 := hg 1 _ rfl
      rw [cells_int9] at g0
      rw [cells_mems10] at g1
      rw [hz] at hw2
      simp only [DataW.weights, DataW.weightsEach, Tryz.underlying26, List.map_cons, List.map_nil, List.mem_append, List.not_mem_nil, or_false] at hw2
      obtain ⟨ep, f0, _, wep⟩ := DataW.trod_int Tryz.underlying3 g0
      obtain ⟨mA, ms, mc, f1, _, _, hm, hml, hmi⟩ := open_rowK MK zmem b (fun m => R64 m.id) cells_mem8 bytes_mem10 (fun n cs y hy _ => by
        obtain ⟨a, ha, hi⟩ := open_mem10 hy
        exact ⟨a, ha, hi⟩) (fun u hu => hw2 u (.inr hu)) g1
      have hpl' : ps.length * 32 ≤ b := hpl
      have hrl' : rs.length * 48 ≤ b := hrl
      have hml' : ms.length * 48 ≤ b := hml
      refine ⟨⟨ps, pA, pc, rs, rA, rc, ep, ms, mA, mc⟩, ?_, ⟨by show ps.length ≤ _; omega, by show rs.length ≤ _; omega, by show ms.length ≤ _; omega, fun p hp => ⟨Nat.le_trans (hpv p hp).1 hb, Nat.le_trans (hpv p hp).2 hb⟩, fun r hr => ⟨by have := (hrv r hr).2.1; omega, fun v hv => Nat.le_trans ((hrv r hr).2.2.1 v hv) hb⟩, ⟨i64_wf9 wep, hmi⟩⟩, fun r hr => (hrv r hr).1, i64_wf9 wep, ⟨hp, hr, fun r hr => (hrv r hr).2.2.2, hm⟩⟩
      have e : cs = cs.drop 0 := rfl
      have e2 : cs.drop (0 + 1 + 1) = [.int .i64 ep, .slice mA ms.length mc] := by
        have h5 : (cs.drop 2).take 2 = cs.drop 2 := List.take_of_length_le (by rw [List.length_drop]; omega)
        rw [h5] at f0 f1
        have e : cs.drop 2 = (cs.drop 2).drop 0 := rfl
        show cs.drop 2 = _
        rw [e, cut9 (cs.drop 2) 0 1, f0, cut9 (cs.drop 2) (0 + 1) 1, f1, List.drop_eq_nil_of_le (by rw [List.length_drop]; omega)]
        rfl
      rw [e, cut9 cs 0 1, e0, cut9 cs (0 + 1) 1, e1, e2]
      rfl
end
end Go.Proofs.YtbgbidgggjkmmaaGreatDoor
