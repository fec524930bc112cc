/-
  Memberships as plain lists: what can be, what a change makes of it. No program.
-/
import Derived.Test.YtloaidahlagmiaaCfApply
namespace Go.Proofs.Ytloaidahlagmiaa

def Ris (ms : List MemX) : Prop := ms.Pairwise (fun a b => a.id < b.id)
def Dif (ms : List MemX) : Prop := ms.Pairwise (fun a b => a.id ≠ b.id)
set_option maxRecDepth 100000 in
theorem Ris.dif {ms : List MemX} (h : Ris ms) : Dif ms := List.Pairwise.imp (R := fun a b : MemX => a.id < b.id) (fun {a b} h e => by omega) h
set_option maxRecDepth 100000 in
theorem Dif.perm {ms ns : List MemX} (h : Dif ms) (p : ms.Perm ns) : Dif ns := p.pairwise h (fun {x y} (h : x.id ≠ y.id) => fun e => h e.symm)
set_option maxRecDepth 100000 in
theorem SortedM.ris {ms : List MemX} (h : SortedM ms) (d : Dif ms) : Ris ms :=
  List.Pairwise.imp (R := fun a b : MemX => ¬ b.id < a.id ∧ a.id ≠ b.id) (fun {a b} h => by omega) (List.Pairwise.and (show ms.Pairwise (fun a b => ¬ b.id < a.id) from h) (show ms.Pairwise (fun a b => a.id ≠ b.id) from d))
set_option maxRecDepth 100000 in
theorem Ris.uniq {ms ns : List MemX} (h : Ris ms) (k : Ris ns) (p : ms.Perm ns) : ms = ns :=
  List.Perm.eq_of_pairwise (le := fun a b : MemX => a.id < b.id) (fun a b _ _ h1 h2 => by omega) h k p
set_option maxRecDepth 100000 in
theorem rise_iff : ∀ (ms : List MemX) (a : Int), riseB a ms = true ↔ Ris ms ∧ ∀ m ∈ ms, a < m.id ∧ fitsB m.id m.high = true
  | [], a => by simp [riseB, Ris]
  | m :: r, a => by
    have ih := rise_iff r m.id
    unfold riseB
    rw [Bool.and_eq_true, Bool.and_eq_true, decide_eq_true_iff, ih]
    unfold Ris
    rw [List.pairwise_cons]
    constructor
    · rintro ⟨h1, h2, h3, h4⟩
      refine ⟨⟨fun x hx => (h4 x hx).1, h3⟩, fun x hx => ?_⟩
      rcases List.mem_cons.1 hx with rfl | hx
      · exact ⟨h1, h2⟩
      · exact ⟨by have := (h4 x hx).1; omega, (h4 x hx).2⟩
    · rintro ⟨⟨h1, h2⟩, h3⟩
      have hm := h3 m (List.mem_cons_self ..)
      exact ⟨hm.1, hm.2, h2, fun x hx => ⟨h1 x hx, (h3 x (List.mem_cons_of_mem _ hx)).2⟩⟩
set_option maxRecDepth 100000 in
theorem good_iff (ep : Int) (ms : List MemX) : goodB ep ms = true ↔ (0 ≤ ep ∧ ep ≤ 1073741824) ∧ (1 ≤ ms.length ∧ ms.length ≤ 10) ∧ Ris ms ∧ ∀ m ∈ ms, fitsB m.id m.high = true := by
  unfold goodB inB
  rw [Bool.and_eq_true, rise_iff]
  simp only [Bool.and_eq_true, decide_eq_true_iff]
  constructor
  · rintro ⟨⟨h1, h2⟩, h3, h4⟩
    exact ⟨h1, by omega, h3, fun m hm => (h4 m hm).2⟩
  · rintro ⟨h1, h2, h3, h4⟩
    refine ⟨⟨h1, by omega⟩, h3, fun m hm => ⟨?_, h4 m hm⟩⟩
    have h := h4 m hm
    unfold fitsB inB at h
    simp only [Bool.and_eq_true, decide_eq_true_iff] at h
    omega
set_option maxRecDepth 100000 in
theorem has_iff (ms : List MemX) (i : Int) : hasB ms i = true ↔ ∃ m ∈ ms, m.id = i := by
  unfold hasB posN
  rw [decide_eq_true_iff, List.findIdx_lt_length]
  simp
set_option maxRecDepth 100000 in
theorem not_has {ms : List MemX} {i : Int} (h : hasB ms i = false) : ∀ m ∈ ms, m.id ≠ i := fun m hm e => by
  have := (has_iff ms i).2 ⟨m, hm, e⟩
  rw [h] at this
  cases this
set_option maxRecDepth 100000 in
theorem Dif.same {ms : List MemX} (h : Dif ms) {x y : MemX} (hx : x ∈ ms) (hy : y ∈ ms) (e : x.id = y.id) : x = y := by
  induction ms with
  | nil => cases hx
  | cons m r ih =>
    obtain ⟨h1, h2⟩ := List.pairwise_cons.1 h
    rcases List.mem_cons.1 hx with e1 | hx' <;> rcases List.mem_cons.1 hy with e2 | hy'
    · rw [e1, e2]
    · exact absurd (by rw [← e1]; exact e) (h1 y hy')
    · exact absurd (by rw [← e2]; exact e.symm) (h1 x hx')
    · exact ih h2 hx' hy'
set_option maxRecDepth 100000 in
theorem find_mem {ms : List MemX} {i : Int} (h : hasB ms i = true) : findM ms i ∈ ms ∧ (findM ms i).id = i := by
  unfold hasB at h
  rw [decide_eq_true_iff] at h
  unfold findM
  rw [if_pos h, List.getD_eq_getElem?_getD, List.getElem?_eq_getElem h]
  exact ⟨List.getElem_mem h, posN_eq h⟩
set_option maxRecDepth 100000 in
theorem find_in {ms : List MemX} (d : Dif ms) (m : MemX) : (hasB ms m.id && decide (findM ms m.id = m)) = decide (m ∈ ms) := by
  rw [Bool.eq_iff_iff, Bool.and_eq_true, decide_eq_true_iff, decide_eq_true_iff]
  constructor
  · rintro ⟨h1, h2⟩
    rw [← h2]
    exact (find_mem h1).1
  · intro h
    have h1 := (has_iff ms m.id).2 ⟨m, h, rfl⟩
    exact ⟨h1, d.same (find_mem h1).1 h (find_mem h1).2⟩
set_option maxRecDepth 100000 in
theorem mem_drop {i : Int} {ms : List MemX} {m : MemX} : m ∈ dropId i ms ↔ m ∈ ms ∧ m.id ≠ i := by
  unfold dropId
  rw [List.mem_filter]
  simp
set_option maxRecDepth 100000 in
theorem Ris.drop {ms : List MemX} (h : Ris ms) (i : Int) : Ris (dropId i ms) := List.Pairwise.filter _ h
set_option maxRecDepth 100000 in
theorem Dif.drop {ms : List MemX} (h : Dif ms) (i : Int) : Dif (dropId i ms) := List.Pairwise.filter _ h
set_option maxRecDepth 100000 in
theorem drop_none {ms : List MemX} {i : Int} (h : hasB ms i = false) : dropId i ms = ms := by
  unfold dropId
  rw [List.filter_eq_self]
  intro m hm
  have := not_has h m hm
  simpa using this
set_option maxRecDepth 100000 in
theorem drop_len : ∀ {ms : List MemX} {i : Int}, Dif ms → hasB ms i = true → (dropId i ms).length + 1 = ms.length
  | [], i, _, h => by
    rw [has_iff] at h
    obtain ⟨m, hm, _⟩ := h
    cases hm
  | m :: r, i, d, h => by
    obtain ⟨h1, h2⟩ := List.pairwise_cons.1 d
    by_cases e : m.id = i
    · have hr : hasB r i = false := by
        rw [Bool.eq_false_iff]
        intro hh
        obtain ⟨x, hx, ex⟩ := (has_iff r i).1 hh
        exact h1 x hx (by rw [e, ex])
      have hd := drop_none hr
      unfold dropId at hd ⊢
      rw [List.filter_cons, if_neg (by simp [e]), hd]
      rfl
    · have hr : hasB r i = true := by
        rw [has_iff] at h ⊢
        obtain ⟨x, hx, ex⟩ := h
        rcases List.mem_cons.1 hx with rfl | hx
        · exact absurd ex e
        · exact ⟨x, hx, ex⟩
      have ih := drop_len h2 hr
      unfold dropId at ih ⊢
      rw [List.filter_cons, if_pos (by simp [e]), List.length_cons, List.length_cons, ih]

set_option maxRecDepth 100000 in
/-- Behind a change that a configuration can have. -/
theorem next_dif {ep : Int} {ms : List MemX} {k i n : Int} {r : List UInt8} {h : Int} (hr : r.length = 32) (he : errC ep ms k i n h = 0) : Dif (nextM ms k i n r h hr) := by
  obtain ⟨hg, _, hk, _, _, hc, _, _⟩ := err0 he
  have hd := ((good_iff ep ms).1 hg).2.2.1.dif
  unfold nextM
  by_cases e : k = 2
  · rw [if_pos e, List.append_nil]
    exact hd.drop i
  · rw [if_neg e]
    unfold Dif
    rw [List.pairwise_append]
    refine ⟨hd.drop i, by simp, fun x hx y hy => ?_⟩
    obtain rfl := List.mem_singleton.1 hy
    obtain ⟨hx1, hx2⟩ := mem_drop.1 hx
    show x.id ≠ cid k i n
    rcases hc with hc | hc | hc
    · exact absurd hc e
    · unfold cid
      rw [if_neg (by omega)]
      exact hx2
    · exact not_has hc x hx1
set_option maxRecDepth 100000 in
theorem Behind.ris {ep : Int} {ms : List MemX} {k i n : Int} {r : List UInt8} {h : Int} {hr : r.length = 32} (he : errC ep ms k i n h = 0) {ys : List MemX} (hb : Behind ms k i n r h hr ys) : Ris ys :=
  hb.sorted.ris ((next_dif hr he).perm hb.perm.symm)
set_option maxRecDepth 100000 in
theorem next_len {ep : Int} {ms : List MemX} {k i n : Int} {r : List UInt8} {h : Int} (hr : r.length = 32) (he : errC ep ms k i n h = 0) : (k = 1 → (nextM ms k i n r h hr).length = ms.length + 1) ∧ (k = 2 → (nextM ms k i n r h hr).length + 1 = ms.length) ∧ (k = 3 ∨ k = 4 → (nextM ms k i n r h hr).length = ms.length) := by
  obtain ⟨hg, _, hk, _, hh, hc, _, _⟩ := err0 he
  have hd := ((good_iff ep ms).1 hg).2.2.1.dif
  unfold nextM
  refine ⟨fun e => ?_, fun e => ?_, fun e => ?_⟩
  · have : hasB ms i = false := by
      rcases hc with hc | hc | hc
      · omega
      · omega
      · rw [e] at hc
        unfold cid at hc
        rwa [if_neg (by omega)] at hc
    rw [if_neg (by omega), drop_none this]
    simp
  · have h1 : hasB ms i = true := by
      rcases hh with hh | hh
      · omega
      · exact hh
    rw [if_pos e, List.append_nil]
    exact drop_len hd h1
  · have h1 : hasB ms i = true := by
      rcases hh with hh | hh
      · omega
      · exact hh
    rw [if_neg (by omega), List.length_append]
    exact drop_len hd h1
set_option maxRecDepth 100000 in
theorem Behind.good {ep : Int} {ms : List MemX} {k i n : Int} {r : List UInt8} {h : Int} {hr : r.length = 32} (he : errC ep ms k i n h = 0) {ys : List MemX} (hb : Behind ms k i n r h hr ys) : goodB (ep + 1) ys = true := by
  have hris := hb.ris he
  obtain ⟨l1, l2, l3⟩ := next_len hr he
  obtain ⟨hg, hep, hk, hf, hh, hc, h10, h1⟩ := err0 he
  obtain ⟨⟨e1, e2⟩, ⟨n1, n2⟩, hd, hfit⟩ := (good_iff ep ms).1 hg
  have hl := hb.perm.length_eq
  rw [good_iff]
  refine ⟨by omega, ?_, hris, fun m hm => ?_⟩
  · rw [hl]
    rcases hk with hk | hk | hk | hk
    · have := l1 hk; have := h10 hk; omega
    · have := l2 hk; have := h1 hk; omega
    · have := l3 (.inl hk); omega
    · have := l3 (.inr hk); omega
  · rcases List.mem_append.1 (hb.perm.mem_iff.1 hm) with hm | hm
    · exact hfit m (mem_drop.1 hm).1
    · by_cases e : k = 2
      · rw [if_pos e] at hm
        cases hm
      · rw [if_neg e] at hm
        obtain rfl := List.mem_singleton.1 hm
        rcases hf with hf | hf
        · exact absurd hf e
        · exact hf

set_option maxRecDepth 100000 in
theorem Dif.nodup {ms : List MemX} (h : Dif ms) : ms.Nodup := List.Pairwise.imp (R := fun a b : MemX => a.id ≠ b.id) (S := fun a b : MemX => a ≠ b) (fun {a b} h (e : a = b) => h (by rw [e])) h
set_option maxRecDepth 100000 in
theorem Dif.one {ms : List MemX} (h : Dif ms) {i : Int} (hi : ∀ m ∈ ms, m.id = i) : ms.length ≤ 1 := by
  match ms, h, hi with
  | [], _, _ => simp
  | [_], _, _ => simp
  | a :: b :: r, h, hi =>
    have h1 := (List.pairwise_cons.1 h).1 b (List.mem_cons_self ..)
    exact absurd ((hi a (List.mem_cons_self ..)).trans (hi b (List.mem_cons_of_mem _ (List.mem_cons_self ..))).symm) h1
set_option maxRecDepth 100000 in
theorem cnt_le {ms ys : List MemX} (h : Dif ms) : ms.countP (fun m => decide (m ∈ ys)) ≤ ys.countP (fun m => decide (m ∈ ms)) := by
  rw [List.countP_eq_length_filter, List.countP_eq_length_filter]
  refine List.Nodup.length_le_of_subset (Dif.nodup (show Dif (ms.filter _) from List.Pairwise.filter _ h)) fun m hm => ?_
  rw [List.mem_filter] at hm ⊢
  exact ⟨by simpa using hm.2, by simpa using hm.1⟩
def goneN (ms ys : List MemX) : Nat := ms.countP (fun m => !(hasB ys m.id && decide (findM ys m.id = m)))
set_option maxRecDepth 100000 in
theorem gone_eq {ms ys : List MemX} (h : Dif ys) : goneN ms ys + ms.countP (fun m => decide (m ∈ ys)) = ms.length := by
  have e : goneN ms ys = ms.countP (fun m => !decide (m ∈ ys)) := by
    unfold goneN
    congr 1
    funext m
    rw [find_in h]
  rw [e, List.length_eq_countP_add_countP (fun m => decide (m ∈ ys)) (l := ms), Nat.add_comm]
  congr 2
  funext m
  simp
set_option maxRecDepth 100000 in
theorem gone_mem {ms ys : List MemX} (h : Dif ys) : goneN ms ys = (ms.filter (fun m => !decide (m ∈ ys))).length := by
  unfold goneN
  rw [List.countP_eq_length_filter]
  congr 2
  funext m
  rw [find_in h]
set_option maxRecDepth 100000 in
theorem goneN_snoc (ms ys : List MemX) {k : Nat} (hk : k < ms.length) : goneN (ms.take (k + 1)) ys = goneN (ms.take k) ys + if (hasB ys (ms[k]'hk).id && decide (findM ys (ms[k]'hk).id = ms[k]'hk)) = true then 0 else 1 := by
  unfold goneN
  rw [List.take_succ_eq_append_getElem hk, List.countP_append]
  congr 1
  rw [List.countP_cons, List.countP_nil, Nat.zero_add]
  cases (hasB ys (ms[k]'hk).id && decide (findM ys (ms[k]'hk).id = ms[k]'hk)) <;> simp
set_option maxRecDepth 100000 in
theorem goneN_le (ms ys : List MemX) : goneN ms ys ≤ ms.length := List.countP_le_length
set_option maxRecDepth 100000 in
/-- What goes, what comes. -/
theorem Behind.steps {ep : Int} {ms : List MemX} {k i n : Int} {r : List UInt8} {h : Int} {hr : r.length = 32} (he : errC ep ms k i n h = 0) {ys : List MemX} (hb : Behind ms k i n r h hr ys) :
    goneN ms ys ≤ 1 ∧ goneN ys ms ≤ 1 ∧ goneN ms ys + ys.length = ms.length + goneN ys ms := by
  have hy := (hb.ris he).dif
  have hm := ((good_iff ep ms).1 (err0 he).1).2.2.1.dif
  refine ⟨?_, ?_, ?_⟩
  · rw [gone_mem hy]
    refine Dif.one (i := i) (show Dif (ms.filter _) from List.Pairwise.filter _ hm) fun m hx => ?_
    rw [List.mem_filter] at hx
    obtain ⟨h1, h2⟩ := hx
    by_cases e : m.id = i
    · exact e
    · exfalso
      have : m ∈ ys := hb.perm.mem_iff.2 (List.mem_append_left _ (mem_drop.2 ⟨h1, e⟩))
      simp [this] at h2
  · rw [gone_mem hm]
    refine Dif.one (i := cid k i n) (show Dif (ys.filter _) from List.Pairwise.filter _ hy) fun m hx => ?_
    rw [List.mem_filter] at hx
    obtain ⟨h1, h2⟩ := hx
    rcases List.mem_append.1 (hb.perm.mem_iff.1 h1) with h3 | h3
    · have := (mem_drop.1 h3).1
      simp [this] at h2
    · by_cases e : k = 2
      · rw [if_pos e] at h3
        cases h3
      · rw [if_neg e] at h3
        obtain rfl := List.mem_singleton.1 h3
        rfl
  · have e1 := gone_eq (ms := ms) hy
    have e2 := gone_eq (ms := ys) hm
    have e3 := cnt_le (ys := ys) hm
    have e4 := cnt_le (ys := ms) hy
    omega

set_option maxRecDepth 100000 in
theorem perm_drop {ms ns : List MemX} (p : ms.Perm ns) (i : Int) : (dropId i ms).Perm (dropId i ns) := p.filter _
set_option maxRecDepth 100000 in
theorem has_next {ms : List MemX} {k i n : Int} {r : List UInt8} {h : Int} {hr : r.length = 32} (hk : k ≠ 2) {ys : List MemX} (hb : Behind ms k i n r h hr ys) : comerX k i n r h hr ∈ ys := by
  refine hb.perm.mem_iff.2 ?_
  unfold nextM
  rw [if_neg hk]
  simp
set_option maxRecDepth 100000 in
/-- Who comes is found. -/
theorem find_next {ep : Int} {ms : List MemX} {k i n : Int} {r : List UInt8} {h : Int} {hr : r.length = 32} (he : errC ep ms k i n h = 0) (hk : k ≠ 2) {ys : List MemX} (hb : Behind ms k i n r h hr ys) : hasB ys (cid k i n) = true ∧ findM ys (cid k i n) = comerX k i n r h hr := by
  have hm := has_next hk hb
  have h1 := find_in (hb.ris he).dif (comerX k i n r h hr)
  rw [decide_eq_true hm, Bool.and_eq_true, decide_eq_true_iff] at h1
  exact h1
set_option maxRecDepth 100000 in
/-- A change that takes out a member that is there, of more than one. -/
theorem err_gone {ep : Int} {ms : List MemX} (hg : goodB ep ms = true) (hep : ep ≠ 1073741824) {i : Int} (hi : hasB ms i = true) (hl : ms.length ≠ 1) (n h : Int) : errC ep ms 2 i n h = 0 := by
  have h1 : inB 2 1 4 = true := by decide
  unfold errC
  simp [hg, hep, hi, hl, h1]
set_option maxRecDepth 100000 in
theorem err_comes {ep : Int} {ms : List MemX} (hg : goodB ep ms = true) (hep : ep ≠ 1073741824) {i : Int} {h : Int} (hf : fitsB i h = true) (hi : hasB ms i = false) (hl : ms.length ≠ 10) (n : Int) : errC ep ms 1 i n h = 0 := by
  have h1 : inB 1 1 4 = true := by decide
  have h2 : cid 1 i n = i := by unfold cid; rw [if_neg (by omega)]
  unfold errC
  rw [h2]
  simp [hg, hep, hi, hl, h1, hf]
set_option maxRecDepth 100000 in
/-- There and back. -/
theorem back_plain {ep : Int} {ms : List MemX} {i : Int} {r : List UInt8} {h : Int} {hr : r.length = 32} (he : errC ep ms 1 i 0 h = 0) (hep : ep ≤ 536870912) {ys : List MemX} (hb : Behind ms 1 i 0 r h hr ys) :
    hasB ys i = true ∧ findM ys i = ⟨i, r, h, hr⟩ ∧ errC (ep + 1) ys 2 i 0 0 = 0 ∧ ∀ zs, Behind ys 2 i 0 z32 0 rfl zs → zs = ms := by
  have hc : cid 1 i 0 = i := by unfold cid; rw [if_neg (by omega)]
  obtain ⟨f1, f2⟩ := find_next he (by omega) hb
  rw [hc] at f1 f2
  have hl := (next_len hr he).1 rfl
  have hpl := hb.perm.length_eq
  have hg := (good_iff ep ms).1 (err0 he).1
  have hn := hg.2.1.1
  have e2 : errC (ep + 1) ys 2 i 0 0 = 0 := err_gone (hb.good he) (by omega) f1 (by omega) 0 0
  refine ⟨f1, ?_, e2, fun zs hz => ?_⟩
  · rw [f2]
    exact MemX.same hc rfl rfl
  · have hp := hz.perm
    unfold nextM at hp
    rw [if_pos rfl, List.append_nil] at hp
    have hp2 := perm_drop hb.perm i
    have h0 : hasB ms i = false := by
      have := (err0 he).2.2.2.2.2.1
      rw [hc] at this
      rcases this with h | h | h
      · omega
      · omega
      · exact h
    have e3 : dropId i (nextM ms 1 i 0 r h hr) = ms := by
      have h1 := drop_none h0
      unfold nextM
      rw [if_neg (by omega), h1]
      unfold dropId at h1 ⊢
      rw [List.filter_append, h1]
      have : (comerX 1 i 0 r h hr).id = i := hc
      simp [this]
    rw [e3] at hp2
    exact (hz.ris e2).uniq hg.2.2.1 (hp.trans hp2)

def rotM (i : Int) (c : MemX) (m : MemX) : MemX := if m.id = i then c else m
set_option maxRecDepth 100000 in
theorem perm_rot (i : Int) (c : MemX) : ∀ {ms : List MemX}, Dif ms → hasB ms i = true → (ms.map (rotM i c)).Perm (dropId i ms ++ [c])
  | [], _, h => by
    obtain ⟨m, hm, _⟩ := (has_iff _ _).1 h
    cases hm
  | m :: r, d, h => by
    obtain ⟨h1, h2⟩ := List.pairwise_cons.1 d
    by_cases e : m.id = i
    · have hr : hasB r i = false := by
        rw [Bool.eq_false_iff]
        intro hh
        obtain ⟨x, hx, ex⟩ := (has_iff r i).1 hh
        exact h1 x hx (by rw [e, ex])
      have hd := drop_none hr
      have hm : r.map (rotM i c) = r := by
        have : r.map (rotM i c) = r.map (fun x => x) := List.map_congr_left fun x hx => by
          unfold rotM
          rw [if_neg (not_has hr x hx)]
        rw [this, List.map_id']
      have hdm : dropId i (m :: r) = r := by
        unfold dropId at hd ⊢
        rw [List.filter_cons, if_neg (by simp [e]), hd]
      rw [List.map_cons, hm, hdm]
      unfold rotM
      rw [if_pos e]
      exact (List.perm_append_singleton c r).symm
    · have hr : hasB r i = true := by
        rw [has_iff] at h ⊢
        obtain ⟨x, hx, ex⟩ := h
        rcases List.mem_cons.1 hx with e1 | hx
        · exact absurd (by rw [← e1]; exact ex) e
        · exact ⟨x, hx, ex⟩
      have hdm : dropId i (m :: r) = m :: dropId i r := by
        unfold dropId
        rw [List.filter_cons, if_pos (by simp [e])]
      rw [List.map_cons, hdm]
      have : rotM i c m = m := by unfold rotM; rw [if_neg e]
      rw [this]
      exact (perm_rot i c h2 hr).cons m
set_option maxRecDepth 100000 in
theorem ris_rot {i : Int} {c : MemX} (hc : c.id = i) {ms : List MemX} (h : Ris ms) : Ris (ms.map (rotM i c)) := by
  have hid : ∀ m, (rotM i c m).id = m.id := fun m => by
    unfold rotM
    split
    · rename_i e
      rw [hc, e]
    · rfl
  unfold Ris
  rw [List.pairwise_map]
  exact List.Pairwise.imp (R := fun a b : MemX => a.id < b.id) (fun {a b} h => by rw [hid, hid]; exact h) h
set_option maxRecDepth 100000 in
/-- A key exchanged. -/
theorem rot_plain {ep : Int} {ms : List MemX} {i : Int} {r : List UInt8} {h : Int} {hr : r.length = 32} (he : errC ep ms 4 i 0 h = 0) {ys : List MemX} (hb : Behind ms 4 i 0 r h hr ys) : ys = ms.map (rotM i ⟨i, r, h, hr⟩) := by
  have hg := (good_iff ep ms).1 (err0 he).1
  have hc : comerX 4 i 0 r h hr = ⟨i, r, h, hr⟩ := MemX.same (by show cid 4 i 0 = i; unfold cid; rw [if_neg (by omega)]) rfl rfl
  have hi : hasB ms i = true := by
    rcases (err0 he).2.2.2.2.1 with h | h
    · omega
    · exact h
  have hp := hb.perm
  unfold nextM at hp
  rw [if_neg (by omega), hc] at hp
  exact (hb.ris he).uniq (ris_rot (i := i) (c := ⟨i, r, h, hr⟩) rfl hg.2.2.1) (hp.trans (perm_rot i _ hg.2.2.1.dif hi).symm)
set_option maxRecDepth 100000 in
/-- To replace is to take out, and to add. -/
theorem keys_plain {ep : Int} {ms : List MemX} {i n : Int} {r : List UInt8} {h : Int} {hr : r.length = 32} (he3 : errC ep ms 3 i n h = 0) (he2 : errC ep ms 2 i 0 0 = 0) (hep : ep ≤ 536870912) {rs xs : List MemX} (hb3 : Behind ms 3 i n r h hr rs) (hb2 : Behind ms 2 i 0 z32 0 rfl xs) :
    errC (ep + 1) xs 1 n 0 h = 0 ∧ ∀ zs, Behind xs 1 n 0 r h hr zs → zs = rs := by
  have hg := (good_iff ep ms).1 (err0 he3).1
  have hc3 : cid 3 i n = n := by unfold cid; rw [if_pos rfl]
  have hc1 : cid 1 n 0 = n := by unfold cid; rw [if_neg (by omega)]
  have hf : fitsB n h = true := by
    rcases (err0 he3).2.2.2.1 with h | h
    · omega
    · rwa [hc3] at h
  have hnn : hasB ms n = false := by
    rcases (err0 he3).2.2.2.2.2.1 with h | h | h
    · omega
    · omega
    · rwa [hc3] at h
  have hp2 := hb2.perm
  unfold nextM at hp2
  rw [if_pos rfl, List.append_nil] at hp2
  have hxn : hasB xs n = false := by
    rw [Bool.eq_false_iff]
    intro hh
    obtain ⟨x, hx, ex⟩ := (has_iff xs n).1 hh
    exact not_has hnn x (mem_drop.1 (hp2.mem_iff.1 hx)).1 ex
  have hl2 := (next_len z32_len he2).2.1 rfl
  have hpl := hb2.perm.length_eq
  have e1 : errC (ep + 1) xs 1 n 0 h = 0 := err_comes (hb2.good he2) (by omega) hf hxn (by have := hg.2.1.2; omega) 0
  refine ⟨e1, fun zs hz => ?_⟩
  have hpz := hz.perm
  have hp3 := hb3.perm
  have hcm1 : comerX 1 n 0 r h hr = ⟨n, r, h, hr⟩ := MemX.same hc1 rfl rfl
  have hcm3 : comerX 3 i n r h hr = ⟨n, r, h, hr⟩ := MemX.same hc3 rfl rfl
  unfold nextM at hpz hp3
  rw [if_neg (by omega), hcm1, drop_none hxn] at hpz
  rw [if_neg (by omega), hcm3] at hp3
  exact (hz.ris e1).uniq (hb3.ris he3) ((hpz.trans (hp2.append_right _)).trans hp3.symm)
end Go.Proofs.Ytloaidahlagmiaa
