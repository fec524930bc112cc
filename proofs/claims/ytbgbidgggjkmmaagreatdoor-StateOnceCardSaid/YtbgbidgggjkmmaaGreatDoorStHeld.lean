/-
  What a request makes of a key's value, and of a client's last reply: plain.
-/
import Derived.Test.YtbgbidgggjkmmaaGreatDoorNE
namespace Go.Proofs.YtbgbidgggjkmmaaGreatDoor
open Go.RowKit

set_option maxRecDepth 100000 in
theorem getV_put (x : PairX) {l : List PairX} (hs : PS l) (k : ByteArray) : getV k (pPut x l) = if x.key = k then x.val else getV k l := by
  unfold getV
  have h : pLook k (pPut x l) = if x.key = k then some x else pLook k l := look_put sLt3 x hs k
  rw [h]
  by_cases e : x.key = k
  · rw [if_pos e, if_pos e]
  · rw [if_neg e, if_neg e]
set_option maxRecDepth 100000 in
theorem getB_put (x : PairX) {l : List PairX} (hs : PS l) (k : ByteArray) : getB k (pPut x l) = if x.key = k then true else getB k l := by
  unfold getB
  have h : pLook k (pPut x l) = if x.key = k then some x else pLook k l := look_put sLt3 x hs k
  rw [h]
  by_cases e : x.key = k
  · rw [if_pos e, if_pos e]; rfl
  · rw [if_neg e, if_neg e]
set_option maxRecDepth 100000 in
theorem getV_del (k k' : ByteArray) (l : List PairX) : getV k' (pDel k l) = if k' = k then ⟨#[]⟩ else getV k' l := by
  unfold getV
  have h : pLook k' (pDel k l) = if k' = k then none else pLook k' l := look_del k k' l
  rw [h]
  by_cases e : k' = k
  · rw [if_pos e, if_pos e]
  · rw [if_neg e, if_neg e]
set_option maxRecDepth 100000 in
theorem getB_del (k k' : ByteArray) (l : List PairX) : getB k' (pDel k l) = if k' = k then false else getB k' l := by
  unfold getB
  have h : pLook k' (pDel k l) = if k' = k then none else pLook k' l := look_del k k' l
  rw [h]
  by_cases e : k' = k
  · rw [if_pos e, if_pos e]; rfl
  · rw [if_neg e, if_neg e]

/-- A key's value behind an operation that answered c. -/
def heldF (s : StX) (q : ReqX) (c : Int) (k : ByteArray) : ByteArray × Bool :=
  if c = 0 ∧ q.key = k ∧ (q.kind = 2 ∨ q.kind = 4) then (q.val, true) else if c = 0 ∧ q.key = k ∧ q.kind = 3 then (⟨#[]⟩, false) else (getV k s.ps, getB k s.ps)
set_option maxRecDepth 100000 in
theorem heldF_not {s : StX} {q : ReqX} {c : Int} {k : ByteArray} (h : ¬ (c = 0 ∧ q.key = k ∧ (q.kind = 2 ∨ q.kind = 3 ∨ q.kind = 4))) : heldF s q c k = (getV k s.ps, getB k s.ps) := by
  unfold heldF
  rw [if_neg (fun e => h ⟨e.1, e.2.1, by omega⟩), if_neg (fun e => h ⟨e.1, e.2.1, by omega⟩)]
set_option maxRecDepth 100000 in
theorem held_put {s : StX} {q : ReqX} (hs : PS s.ps) (hk : q.kind = 2 ∨ q.kind = 4) (k : ByteArray) : (getV k (pPut ⟨q.key, q.val⟩ s.ps), getB k (pPut ⟨q.key, q.val⟩ s.ps)) = heldF s q 0 k := by
  rw [getV_put _ hs, getB_put _ hs]
  by_cases e : q.key = k
  · rw [if_pos e, if_pos e]
    unfold heldF
    rw [if_pos ⟨rfl, e, hk⟩]
  · rw [heldF_not (fun h => e h.2.1), if_neg e, if_neg e]
set_option maxRecDepth 100000 in
theorem held_del {s : StX} {q : ReqX} (hk : q.kind = 3) (k : ByteArray) : (getV k (pDel q.key s.ps), getB k (pDel q.key s.ps)) = heldF s q 0 k := by
  rw [getV_del, getB_del]
  by_cases e : k = q.key
  · rw [if_pos e, if_pos e]
    unfold heldF
    rw [if_neg (fun h => by have := h.2.2; omega), if_pos ⟨rfl, e.symm, hk⟩]
  · rw [heldF_not (fun h => e h.2.1.symm), if_neg e, if_neg e]
set_option maxRecDepth 100000 in
theorem OpIs.held {s s1 : StX} {q : ReqX} {c : Int} {vs : List ByteArray} (hs : PS s.ps) (hg : reqGood q = true) (h : OpIs s q s1 c vs) (k : ByteArray) : (getV k s1.ps, getB k s1.ps) = heldF s q c k := by
  have hk : 1 ≤ q.kind ∧ q.kind ≤ 7 := by
    unfold reqGood at hg
    simp only [Bool.and_eq_true, decide_eq_true_eq] at hg
    omega
  unfold OpIs at h
  split at h
  · rw [h.1, heldF_not (fun e => by omega)]
  · split at h
    · rw [h.1, heldF_not (fun e => by omega)]
    · rw [h.1, h.2.1]
      unfold opF
      split
      · split
        · exact (heldF_not (fun e => by have := e.1; simp at this)).symm
        · exact held_put hs (.inl (by assumption)) k
      · split
        · exact (heldF_not (fun e => by omega)).symm
        · split
          · exact (heldF_not (fun e => by have := e.1; simp at this)).symm
          · split
            · exact (heldF_not (fun e => by omega)).symm
            · split
              · exact held_del (by assumption) k
              · split
                · exact held_put hs (.inr (by omega)) k
                · exact (heldF_not (fun e => by have := e.1; simp at this)).symm
set_option maxRecDepth 100000 in
theorem FreshIs.held {s s' : StX} {q : ReqX} {a : RepX} (hs : PS s.ps) (hg : reqGood q = true) (h : FreshIs s q s' a) (k : ByteArray) : (getV k s'.ps, getB k s'.ps) = heldF s q a.code k := by
  obtain ⟨s1, c, vs, ho, rfl, rfl⟩ := h
  exact ho.held hs hg k
set_option maxRecDepth 100000 in
theorem ExeIs.held {s s' : StX} {q : ReqX} {a r : RepX} {b : Bool} (hs : s.Ris) (h : ExeIs s q s' a) (hl : rLook q.client s.rs = if b = true then some r else none) (hr : b = false → r.num = 0) (k : ByteArray) :
    (getV k s'.ps, getB k s'.ps) = if reqGood q = true ∧ r.num < q.num then heldF s q a.code k else (getV k s.ps, getB k s.ps) := by
  unfold ExeIs at h
  by_cases hg : reqGood q = true
  · rw [if_pos hg, hl] at h
    cases b with
    | false =>
      have h' : FreshIs s q s' a := h
      have hn : 1 ≤ q.num := by
        unfold reqGood at hg
        simp only [Bool.and_eq_true, decide_eq_true_eq] at hg
        omega
      rw [if_pos ⟨hg, by rw [hr rfl]; omega⟩]
      exact h'.held hs.ps hg k
    | true =>
      simp only [if_true] at h
      split at h
      · rw [if_neg (fun e => by omega), h.1]
      · split at h
        · rw [if_neg (fun e => by omega), h.1]
        · rw [if_pos ⟨hg, by omega⟩]
          exact h.held hs.ps hg k
  · rw [if_neg hg] at h
    rw [if_neg (fun e => hg e.1), h.1]

/-! ### A client's last reply -/
set_option maxRecDepth 100000 in
theorem FreshIs.look {s s' : StX} {q : ReqX} {a : RepX} (hs : RS s.rs) (h : FreshIs s q s' a) (c : Int) : rLook c s'.rs = if q.client = c then some a else rLook c s.rs := by
  obtain ⟨s1, k, vs, ho, rfl, rfl⟩ := h
  have e := ho.rs
  show rLook c (rPut _ s1.rs) = _
  rw [e]
  exact look_put iLt3 _ hs c
set_option maxRecDepth 100000 in
theorem FreshIs.num {s s' : StX} {q : ReqX} {a : RepX} (h : FreshIs s q s' a) : a.num = q.num ∧ a.code ≠ 8 := by
  obtain ⟨s1, k, vs, ho, rfl, rfl⟩ := h
  exact ⟨rfl, ho.code⟩
set_option maxRecDepth 100000 in
/-- Others' requests leave it. -/
theorem ExeIs.other {s s' : StX} {q : ReqX} {a : RepX} (hs : RS s.rs) (h : ExeIs s q s' a) {c : Int} (hc : q.client ≠ c) : rLook c s'.rs = rLook c s.rs := by
  have hf : FreshIs s q s' a → rLook c s'.rs = rLook c s.rs := fun h => by rw [h.look hs c, if_neg hc]
  unfold ExeIs at h
  split at h
  · cases hl : rLook q.client s.rs with
    | none => rw [hl] at h; exact hf h
    | some r =>
      rw [hl] at h
      simp only at h
      split at h
      · rw [h.1]
      · split at h
        · rw [h.1]
        · exact hf h
  · rw [h.1]
set_option maxRecDepth 100000 in
/-- A request that was executed, or known. -/
theorem ExeIs.first {s s' : StX} {q : ReqX} {a : RepX} (hs : RS s.rs) (hg : reqGood q = true) (h : ExeIs s q s' a) : (a.code = 8 → s' = s) ∧ (a.code ≠ 8 → rLook q.client s'.rs = some a ∧ a.num = q.num) := by
  have hf : FreshIs s q s' a → (a.code = 8 → s' = s) ∧ (a.code ≠ 8 → rLook q.client s'.rs = some a ∧ a.num = q.num) := fun h =>
    ⟨fun e => absurd e h.num.2, fun _ => ⟨by rw [h.look hs, if_pos rfl], h.num.1⟩⟩
  unfold ExeIs at h
  rw [if_pos hg] at h
  cases hl : rLook q.client s.rs with
  | none => rw [hl] at h; exact hf h
  | some r =>
    rw [hl] at h
    simp only at h
    split at h
    · rename_i e
      rw [h.1, h.2]
      exact ⟨fun _ => rfl, fun _ => ⟨hl, e⟩⟩
    · split at h
      · rw [h.1, h.2]
        exact ⟨fun _ => rfl, fun e => absurd rfl e⟩
      · exact hf h
set_option maxRecDepth 100000 in
/-- It comes again. -/
theorem ExeIs.again {s s' : StX} {q : ReqX} {a b : RepX} (hg : reqGood q = true) (h : ExeIs s q s' b) (hl : rLook q.client s.rs = some a) (hn : a.num = q.num) : s' = s ∧ b = a := by
  unfold ExeIs at h
  rw [if_pos hg, hl] at h
  simp only at h
  rw [if_pos hn] at h
  exact h
set_option maxRecDepth 100000 in
/-- The client's next one. -/
theorem ExeIs.next {s s' : StX} {q : ReqX} {a b : RepX} (hs : RS s.rs) (hg : reqGood q = true) (h : ExeIs s q s' b) (hl : rLook q.client s.rs = some a) (hn : a.num < q.num) : rLook q.client s'.rs = some b ∧ b.num = q.num := by
  unfold ExeIs at h
  rw [if_pos hg, hl] at h
  simp only at h
  rw [if_neg (by omega), if_neg (by omega)] at h
  exact ⟨by rw [h.look hs, if_pos rfl], h.num.1⟩
set_option maxRecDepth 100000 in
/-- It comes behind the next one. -/
theorem ExeIs.old {s s' : StX} {q : ReqX} {a b : RepX} (hg : reqGood q = true) (h : ExeIs s q s' b) (hl : rLook q.client s.rs = some a) (hn : q.num < a.num) : s' = s ∧ b = ⟨q.client, q.num, 8, []⟩ := by
  unfold ExeIs at h
  rw [if_pos hg, hl] at h
  simp only at h
  rw [if_neg (by omega), if_pos hn] at h
  exact h
end Go.Proofs.YtbgbidgggjkmmaaGreatDoor
