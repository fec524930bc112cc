/-
  DiskLoses on plain lists.
-/
import Derived.Test.YtaobhkalnnmnhaaDkInPl
namespace Go.Proofs.Ytaobhkalnnmnhaa

/-- What the loop holds: all that was appended, what was synced of it. -/
structure LoInv (X : DX) (al sf : List UInt8) (m : Int) : Prop where
  down : X.down = false
  acts : 0 ≤ X.acts ∧ X.acts ≤ m
  fs : (X.fs = [] ∧ al = [] ∧ sf = []) ∨ ∃ r, al = sf ++ r ∧ X.fs = [⟨[102], al, sf.length⟩]
/-- What is left, whatever happened. -/
def LoFin (X : DX) (al sf : List UInt8) : Prop := (X.fs = [] ∧ sf = []) ∨ ∃ d s r q, X.fs = [⟨[102], d, s⟩] ∧ al = d ++ r ∧ d = sf ++ q ∧ sf.length ≤ s ∧ s ≤ d.length
set_option maxRecDepth 100000 in
theorem LoInv.few {X : DX} {al sf : List UInt8} {m : Int} (h : LoInv X al sf m) (hm : m < 1000000) : X.Few := by
  refine ⟨⟨h.acts.1, by have := h.acts.2; omega⟩, ?_⟩
  rcases h.fs with ⟨e, _⟩ | ⟨r, _, e⟩ <;> rw [e] <;> simp
set_option maxRecDepth 100000 in
theorem LoInv.mono {X : DX} {al sf : List UInt8} {m m' : Int} (h : LoInv X al sf m) (hm : m ≤ m') : LoInv X al sf m' := ⟨h.down, ⟨h.acts.1, Int.le_trans h.acts.2 hm⟩, h.fs⟩
set_option maxRecDepth 100000 in
theorem LoInv.fin {X : DX} {al sf : List UInt8} {m : Int} (h : LoInv X al sf m) : LoFin X al sf := by
  rcases h.fs with ⟨e, _, e2⟩ | ⟨r, e2, e⟩
  · exact .inl ⟨e, e2⟩
  · exact .inr ⟨al, sf.length, [], r, e, by simp, e2, Nat.le_refl _, by rw [e2, List.length_append]; omega⟩
set_option maxRecDepth 100000 in
theorem lose_fin {X : DX} {al sf : List UInt8} (h : LoFin X al sf) (k : Int) : LoFin (X.off k) al sf := by
  unfold DX.off
  split
  · exact h
  · rcases h with ⟨e, e2⟩ | ⟨d, s, r, q, e, e2, e3, h1, h2⟩
    · exact .inl ⟨by show X.fs.map (loseF k) = []; rw [e]; rfl, e2⟩
    · have hk := keptF_le (k := k) (f := ⟨[102], d, s⟩) h2
      simp only at hk
      refine .inr ⟨d.take (keptF k ⟨[102], d, s⟩), keptF k ⟨[102], d, s⟩, d.drop (keptF k ⟨[102], d, s⟩) ++ r, q.take (keptF k ⟨[102], d, s⟩ - sf.length), ?_, ?_, ?_, by omega, ?_⟩
      · show X.fs.map (loseF k) = _
        rw [e]
        rfl
      · rw [← List.append_assoc, List.take_append_drop]
        exact e2
      · generalize keptF k ⟨[102], d, s⟩ = K at *
        rw [e3, List.take_append, List.take_of_length_le (by omega)]
      · rw [List.length_take]
        omega
set_option maxRecDepth 100000 in
theorem lo_put {fs : List FX} {al sf : List UInt8} (h : (fs = [] ∧ al = [] ∧ sf = []) ∨ ∃ r, al = sf ++ r ∧ fs = [⟨[102], al, sf.length⟩]) (l : List UInt8) :
    putF fs [102] (fun f => ⟨f.name, f.data ++ l, f.safe⟩) = [⟨[102], al ++ l, sf.length⟩] ∧ totF fs = al.length ∧ ∃ r, al ++ l = sf ++ r := by
  rcases h with ⟨rfl, rfl, rfl⟩ | ⟨r, e, rfl⟩
  · exact ⟨rfl, rfl, l, rfl⟩
  · refine ⟨by simp [putF, openF, hasF, updF], by simp [totF], r ++ l, by rw [e, List.append_assoc]⟩
set_option maxRecDepth 100000 in
theorem takes_no {X : DX} (hd : X.down = false) {m : Int} (h : m ≤ 4194304 - (totF X.fs : Int)) : X.takes m = 0 := by
  unfold DX.takes
  rw [hd, if_neg (by simp), if_neg (by omega)]
set_option maxRecDepth 100000 in
theorem lo_append {X : DX} {al sf : List UInt8} {m : Int} (h : LoInv X al sf m) (l : List UInt8) (hl : al.length + l.length ≤ 4194304) :
    (X.burns = true ∧ ∃ Y, X.append [102] l = (21, Y) ∧ LoFin Y (al ++ l) sf) ∨
    (X.burns = false ∧ ∃ Y, X.append [102] l = (0, Y) ∧ LoInv Y (al ++ l) sf (m + 1) ∧ Y.fs = [⟨[102], al ++ l, sf.length⟩]) := by
  obtain ⟨h1, h2, r, h3⟩ := lo_put h.fs l
  have ht : X.takes l.length = 0 := takes_no h.down (by rw [h2]; omega)
  have ha : X.append [102] l = if X.burns then (21, ((X.put [102] fun f => ⟨f.name, f.data ++ l, f.safe⟩).tick).off X.keep) else (0, (X.put [102] fun f => ⟨f.name, f.data ++ l, f.safe⟩).tick) := by
    unfold DX.append
    rw [if_neg (by rw [ht]; simp)]
  have hf : (X.put [102] fun f => ⟨f.name, f.data ++ l, f.safe⟩).tick.fs = [⟨[102], al ++ l, sf.length⟩] := h1
  have hi : LoInv (X.put [102] fun f => ⟨f.name, f.data ++ l, f.safe⟩).tick (al ++ l) sf (m + 1) := ⟨h.down, by
    have := h.acts
    show 0 ≤ X.acts + 1 ∧ X.acts + 1 ≤ m + 1
    omega, .inr ⟨r, h3, hf⟩⟩
  cases hb : X.burns with
  | true =>
    rw [hb] at ha
    exact .inl ⟨rfl, _, ha, lose_fin hi.fin _⟩
  | false =>
    rw [hb] at ha
    exact .inr ⟨rfl, _, ha, hi, hf⟩
set_option maxRecDepth 100000 in
theorem lo_sync {X : DX} {al sf : List UInt8} {m : Int} (h : LoInv X al sf m) (hfs : X.fs = [⟨[102], al, sf.length⟩]) (hl : al.length ≤ 4194304) :
    (X.burns = true ∧ ∃ Y, X.sync [102] = (21, Y) ∧ LoFin Y al sf) ∨
    (X.burns = false ∧ ∃ Y, X.sync [102] = (0, Y) ∧ LoInv Y al al (m + 1)) := by
  have ht : X.takes 0 = 0 := takes_no h.down (by rw [hfs]; simp [totF]; omega)
  have ha : X.sync [102] = if X.burns then (21, X.tick.off X.keep) else (0, X.tick.put [102] fun f => ⟨f.name, f.data, f.data.length⟩) := by
    unfold DX.sync
    rw [if_neg (by rw [ht]; simp)]
  have ht : LoInv X.tick al sf (m + 1) := ⟨h.down, by
    have := h.acts
    show 0 ≤ X.acts + 1 ∧ X.acts + 1 ≤ m + 1
    omega, h.fs⟩
  cases hb : X.burns with
  | true =>
    rw [hb] at ha
    exact .inl ⟨rfl, _, ha, lose_fin ht.fin _⟩
  | false =>
    rw [hb] at ha
    refine .inr ⟨rfl, _, ha, h.down, ht.acts, .inr ⟨[], by simp, ?_⟩⟩
    show putF X.fs [102] _ = _
    rw [hfs]
    simp [putF, openF, hasF, updF]
set_option maxRecDepth 100000 in
theorem lo_end {X : DX} {al sf : List UInt8} (h : LoFin X al sf) (k : Int) :
    (((X.off k).on.read [102] = ([], 7)) ∧ sf = []) ∨ ∃ d q r, (X.off k).on.read [102] = (d, 0) ∧ d = sf ++ q ∧ al = d ++ r := by
  have h2 := lose_fin h k
  have hr : ∀ Z : DX, Z.on.read [102] = match lookF Z.fs [102] with
    | some f => (f.data, 0)
    | none => ([], 7) := fun Z => by
    unfold DX.read
    rw [if_neg (by show ¬ (false : Bool) = true; simp)]
    rfl
  rw [hr]
  rcases h2 with ⟨e, e2⟩ | ⟨d, s, r, q, e, e2, e3, _, _⟩
  · rw [e]
    exact .inl ⟨rfl, e2⟩
  · rw [e]
    exact .inr ⟨d, q, r, rfl, e3, e2⟩
set_option maxRecDepth 100000 in
theorem lo_new (n k : Int) : LoInv (newX.arm n k) [] [] 0 := ⟨rfl, by show (0 : Int) ≤ 0 ∧ (0 : Int) ≤ 0; decide, .inl ⟨rfl, rfl, rfl⟩⟩
end Go.Proofs.Ytaobhkalnnmnhaa
