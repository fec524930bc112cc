/-
  Replies read: request.ReadReply.
-/
import Derived.Test.YtbgbidgggjkmmaaGreatDoorRqRead
import Derived.Test.YtbgbidgggjkmmaaGreatDoorRqReply
import Derived.Test.YtbgbidgggjkmmaaGreatDoorSA
import Derived.Deep.AppendLies
import Derived.Deep.RegionHeld3
namespace Go.Proofs.YtbgbidgggjkmmaaGreatDoor
open Go.RowKit

/-! ### What a reply is read as -/
def rpC (l : List UInt8) (b : Bool) : Int := if (rpF l b).2 = true then 0 else (rq0 l b).1
def rpM (l : List UInt8) (b : Bool) : Int := if (rpF l b).2 = true then 0 else (rq1 l b).1
def rpK (l : List UInt8) (b : Bool) : Int := if (rpF l b).2 = true then 0 else (rp2 l b).1
def rpV (l : List UInt8) (b : Bool) : List ByteArray := if (rpF l b).2 = true then [] else rvsT (rpN l b) (rp3 l b).2.1 (rp3 l b).2.2
set_option maxRecDepth 100000 in
theorem rpV_len (l : List UInt8) (b : Bool) : (rpV l b).length ≤ 256 := by
  unfold rpV
  by_cases h : (rpF l b).2 = true
  · rw [if_pos h]; simp
  · rw [if_neg h, rvsT_len]
    exact (rp3_in l b).2
set_option maxRecDepth 100000 in
theorem rp_good {l : List UInt8} {b : Bool} (h : (rpF l b).2 = false) : rpC l b = (rq0 l b).1 ∧ rpM l b = (rq1 l b).1 ∧ rpK l b = (rp2 l b).1 ∧ rpV l b = rvsT (rpN l b) (rp3 l b).2.1 (rp3 l b).2.2 := by
  have hn : ¬ ((rpF l b).2 = true) := by rw [h]; simp
  unfold rpC rpM rpK rpV
  rw [if_neg hn, if_neg hn, if_neg hn, if_neg hn]
  exact ⟨rfl, rfl, rfl, rfl⟩
set_option maxRecDepth 100000 in
theorem rp_bad {l : List UInt8} {b : Bool} (h : (rpF l b).2 = true) : rpC l b = 0 ∧ rpM l b = 0 ∧ rpK l b = 0 ∧ rpV l b = [] := by
  unfold rpC rpM rpK rpV
  rw [if_pos h, if_pos h, if_pos h, if_pos h]
  exact ⟨rfl, rfl, rfl, rfl⟩
set_option maxRecDepth 100000 in
theorem rvS_zero (s : List UInt8 × Bool) : rvS 0 s.1 s.2 = s := by cases s; rfl
set_option maxRecDepth 100000 in
theorem rvsT_zero (l : List UInt8) (b : Bool) : rvsT 0 l b = [] := rfl
set_option maxRecDepth 100000 in
theorem rvS_succ (k : Nat) (l : List UInt8) (b : Bool) : rvS (k + 1) l b = (txtV 1024 (rvS k l b).1 (rvS k l b).2).2 := by rw [rvS]
set_option maxRecDepth 100000 in
theorem rvsT_more (k : Nat) (l : List UInt8) (b : Bool) : rvsT (k + 1) l b = rvsT k l b ++ [⟨(txtV 1024 (rvS k l b).1 (rvS k l b).2).1.toArray⟩] := by
  rw [rvsT_succ]
  rfl
set_option maxRecDepth 100000 in
theorem rp2_eq (l : List UInt8) (b : Bool) : inV 0 1024 (rq1 l b).2.1 (rq1 l b).2.2 = rp2 l b := rfl
set_option maxRecDepth 100000 in
theorem rp3_eq (l : List UInt8) (b : Bool) : inV 0 256 (rp2 l b).2.1 (rp2 l b).2.2 = rp3 l b := rfl
set_option maxRecDepth 100000 in
theorem rpF_eq (l : List UInt8) (b : Bool) : rpF l b = rvS (rpN l b) (rp3 l b).2.1 (rp3 l b).2.2 := by unfold rpF; rfl
set_option maxRecDepth 100000 in
theorem tk_left {n : Nat} {l : List UInt8} {b : Bool} (h : (tk n l b).2.2 = true) : (tk n l b).2.1 = [] := by
  unfold tk at h ⊢
  by_cases hc : b = false ∧ n ≤ l.length
  · rw [if_pos hc] at h
    cases h
  · rw [if_neg hc]
set_option maxRecDepth 100000 in
theorem txtV_left {m : Int} {l : List UInt8} {b : Bool} (h : (txtV m l b).2.2 = true) : (txtV m l b).2.1 = [] := by
  unfold txtV at h ⊢
  by_cases hc : (tk 4 l b).2.2 = true ∨ m < (beNat (tk 4 l b).1 : Int)
  · rw [if_pos hc]
  · rw [if_neg hc] at h ⊢
    exact tk_left h
set_option maxRecDepth 100000 in
theorem rvS_left {k : Nat} {l : List UInt8} {b : Bool} (hl : b = true → l = []) (h : (rvS k l b).2 = true) : rvS k l b = ([], true) := by
  cases k with
  | zero =>
    have hb : b = true := h
    subst hb
    rw [hl rfl]
    rfl
  | succ k =>
    have h2 : (txtV 1024 (rvS k l b).1 (rvS k l b).2).2.1 = [] := txtV_left h
    exact Prod.ext h2 h
set_option maxRecDepth 100000 in
theorem rvS_past {k m : Nat} (hkm : k ≤ m) {l : List UInt8} {b : Bool} (h : rvS k l b = ([], true)) : rvS m l b = ([], true) := by
  obtain ⟨j, rfl⟩ : ∃ j, m = k + j := ⟨m - k, by omega⟩
  rw [rvS_add, h]
  exact rvS_bad j

/-! ### Replies in memory -/
abbrev zrepV : Array Value := #[.int .i64 0, .int .i64 0, .int .i64 0, .slice none 0 0]
noncomputable def ldRep (v : Value) : Sem Value := Instr.loadAt 36 v
set_option maxRecDepth 100000 in
theorem ldRep_def (v : Value) : Instr.loadAt 36 v = ldRep v := rfl
noncomputable def stRep (p v : Value) : Sem Unit := Instr.storeAt 36 p v
set_option maxRecDepth 100000 in
theorem stRep_def (p v : Value) : Instr.storeAt 36 p v = stRep p v := rfl
noncomputable def bdRep (parts : Array (Nat × Value)) : Sem Value := Instr.build 36 parts
set_option maxRecDepth 100000 in
theorem bdRep_def (parts : Array (Nat × Value)) : Instr.build 36 parts = bdRep parts := rfl
set_option maxRecDepth 100000 in
theorem rep_size (c n k : Int) (A : Option Addr) (m z : Nat) : (Tryz.prog.info? 36).map (·.size) = some (repV c n k A m z).size := by
  show _ = some 4
  kernel_rfl
set_option maxRecDepth 100000 in
theorem rep_list (c n k : Int) (A : Option Addr) (m z : Nat) : (Tryz.prog.info? 36).map (·.size) = some (repV c n k A m z).toList.length := by
  show _ = some 4
  kernel_rfl
set_option maxRecDepth 100000 in
theorem repc_one (c n k : Int) (A : Option Addr) (m z : Nat) : ∀ v ∈ (repV c n k A m z).toList, v.oneCell' = true := by
  intro v hv
  simp only [List.mem_cons, List.not_mem_nil, or_false] at hv
  rcases hv with rfl | rfl | rfl | rfl <;> rfl
set_option maxRecDepth 100000 in
theorem Box.ld_rep {w : World} {g : Nat} {t : TypeId} {c n k : Int} {A : Option Addr} {m z : Nat} (h : Box w g t (repV c n k A m z)) : (ldRep (.pointer (some ⟨g, 0, none⟩))).run Tryz.prog w = .ok (.agg (repV c n k A m z)) w :=
  run_loadAt_mid (P := Tryz.prog) w g 0 36 (repV c n k A m z).toList _ h.range Tryz.underlying36 rfl (rep_list c n k A m z)
set_option maxRecDepth 100000 in
theorem Box.st_rep {w : World} {g : Nat} {t : TypeId} {cs : Array Value} (h : Box w g t cs) (hs : cs.size = 4) (c n k : Int) (A : Option Addr) (m z : Nat) :
    ∃ w', (stRep (.pointer (some ⟨g, 0, none⟩)) (.agg (repV c n k A m z))).run Tryz.prog w = .ok () w' ∧ Box w' g t (repV c n k A m z) ∧ w.grownBy w' (some g) := by
  refine ⟨w.setCells g 0 (repV c n k A m z).toList, ?_, h.cells_all (repV c n k A m z) (by rw [hs]; rfl), only_cells (g := g) _ 0 _⟩
  exact run_storeAt_mid (P := Tryz.prog) _ g 0 36 (repV c n k A m z) (fun j hj => by
    have hj4 : j < 4 := hj
    rw [h.cell, h.free, Array.getElem?_eq_getElem (by omega)]
    exact ⟨rfl, rfl⟩) (rep_size c n k A m z) (by have := all_oneCell_toArray (repc_one c n k A m z); simpa using this)
set_option maxRecDepth 100000 in
theorem bd_rep0 (w : World) : (bdRep #[]).run Tryz.prog w = .ok (.agg zrepV) w := run_build w _ _ _ (by kernel_rfl)
set_option maxRecDepth 100000 in
theorem ret_rep {fn : Func} {p : Tmp} (hf : fn.results = #[.cell p 36]) {a : Act} {w : World} {g : Nat} (hp : a.tmps.getD p undef = .pointer (some ⟨g, 0, none⟩)) (hdf : a.defers = []) {t : TypeId} {c n k : Int} {A : Option Addr} {m z : Nat} (hb : Box w g t (repV c n k A m z))
    {R : Ending → World → Prop} (hR : R (.returned (.agg (repV c n k A m z))) w) : bodyPost Tryz.prog fn R .ret a w :=
  bodyPost_ret (results_cell_row hf _ w g t _ (0, 0) _ hp hb Tryz.underlying36 rfl (rep_size c n k A m z)) hdf hR

/-! ### One text more -/
set_option maxRecDepth 100000 in
theorem str_info : (Tryz.prog.info? 9).map (fun i => (i.zero, i.size, i.bytes)) = some (some (.string ⟨#[]⟩), 1, 16) := by kernel_rfl
set_option maxRecDepth 100000 in
theorem strs_one (ps : List ByteArray) : ∀ u ∈ ps.map Value.string, u.oneCell' = true := by
  intro u hu
  obtain ⟨s, _, rfl⟩ := List.mem_map.1 hu
  rfl
set_option maxRecDepth 100000 in
theorem push_str {w : World} {base n : Nat} {v : Value} {ps : List ByteArray} (hn : n = ps.length) (hown : w.ownsRow base 9 1 v n (ps.map Value.string)) {b : Nat} {t : TypeId} {x : ByteArray} (hb : Box w b t #[.string x]) (hle : n + 1 ≤ 1099511627776) (hbase : base ≤ w.heap.size) :
    ∃ g cap w', (apAll #[34, 34] 34 #[v, .slice (some ⟨b, 0, none⟩) 1 1]).run Tryz.prog w = .ok (.slice (some ⟨g, 0, none⟩) (n + 1) cap) w' ∧ w'.ownsRow base 9 1 (.slice (some ⟨g, 0, none⟩) (n + 1) cap) (n + 1) ((ps ++ [x]).map Value.string) ∧ w.grownBy w' v.ownBlock ∧ (v.ownBlock = some g ∨ g = w.heap.size) := by
  obtain ⟨i0, hi0, hz0, hz1, hz2⟩ := info_parts str_info
  obtain ⟨g, cap, w', hr, ho, hg, hat, _⟩ := run_append_lies (P := Tryz.prog) w 34 34 base 9 i0 _ 1 16 Tryz.underlying34 hi0 hz0 hz1 hz2 rfl (by omega) v n _ hown ⟨b, 0, none⟩ 1 1 [.string x] rfl (fun j u hu => by rw [plain_add, Nat.zero_add, hb.cell, List.getElem?_toArray]; exact hu) (by simp [Value.oneCell']) (by omega) (by unfold maxLen; omega) (by omega) hbase w.heap.size rfl
  refine ⟨g, cap, w', hr, ?_, hg, hat⟩
  rw [List.map_append]
  simpa using ho

/-- What the walks of ReadReply carry of memory. -/
structure VW (R : World → Nat → List UInt8 → Bool → Prop) (w0 : World) (a r b : Nat) (c n k : Int) (v : Value) (L : List ByteArray) (s : List UInt8 × Bool) (w : World) : Prop where
  out : Box w r 36 zrepV
  box : Box w b 36 #[.int .i64 c, .int .i64 n, .int .i64 k, v]
  rd : R w a s.1 s.2
  own : w.ownsRow w0.heap.size 9 1 v L.length (L.map Value.string)
  far : w0.grownBy w (some a)
  ha : a < w0.heap.size
  hr : w0.heap.size ≤ r
  hb : w0.heap.size ≤ b
  ne : r ≠ b
section
variable {R : World → Nat → List UInt8 → Bool → Prop} {w0 w w' : World} {a r b : Nat} {c n k : Int} {v : Value} {L : List ByteArray} {s s' : List UInt8 × Bool}
set_option maxRecDepth 100000 in
theorem VW.of (h : QW R 36 zrepV w0 a r b #[.int .i64 c, .int .i64 n, .int .i64 k, .slice none 0 0] s w) : VW R w0 a r b c n k (.slice none 0 0) [] s w :=
  ⟨h.out, h.box, h.rd, World.ownsRow_nil _ _ _ _, h.far, h.ha, h.hr, h.hb, h.ne⟩
set_option maxRecDepth 100000 in
theorem VW.turn (h : VW R w0 a r b c n k v L s w) (hg : w.grownBy w' (some a)) (hr : R w' a s'.1 s'.2) : VW R w0 a r b c n k v L s' w' :=
  ⟨h.out.grown hg (by have := h.ha; have := h.hr; intro e; cases e; omega), h.box.grown hg (by have := h.ha; have := h.hb; intro e; cases e; omega), hr,
    World.ownsRow.kept h.own hg (.inr (fun e => by have := (h.own.lt a e).1; have := h.ha; omega)), only_trans h.far hg, h.ha, h.hr, h.hb, h.ne⟩
set_option maxRecDepth 100000 in
theorem VW.call (h : VW R w0 a r b c n k v L s w) (hR : ∀ {w w' : World} {a : Nat} {l : List UInt8} {b : Bool}, R w a l b → Below w.heap.size w w' → R w' a l b) (hb : Below w.heap.size w w') : VW R w0 a r b c n k v L s w' :=
  ⟨h.out.below hb h.out.lt, h.box.below hb h.box.lt, hR h.rd hb, World.ownsRow.kept h.own (only_below hb none) (by cases v.ownBlock <;> simp), only_trans h.far (only_below hb (some a)), h.ha, h.hr, h.hb, h.ne⟩
set_option maxRecDepth 100000 in
theorem VW.push {q : Nat} {t : TypeId} {x : ByteArray} (h : VW R w0 a r b c n k v L s w) (hR : ∀ {w w' : World} {a g : Nat} {l : List UInt8} {b : Bool}, R w a l b → w.grownBy w' (some g) → a < g → R w' a l b) (hR2 : ∀ {w w' : World} {a : Nat} {l : List UInt8} {b : Bool}, R w a l b → w.grownBy w' none → R w' a l b)
    (hq : Box w q t #[.string x]) (hl : L.length ≤ 1000) :
    ∃ g cap w', (apAll #[34, 34] 34 #[v, .slice (some ⟨q, 0, none⟩) 1 1]).run Tryz.prog w = .ok (.slice (some ⟨g, 0, none⟩) (L.length + 1) cap) w' ∧ w'.cell? ⟨b, 3, none⟩ = some v ∧ w'.frozen? ⟨b, 3, none⟩ = false ∧
      VW R w0 a r b c n k (.slice (some ⟨g, 0, none⟩) (L.length + 1) cap) (L ++ [x]) s (w'.setCell ⟨b, 3, none⟩ (.slice (some ⟨g, 0, none⟩) (L.length + 1) cap)) := by
  obtain ⟨g, cap, w', hr, ho, hg, hat⟩ := push_str rfl h.own hq (by omega) h.far.size
  have hout : Box w' r 36 zrepV := h.out.grown hg (fun e => (Box.own_ne h.out h.own (by decide)) e.symm)
  have hbx : Box w' b 36 #[.int .i64 c, .int .i64 n, .int .i64 k, v] := h.box.grown hg (fun e => (Box.own_ne h.box h.own (by decide)) e.symm)
  have hrd : R w' a s.1 s.2 := by
    cases e : v.ownBlock with
    | none => rw [e] at hg; exact hR2 h.rd hg
    | some q2 =>
      have h1 := (h.own.lt q2 e).1
      have h2 := h.ha
      rw [e] at hg
      exact hR h.rd hg (by omega)
  have hfar : w0.grownBy w' (some a) := by
    have hbel := below_own h.own hg h.far.size
    exact ⟨hbel.os.trans h.far.os, hbel.tape.trans h.far.tape, hbel.output.trans h.far.output, Nat.le_trans h.far.size hbel.size, fun i hi hn => (hbel.block i hi).trans (h.far.block i hi hn)⟩
  have hp : w'.grownBy (w'.setCell ⟨b, 3, none⟩ (.slice (some ⟨g, 0, none⟩) (L.length + 1) cap)) (some b) := only_put (only_refl _ _) 3 _
  have hb := h.hb
  have ha := h.ha
  have ho' : w'.ownsRow w0.heap.size 9 1 (.slice (some ⟨g, 0, none⟩) (L.length + 1) cap) (L ++ [x]).length ((L ++ [x]).map Value.string) := by
    rw [List.length_append]
    exact ho
  exact ⟨g, cap, w', hr, hbx.cell 3, hbx.free 3, hout.grown hp (fun e => by injection e with e; exact h.ne e), hbx.put 3 _, hR hrd hp (by omega),
    World.ownsRow.kept ho' hp (.inr (Box.own_ne hbx ho' (by decide))), only_new hfar hp hb, ha, h.hr, hb, h.ne⟩
end

/-- The row lies behind block B. -/
def Fresh9 (B : Nat) (A : Option Addr) (xs : List Value) : Prop := xs = [] ∨ ∃ g, A = some ⟨g, 0, none⟩ ∧ B ≤ g
set_option maxRecDepth 100000 in
theorem fresh_own {w : World} {base n c : Nat} {e : TypeId} {A : Option Addr} {xs : List Value} (h : w.ownsRow base e 1 (.slice A n c) n xs) : Fresh9 base A xs := by
  rcases Nat.eq_zero_or_pos n with hn | hn
  · subst hn
    exact .inl (List.eq_nil_of_length_eq_zero (by simpa using h.1))
  · obtain ⟨g, cap, hv, hge, hlt⟩ := h.form hn
    have hA : A = some ⟨g, 0, none⟩ := by injection hv
    exact .inr ⟨g, hA, hge⟩

/-- What ReadReply answers, and leaves. -/
def RepIs (R : World → Nat → List UInt8 → Bool → Prop) (a : Nat) (l : List UInt8) (b : Bool) (w : World) (e : Ending) (w' : World) : Prop :=
  ∃ A z, e = .returned (.agg (repV (rpC l b) (rpM l b) (rpK l b) A (rpV l b).length z)) ∧ Sees w' w'.heap.size A ((rpV l b).map Value.string) ∧ R w' a (rpF l b).1 (rpF l b).2 ∧ w.grownBy w' (some a) ∧ Fresh9 w.heap.size A ((rpV l b).map Value.string)
set_option maxRecDepth 100000 in
theorem sees_other {w w' : World} {g : Nat} {t : TypeId} {cs : Array Value} {A : Option Addr} {xs : List ByteArray} (hb : Box w g t cs) (hn : ∀ (j : Nat) (s : ByteArray), cs[j]? ≠ some (.string s)) (hs : Sees w w.heap.size A (xs.map Value.string)) (hg : w.grownBy w' (some g)) : Sees w' w'.heap.size A (xs.map Value.string) := by
  rcases hs with h | ⟨p, o, e, hp, hc⟩
  · exact .inl h
  · by_cases hx : xs = []
    · exact .inl (by rw [hx]; rfl)
    refine .inr ⟨p, o, e, Nat.lt_of_lt_of_le hp hg.size, fun j u hu => ?_⟩
    have hne : p ≠ g := by
      intro e2
      subst e2
      obtain ⟨x, xs', rfl⟩ : ∃ x r, xs = x :: r := by cases xs with
        | nil => exact absurd rfl hx
        | cons x r => exact ⟨x, r, rfl⟩
      have h0 := hc 0 (.string x) rfl
      rw [hb.cell] at h0
      exact hn _ _ h0
    rw [World.cell?_of_block (hg.block p hp (fun e => hne (by injection e)))]
    exact hc j u hu
set_option maxRecDepth 100000 in
theorem zrep_nostr : ∀ (j : Nat) (s : ByteArray), zrepV[j]? ≠ some (.string s) := by
  intro j s h
  match j with
  | 0 => cases h
  | 1 => cases h
  | 2 => cases h
  | 3 => cases h
  | j + 4 => simp at h
attribute [local go_sem ↓] ldRep_def stRep_def bdRep_def apAll_def
end Go.Proofs.YtbgbidgggjkmmaaGreatDoor
