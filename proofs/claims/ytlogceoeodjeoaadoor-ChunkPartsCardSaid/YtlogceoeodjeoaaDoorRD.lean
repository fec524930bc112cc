/-
  Replies read: request.ReadReply.
  What the laws ask first: wapentakelaw09.put, wapentakelaw09.alive.
  Requests read, by the document: wapentakeref09.Read.
  Replies read, by the document: wapentakeref09.ReadReply.
-/
import Derived.Test.YtlogceoeodjeoaaDoorRB
import Derived.Test.YtlogceoeodjeoaaDoorSA
import Derived.Deep.AppendLies
import Derived.Deep.RegionHeld3
import Derived.Test.YtlogceoeodjeoaaDoorRr
namespace Go.Proofs.YtlogceoeodjeoaaDoor
open Go.RowKit

/-! ### What a reply is read as -/
def rpC (l : List UInt8) (b : Bool) : Int := if (rpF l b).2 = true then 0 else (rq0 l b).1
def rpM (l : List UInt8) (b : Bool) : Int := if (rpF l b).2 = true then 0 else (rq1 l b).1
def rpK (l : List UInt8) (b : Bool) : Int := if (rpF l b).2 = true then 0 else (rp2 l b).1
def rpV (l : List UInt8) (b : Bool) : List ByteArray := if (rpF l b).2 = true then [] else rvsT (rpN l b) (rp3 l b).2.1 (rp3 l b).2.2
set_option maxRecDepth 100000 in
theorem rpV_len (l : List UInt8) (b : Bool) : (rpV l b).length ≤ 256 := by
  unfold rpV
  by_cases h : (rpF l b).2 = true
  · rw [if_pos h]; simp
  · rw [if_neg h, rvsT_len]
    exact (rp3_in l b).2
set_option maxRecDepth 100000 in
theorem rp_good {l : List UInt8} {b : Bool} (h : (rpF l b).2 = false) : rpC l b = (rq0 l b).1 ∧ rpM l b = (rq1 l b).1 ∧ rpK l b = (rp2 l b).1 ∧ rpV l b = rvsT (rpN l b) (rp3 l b).2.1 (rp3 l b).2.2 := by
  have hn : ¬ ((rpF l b).2 = true) := by rw [h]; simp
  unfold rpC rpM rpK rpV
  rw [if_neg hn, if_neg hn, if_neg hn, if_neg hn]
  exact ⟨rfl, rfl, rfl, rfl⟩
set_option maxRecDepth 100000 in
theorem rp_bad {l : List UInt8} {b : Bool} (h : (rpF l b).2 = true) : rpC l b = 0 ∧ rpM l b = 0 ∧ rpK l b = 0 ∧ rpV l b = [] := by
  unfold rpC rpM rpK rpV
  rw [if_pos h, if_pos h, if_pos h, if_pos h]
  exact ⟨rfl, rfl, rfl, rfl⟩
set_option maxRecDepth 100000 in
theorem rvS_zero (s : List UInt8 × Bool) : rvS 0 s.1 s.2 = s := by cases s; rfl
set_option maxRecDepth 100000 in
theorem rvsT_zero (l : List UInt8) (b : Bool) : rvsT 0 l b = [] := rfl
set_option maxRecDepth 100000 in
theorem rvS_succ (k : Nat) (l : List UInt8) (b : Bool) : rvS (k + 1) l b = (txtV 1024 (rvS k l b).1 (rvS k l b).2).2 := by rw [rvS]
set_option maxRecDepth 100000 in
theorem rvsT_more (k : Nat) (l : List UInt8) (b : Bool) : rvsT (k + 1) l b = rvsT k l b ++ [⟨(txtV 1024 (rvS k l b).1 (rvS k l b).2).1.toArray⟩] := by
  rw [rvsT_succ]
  rfl
set_option maxRecDepth 100000 in
theorem rp2_eq (l : List UInt8) (b : Bool) : inV 0 1024 (rq1 l b).2.1 (rq1 l b).2.2 = rp2 l b := rfl
set_option maxRecDepth 100000 in
theorem rp3_eq (l : List UInt8) (b : Bool) : inV 0 256 (rp2 l b).2.1 (rp2 l b).2.2 = rp3 l b := rfl
set_option maxRecDepth 100000 in
theorem rpF_eq (l : List UInt8) (b : Bool) : rpF l b = rvS (rpN l b) (rp3 l b).2.1 (rp3 l b).2.2 := by unfold rpF; rfl
set_option maxRecDepth 100000 in
theorem tk_left {n : Nat} {l : List UInt8} {b : Bool} (h : (tk n l b).2.2 = true) : (tk n l b).2.1 = [] := by
  unfold tk at h ⊢
  by_cases hc : b = false ∧ n ≤ l.length
  · rw [if_pos hc] at h
    cases h
  · rw [if_neg hc]
set_option maxRecDepth 100000 in
theorem txtV_left {m : Int} {l : List UInt8} {b : Bool} (h : (txtV m l b).2.2 = true) : (txtV m l b).2.1 = [] := by
  unfold txtV at h ⊢
  by_cases hc : (tk 4 l b).2.2 = true ∨ m < (beNat (tk 4 l b).1 : Int)
  · rw [if_pos hc]
  · rw [if_neg hc] at h ⊢
    exact tk_left h
set_option maxRecDepth 100000 in
theorem rvS_left {k : Nat} {l : List UInt8} {b : Bool} (hl : b = true → l = []) (h : (rvS k l b).2 = true) : rvS k l b = ([], true) := by
  cases k with
  | zero =>
    have hb : b = true := h
    subst hb
    rw [hl rfl]
    rfl
  | succ k =>
    have h2 : (txtV 1024 (rvS k l b).1 (rvS k l b).2).2.1 = [] := txtV_left h
    exact Prod.ext h2 h
set_option maxRecDepth 100000 in
theorem rvS_past {k m : Nat} (hkm : k ≤ m) {l : List UInt8} {b : Bool} (h : rvS k l b = ([], true)) : rvS m l b = ([], true) := by
  obtain ⟨j, rfl⟩ : ∃ j, m = k + j := ⟨m - k, by omega⟩
  rw [rvS_add, h]
  exact rvS_bad j

/-! ### Replies in memory -/
abbrev zrepV : Array Value := #[.int .i64 0, .int .i64 0, .int .i64 0, .slice none 0 0]
noncomputable def ldRep (v : Value) : Sem Value := Instr.loadAt 67 v
set_option maxRecDepth 100000 in
theorem ldRep_def (v : Value) : Instr.loadAt 67 v = ldRep v := rfl
noncomputable def stRep (p v : Value) : Sem Unit := Instr.storeAt 67 p v
set_option maxRecDepth 100000 in
theorem stRep_def (p v : Value) : Instr.storeAt 67 p v = stRep p v := rfl
noncomputable def bdRep (parts : Array (Nat × Value)) : Sem Value := Instr.build 67 parts
set_option maxRecDepth 100000 in
theorem bdRep_def (parts : Array (Nat × Value)) : Instr.build 67 parts = bdRep parts := rfl
set_option maxRecDepth 100000 in
theorem rep_size (c n k : Int) (A : Option Addr) (m z : Nat) : (Tryd.prog.info? 67).map (·.size) = some (repV c n k A m z).size := by
  show _ = some 4
  kernel_rfl
set_option maxRecDepth 100000 in
theorem rep_list (c n k : Int) (A : Option Addr) (m z : Nat) : (Tryd.prog.info? 67).map (·.size) = some (repV c n k A m z).toList.length := by
  show _ = some 4
  kernel_rfl
set_option maxRecDepth 100000 in
theorem repc_one (c n k : Int) (A : Option Addr) (m z : Nat) : ∀ v ∈ (repV c n k A m z).toList, v.oneCell' = true := by
  intro v hv
  simp only [List.mem_cons, List.not_mem_nil, or_false] at hv
  rcases hv with rfl | rfl | rfl | rfl <;> rfl
set_option maxRecDepth 100000 in
theorem Box.ld_rep {w : World} {g : Nat} {t : TypeId} {c n k : Int} {A : Option Addr} {m z : Nat} (h : Box w g t (repV c n k A m z)) : (ldRep (.pointer (some ⟨g, 0, none⟩))).run Tryd.prog w = .ok (.agg (repV c n k A m z)) w :=
  run_loadAt_mid (P := Tryd.prog) w g 0 67 (repV c n k A m z).toList _ h.range Tryd.underlying67 rfl (rep_list c n k A m z)
set_option maxRecDepth 100000 in
theorem Box.st_rep {w : World} {g : Nat} {t : TypeId} {cs : Array Value} (h : Box w g t cs) (hs : cs.size = 4) (c n k : Int) (A : Option Addr) (m z : Nat) :
    ∃ w', (stRep (.pointer (some ⟨g, 0, none⟩)) (.agg (repV c n k A m z))).run Tryd.prog w = .ok () w' ∧ Box w' g t (repV c n k A m z) ∧ w.grownBy w' (some g) := by
  refine ⟨w.setCells g 0 (repV c n k A m z).toList, ?_, h.cells_all (repV c n k A m z) (by rw [hs]; rfl), only_cells (g := g) _ 0 _⟩
  exact run_storeAt_mid (P := Tryd.prog) _ g 0 67 (repV c n k A m z) (fun j hj => by
    have hj4 : j < 4 := hj
    rw [h.cell, h.free, Array.getElem?_eq_getElem (by omega)]
    exact ⟨rfl, rfl⟩) (rep_size c n k A m z) (by have := all_oneCell_toArray (repc_one c n k A m z); simpa using this)
set_option maxRecDepth 100000 in
theorem bd_rep0 (w : World) : (bdRep #[]).run Tryd.prog w = .ok (.agg zrepV) w := run_build w _ _ _ (by kernel_rfl)
set_option maxRecDepth 100000 in
theorem ret_rep {fn : Func} {p : Tmp} (hf : fn.results = #[.cell p 67]) {a : Act} {w : World} {g : Nat} (hp : a.tmps.getD p undef = .pointer (some ⟨g, 0, none⟩)) (hdf : a.defers = []) {t : TypeId} {c n k : Int} {A : Option Addr} {m z : Nat} (hb : Box w g t (repV c n k A m z))
    {R : Ending → World → Prop} (hR : R (.returned (.agg (repV c n k A m z))) w) : bodyPost Tryd.prog fn R .ret a w :=
  bodyPost_ret (results_cell_row hf _ w g t _ (0, 0) _ hp hb Tryd.underlying67 rfl (rep_size c n k A m z)) hdf hR

/-! ### One text more -/
set_option maxRecDepth 100000 in
theorem str_info : (Tryd.prog.info? 9).map (fun i => (i.zero, i.size, i.bytes)) = some (some (.string ⟨#[]⟩), 1, 16) := by kernel_rfl
set_option maxRecDepth 100000 in
theorem strs_one (ps : List ByteArray) : ∀ u ∈ ps.map Value.string, u.oneCell' = true := by
  intro u hu
  obtain ⟨s, _, rfl⟩ := List.mem_map.1 hu
  rfl
set_option maxRecDepth 100000 in
theorem push_str {w : World} {base n : Nat} {v : Value} {ps : List ByteArray} (hn : n = ps.length) (hown : w.ownsRow base 9 1 v n (ps.map Value.string)) {b : Nat} {t : TypeId} {x : ByteArray} (hb : Box w b t #[.string x]) (hle : n + 1 ≤ 1099511627776) (hbase : base ≤ w.heap.size) :
    ∃ g cap w', (apAll #[65, 65] 65 #[v, .slice (some ⟨b, 0, none⟩) 1 1]).run Tryd.prog w = .ok (.slice (some ⟨g, 0, none⟩) (n + 1) cap) w' ∧ w'.ownsRow base 9 1 (.slice (some ⟨g, 0, none⟩) (n + 1) cap) (n + 1) ((ps ++ [x]).map Value.string) ∧ w.grownBy w' v.ownBlock ∧ (v.ownBlock = some g ∨ g = w.heap.size) := by
  obtain ⟨i0, hi0, hz0, hz1, hz2⟩ := info_parts str_info
  obtain ⟨g, cap, w', hr, ho, hg, hat, _⟩ := run_append_lies (P := Tryd.prog) w 65 65 base 9 i0 _ 1 16 Tryd.underlying65 hi0 hz0 hz1 hz2 rfl (by omega) v n _ hown ⟨b, 0, none⟩ 1 1 [.string x] rfl (fun j u hu => by rw [plain_add, Nat.zero_add, hb.cell, List.getElem?_toArray]; exact hu) (by simp [Value.oneCell']) (by omega) (by unfold maxLen; omega) (by omega) hbase w.heap.size rfl
  refine ⟨g, cap, w', hr, ?_, hg, hat⟩
  rw [List.map_append]
  simpa using ho

/-- What the walks of ReadReply carry of memory. -/
structure VW (R : World → Nat → List UInt8 → Bool → Prop) (w0 : World) (a r b : Nat) (c n k : Int) (v : Value) (L : List ByteArray) (s : List UInt8 × Bool) (w : World) : Prop where
  out : Box w r 67 zrepV
  box : Box w b 67 #[.int .i64 c, .int .i64 n, .int .i64 k, v]
  rd : R w a s.1 s.2
  own : w.ownsRow w0.heap.size 9 1 v L.length (L.map Value.string)
  far : w0.grownBy w (some a)
  ha : a < w0.heap.size
  hr : w0.heap.size ≤ r
  hb : w0.heap.size ≤ b
  ne : r ≠ b
section
variable {R : World → Nat → List UInt8 → Bool → Prop} {w0 w w' : World} {a r b : Nat} {c n k : Int} {v : Value} {L : List ByteArray} {s s' : List UInt8 × Bool}
set_option maxRecDepth 100000 in
theorem VW.of (h : QW R 67 zrepV w0 a r b #[.int .i64 c, .int .i64 n, .int .i64 k, .slice none 0 0] s w) : VW R w0 a r b c n k (.slice none 0 0) [] s w :=
  ⟨h.out, h.box, h.rd, World.ownsRow_nil _ _ _ _, h.far, h.ha, h.hr, h.hb, h.ne⟩
set_option maxRecDepth 100000 in
theorem VW.turn (h : VW R w0 a r b c n k v L s w) (hg : w.grownBy w' (some a)) (hr : R w' a s'.1 s'.2) : VW R w0 a r b c n k v L s' w' :=
  ⟨h.out.grown hg (by have := h.ha; have := h.hr; intro e; cases e; omega), h.box.grown hg (by have := h.ha; have := h.hb; intro e; cases e; omega), hr,
    World.ownsRow.kept h.own hg (.inr (fun e => by have := (h.own.lt a e).1; have := h.ha; omega)), only_trans h.far hg, h.ha, h.hr, h.hb, h.ne⟩
set_option maxRecDepth 100000 in
theorem VW.call (h : VW R w0 a r b c n k v L s w) (hR : ∀ {w w' : World} {a : Nat} {l : List UInt8} {b : Bool}, R w a l b → Below w.heap.size w w' → R w' a l b) (hb : Below w.heap.size w w') : VW R w0 a r b c n k v L s w' :=
  ⟨h.out.below hb h.out.lt, h.box.below hb h.box.lt, hR h.rd hb, World.ownsRow.kept h.own (only_below hb none) (by cases v.ownBlock <;> simp), only_trans h.far (only_below hb (some a)), h.ha, h.hr, h.hb, h.ne⟩
set_option maxRecDepth 100000 in
theorem VW.push {q : Nat} {t : TypeId} {x : ByteArray} (h : VW R w0 a r b c n k v L s w) (hR : ∀ {w w' : World} {a g : Nat} {l : List UInt8} {b : Bool}, R w a l b → w.grownBy w' (some g) → a < g → R w' a l b) (hR2 : ∀ {w w' : World} {a : Nat} {l : List UInt8} {b : Bool}, R w a l b → w.grownBy w' none → R w' a l b)
    (hq : Box w q t #[.string x]) (hl : L.length ≤ 1000) :
    ∃ g cap w', (apAll #[65, 65] 65 #[v, .slice (some ⟨q, 0, none⟩) 1 1]).run Tryd.prog w = .ok (.slice (some ⟨g, 0, none⟩) (L.length + 1) cap) w' ∧ w'.cell? ⟨b, 3, none⟩ = some v ∧ w'.frozen? ⟨b, 3, none⟩ = false ∧
      VW R w0 a r b c n k (.slice (some ⟨g, 0, none⟩) (L.length + 1) cap) (L ++ [x]) s (w'.setCell ⟨b, 3, none⟩ (.slice (some ⟨g, 0, none⟩) (L.length + 1) cap)) := by
  obtain ⟨g, cap, w', hr, ho, hg, hat⟩ := push_str rfl h.own hq (by omega) h.far.size
  have hout : Box w' r 67 zrepV := h.out.grown hg (fun e => (Box.own_ne h.out h.own (by decide)) e.symm)
  have hbx : Box w' b 67 #[.int .i64 c, .int .i64 n, .int .i64 k, v] := h.box.grown hg (fun e => (Box.own_ne h.box h.own (by decide)) e.symm)
  have hrd : R w' a s.1 s.2 := by
    cases e : v.ownBlock with
    | none => rw [e] at hg; exact hR2 h.rd hg
    | some q2 =>
      have h1 := (h.own.lt q2 e).1
      have h2 := h.ha
      rw [e] at hg
      exact hR h.rd hg (by omega)
  have hfar : w0.grownBy w' (some a) := by
    have hbel := below_own h.own hg h.far.size
    exact ⟨hbel.os.trans h.far.os, hbel.tape.trans h.far.tape, hbel.output.trans h.far.output, Nat.le_trans h.far.size hbel.size, fun i hi hn => (hbel.block i hi).trans (h.far.block i hi hn)⟩
  have hp : w'.grownBy (w'.setCell ⟨b, 3, none⟩ (.slice (some ⟨g, 0, none⟩) (L.length + 1) cap)) (some b) := only_put (only_refl _ _) 3 _
  have hb := h.hb
  have ha := h.ha
  have ho' : w'.ownsRow w0.heap.size 9 1 (.slice (some ⟨g, 0, none⟩) (L.length + 1) cap) (L ++ [x]).length ((L ++ [x]).map Value.string) := by
    rw [List.length_append]
    exact ho
  exact ⟨g, cap, w', hr, hbx.cell 3, hbx.free 3, hout.grown hp (fun e => by injection e with e; exact h.ne e), hbx.put 3 _, hR hrd hp (by omega),
    World.ownsRow.kept ho' hp (.inr (Box.own_ne hbx ho' (by decide))), only_new hfar hp hb, ha, h.hr, hb, h.ne⟩
end

/-- The row lies behind block B. -/
def Fresh9 (B : Nat) (A : Option Addr) (xs : List Value) : Prop := xs = [] ∨ ∃ g, A = some ⟨g, 0, none⟩ ∧ B ≤ g
set_option maxRecDepth 100000 in
theorem fresh_own {w : World} {base n c : Nat} {e : TypeId} {A : Option Addr} {xs : List Value} (h : w.ownsRow base e 1 (.slice A n c) n xs) : Fresh9 base A xs := by
  rcases Nat.eq_zero_or_pos n with hn | hn
  · subst hn
    exact .inl (List.eq_nil_of_length_eq_zero (by simpa using h.1))
  · obtain ⟨g, cap, hv, hge, hlt⟩ := h.form hn
    have hA : A = some ⟨g, 0, none⟩ := by injection hv
    exact .inr ⟨g, hA, hge⟩

/-- What ReadReply answers, and leaves. -/
def RepIs (R : World → Nat → List UInt8 → Bool → Prop) (a : Nat) (l : List UInt8) (b : Bool) (w : World) (e : Ending) (w' : World) : Prop :=
  ∃ A z, e = .returned (.agg (repV (rpC l b) (rpM l b) (rpK l b) A (rpV l b).length z)) ∧ Sees w' w'.heap.size A ((rpV l b).map Value.string) ∧ R w' a (rpF l b).1 (rpF l b).2 ∧ w.grownBy w' (some a) ∧ Fresh9 w.heap.size A ((rpV l b).map Value.string)
set_option maxRecDepth 100000 in
theorem sees_other {w w' : World} {g : Nat} {t : TypeId} {cs : Array Value} {A : Option Addr} {xs : List ByteArray} (hb : Box w g t cs) (hn : ∀ (j : Nat) (s : ByteArray), cs[j]? ≠ some (.string s)) (hs : Sees w w.heap.size A (xs.map Value.string)) (hg : w.grownBy w' (some g)) : Sees w' w'.heap.size A (xs.map Value.string) := by
  rcases hs with h | ⟨p, o, e, hp, hc⟩
  · exact .inl h
  · by_cases hx : xs = []
    · exact .inl (by rw [hx]; rfl)
    refine .inr ⟨p, o, e, Nat.lt_of_lt_of_le hp hg.size, fun j u hu => ?_⟩
    have hne : p ≠ g := by
      intro e2
      subst e2
      obtain ⟨x, xs', rfl⟩ : ∃ x r, xs = x :: r := by cases xs with
        | nil => exact absurd rfl hx
        | cons x r => exact ⟨x, r, rfl⟩
      have h0 := hc 0 (.string x) rfl
      rw [hb.cell] at h0
      exact hn _ _ h0
    rw [World.cell?_of_block (hg.block p hp (fun e => hne (by injection e)))]
    exact hc j u hu
set_option maxRecDepth 100000 in
theorem zrep_nostr : ∀ (j : Nat) (s : ByteArray), zrepV[j]? ≠ some (.string s) := by
  intro j s h
  match j with
  | 0 => cases h
  | 1 => cases h
  | 2 => cases h
  | 3 => cases h
  | j + 4 => simp at h
set_option maxRecDepth 100000 in
theorem rd_below {w w' : World} {a : Nat} {l : List UInt8} {b : Bool} (h : Rd w a l b) (hb : Below w.heap.size w w') : Rd w' a l b := h.below hb h.lt
set_option maxRecDepth 100000 in
theorem rd_none {w w' : World} {a : Nat} {l : List UInt8} {b : Bool} (h : Rd w a l b) (hg : w.grownBy w' none) : Rd w' a l b := h.below ⟨hg.os, hg.tape, hg.output, hg.size, fun i hi => hg.block i hi (by simp)⟩ h.lt

attribute [local go_sem ↓] ldRep_def stRep_def bdRep_def apAll_def
set_option maxRecDepth 100000 in
set_option maxHeartbeats 4000000 in
theorem readrep_any (a : Nat) (l : List UInt8) (b : Bool) (w : World) (h : Rd w a l b) :
    Calls Tryd.prog 51 #[.pointer (some ⟨a, 0, none⟩)] w (RepIs Rd a l b w) := by
  have HW1 : Hid (QW Rd 67 zrepV w a w.heap.size (w.heap.size + 1) zrepV (l, b) ((w.alloc (.cells zrepV 67)).alloc (.cells zrepV 67))) :=
    ⟨(Box.made _ _ _).alloc _, Box.made_at (by simp) _ _, (h.alloc _).alloc _, only_trans (World.grownBy_alloc w _ _) (World.grownBy_alloc _ _ _), h.lt, Nat.le_refl _, by omega, by omega⟩
  have HIN : Hid (∀ w' cs (lo hi : Int) (s : List UInt8 × Bool) (r : Int × List UInt8 × Bool), inV lo hi s.1 s.2 = r → QW Rd 67 zrepV w a w.heap.size (w.heap.size + 1) cs s w' → Calls Tryd.prog 49 #[.pointer (some ⟨a, 0, none⟩), .int .i64 lo, .int .i64 hi] w' fun e w'' => e = .returned (.int .i64 r.1) ∧ QW Rd 67 zrepV w a w.heap.size (w.heap.size + 1) cs r.2 w'') :=
    Lib.hid (fun w' cs lo hi s r hr hw => by subst hr; exact (in_any a lo hi s.1 s.2 w' hw.rd).mono fun e w'' ⟨he, hr, hg⟩ => ⟨he, hw.turn hg hr⟩)
  have HTX : Hid (∀ w' c n k v L (s : List UInt8 × Bool) (r : List UInt8 × List UInt8 × Bool), txtV 1024 s.1 s.2 = r → VW Rd w a w.heap.size (w.heap.size + 1) c n k v L s w' → Calls Tryd.prog 50 #[.pointer (some ⟨a, 0, none⟩), .int .i64 1024] w' fun e w'' => e = .returned (.string ⟨r.1.toArray⟩) ∧ VW Rd w a w.heap.size (w.heap.size + 1) c n k v L r.2 w'') :=
    Lib.hid (fun w' c n k v L s r hr hw => by subst hr; exact (rdtext_any a 1024 s.1 s.2 w' hw.rd).mono fun e w'' ⟨he, hr, hg⟩ => ⟨he, hw.turn hg hr⟩)
  have HGD : Hid (∀ w' c n k v L (s : List UInt8 × Bool), VW Rd w a w.heap.size (w.heap.size + 1) c n k v L s w' → Calls Tryd.prog 76 #[.pointer (some ⟨a, 0, none⟩)] w' fun e w'' => e = .returned (.bool !s.2) ∧ w' = w'') := Lib.hid (fun w' c n k v L s hw => good_any a s.1 s.2 w' hw.rd)
  have HWH : Hid (∀ w' cs, QW Rd 67 zrepV w a w.heap.size (w.heap.size + 1) cs (l, b) w' → Calls Tryd.prog 81 #[.pointer (some ⟨a, 0, none⟩)] w' fun e w'' => e = .returned (.tuple #[.int .i64 (rq0 l b).1, .int .i64 (rq1 l b).1]) ∧ QW Rd 67 zrepV w a w.heap.size (w.heap.size + 1) cs (rq1 l b).2 w'') := Lib.hid (fun w' cs hw => (whose_any a l b w' hw.rd).mono fun e w'' ⟨he, hr, hg⟩ => ⟨he, hw.turn hg hr⟩)
  have hg := rp_good (l := l) (b := b)
  have hx := rp_bad (l := l) (b := b)
  have hF := rpF_eq l b
  have hN := rp3_in l b
  have hP := inV_left 0 256 (rp2 l b).2.1 (rp2 l b).2.2
  have e0 := rq0_eq l b
  have e1 := rq1_eq l b
  have e2 := rp2_eq l b
  have e3 := rp3_eq l b
  rw [e3] at hP
  unfold RepIs
  generalize rpC l b = C at *
  generalize rpM l b = M at *
  generalize rpK l b = K at *
  generalize rpV l b = V at *
  generalize rq0 l b = r0 at *
  generalize rq1 l b = r1 at *
  generalize rp2 l b = r2 at *
  generalize rp3 l b = r3 at *
  generalize rpN l b = N at *
  generalize rpF l b = F at *
  obtain ⟨hN1, hN2⟩ := hN
  have HG := Lib.hid hg
  have HX := Lib.hid hx
  have HF := Lib.hid hF
  have HN2 := Lib.hid hN2
  have HN1 := Lib.hid hN1
  have HP := Lib.hid hP
  have E0 := Lib.hid e0
  have E1 := Lib.hid e1
  have E2 := Lib.hid e2
  have E3 := Lib.hid e3
  clear hg hx hF hN1 hN2 hP e0 e1 e2 e3 h
  go_enter Tryd.func51, Tryd.ntmps51
  go_upto_region 2 with fail
  change Code.wp _ _ _ _ ((w.alloc (.cells zrepV 67)).alloc (.cells zrepV 67))
  generalize (w.alloc (.cells zrepV 67)).alloc (.cells zrepV 67) = w1 at *
  have HC := Lib.hid (HWH.out w1 _ HW1.out)
  go_upto_region 3 with (go_at_call 81; (with_reducible refine (HC.out).mono ?_); rintro e w2 ⟨rfl, hw⟩; have m0 : w2.cell? ⟨w.heap.size + 1, 0, none⟩ = some (.int .i64 0) := hw.box.cell 0; have f0 := hw.box.free 0; have m1 : w2.cell? ⟨w.heap.size + 1, 1, none⟩ = some (.int .i64 0) := hw.box.cell 1; have f1 := hw.box.free 1; have HW2 := Lib.hid hw; clear hw)
  have HW3 : Hid (QW Rd 67 zrepV w a w.heap.size (w.heap.size + 1) #[.int .i64 r0.1, .int .i64 r1.1, .int .i64 0, .slice none 0 0] r1.2 ((w2.setCell ⟨w.heap.size + 1, 0, none⟩ (.int .i64 r0.1)).setCell ⟨w.heap.size + 1, 1, none⟩ (.int .i64 r1.1))) := Lib.hid (HW2.out.put rd_put (Box.put (Box.put HW2.out.box 0 _) 1 _) (only_put (only_put (only_refl _ _) _ _) _ _))
  clear m0 f0 m1 f1 HC HW1 HW2
  generalize (w2.setCell ⟨w.heap.size + 1, 0, none⟩ (.int .i64 r0.1)).setCell ⟨w.heap.size + 1, 1, none⟩ (.int .i64 r1.1) = w3 at *
  have HC := Lib.hid (HIN.out w3 _ 0 1024 _ r2 E2.out HW3.out)
  go_upto_region 4 with (go_at_call 49; (with_reducible refine (HC.out).mono ?_); rintro e w4 ⟨rfl, hw⟩; have m0 : w4.cell? ⟨w.heap.size + 1, 2, none⟩ = some (.int .i64 0) := hw.box.cell 2; have f0 := hw.box.free 2; have HW4 := Lib.hid hw; clear hw)
  have HW5 : Hid (QW Rd 67 zrepV w a w.heap.size (w.heap.size + 1) #[.int .i64 r0.1, .int .i64 r1.1, .int .i64 r2.1, .slice none 0 0] r2.2 (w4.setCell ⟨w.heap.size + 1, 2, none⟩ (.int .i64 r2.1))) := Lib.hid (HW4.out.put rd_put (Box.put HW4.out.box 2 _) (only_put (only_refl _ _) _ _))
  clear m0 f0 HC HW3 HW4
  generalize w4.setCell ⟨w.heap.size + 1, 2, none⟩ (.int .i64 r2.1) = w5 at *
  have HC := Lib.hid (HIN.out w5 _ 0 256 _ r3 E3.out HW5.out)
  go_upto_region 5 with (go_at_call 49; (with_reducible refine (HC.out).mono ?_); rintro e w6 ⟨rfl, hw⟩; have HW6 := Lib.hid (VW.of hw); clear hw)
  rw [HN1.out]
  clear HC HW5
  generalize r3.2 = s at *
  clear HIN HN1 E0 E1 E2 E3 HWH
  generalize r0.1 = x0 at *
  generalize r1.1 = x1 at *
  generalize r2.1 = x2 at *
  go_loopw [16] (fun i wr => ∃ (j : Nat) (v : Value), j ≤ N ∧ i = .int .i64 (j : Int) ∧ Hid (VW Rd w a w.heap.size (w.heap.size + 1) x0 x1 x2 v (rvsT j s.1 s.2) (rvS j s.1 s.2) wr)) (fun i _ => N - (intOf i).toNat)
  case atStart => exact ⟨0, _, Nat.zero_le _, rfl, Lib.hid (by rw [rvS_zero, rvsT_zero]; exact HW6.out)⟩
  case round =>
    clear HW6
    obtain ⟨j, v, hj, rfl, HW⟩ := hrel
    have HGK := Lib.hid (HGD.out _ _ _ _ _ _ _ HW.out)
    by_cases hlt : j < N
    · have i1 : decide ((j : Int) < (N : Int)) = true := decide_eq_true (by omega)
      have wk : IntKind.i64.wrap ((j : Int) + 1) = ((j + 1 : Nat) : Int) := by
        rw [IntKind.wrap_i64]
        have := HN2.out
        omega
      have i2 : decide (j < N) = true := decide_eq_true hlt
      have HLT := Lib.hid hlt
      have HWd := Lib.hid (HW.out.call rd_below ((Below.refl wr.heap.size wr).drew))
      have HTC := Lib.hid (HTX.out wr.drew _ _ _ _ _ _ _ rfl HWd.out)
      have HSU : Hid (rvsT (j + 1) s.1 s.2 = rvsT j s.1 s.2 ++ [⟨(txtV 1024 (rvS j s.1 s.2).1 (rvS j s.1 s.2).2).1.toArray⟩]) := rvsT_more j s.1 s.2
      have HSS : Hid (rvS (j + 1) s.1 s.2 = (txtV 1024 (rvS j s.1 s.2).1 (rvS j s.1 s.2).2).2) := rvS_succ j s.1 s.2
      have HLL : Hid ((rvsT j s.1 s.2).length = j) := rvsT_len _ _ _
      have c3 := HWd.out.box.cell 3
      simp only [List.getElem?_toArray, List.getElem?_cons_zero, List.getElem?_cons_succ] at c3
      clear hlt hj HX HG HF
      generalize txtV 1024 (rvS j s.1 s.2).1 (rvS j s.1 s.2).2 = tx at *
      generalize rvsT j s.1 s.2 = L at *
      generalize rvS j s.1 s.2 = sj at *
      go_upto_region 6 with fail
      refine wp_region_held_drew (S := fun _ => True) (by kernel_rfl) trivial (fun hS => ?_)
      (refine wpAnyH_take (i := 0) (v := .pointer (some ⟨w.heap.size + 1, 3, none⟩)) rfl (by kernel_rfl) (by kernel_rfl) (by kernel_rfl) (fun _ _ _ h => h) (Or.inl ⟨by kernel_rfl, fun w hSw => by go_simp⟩) hS ?_)
      (try simp only [Act.put])
      (refine wpAnyH_take (i := 2) (v := .pointer (some ⟨a, 0, none⟩)) rfl (by kernel_rfl) (by kernel_rfl) (by kernel_rfl) (fun _ _ _ h => h) (Or.inl ⟨by kernel_rfl, fun w hSw => by go_simp⟩) hS ?_)
      (try simp only [Act.put])
      refine wpAnyH_ready (rs := [1, 3]) (by decide +kernel) (by simp) (AllReadyH.cons rfl (fun K hK => ?_) (AllReadyH.cons rfl (fun K hK => ?_) AllReadyH.nil))
      · go_simp
        refine hK.out _ _ trivial (fun hS => ?_)
        clear hK K
        (try simp only [Act.put])
        refine wpAnyH_ready (rs := [3]) (by decide +kernel) (by simp) (AllReadyH.cons rfl (fun K hK => ?_) AllReadyH.nil)
        go_simp
        (go_at_call 50; (with_reducible refine (HTC.out).mono ?_); rintro e w5 ⟨rfl, hw⟩)
        refine hK.out _ _ trivial (fun hS => ?_)
        clear hK K
        (try simp only [Act.put])
        have HW5 := Lib.hid hw
        have c3b := hw.box.cell 3
        simp only [List.getElem?_toArray, List.getElem?_cons_zero, List.getElem?_cons_succ] at c3b
        clear hw
        refine wpAnyH_ready (rs := [4]) (by decide +kernel) (by simp) (AllReadyH.cons rfl (fun K hK => ?_) AllReadyH.nil)
        go_simp
        refine hK.out _ _ trivial (fun hS => ?_)
        clear hK K
        (try simp only [Act.put])
        have HW6 := Lib.hid (HW5.out.call rd_below ((Below.refl w5.heap.size w5).alloc (Nat.le_refl _) (.cells #[.string ⟨tx.1.toArray⟩] 9)))
        have HQ6 : Hid (Box (w5.alloc (.cells #[.string ⟨tx.1.toArray⟩] 9)) w5.heap.size 9 #[.string ⟨tx.1.toArray⟩]) := Box.made _ _ _
        have c3c := HW6.out.box.cell 3
        simp only [List.getElem?_toArray, List.getElem?_cons_zero, List.getElem?_cons_succ] at c3c
        obtain ⟨g, cap, w7, hap, hc7, hf7, hw7⟩ := HW6.out.push rd_put rd_none HQ6.out (by rw [HLL.out]; have := HN2.out; have := HLT.out; omega)
        have HW7 := Lib.hid hw7
        clear hw7
        refine wpAnyH_ready (rs := [5]) (by decide +kernel) (by simp) (AllReadyH.cons rfl (fun K hK => ?_) AllReadyH.nil)
        go_simp
        refine hK.out _ _ trivial (fun hS => ?_)
        clear hK K
        (try simp only [Act.put])
        (refine wpAnyH_take (i := 6) (v := .pointer (some ⟨w.heap.size + 1, 3, none⟩)) rfl (by kernel_rfl) (by kernel_rfl) (by kernel_rfl) (fun _ _ _ h => h) (Or.inl ⟨by kernel_rfl, fun w hSw => by go_simp⟩) hS ?_)
        (try simp only [Act.put])
        refine wpAnyH_ready (rs := [7]) (by decide +kernel) (by simp) (AllReadyH.cons rfl (fun K hK => ?_) AllReadyH.nil)
        go_simp
        refine hK.out _ _ trivial (fun hS => ?_)
        clear hK K
        (try simp only [Act.put])
        refine wpAnyH_done (by kernel_rfl) ?_ _
        clear hap hc7 hf7 c3 c3b c3c HW5 HW6 HQ6
        generalize w7.setCell ⟨w.heap.size + 1, 3, none⟩ (.slice (some ⟨g, 0, none⟩) (L.length + 1) cap) = w8 at *
        rw [← HSU.out, ← HSS.out] at HW7
        go_wp2
        go_roundw
        case rel => exact ⟨j + 1, _, HLT.out, by go_num, HW7⟩
        case measure => have := HLT.out; simp [intOf]; omega
      · go_simp
        (go_at_call 50; (with_reducible refine (HTC.out).mono ?_); rintro e w5 ⟨rfl, hw⟩)
        refine hK.out _ _ trivial (fun hS => ?_)
        clear hK K
        (try simp only [Act.put])
        have HW5 := Lib.hid hw
        have c3b := hw.box.cell 3
        simp only [List.getElem?_toArray, List.getElem?_cons_zero, List.getElem?_cons_succ] at c3b
        clear hw
        refine wpAnyH_ready (rs := [1, 4]) (by decide +kernel) (by simp) (AllReadyH.cons rfl (fun K hK => ?_) (AllReadyH.cons rfl (fun K hK => ?_) AllReadyH.nil))
        · go_simp
          refine hK.out _ _ trivial (fun hS => ?_)
          clear hK K
          (try simp only [Act.put])
          refine wpAnyH_ready (rs := [4]) (by decide +kernel) (by simp) (AllReadyH.cons rfl (fun K hK => ?_) AllReadyH.nil)
          go_simp
          refine hK.out _ _ trivial (fun hS => ?_)
          clear hK K
          (try simp only [Act.put])
          have HW6 := Lib.hid (HW5.out.call rd_below ((Below.refl w5.heap.size w5).alloc (Nat.le_refl _) (.cells #[.string ⟨tx.1.toArray⟩] 9)))
          have HQ6 : Hid (Box (w5.alloc (.cells #[.string ⟨tx.1.toArray⟩] 9)) w5.heap.size 9 #[.string ⟨tx.1.toArray⟩]) := Box.made _ _ _
          have c3c := HW6.out.box.cell 3
          simp only [List.getElem?_toArray, List.getElem?_cons_zero, List.getElem?_cons_succ] at c3c
          obtain ⟨g, cap, w7, hap, hc7, hf7, hw7⟩ := HW6.out.push rd_put rd_none HQ6.out (by rw [HLL.out]; have := HN2.out; have := HLT.out; omega)
          have HW7 := Lib.hid hw7
          clear hw7
          refine wpAnyH_ready (rs := [5]) (by decide +kernel) (by simp) (AllReadyH.cons rfl (fun K hK => ?_) AllReadyH.nil)
          go_simp
          refine hK.out _ _ trivial (fun hS => ?_)
          clear hK K
          (try simp only [Act.put])
          (refine wpAnyH_take (i := 6) (v := .pointer (some ⟨w.heap.size + 1, 3, none⟩)) rfl (by kernel_rfl) (by kernel_rfl) (by kernel_rfl) (fun _ _ _ h => h) (Or.inl ⟨by kernel_rfl, fun w hSw => by go_simp⟩) hS ?_)
          (try simp only [Act.put])
          refine wpAnyH_ready (rs := [7]) (by decide +kernel) (by simp) (AllReadyH.cons rfl (fun K hK => ?_) AllReadyH.nil)
          go_simp
          refine hK.out _ _ trivial (fun hS => ?_)
          clear hK K
          (try simp only [Act.put])
          refine wpAnyH_done (by kernel_rfl) ?_ _
          clear hap hc7 hf7 c3 c3b c3c HW5 HW6 HQ6
          generalize w7.setCell ⟨w.heap.size + 1, 3, none⟩ (.slice (some ⟨g, 0, none⟩) (L.length + 1) cap) = w8 at *
          rw [← HSU.out, ← HSS.out] at HW7
          go_wp2
          go_roundw
          case rel => exact ⟨j + 1, _, HLT.out, by go_num, HW7⟩
          case measure => have := HLT.out; simp [intOf]; omega
        · go_simp
          refine hK.out _ _ trivial (fun hS => ?_)
          clear hK K
          (try simp only [Act.put])
          have HW6 := Lib.hid (HW5.out.call rd_below ((Below.refl w5.heap.size w5).alloc (Nat.le_refl _) (.cells #[.string ⟨tx.1.toArray⟩] 9)))
          have HQ6 : Hid (Box (w5.alloc (.cells #[.string ⟨tx.1.toArray⟩] 9)) w5.heap.size 9 #[.string ⟨tx.1.toArray⟩]) := Box.made _ _ _
          have c3c := HW6.out.box.cell 3
          simp only [List.getElem?_toArray, List.getElem?_cons_zero, List.getElem?_cons_succ] at c3c
          obtain ⟨g, cap, w7, hap, hc7, hf7, hw7⟩ := HW6.out.push rd_put rd_none HQ6.out (by rw [HLL.out]; have := HN2.out; have := HLT.out; omega)
          have HW7 := Lib.hid hw7
          clear hw7
          refine wpAnyH_ready (rs := [1]) (by decide +kernel) (by simp) (AllReadyH.cons rfl (fun K hK => ?_) AllReadyH.nil)
          go_simp
          refine hK.out _ _ trivial (fun hS => ?_)
          clear hK K
          (try simp only [Act.put])
          refine wpAnyH_ready (rs := [5]) (by decide +kernel) (by simp) (AllReadyH.cons rfl (fun K hK => ?_) AllReadyH.nil)
          go_simp
          refine hK.out _ _ trivial (fun hS => ?_)
          clear hK K
          (try simp only [Act.put])
          (refine wpAnyH_take (i := 6) (v := .pointer (some ⟨w.heap.size + 1, 3, none⟩)) rfl (by kernel_rfl) (by kernel_rfl) (by kernel_rfl) (fun _ _ _ h => h) (Or.inl ⟨by kernel_rfl, fun w hSw => by go_simp⟩) hS ?_)
          (try simp only [Act.put])
          refine wpAnyH_ready (rs := [7]) (by decide +kernel) (by simp) (AllReadyH.cons rfl (fun K hK => ?_) AllReadyH.nil)
          go_simp
          refine hK.out _ _ trivial (fun hS => ?_)
          clear hK K
          (try simp only [Act.put])
          refine wpAnyH_done (by kernel_rfl) ?_ _
          clear hap hc7 hf7 c3 c3b c3c HW5 HW6 HQ6
          generalize w7.setCell ⟨w.heap.size + 1, 3, none⟩ (.slice (some ⟨g, 0, none⟩) (L.length + 1) cap) = w8 at *
          rw [← HSU.out, ← HSS.out] at HW7
          go_wp2
          go_roundw
          case rel => exact ⟨j + 1, _, HLT.out, by go_num, HW7⟩
          case measure => have := HLT.out; simp [intOf]; omega
    · have hjn : j = N := by omega
      subst hjn
      have i1 : decide ((j : Int) < (j : Int)) = false := decide_eq_false (by omega)
      have HFE := Lib.hid HF.out.symm
      rw [HFE.out] at HW HGK
      obtain ⟨gd, hgd⟩ : ∃ gd, F.2 = gd := ⟨_, rfl⟩
      rw [hgd] at HGK
      rcases gd with _ | _
      · obtain ⟨x1', x2', x3', x4'⟩ := HG.out hgd
        have HZ : Hid (C = x0 ∧ M = x1 ∧ K = x2 ∧ V = rvsT j s.1 s.2) := ⟨x1', x2', x3', x4'⟩
        clear x1' x2' x3' x4' hgd HG HX HF HFE
        generalize rvsT j s.1 s.2 = L at *
        obtain ⟨A, z, rfl⟩ := own_slice_s HW.out.own
        have lc := Box.ld_rep HW.out.box
        have HSE : Hid (Sees wr wr.heap.size A (L.map Value.string)) := Lib.hid (Sees.of_own (n := L.length) (c := z) HW.out.own)
        have HFZ : Hid (Fresh9 w.heap.size A (L.map Value.string)) := Lib.hid (fresh_own (n := L.length) (c := z) HW.out.own)
        obtain ⟨wz, hst, hb, hg⟩ := HW.out.out.st_rep rfl x0 x1 x2 A L.length z
        have HBZ := Lib.hid hb
        have HRZ := Lib.hid (rd_put HW.out.rd hg (Nat.lt_of_lt_of_le HW.out.ha (Nat.le_refl _)))
        have HGZ := Lib.hid (only_new HW.out.far hg (Nat.le_refl _))
        have HSZ := Lib.hid (sees_other HW.out.out zrep_nostr HSE.out hg)
        clear hb hg HW HSE
        go_wp2_with (go_at_call 76; (with_reducible refine (HGK.out).mono ?_); rintro e wg ⟨rfl, rfl⟩)
        obtain ⟨z1, z2, z3, z4⟩ := HZ.out
        subst z1 z2 z3 z4
        exact ret_rep rfl rfl rfl HBZ.out ⟨A, z, rfl, HSZ.out, HRZ.out, HGZ.out, HFZ.out⟩
      · obtain ⟨z1, z2, z3, z4⟩ := HX.out hgd
        have HZ : Hid (C = 0 ∧ M = 0 ∧ K = 0 ∧ V = []) := ⟨z1, z2, z3, z4⟩
        have hbd0 := bd_rep0 wr
        obtain ⟨wz, hst, hb, hg⟩ := HW.out.out.st_rep rfl 0 0 0 none 0 0
        have HBZ := Lib.hid hb
        have HRZ := Lib.hid (rd_put HW.out.rd hg (Nat.lt_of_lt_of_le HW.out.ha (Nat.le_refl _)))
        have HGZ := Lib.hid (only_new HW.out.far hg (Nat.le_refl _))
        clear hb hg HW HX HG HF HFE hgd z1 z2 z3 z4
        go_wp2_with (go_at_call 76; (with_reducible refine (HGK.out).mono ?_); rintro e wg ⟨rfl, rfl⟩)
        obtain ⟨z1, z2, z3, z4⟩ := HZ.out
        exact ret_rep rfl rfl rfl HBZ.out ⟨none, 0, by rw [z1, z2, z3, z4]; rfl, .inl (by rw [z4]; rfl), HRZ.out, HGZ.out, .inl (by rw [z4]; rfl)⟩

end Go.Proofs.YtlogceoeodjeoaaDoor

namespace Go.Proofs.YtlogceoeodjeoaaDoor
open Go.RowKit

def putX : ReqX := ⟨1, 1, 2, ⟨#[107]⟩, ⟨#[118]⟩, ⟨#[]⟩, 0, 0, 0, zeros, 0, zeros_len⟩
set_option maxRecDepth 100000 in
theorem putX_good : reqGood putX = true := by decide
set_option maxRecDepth 100000 in
theorem putX_len : (reqB putX).length = 102 := by
  unfold reqB
  simp only [List.length_append, numBytes_len, textBytes_len]
  rfl
set_option maxRecDepth 100000 in
theorem bd_rep1 (w : World) : (bdRep #[(1, .int .i64 1)]).run Tryd.prog w = .ok (.agg (repV 0 1 0 none 0 0)) w := run_build w _ _ _ (by kernel_rfl)

attribute [local go_sem ↓] bdRep_def

end Go.Proofs.YtlogceoeodjeoaaDoor

namespace Go.Proofs.YtlogceoeodjeoaaDoor
open Go.RowKit

set_option maxRecDepth 100000 in
theorem rrd_put {w w' : World} {a g : Nat} {l : List UInt8} {b : Bool} (h : RRd w a l b) (hg : w.grownBy w' (some g)) (hl : a < g) : RRd w' a l b := h.other hg (by omega)
attribute [local go_sem ↓] ldDigest_def stDigest_def

end Go.Proofs.YtlogceoeodjeoaaDoor

namespace Go.Proofs.YtlogceoeodjeoaaDoor
open Go.RowKit

set_option maxRecDepth 100000 in
theorem rrd_below {w w' : World} {a : Nat} {l : List UInt8} {b : Bool} (h : RRd w a l b) (hb : Below w.heap.size w w') : RRd w' a l b := Box.below h hb h.lt
set_option maxRecDepth 100000 in
theorem rrd_none {w w' : World} {a : Nat} {l : List UInt8} {b : Bool} (h : RRd w a l b) (hg : w.grownBy w' none) : RRd w' a l b := Box.grown h hg (by simp)

attribute [local go_sem ↓] ldRep_def stRep_def bdRep_def apAll_def
set_option maxRecDepth 100000 in
set_option maxHeartbeats 4000000 in
theorem rreadrep_any (a : Nat) (l : List UInt8) (b : Bool) (w : World) (h : RRd w a l b) :
    Calls Tryd.prog 61 #[.pointer (some ⟨a, 0, none⟩)] w (RepIs RRd a l b w) := by
  have HW1 : Hid (QW RRd 67 zrepV w a w.heap.size (w.heap.size + 1) zrepV (l, b) ((w.alloc (.cells zrepV 67)).alloc (.cells zrepV 67))) :=
    ⟨(Box.made _ _ _).alloc _, Box.made_at (by simp) _ _, Box.alloc (Box.alloc h _) _, only_trans (World.grownBy_alloc w _ _) (World.grownBy_alloc _ _ _), h.lt, Nat.le_refl _, by omega, by omega⟩
  have HIN : Hid (∀ w' cs (lo hi : Int) (s : List UInt8 × Bool) (r : Int × List UInt8 × Bool), inV lo hi s.1 s.2 = r → QW RRd 67 zrepV w a w.heap.size (w.heap.size + 1) cs s w' → Calls Tryd.prog 58 #[.pointer (some ⟨a, 0, none⟩), .int .i64 lo, .int .i64 hi] w' fun e w'' => e = .returned (.int .i64 r.1) ∧ QW RRd 67 zrepV w a w.heap.size (w.heap.size + 1) cs r.2 w'') :=
    Lib.hid (fun w' cs lo hi s r hr hw => by subst hr; exact (rin_any a lo hi s.1 s.2 w' hw.rd).mono fun e w'' ⟨he, hr, hg⟩ => ⟨he, hw.turn hg hr⟩)
  have HTX : Hid (∀ w' c n k v L (s : List UInt8 × Bool) (r : List UInt8 × List UInt8 × Bool), txtV 1024 s.1 s.2 = r → VW RRd w a w.heap.size (w.heap.size + 1) c n k v L s w' → Calls Tryd.prog 60 #[.pointer (some ⟨a, 0, none⟩), .int .i64 1024] w' fun e w'' => e = .returned (.string ⟨r.1.toArray⟩) ∧ VW RRd w a w.heap.size (w.heap.size + 1) c n k v L r.2 w'') :=
    Lib.hid (fun w' c n k v L s r hr hw => by subst hr; exact (rtext_any a 1024 s.1 s.2 w' hw.rd).mono fun e w'' ⟨he, hr, hg⟩ => ⟨he, hw.turn hg hr⟩)
  have HGD : Hid (∀ w' c n k v L (s : List UInt8 × Bool), VW RRd w a w.heap.size (w.heap.size + 1) c n k v L s w' → Calls Tryd.prog 59 #[.pointer (some ⟨a, 0, none⟩)] w' fun e w'' => e = .returned (.bool !s.2) ∧ w' = w'') := Lib.hid (fun w' c n k v L s hw => rgood_any a s.1 s.2 w' hw.rd)
  have hg := rp_good (l := l) (b := b)
  have hx := rp_bad (l := l) (b := b)
  have hF := rpF_eq l b
  have hN := rp3_in l b
  have hP := inV_left 0 256 (rp2 l b).2.1 (rp2 l b).2.2
  have e0 := rq0_eq l b
  have e1 := rq1_eq l b
  have e2 := rp2_eq l b
  have e3 := rp3_eq l b
  rw [e3] at hP
  unfold RepIs
  generalize rpC l b = C at *
  generalize rpM l b = M at *
  generalize rpK l b = K at *
  generalize rpV l b = V at *
  generalize rq0 l b = r0 at *
  generalize rq1 l b = r1 at *
  generalize rp2 l b = r2 at *
  generalize rp3 l b = r3 at *
  generalize rpN l b = N at *
  generalize rpF l b = F at *
  obtain ⟨hN1, hN2⟩ := hN
  have HG := Lib.hid hg
  have HX := Lib.hid hx
  have HF := Lib.hid hF
  have HN2 := Lib.hid hN2
  have HN1 := Lib.hid hN1
  have HP := Lib.hid hP
  have E0 := Lib.hid e0
  have E1 := Lib.hid e1
  have E2 := Lib.hid e2
  have E3 := Lib.hid e3
  clear hg hx hF hN1 hN2 hP e0 e1 e2 e3 h
  go_enter Tryd.func61, Tryd.ntmps61
  go_upto_region 2 with fail
  change Code.wp _ _ _ _ ((w.alloc (.cells zrepV 67)).alloc (.cells zrepV 67))
  generalize (w.alloc (.cells zrepV 67)).alloc (.cells zrepV 67) = w1 at *
  have HC := Lib.hid (HIN.out w1 _ 1 64 _ r0 E0.out HW1.out)
  go_upto_region 3 with (go_at_call 58; (with_reducible refine (HC.out).mono ?_); rintro e w2 ⟨rfl, hw⟩; have m0 : w2.cell? ⟨w.heap.size + 1, 0, none⟩ = some (.int .i64 0) := hw.box.cell 0; have f0 := hw.box.free 0; have HW2 := Lib.hid hw; clear hw)
  have HW3 : Hid (QW RRd 67 zrepV w a w.heap.size (w.heap.size + 1) #[.int .i64 r0.1, .int .i64 0, .int .i64 0, .slice none 0 0] r0.2 (w2.setCell ⟨w.heap.size + 1, 0, none⟩ (.int .i64 r0.1))) := Lib.hid (HW2.out.put rrd_put (Box.put HW2.out.box 0 _) (only_put (only_refl _ _) _ _))
  clear m0 f0 HC HW1 HW2
  generalize w2.setCell ⟨w.heap.size + 1, 0, none⟩ (.int .i64 r0.1) = w3 at *
  have HC := Lib.hid (HIN.out w3 _ 1 1099511627776 _ r1 E1.out HW3.out)
  go_upto_region 4 with (go_at_call 58; (with_reducible refine (HC.out).mono ?_); rintro e w4 ⟨rfl, hw⟩; have m0 : w4.cell? ⟨w.heap.size + 1, 1, none⟩ = some (.int .i64 0) := hw.box.cell 1; have f0 := hw.box.free 1; have HW4 := Lib.hid hw; clear hw)
  have HW5 : Hid (QW RRd 67 zrepV w a w.heap.size (w.heap.size + 1) #[.int .i64 r0.1, .int .i64 r1.1, .int .i64 0, .slice none 0 0] r1.2 (w4.setCell ⟨w.heap.size + 1, 1, none⟩ (.int .i64 r1.1))) := Lib.hid (HW4.out.put rrd_put (Box.put HW4.out.box 1 _) (only_put (only_refl _ _) _ _))
  clear m0 f0 HC HW3 HW4
  generalize w4.setCell ⟨w.heap.size + 1, 1, none⟩ (.int .i64 r1.1) = w5 at *
  have HC := Lib.hid (HIN.out w5 _ 0 1024 _ r2 E2.out HW5.out)
  go_upto_region 5 with (go_at_call 58; (with_reducible refine (HC.out).mono ?_); rintro e w6 ⟨rfl, hw⟩; have m0 : w6.cell? ⟨w.heap.size + 1, 2, none⟩ = some (.int .i64 0) := hw.box.cell 2; have f0 := hw.box.free 2; have HW6 := Lib.hid hw; clear hw)
  have HW7 : Hid (QW RRd 67 zrepV w a w.heap.size (w.heap.size + 1) #[.int .i64 r0.1, .int .i64 r1.1, .int .i64 r2.1, .slice none 0 0] r2.2 (w6.setCell ⟨w.heap.size + 1, 2, none⟩ (.int .i64 r2.1))) := Lib.hid (HW6.out.put rrd_put (Box.put HW6.out.box 2 _) (only_put (only_refl _ _) _ _))
  clear m0 f0 HC HW5 HW6
  generalize w6.setCell ⟨w.heap.size + 1, 2, none⟩ (.int .i64 r2.1) = w7 at *
  have HC := Lib.hid (HIN.out w7 _ 0 256 _ r3 E3.out HW7.out)
  go_upto_region 7 with (go_at_call 58; (with_reducible refine (HC.out).mono ?_); rintro e w8 ⟨rfl, hw⟩; have HW8 := Lib.hid (VW.of hw); clear hw)
  rw [HN1.out]
  clear HC HW7
  generalize r3.2 = s at *
  clear HIN HN1 E0 E1 E2 E3
  generalize r0.1 = x0 at *
  generalize r1.1 = x1 at *
  generalize r2.1 = x2 at *
  go_loopw [5] (fun i wr => ∃ (j : Nat) (v : Value), j ≤ N ∧ i = .int .i64 (j : Int) ∧ Hid (VW RRd w a w.heap.size (w.heap.size + 1) x0 x1 x2 v (rvsT j s.1 s.2) (rvS j s.1 s.2) wr)) (fun i _ => N - (intOf i).toNat)
  case atStart => exact ⟨0, _, Nat.zero_le _, rfl, Lib.hid (by rw [rvS_zero, rvsT_zero]; exact HW8.out)⟩
  case round =>
    clear HW8
    obtain ⟨j, v, hj, rfl, HW⟩ := hrel
    have HGK := Lib.hid (HGD.out _ _ _ _ _ _ _ HW.out)
    by_cases hlt : j < N
    · have i1 : decide ((j : Int) < (N : Int)) = true := decide_eq_true (by omega)
      have wk : IntKind.i64.wrap ((j : Int) + 1) = ((j + 1 : Nat) : Int) := by
        rw [IntKind.wrap_i64]
        have := HN2.out
        omega
      have i2 : decide (j < N) = true := decide_eq_true hlt
      have HLT := Lib.hid hlt
      obtain ⟨bd, hbd⟩ : ∃ bd, (rvS j s.1 s.2).2 = bd := ⟨_, rfl⟩
      rw [hbd] at HGK
      rcases bd with _ | _
      rotate_left
      · have HNL : Hid (rvS j s.1 s.2 = ([], true)) := Lib.hid (rvS_left HP.out hbd)
        have HFE : Hid (F = ([], true)) := Lib.hid (by rw [HF.out]; exact rvS_past (by omega) HNL.out)
        obtain ⟨z1, z2, z3, z4⟩ := HX.out (by rw [HFE.out])
        have HZ : Hid (C = 0 ∧ M = 0 ∧ K = 0 ∧ V = []) := ⟨z1, z2, z3, z4⟩
        have HRW : Hid (RRd wr a [] true) := by
          have h := HW.out.rd
          rw [HNL.out] at h
          exact h
        have hbd0 := bd_rep0 wr
        obtain ⟨wz, hst, hb, hg⟩ := HW.out.out.st_rep rfl 0 0 0 none 0 0
        have HBZ := Lib.hid hb
        have HRZ := Lib.hid (rrd_put HRW.out hg (Nat.lt_of_lt_of_le HW.out.ha (Nat.le_refl _)))
        have HGZ := Lib.hid (only_new HW.out.far hg (Nat.le_refl _))
        clear hb hg HW HX HG HF hbd z1 z2 z3 z4 HNL HRW
        go_wp2_with (go_at_call 59; (with_reducible refine (HGK.out).mono ?_); rintro e wg ⟨rfl, rfl⟩)
        obtain ⟨z1, z2, z3, z4⟩ := HZ.out
        exact ret_rep rfl rfl rfl HBZ.out ⟨none, 0, by rw [z1, z2, z3, z4]; rfl, .inl (by rw [z4]; rfl), by rw [HFE.out]; exact HRZ.out, HGZ.out, .inl (by rw [z4]; rfl)⟩
      clear hbd
      have HWd := Lib.hid (HW.out.call rrd_below ((Below.refl wr.heap.size wr).drew))
      have HTC := Lib.hid (HTX.out wr.drew _ _ _ _ _ _ _ rfl HWd.out)
      have HSU : Hid (rvsT (j + 1) s.1 s.2 = rvsT j s.1 s.2 ++ [⟨(txtV 1024 (rvS j s.1 s.2).1 (rvS j s.1 s.2).2).1.toArray⟩]) := rvsT_more j s.1 s.2
      have HSS : Hid (rvS (j + 1) s.1 s.2 = (txtV 1024 (rvS j s.1 s.2).1 (rvS j s.1 s.2).2).2) := rvS_succ j s.1 s.2
      have HLL : Hid ((rvsT j s.1 s.2).length = j) := rvsT_len _ _ _
      have c3 := HWd.out.box.cell 3
      simp only [List.getElem?_toArray, List.getElem?_cons_zero, List.getElem?_cons_succ] at c3
      clear hlt hj HX HG HF
      generalize txtV 1024 (rvS j s.1 s.2).1 (rvS j s.1 s.2).2 = tx at *
      generalize rvsT j s.1 s.2 = L at *
      generalize rvS j s.1 s.2 = sj at *
      go_wp2_with (go_at_call 59; (with_reducible refine (HGK.out).mono ?_); rintro e wg ⟨rfl, rfl⟩)
      refine wp_region_held_drew (S := fun _ => True) (by kernel_rfl) trivial (fun hS => ?_)
      (refine wpAnyH_take (i := 0) (v := .pointer (some ⟨w.heap.size + 1, 3, none⟩)) rfl (by kernel_rfl) (by kernel_rfl) (by kernel_rfl) (fun _ _ _ h => h) (Or.inl ⟨by kernel_rfl, fun w hSw => by go_simp⟩) hS ?_)
      (try simp only [Act.put])
      (refine wpAnyH_take (i := 2) (v := .pointer (some ⟨a, 0, none⟩)) rfl (by kernel_rfl) (by kernel_rfl) (by kernel_rfl) (fun _ _ _ h => h) (Or.inl ⟨by kernel_rfl, fun w hSw => by go_simp⟩) hS ?_)
      (try simp only [Act.put])
      refine wpAnyH_ready (rs := [1, 3]) (by decide +kernel) (by simp) (AllReadyH.cons rfl (fun K hK => ?_) (AllReadyH.cons rfl (fun K hK => ?_) AllReadyH.nil))
      · go_simp
        refine hK.out _ _ trivial (fun hS => ?_)
        clear hK K
        (try simp only [Act.put])
        refine wpAnyH_ready (rs := [3]) (by decide +kernel) (by simp) (AllReadyH.cons rfl (fun K hK => ?_) AllReadyH.nil)
        go_simp
        (go_at_call 60; (with_reducible refine (HTC.out).mono ?_); rintro e w5 ⟨rfl, hw⟩)
        refine hK.out _ _ trivial (fun hS => ?_)
        clear hK K
        (try simp only [Act.put])
        have HW5 := Lib.hid hw
        have c3b := hw.box.cell 3
        simp only [List.getElem?_toArray, List.getElem?_cons_zero, List.getElem?_cons_succ] at c3b
        clear hw
        refine wpAnyH_ready (rs := [4]) (by decide +kernel) (by simp) (AllReadyH.cons rfl (fun K hK => ?_) AllReadyH.nil)
        go_simp
        refine hK.out _ _ trivial (fun hS => ?_)
        clear hK K
        (try simp only [Act.put])
        have HW6 := Lib.hid (HW5.out.call rrd_below ((Below.refl w5.heap.size w5).alloc (Nat.le_refl _) (.cells #[.string ⟨tx.1.toArray⟩] 9)))
        have HQ6 : Hid (Box (w5.alloc (.cells #[.string ⟨tx.1.toArray⟩] 9)) w5.heap.size 9 #[.string ⟨tx.1.toArray⟩]) := Box.made _ _ _
        have c3c := HW6.out.box.cell 3
        simp only [List.getElem?_toArray, List.getElem?_cons_zero, List.getElem?_cons_succ] at c3c
        obtain ⟨g, cap, w7, hap, hc7, hf7, hw7⟩ := HW6.out.push rrd_put rrd_none HQ6.out (by rw [HLL.out]; have := HN2.out; have := HLT.out; omega)
        have HW7 := Lib.hid hw7
        clear hw7
        refine wpAnyH_ready (rs := [5]) (by decide +kernel) (by simp) (AllReadyH.cons rfl (fun K hK => ?_) AllReadyH.nil)
        go_simp
        refine hK.out _ _ trivial (fun hS => ?_)
        clear hK K
        (try simp only [Act.put])
        (refine wpAnyH_take (i := 6) (v := .pointer (some ⟨w.heap.size + 1, 3, none⟩)) rfl (by kernel_rfl) (by kernel_rfl) (by kernel_rfl) (fun _ _ _ h => h) (Or.inl ⟨by kernel_rfl, fun w hSw => by go_simp⟩) hS ?_)
        (try simp only [Act.put])
        refine wpAnyH_ready (rs := [7]) (by decide +kernel) (by simp) (AllReadyH.cons rfl (fun K hK => ?_) AllReadyH.nil)
        go_simp
        refine hK.out _ _ trivial (fun hS => ?_)
        clear hK K
        (try simp only [Act.put])
        refine wpAnyH_done (by kernel_rfl) ?_ _
        clear hap hc7 hf7 c3 c3b c3c HW5 HW6 HQ6
        generalize w7.setCell ⟨w.heap.size + 1, 3, none⟩ (.slice (some ⟨g, 0, none⟩) (L.length + 1) cap) = w8 at *
        rw [← HSU.out, ← HSS.out] at HW7
        go_wp2
        go_roundw
        case rel => exact ⟨j + 1, _, HLT.out, by go_num, HW7⟩
        case measure => have := HLT.out; simp [intOf]; omega
      · go_simp
        (go_at_call 60; (with_reducible refine (HTC.out).mono ?_); rintro e w5 ⟨rfl, hw⟩)
        refine hK.out _ _ trivial (fun hS => ?_)
        clear hK K
        (try simp only [Act.put])
        have HW5 := Lib.hid hw
        have c3b := hw.box.cell 3
        simp only [List.getElem?_toArray, List.getElem?_cons_zero, List.getElem?_cons_succ] at c3b
        clear hw
        refine wpAnyH_ready (rs := [1, 4]) (by decide +kernel) (by simp) (AllReadyH.cons rfl (fun K hK => ?_) (AllReadyH.cons rfl (fun K hK => ?_) AllReadyH.nil))
        · go_simp
          refine hK.out _ _ trivial (fun hS => ?_)
          clear hK K
          (try simp only [Act.put])
          refine wpAnyH_ready (rs := [4]) (by decide +kernel) (by simp) (AllReadyH.cons rfl (fun K hK => ?_) AllReadyH.nil)
          go_simp
          refine hK.out _ _ trivial (fun hS => ?_)
          clear hK K
          (try simp only [Act.put])
          have HW6 := Lib.hid (HW5.out.call rrd_below ((Below.refl w5.heap.size w5).alloc (Nat.le_refl _) (.cells #[.string ⟨tx.1.toArray⟩] 9)))
          have HQ6 : Hid (Box (w5.alloc (.cells #[.string ⟨tx.1.toArray⟩] 9)) w5.heap.size 9 #[.string ⟨tx.1.toArray⟩]) := Box.made _ _ _
          have c3c := HW6.out.box.cell 3
          simp only [List.getElem?_toArray, List.getElem?_cons_zero, List.getElem?_cons_succ] at c3c
          obtain ⟨g, cap, w7, hap, hc7, hf7, hw7⟩ := HW6.out.push rrd_put rrd_none HQ6.out (by rw [HLL.out]; have := HN2.out; have := HLT.out; omega)
          have HW7 := Lib.hid hw7
          clear hw7
          refine wpAnyH_ready (rs := [5]) (by decide +kernel) (by simp) (AllReadyH.cons rfl (fun K hK => ?_) AllReadyH.nil)
          go_simp
          refine hK.out _ _ trivial (fun hS => ?_)
          clear hK K
          (try simp only [Act.put])
          (refine wpAnyH_take (i := 6) (v := .pointer (some ⟨w.heap.size + 1, 3, none⟩)) rfl (by kernel_rfl) (by kernel_rfl) (by kernel_rfl) (fun _ _ _ h => h) (Or.inl ⟨by kernel_rfl, fun w hSw => by go_simp⟩) hS ?_)
          (try simp only [Act.put])
          refine wpAnyH_ready (rs := [7]) (by decide +kernel) (by simp) (AllReadyH.cons rfl (fun K hK => ?_) AllReadyH.nil)
          go_simp
          refine hK.out _ _ trivial (fun hS => ?_)
          clear hK K
          (try simp only [Act.put])
          refine wpAnyH_done (by kernel_rfl) ?_ _
          clear hap hc7 hf7 c3 c3b c3c HW5 HW6 HQ6
          generalize w7.setCell ⟨w.heap.size + 1, 3, none⟩ (.slice (some ⟨g, 0, none⟩) (L.length + 1) cap) = w8 at *
          rw [← HSU.out, ← HSS.out] at HW7
          go_wp2
          go_roundw
          case rel => exact ⟨j + 1, _, HLT.out, by go_num, HW7⟩
          case measure => have := HLT.out; simp [intOf]; omega
        · go_simp
          refine hK.out _ _ trivial (fun hS => ?_)
          clear hK K
          (try simp only [Act.put])
          have HW6 := Lib.hid (HW5.out.call rrd_below ((Below.refl w5.heap.size w5).alloc (Nat.le_refl _) (.cells #[.string ⟨tx.1.toArray⟩] 9)))
          have HQ6 : Hid (Box (w5.alloc (.cells #[.string ⟨tx.1.toArray⟩] 9)) w5.heap.size 9 #[.string ⟨tx.1.toArray⟩]) := Box.made _ _ _
          have c3c := HW6.out.box.cell 3
          simp only [List.getElem?_toArray, List.getElem?_cons_zero, List.getElem?_cons_succ] at c3c
          obtain ⟨g, cap, w7, hap, hc7, hf7, hw7⟩ := HW6.out.push rrd_put rrd_none HQ6.out (by rw [HLL.out]; have := HN2.out; have := HLT.out; omega)
          have HW7 := Lib.hid hw7
          clear hw7
          refine wpAnyH_ready (rs := [1]) (by decide +kernel) (by simp) (AllReadyH.cons rfl (fun K hK => ?_) AllReadyH.nil)
          go_simp
          refine hK.out _ _ trivial (fun hS => ?_)
          clear hK K
          (try simp only [Act.put])
          refine wpAnyH_ready (rs := [5]) (by decide +kernel) (by simp) (AllReadyH.cons rfl (fun K hK => ?_) AllReadyH.nil)
          go_simp
          refine hK.out _ _ trivial (fun hS => ?_)
          clear hK K
          (try simp only [Act.put])
          (refine wpAnyH_take (i := 6) (v := .pointer (some ⟨w.heap.size + 1, 3, none⟩)) rfl (by kernel_rfl) (by kernel_rfl) (by kernel_rfl) (fun _ _ _ h => h) (Or.inl ⟨by kernel_rfl, fun w hSw => by go_simp⟩) hS ?_)
          (try simp only [Act.put])
          refine wpAnyH_ready (rs := [7]) (by decide +kernel) (by simp) (AllReadyH.cons rfl (fun K hK => ?_) AllReadyH.nil)
          go_simp
          refine hK.out _ _ trivial (fun hS => ?_)
          clear hK K
          (try simp only [Act.put])
          refine wpAnyH_done (by kernel_rfl) ?_ _
          clear hap hc7 hf7 c3 c3b c3c HW5 HW6 HQ6
          generalize w7.setCell ⟨w.heap.size + 1, 3, none⟩ (.slice (some ⟨g, 0, none⟩) (L.length + 1) cap) = w8 at *
          rw [← HSU.out, ← HSS.out] at HW7
          go_wp2
          go_roundw
          case rel => exact ⟨j + 1, _, HLT.out, by go_num, HW7⟩
          case measure => have := HLT.out; simp [intOf]; omega
    · have hjn : j = N := by omega
      subst hjn
      have i1 : decide ((j : Int) < (j : Int)) = false := decide_eq_false (by omega)
      have HFE := Lib.hid HF.out.symm
      rw [HFE.out] at HW HGK
      obtain ⟨gd, hgd⟩ : ∃ gd, F.2 = gd := ⟨_, rfl⟩
      rw [hgd] at HGK
      rcases gd with _ | _
      · obtain ⟨x1', x2', x3', x4'⟩ := HG.out hgd
        have HZ : Hid (C = x0 ∧ M = x1 ∧ K = x2 ∧ V = rvsT j s.1 s.2) := ⟨x1', x2', x3', x4'⟩
        clear x1' x2' x3' x4' hgd HG HX HF HFE
        generalize rvsT j s.1 s.2 = L at *
        obtain ⟨A, z, rfl⟩ := own_slice_s HW.out.own
        have lc := Box.ld_rep HW.out.box
        have HSE : Hid (Sees wr wr.heap.size A (L.map Value.string)) := Lib.hid (Sees.of_own (n := L.length) (c := z) HW.out.own)
        have HFZ : Hid (Fresh9 w.heap.size A (L.map Value.string)) := Lib.hid (fresh_own (n := L.length) (c := z) HW.out.own)
        obtain ⟨wz, hst, hb, hg⟩ := HW.out.out.st_rep rfl x0 x1 x2 A L.length z
        have HBZ := Lib.hid hb
        have HRZ := Lib.hid (rrd_put HW.out.rd hg (Nat.lt_of_lt_of_le HW.out.ha (Nat.le_refl _)))
        have HGZ := Lib.hid (only_new HW.out.far hg (Nat.le_refl _))
        have HSZ := Lib.hid (sees_other HW.out.out zrep_nostr HSE.out hg)
        clear hb hg HW HSE
        go_wp2_with (go_at_call 59; (with_reducible refine (HGK.out).mono ?_); rintro e wg ⟨rfl, rfl⟩)
        obtain ⟨z1, z2, z3, z4⟩ := HZ.out
        subst z1 z2 z3 z4
        exact ret_rep rfl rfl rfl HBZ.out ⟨A, z, rfl, HSZ.out, HRZ.out, HGZ.out, HFZ.out⟩
      · obtain ⟨z1, z2, z3, z4⟩ := HX.out hgd
        have HZ : Hid (C = 0 ∧ M = 0 ∧ K = 0 ∧ V = []) := ⟨z1, z2, z3, z4⟩
        have hbd0 := bd_rep0 wr
        obtain ⟨wz, hst, hb, hg⟩ := HW.out.out.st_rep rfl 0 0 0 none 0 0
        have HBZ := Lib.hid hb
        have HRZ := Lib.hid (rrd_put HW.out.rd hg (Nat.lt_of_lt_of_le HW.out.ha (Nat.le_refl _)))
        have HGZ := Lib.hid (only_new HW.out.far hg (Nat.le_refl _))
        clear hb hg HW HX HG HF HFE hgd z1 z2 z3 z4
        go_wp2_with (go_at_call 59; (with_reducible refine (HGK.out).mono ?_); rintro e wg ⟨rfl, rfl⟩)
        obtain ⟨z1, z2, z3, z4⟩ := HZ.out
        exact ret_rep rfl rfl rfl HBZ.out ⟨none, 0, by rw [z1, z2, z3, z4]; rfl, .inl (by rw [z4]; rfl), HRZ.out, HGZ.out, .inl (by rw [z4]; rfl)⟩

end Go.Proofs.YtlogceoeodjeoaaDoor
