/-
  state.execute.
  state.Apply, state.New, state.Get, state.Last.
-/
import Derived.Test.YtbgbidgggjkmmaaGreatDoorStOper
import Derived.Deep.RegionHeld3
import Derived.Test.YtbgbidgggjkmmaaGreatDoorNB
namespace Go.Proofs.YtbgbidgggjkmmaaGreatDoor
open Go.RowKit Go.Sort

/-! ### Replies in memory, and plain -/
set_option maxRecDepth 100000 in
theorem look_map (c : Int) : ∀ l : List RepM, lookK RepX.client c (l.map RepM.x) = (lookK (fun r : RepM => r.x.client) c l).map RepM.x
  | [] => rfl
  | r :: l => by
    rw [List.map_cons, look_cons, look_cons, look_map c l]
    by_cases h : r.x.client = c
    · rw [if_pos h, if_pos h]; rfl
    · rw [if_neg h, if_neg h]
set_option maxRecDepth 100000 in
theorem put_map (r : RepM) : ∀ l : List RepM, (putK iLt (fun r : RepM => r.x.client) r l).map RepM.x = rPut r.x (l.map RepM.x)
  | [] => rfl
  | y :: l => by
    show _ = putK iLt RepX.client r.x (y.x :: l.map RepM.x)
    unfold putK
    by_cases h : iLt y.x.client r.x.client = true
    · rw [if_pos h, if_pos h, List.map_cons, put_map r l]
    · rw [if_neg h, if_neg h]
      by_cases h2 : y.x.client = r.x.client
      · rw [if_pos h2, if_pos h2]; rfl
      · rw [if_neg h2, if_neg h2]; rfl
set_option maxRecDepth 100000 in
theorem sorted_map {l : List RepM} (h : RS (l.map RepM.x)) : SortedK iLt (fun r : RepM => r.x.client) l := by
  unfold RS SortedK at h
  rw [List.pairwise_map] at h
  exact h

/-- What execute carries: the state's block, the request's, the result's, and the reply in the making. -/
structure Frm (w0 w : World) (b : Nat) (s0 : StM) : Prop where
  blk : ∀ k, k < w0.heap.size → k ≠ b → s0.pA.map Addr.block ≠ some k → s0.rA.map Addr.block ≠ some k → w.heap[k]? = w0.heap[k]?
set_option maxRecDepth 100000 in
theorem Frm.below {w0 w w' : World} {b : Nat} {s0 : StM} (h : Frm w0 w b s0) (hs : w0.heap.size ≤ w.heap.size) (hb : Below w.heap.size w w') : Frm w0 w' b s0 := ⟨fun k hk h1 h2 h3 => (hb.block k (Nat.lt_of_lt_of_le hk hs)).trans (h.blk k hk h1 h2 h3)⟩
set_option maxRecDepth 100000 in
theorem Frm.only {w0 w w' : World} {b : Nat} {s0 : StM} (h : Frm w0 w b s0) (hs : w0.heap.size ≤ w.heap.size) {o : Option Nat} (hg : w.grownBy w' o) (hn : ∀ q, o = some q → q = b ∨ w0.heap.size ≤ q ∨ s0.rA.map Addr.block = some q) : Frm w0 w' b s0 := ⟨fun k hk h1 h2 h3 => (hg.block k (Nat.lt_of_lt_of_le hk hs) (fun e => by
  rcases hn k e.symm with h4 | h4 | h4
  · exact h1 h4
  · omega
  · exact h3 h4)).trans (h.blk k hk h1 h2 h3)⟩
set_option maxRecDepth 100000 in
theorem Frm.twx {w0 w w' : World} {b : Nat} {s0 : StM} (h : Frm w0 w b s0) (hs : w0.heap.size ≤ w.heap.size) (ht : Twx w w' b s0.pA) : Frm w0 w' b s0 := ⟨fun k hk h1 h2 h3 => (ht.block k (Nat.lt_of_lt_of_le hk hs) h1 h2).trans (h.blk k hk h1 h2 h3)⟩
structure EX (s0 s : StM) (x : ReqX) (w0 : World) (base b hx hr m5 : Nat) (k : Int) (A : Option Addr) (m z : Nat) (w : World) : Prop where
  own : OwnB s w base b
  bx : Box w hx 56 x.cells.toArray
  br : Box w hr 36 (repv 0 0 0 none 0 0)
  ba : Box w m5 36 (repv x.client x.num k A m z)
  far : Below base w0 w
  gx : base ≤ hx
  gr : base ≤ hr
  ga : base ≤ m5
  ne : m5 ≠ hr
  ar : s.rA.map Addr.block ≠ some hr
  aa : s.rA.map Addr.block ≠ some m5
  fr : Frm w0 w b s0
  gh : w0.heap.size ≤ hr
  gm : w0.heap.size ≤ m5
  ra : ∀ q, s.rA.map Addr.block = some q → w0.heap.size ≤ q ∨ s0.rA.map Addr.block = some q
set_option maxRecDepth 100000 in
theorem OwnB.aside {s : StM} {w w' : World} {base b g : Nat} {cs : Array Value} (h : OwnB s w base b) (hb : Box w g 36 cs) (ha : s.rA.map Addr.block ≠ some g) (hg : w.grownBy w' (some g)) : OwnB s w' base b :=
  ⟨h.box.grown hg (fun e => Box.apart h.box hb (by decide) (by injection e)), ⟨own_box h.own.ps hb (by decide) hg, World.ownsRow.kept h.own.rs hg (.inr (by rw [own_blk]; exact ha)), fun r hr => own_box (h.own.vals r hr) hb (by decide) hg, own_box h.own.ms hb (by decide) hg⟩, h.hb⟩
section
variable {s0 s : StM} {x : ReqX} {w0 w w' : World} {base b hx hr m5 : Nat} {k : Int} {A : Option Addr} {m z : Nat}
set_option maxRecDepth 100000 in
theorem EX.call (h : EX s0 s x w0 base b hx hr m5 k A m z w) (hb : Below w.heap.size w w') : EX s0 s x w0 base b hx hr m5 k A m z w' :=
  ⟨h.own.call hb, h.bx.below hb h.bx.lt, h.br.below hb h.br.lt, h.ba.below hb h.ba.lt, h.own.far h.far hb, h.gx, h.gr, h.ga, h.ne, h.ar, h.aa, h.fr.below h.far.size hb, h.gh, h.gm, h.ra⟩
set_option maxRecDepth 100000 in
theorem EX.putA (h : EX s0 s x w0 base b hx hr m5 k A m z w) (hg : w.grownBy w' (some m5)) {k' : Int} {A' : Option Addr} {m' z' : Nat} (hb : Box w' m5 36 (repv x.client x.num k' A' m' z')) : EX s0 s x w0 base b hx hr m5 k' A' m' z' w' :=
  ⟨h.own.aside h.ba h.aa hg, h.bx.grown hg (fun e => Box.apart h.bx h.ba (by decide) (by injection e)), h.br.grown hg (fun e => h.ne (by injection e with e; exact e.symm)), hb, h.far.trans (below_only hg h.ga h.own.size), h.gx, h.gr, h.ga, h.ne, h.ar, h.aa, h.fr.only h.far.size hg (fun q e => .inr (.inl (by injection e with e; have := h.gm; omega))), h.gh, h.gm, h.ra⟩
set_option maxRecDepth 100000 in
theorem EX.code (h : EX s0 s x w0 base b hx hr m5 k A m z w) (u : Int) : EX s0 s x w0 base b hx hr m5 u A m z (w.setCell ⟨m5, 2, none⟩ (.int .i64 u)) := h.putA (only_put (only_refl _ _) 2 _) (h.ba.put 2 _)
set_option maxRecDepth 100000 in
theorem EX.vals (h : EX s0 s x w0 base b hx hr m5 k A m z w) (A' : Option Addr) (m' z' : Nat) : EX s0 s x w0 base b hx hr m5 k A' m' z' (w.setCell ⟨m5, 3, none⟩ (.slice A' m' z')) := h.putA (only_put (only_refl _ _) 3 _) (h.ba.put 3 _)
set_option maxRecDepth 100000 in
theorem EX.oper {s' : StM} (h : EX s s x w0 base b hx hr m5 k A m z w) (_hrs : s'.rs = s.rs) (ho : OwnB s' w' base b) (hf : Below base w w') (ht : Twx w w' b s.pA) (hrA : s'.rA = s.rA) : EX s s' x w0 base b hx hr m5 k A m z w' :=
  ⟨ho, ht.box h.bx (fun e => Box.apart h.bx h.own.box (by decide) e) (fun e => Box.own_ne h.bx h.own.own.ps (by decide) (by rw [own_blk]; exact e)), ht.box h.br (fun e => Box.apart h.br h.own.box (by decide) e) (fun e => Box.own_ne h.br h.own.own.ps (by decide) (by rw [own_blk]; exact e)), ht.box h.ba (fun e => Box.apart h.ba h.own.box (by decide) e) (fun e => Box.own_ne h.ba h.own.own.ps (by decide) (by rw [own_blk]; exact e)), h.far.trans hf, h.gx, h.gr, h.ga, h.ne, by rw [hrA]; exact h.ar, by rw [hrA]; exact h.aa, h.fr.twx h.far.size ht, h.gh, h.gm, by rw [hrA]; exact h.ra⟩
set_option maxRecDepth 100000 in
theorem EX.seeAA (h : EX s0 s x w0 base b hx hr m5 k A m z w) {v2 : Value} {vs : List ByteArray} (hs : SK.Own w base v2 vs) (c' : Int) (A' : Option Addr) (m' z' : Nat) : SK.Own ((w.setCell ⟨m5, 2, none⟩ (.int .i64 c')).setCell ⟨m5, 3, none⟩ (.slice A' m' z')) base v2 vs :=
  own_box (own_box hs h.ba (by decide) (only_put (only_refl _ _) 2 _)) (h.code c').ba (by decide) (only_put (only_refl _ _) 3 _)
set_option maxRecDepth 100000 in
/-- The result is stored. -/
theorem EX.fin (h : EX s0 s x w0 base b hx hr m5 k A m z w) (c' n' k' : Int) (A' : Option Addr) (m' z' : Nat) :
    ∃ w', (stRp (.pointer (some ⟨hr, 0, none⟩)) (.agg (repv c' n' k' A' m' z'))).run Tryz.prog w = .ok () w' ∧ Box w' hr 36 (repv c' n' k' A' m' z') ∧ OwnB s w' base b ∧ Below base w0 w' ∧ Frm w0 w' b s0 ∧ (∀ v2 (vs : List ByteArray), SK.Own w base v2 vs → SK.Own w' base v2 vs) := by
  obtain ⟨w', h1, h2, h3⟩ := h.br.s_rp rfl c' n' k' A' m' z'
  exact ⟨w', h1, h2, h.own.aside h.br h.ar h3, h.far.trans (below_only h3 h.gr h.own.size), h.fr.only h.far.size h3 (fun q e => .inr (.inl (by injection e with e; have := h.gh; omega))), fun v2 vs hs => own_box hs h.br (by decide) h3⟩
end
set_option maxRecDepth 100000 in
/-- A reply is stored into the row. -/
theorem OwnB.putR {s : StM} {w : World} {base b : Nat} (h : OwnB s w base b) {i : Nat} (hi : i < s.rs.length) (r : RepM) (hv : SK.Own w base (.slice r.A r.x.vals.length r.z) r.x.vals) :
    ∃ g w', s.rA = some ⟨g, 0, none⟩ ∧ (stRp (.pointer (some ⟨g, i * 4, none⟩)) (.agg (repv r.x.client r.x.num r.x.code r.A r.x.vals.length r.z))).run Tryz.prog w = .ok () w' ∧ OwnB { s with rs := s.rs.set i r } w' base b ∧ w.grownBy w' (some g) ∧ SK.Own w' base (.slice r.A r.x.vals.length r.z) r.x.vals := by
  obtain ⟨_, hcap, hmax, hsome⟩ := EK.Own.bounds h.own.rs
  obtain ⟨g, hA, hbg, hgw⟩ := hsome (by omega)
  have ho := h.own.rs
  rw [hA] at ho
  obtain ⟨h1, h2, h3⟩ := EK.Own.put (K := RK) ho hi r
  have h3' : w.grownBy (w.setCells g (i * RK.k) (RK.enc r)) (Value.slice s.rA s.rs.length s.rc).ownBlock := by rw [hA]; exact h3
  have hs : ∀ {vs : List ByteArray} {v : Value}, SK.Own w base v vs → SK.Own (w.setCells g (i * RK.k) (RK.enc r)) base v vs := fun hv => own_apart hv h.own.rs (by decide) h3'
  refine ⟨g, w.setCells g (i * RK.k) (RK.enc r), hA, h1, ⟨?_, ⟨own_apart h.own.ps h.own.rs (by decide) h3', ?_, fun q hq => ?_, own_apart h.own.ms h.own.rs (by decide) h3'⟩, h.hb⟩, h3, hs hv⟩
  · show Box _ b _ (stV _ _ _ s.rA (s.rs.set i r).length _ _ _ _ _)
    rw [List.length_set]
    exact box_own h.box h.own.rs (by decide) h3'
  · show RK.Own _ base (.slice s.rA (s.rs.set i r).length s.rc) _
    rw [List.length_set, hA]
    exact h2
  · rcases List.mem_or_eq_of_mem_set hq with hq | rfl
    · exact hs (h.own.vals q hq)
    · exact hs hv
set_option maxRecDepth 100000 in
theorem EX.putR {s0 s : StM} {x : ReqX} {w0 w w' : World} {base b hx hr m5 g : Nat} {k : Int} {A : Option Addr} {m z i : Nat} {r : RepM} (h : EX s0 s x w0 base b hx hr m5 k A m z w) (ho : OwnB { s with rs := s.rs.set i r } w' base b) (hA : s.rA = some ⟨g, 0, none⟩) (hg : w.grownBy w' (some g)) (hbg : base ≤ g) : EX s0 { s with rs := s.rs.set i r } x w0 base b hx hr m5 k A m z w' := by
  have e : s.rA.map Addr.block = some g := by rw [hA]; rfl
  have hg' : w.grownBy w' (Value.slice s.rA s.rs.length s.rc).ownBlock := by rw [own_blk, e]; exact hg
  exact ⟨ho, box_own h.bx h.own.own.rs (by decide) hg', h.br.grown hg (fun q => h.ar (by rw [e, q])), h.ba.grown hg (fun q => h.aa (by rw [e, q])), h.far.trans (below_only hg hbg h.own.size), h.gx, h.gr, h.ga, h.ne, h.ar, h.aa, h.fr.only h.far.size hg (fun q q2 => by
    injection q2 with q2
    subst q2
    exact .inr (h.ra g e)), h.gh, h.gm, h.ra⟩
set_option maxRecDepth 100000 in
/-- The replies' row has turned, and is stored. -/
theorem OwnB.reps {s : StM} {w w' : World} {base b : Nat} (h : OwnB s w base b) {rs : List RepM} {A : Option Addr} {c : Nat} (ho : RK.Own w' base (.slice A rs.length c) rs) (hg : w.grownBy w' (s.rA.map Addr.block)) (hv : ∀ r ∈ rs, SK.Own w base (.slice r.A r.x.vals.length r.z) r.x.vals) :
    Box w' b 28 s.cells ∧ OwnB { s with rs := rs, rA := A, rc := c } (w'.setCell ⟨b, 1, none⟩ (.slice A rs.length c)) base b ∧ Below base w (w'.setCell ⟨b, 1, none⟩ (.slice A rs.length c)) := by
  have hg' : w.grownBy w' (Value.slice s.rA s.rs.length s.rc).ownBlock := by rw [own_blk]; exact hg
  have hbx : Box w' b 28 s.cells := box_own h.box h.own.rs (by decide) hg'
  have hp : w'.grownBy (w'.setCell ⟨b, 1, none⟩ (.slice A rs.length c)) (some b) := only_put (only_refl _ _) 1 _
  have hf := below_own h.own.rs hg' h.size
  exact ⟨hbx, ⟨hbx.put 1 _, ⟨own_box (own_apart h.own.ps h.own.rs (by decide) hg') hbx (by decide) hp, own_box ho hbx (by decide) hp, fun r hr => own_box (own_apart (hv r hr) h.own.rs (by decide) hg') hbx (by decide) hp, own_box (own_apart h.own.ms h.own.rs (by decide) hg') hbx (by decide) hp⟩, h.hb⟩, hf.trans (below_only hp h.hb (Nat.le_trans h.size hf.size))⟩
def zrep : RepM := ⟨⟨0, 0, 0, []⟩, none, 0⟩
set_option maxRecDepth 100000 in
theorem EX.ins {s0 s : StM} {x : ReqX} {w0 w w' : World} {base b hx hr m5 : Nat} {k : Int} {A : Option Addr} {m z : Nat} (h : EX s0 s x w0 base b hx hr m5 k A m z w) {J c' : Nat} {A' : Option Addr} (hJ : J ≤ s.rs.length) (ho : RK.Own w' base (.slice A' (s.rs.length + 1) c') (s.rs.take J ++ zrep :: s.rs.drop J)) (hg : w.grownBy w' (s.rA.map Addr.block)) (hn : NewRow s.rA A' w.heap.size)
    {v2 : Value} {vs : List ByteArray} (hs : SK.Own w base v2 vs) :
    Box w' b 28 s.cells ∧ ∃ s8 : StM, s8.rs = s.rs.take J ++ zrep :: s.rs.drop J ∧ s8.pl = { s.pl with rs := s8.rs.map RepM.x } ∧ EX s0 s8 x w0 base b hx hr m5 k A m z (w'.setCell ⟨b, 1, none⟩ (.slice A' (s.rs.length + 1) c')) ∧ SK.Own (w'.setCell ⟨b, 1, none⟩ (.slice A' (s.rs.length + 1) c')) base v2 vs := by
  have hl : (s.rs.take J ++ zrep :: s.rs.drop J).length = s.rs.length + 1 := ins_len s.rs J hJ zrep
  have ho' := ho
  rw [← hl] at ho'
  obtain ⟨hb1, hb2, hb3⟩ := h.own.reps ho' hg (fun r hr => by
    rcases List.mem_append.1 hr with hr | hr
    · exact h.own.own.vals r (List.mem_of_mem_take hr)
    · rcases List.mem_cons.1 hr with rfl | hr
      · exact EK.own_nil SK _ _
      · exact h.own.own.vals r (List.mem_of_mem_drop hr))
  rw [hl] at hb2 hb3
  have hg' : w.grownBy w' (Value.slice s.rA s.rs.length s.rc).ownBlock := by rw [own_blk]; exact hg
  have hp : w'.grownBy (w'.setCell ⟨b, 1, none⟩ (.slice A' (s.rs.length + 1) c')) (some b) := only_put (only_refl _ _) 1 _
  obtain ⟨_, _, _, h4⟩ := EK.Own.bounds ho'
  obtain ⟨g', hA', _, _⟩ := h4 (by omega)
  have hnew : ∀ q, q < w.heap.size → s.rA.map Addr.block ≠ some q → A'.map Addr.block ≠ some q := fun q hq h1 e => by
    rw [hA'] at e
    simp only [Option.map_some, Option.some.injEq] at e
    subst e
    rcases hn g' hA' with h2 | h2
    · exact h1 h2
    · omega
  have hbx := box_own h.bx h.own.own.rs (by decide) hg'
  have hbr := h.br.grown hg (fun e => h.ar e.symm)
  have hba := h.ba.grown hg (fun e => h.aa e.symm)
  exact ⟨hb1, { s with rs := s.rs.take J ++ zrep :: s.rs.drop J, rA := A', rc := c' }, rfl, rfl, ⟨hb2, hbx.grown hp (fun e => Box.apart hbx hb1 (by decide) (by injection e)), hbr.grown hp (fun e => Box.apart hbr hb1 (by decide) (by injection e)), hba.grown hp (fun e => Box.apart hba hb1 (by decide) (by injection e)), h.far.trans hb3, h.gx, h.gr, h.ga, h.ne, hnew _ h.br.lt h.ar, hnew _ h.ba.lt h.aa, (h.fr.only h.far.size hg (fun q q2 => .inr (h.ra q q2))).only (Nat.le_trans h.far.size hg.size) hp (fun q e => .inl (by injection e with e; exact e.symm)), h.gh, h.gm, fun q q2 => by
    rw [hA'] at q2
    simp only [Option.map_some, Option.some.injEq] at q2
    subst q2
    rcases hn g' hA' with h2 | h2
    · exact h.ra g' h2
    · exact .inl (Nat.le_trans h.far.size h2)⟩, own_box (own_apart hs h.own.own.rs (by decide) hg') hb1 (by decide) hp⟩
set_option maxRecDepth 100000 in
theorem ins_set {α : Type} (L : List α) (J : Nat) (hJ : J ≤ L.length) (y x : α) : (L.take J ++ y :: L.drop J).set J x = L.take J ++ x :: L.drop J := by
  have hl : (L.take J).length = J := by rw [List.length_take]; omega
  rw [List.set_append_right _ _ (by omega), hl, Nat.sub_self]
  rfl
/-- What the region of the last store reads. -/
structure XS (H b m : Nat) (v : Value) (cs : Array Value) (w : World) : Prop where
  sz : H ≤ w.heap.size
  c1 : w.cell? ⟨b, 1, none⟩ = some v
  bx : Box w m 36 cs
set_option maxRecDepth 100000 in
theorem XS.call {H b m : Nat} {v : Value} {cs : Array Value} {w w' : World} (h : XS H b m v cs w) (hb : Below w.heap.size w w') : XS H b m v cs w' :=
  ⟨Nat.le_trans h.sz hb.size, (hb.cell (p := ⟨b, 1, none⟩) (block_lt_of_cell h.c1)).trans h.c1, h.bx.below hb h.bx.lt⟩
set_option maxRecDepth 100000 in
theorem bd_rp1 (c n : Int) (w : World) : (Instr.build 36 #[(0, .int .i64 c), (1, .int .i64 n)]).run Tryz.prog w = .ok (.agg (repv c n 0 none 0 0)) w := run_build w _ _ _ (by kernel_rfl)
set_option maxRecDepth 100000 in
theorem bd_rp00 (w : World) : (Instr.build 36 #[]).run Tryz.prog w = .ok (.agg (repv 0 0 0 none 0 0)) w := run_build w _ _ _ (by kernel_rfl)
noncomputable def ldOp (v : Value) : Sem Value := Instr.loadAt 54 v
set_option maxRecDepth 100000 in
theorem ldOp_def (v : Value) : Instr.loadAt 54 v = ldOp v := rfl
set_option maxRecDepth 100000 in
theorem op_list (x : ReqX) : (Tryz.prog.info? 54).map (·.size) = some (opL x).length := by
  rw [opL_len]
  kernel_rfl
set_option maxRecDepth 100000 in
theorem Box.l_op {w : World} {g : Nat} {t : TypeId} {x : ReqX} (h : Box w g t x.cells.toArray) : (ldOp (.pointer (some ⟨g, 2, none⟩))).run Tryz.prog w = .ok (.agg (opL x).toArray) w := by
  have e : x.cells = [Value.int .i64 x.client, .int .i64 x.num] ++ (opL x ++ []) := by rw [List.append_nil]; rfl
  have h' := h
  rw [e] at h'
  exact run_loadAt_mid (P := Tryz.prog) w g 2 54 (opL x) _ (Box.range_mid h' rfl) Tryz.underlying54 rfl (op_list x)

/-- What execute answers, and leaves. -/
def ExecPost (s : StM) (x : ReqX) (base b : Nat) (w : World) (e : Ending) (w' : World) : Prop :=
  ∃ (s' : StM) (a : RepX) (A : Option Addr) (z : Nat), e = .returned (.agg (repv a.client a.num a.code A a.vals.length z)) ∧ ExeIs s.pl x s'.pl a ∧ OwnB s' w' base b ∧ SK.Own w' base (.slice A a.vals.length z) a.vals ∧ Below base w w' ∧ Frm w w' b s ∧ (∀ q, s'.rA.map Addr.block = some q → w.heap.size ≤ q ∨ s.rA.map Addr.block = some q)

attribute [local go_sem ↓] ldRp_def stRp_def ldReq_def ldOp_def bsT_def

set_option maxRecDepth 100000 in
theorem rlook_yes {s : StM} {c : Int} {i : Nat} (hs : RS (s.rs.map RepM.x)) (h : Fnd iLt (fun r : RepM => r.x.client) s.rs c i true) : ∃ hi : i < s.rs.length, rLook c s.pl.rs = some (s.rs[i]'hi).x := by
  obtain ⟨hi, hl⟩ := h.look_yes iLt3 (sorted_map hs)
  refine ⟨hi, ?_⟩
  show lookK RepX.client c (s.rs.map RepM.x) = _
  rw [look_map, hl]
  rfl
set_option maxRecDepth 100000 in
theorem rlook_no {s : StM} {c : Int} {i : Nat} (hs : RS (s.rs.map RepM.x)) (h : Fnd iLt (fun r : RepM => r.x.client) s.rs c i false) : rLook c s.pl.rs = none := by
  show lookK RepX.client c (s.rs.map RepM.x) = _
  rw [look_map, h.look_no iLt3 (sorted_map hs)]
  rfl

set_option maxRecDepth 100000 in
set_option maxHeartbeats 4000000 in
theorem exec_bad (s : StM) (base b : Nat) (hfit : s.pl.Fits 100000) (hris : s.pl.Ris) (x : ReqX) (w : World) (h : OwnB s w base b) (hg : reqGood x = false) :
    Calls Tryz.prog 27 #[.pointer (some ⟨b, 0, none⟩), .agg x.cells.toArray] w (ExecPost s x base b w) := by
  obtain ⟨w1, hw1⟩ : ∃ w1, w1 = (w.alloc (.cells x.cells.toArray 56)).alloc (.cells (repv 0 0 0 none 0 0) 36) := ⟨_, rfl⟩
  have HX : Hid (Box w1 w.heap.size 56 x.cells.toArray) := by rw [hw1]; exact (Box.made w _ _).alloc _
  have HY : Hid (Box w1 (w.heap.size + 1) 36 (repv 0 0 0 none 0 0)) := by rw [hw1]; exact Box.made_at (by simp) _ _
  have hal : Below w.heap.size w w1 := by rw [hw1]; exact ((Below.refl _ _).alloc (Nat.le_refl _) _).alloc (by simp) _
  obtain ⟨w2, hst2, hb2, hbl2, _⟩ := laid_rp w1 (repv 0 0 0 none 0 0) rfl x.client x.num 0 none 0 0
  have hap : ∀ q, w.heap.size ≤ q → s.rA.map Addr.block ≠ some q := fun q hq e => by
    have := h.own.rs.lt q (by rw [own_blk]; exact e)
    omega
  have HE2 : Hid (EX s s x w base b w.heap.size (w.heap.size + 1) w1.heap.size 0 none 0 0 w2) := Lib.hid (by
    have h1 := h.size
    have h2 := HY.out.lt
    exact ⟨(h.call hal).call hbl2, HX.out.below hbl2 HX.out.lt, HY.out.below hbl2 HY.out.lt, hb2, (hal.mono h1).trans (hbl2.mono (by omega)), h1, by omega, by omega, by omega, hap _ (by omega), hap _ (by omega), ⟨fun k hk _ _ _ => (hbl2.block k (by omega)).trans (hal.block k hk)⟩, by omega, by omega, fun q e => .inr e⟩)
  have HRN : Hid (s.rs.length ≤ 200000) := Lib.hid (by have := hfit.rs; unfold StM.pl at this; simp only [List.length_map] at this; omega)
  have HVN : Hid (∀ r ∈ s.rs, r.x.vals.length ≤ 200000) := Lib.hid (fun r hr => by have := hfit.vals r.x (List.mem_map_of_mem hr); omega)
  have HFIT := Lib.hid hfit
  have HRIS : Hid (RS (s.rs.map RepM.x)) := Lib.hid hris.rs
  have HFN : Hid (Fnd iLt (fun r : RepM => r.x.client) s.rs x.client (rFindI s.rs x.client) (rFindB s.rs x.client)) := Lib.hid (find_fnd iLt (fun r : RepM => r.x.client) s.rs x.client)
  have HFC : Hid (∀ d os, Calls Tryz.prog 22 #[.slice s.rA s.rs.length s.rc, .int .i64 x.client] (grow (redrawn w2 d) os) fun e w'' => e = .returned (.tuple #[.int .i64 (rFindI s.rs x.client : Nat), .bool (rFindB s.rs x.client)]) ∧ ∃ p : Regrown, w'' = grow (redrawn w2 p.d) p.os) := Lib.hid (fun d os => Calls.regrown_of (rfind_any s.rs s.rA s.rc (by have := HRN.out; omega) x.client (grow (redrawn w2 d) os) (HE2.out.own.call (below_regrown w2 d os)).seeR))
  generalize rFindI s.rs x.client = J at *
  generalize rFindB s.rs x.client = B at *
  have c0 : w1.cell? ⟨w.heap.size, 0, none⟩ = some (.int .i64 x.client) := HX.out.rq_cell rfl
  have c1 : w1.cell? ⟨w.heap.size, 1, none⟩ = some (.int .i64 x.num) := HX.out.rq_cell rfl
  have hbd := bd_rp1 x.client x.num
  have QB := Lib.hid (fun d os => cell_regrown HE2.out.own.cell1 d os)
  have QC := Lib.hid (fun d os => cell_regrown (w := w2) (a := ⟨w.heap.size, 0, none⟩) (v := .int .i64 x.client) (HE2.out.bx.rq_cell rfl) d os)
  have HGD : Hid (∀ w', Calls Tryz.prog 37 #[.agg x.cells.toArray] w' fun e w'' => e = .returned (.bool (reqGood x)) ∧ Below w'.heap.size w' w'') := Lib.hid (fun w' => good_any9 x w')
  have HI : Hid (J ≤ s.rs.length) := Lib.hid HFN.out.le
  clear hal hb2 hbl2 hap h hfit hris HY
  rw [hg] at HGD
  have HG := Lib.hid hg
  clear hg
  go_enter Tryz.func27, Tryz.ntmps27
  go_upto_region 1 with fail
  change Code.wp _ _ _ _ ((w.alloc (.cells x.cells.toArray 56)).alloc (.cells (repv 0 0 0 none 0 0) 36))
  rw [← hw1]
  clear hw1
  go_upto_region 2 with fail
  clear c0 c1 hbd hst2 HX
  generalize w1.heap.size = m5 at *
  generalize w.heap.size + 1 = hr at *
  have q0 := QB.out
  have q1 := QC.out
  refine wp_region_quiet_below (by kernel_rfl) (by kernel_rfl) ?_
  repeat (quiet_step ((go_at_call 22; with_reducible exact HFC.out _ _)))
  refine wpQuiet_nil ?_
  intro _ hw'
  obtain ⟨⟨dq, osq⟩, hw''⟩ := hw'
  subst hw''
  clear q0 q1 HFC QB QC
  have HE3 := Lib.hid (HE2.out.call (below_regrown w2 dq osq))
  clear HE2
  generalize grow (redrawn w2 dq) osq = w3 at *
  have l3 := HE3.out.bx.ld_req
  go_wp2_with (go_at_call 37; (with_reducible refine (HGD.out _).mono ?_); rintro e w4 ⟨rfl, hb4⟩; have HE4 := Lib.hid (HE3.out.call hb4); clear hb4; have HE5 := Lib.hid (HE4.out.code 1); have f4 := HE4.out.ba.free 2; have c4 := HE4.out.ba.cell 2; have l5 := HE5.out.ba.l_rp; obtain ⟨w6, hst6, hb6, ho6, hf6, hm6, hs6⟩ := HE5.out.fin x.client x.num 1 none 0 0; have HB6 := Lib.hid hb6; have HO6 := Lib.hid ho6; have HF6 := Lib.hid hf6; have HM6 := Lib.hid hm6; clear hb6 ho6 hf6 hm6 hs6)
  refine retn_rp rfl rfl rfl HB6.out ⟨s, ⟨x.client, x.num, 1, []⟩, none, 0, rfl, ?_, HO6.out, see_nil10 _ _, HF6.out, HM6.out, fun q h => .inr h⟩
  unfold ExeIs
  rw [if_neg (by rw [HG.out]; decide)]
  exact ⟨rfl, rfl⟩

set_option maxRecDepth 100000 in
set_option maxHeartbeats 4000000 in
theorem exec_same (s : StM) (base b : Nat) (hfit : s.pl.Fits 100000) (hris : s.pl.Ris) (x : ReqX) (w : World) (h : OwnB s w base b) (hg : reqGood x = true) (r : RepX) (hl : rLook x.client s.pl.rs = some r) (hnum : r.num = x.num) :
    Calls Tryz.prog 27 #[.pointer (some ⟨b, 0, none⟩), .agg x.cells.toArray] w (ExecPost s x base b w) := by
  obtain ⟨w1, hw1⟩ : ∃ w1, w1 = (w.alloc (.cells x.cells.toArray 56)).alloc (.cells (repv 0 0 0 none 0 0) 36) := ⟨_, rfl⟩
  have HX : Hid (Box w1 w.heap.size 56 x.cells.toArray) := by rw [hw1]; exact (Box.made w _ _).alloc _
  have HY : Hid (Box w1 (w.heap.size + 1) 36 (repv 0 0 0 none 0 0)) := by rw [hw1]; exact Box.made_at (by simp) _ _
  have hal : Below w.heap.size w w1 := by rw [hw1]; exact ((Below.refl _ _).alloc (Nat.le_refl _) _).alloc (by simp) _
  obtain ⟨w2, hst2, hb2, hbl2, _⟩ := laid_rp w1 (repv 0 0 0 none 0 0) rfl x.client x.num 0 none 0 0
  have hap : ∀ q, w.heap.size ≤ q → s.rA.map Addr.block ≠ some q := fun q hq e => by
    have := h.own.rs.lt q (by rw [own_blk]; exact e)
    omega
  have HE2 : Hid (EX s s x w base b w.heap.size (w.heap.size + 1) w1.heap.size 0 none 0 0 w2) := Lib.hid (by
    have h1 := h.size
    have h2 := HY.out.lt
    exact ⟨(h.call hal).call hbl2, HX.out.below hbl2 HX.out.lt, HY.out.below hbl2 HY.out.lt, hb2, (hal.mono h1).trans (hbl2.mono (by omega)), h1, by omega, by omega, by omega, hap _ (by omega), hap _ (by omega), ⟨fun k hk _ _ _ => (hbl2.block k (by omega)).trans (hal.block k hk)⟩, by omega, by omega, fun q e => .inr e⟩)
  have HRN : Hid (s.rs.length ≤ 200000) := Lib.hid (by have := hfit.rs; unfold StM.pl at this; simp only [List.length_map] at this; omega)
  have HVN : Hid (∀ r ∈ s.rs, r.x.vals.length ≤ 200000) := Lib.hid (fun r hr => by have := hfit.vals r.x (List.mem_map_of_mem hr); omega)
  have HFIT := Lib.hid hfit
  have HRIS : Hid (RS (s.rs.map RepM.x)) := Lib.hid hris.rs
  have HFN : Hid (Fnd iLt (fun r : RepM => r.x.client) s.rs x.client (rFindI s.rs x.client) (rFindB s.rs x.client)) := Lib.hid (find_fnd iLt (fun r : RepM => r.x.client) s.rs x.client)
  have HFC : Hid (∀ d os, Calls Tryz.prog 22 #[.slice s.rA s.rs.length s.rc, .int .i64 x.client] (grow (redrawn w2 d) os) fun e w'' => e = .returned (.tuple #[.int .i64 (rFindI s.rs x.client : Nat), .bool (rFindB s.rs x.client)]) ∧ ∃ p : Regrown, w'' = grow (redrawn w2 p.d) p.os) := Lib.hid (fun d os => Calls.regrown_of (rfind_any s.rs s.rA s.rc (by have := HRN.out; omega) x.client (grow (redrawn w2 d) os) (HE2.out.own.call (below_regrown w2 d os)).seeR))
  generalize rFindI s.rs x.client = J at *
  generalize rFindB s.rs x.client = B at *
  have c0 : w1.cell? ⟨w.heap.size, 0, none⟩ = some (.int .i64 x.client) := HX.out.rq_cell rfl
  have c1 : w1.cell? ⟨w.heap.size, 1, none⟩ = some (.int .i64 x.num) := HX.out.rq_cell rfl
  have hbd := bd_rp1 x.client x.num
  have QB := Lib.hid (fun d os => cell_regrown HE2.out.own.cell1 d os)
  have QC := Lib.hid (fun d os => cell_regrown (w := w2) (a := ⟨w.heap.size, 0, none⟩) (v := .int .i64 x.client) (HE2.out.bx.rq_cell rfl) d os)
  have HGD : Hid (∀ w', Calls Tryz.prog 37 #[.agg x.cells.toArray] w' fun e w'' => e = .returned (.bool (reqGood x)) ∧ Below w'.heap.size w' w'') := Lib.hid (fun w' => good_any9 x w')
  have HI : Hid (J ≤ s.rs.length) := Lib.hid HFN.out.le
  clear hal hb2 hbl2 hap h hfit hris HY
  rw [hg] at HGD
  have HG := Lib.hid hg
  clear hg
  have HL := Lib.hid hl
  clear hl
  go_enter Tryz.func27, Tryz.ntmps27
  go_upto_region 1 with fail
  change Code.wp _ _ _ _ ((w.alloc (.cells x.cells.toArray 56)).alloc (.cells (repv 0 0 0 none 0 0) 36))
  rw [← hw1]
  clear hw1
  go_upto_region 2 with fail
  clear c0 c1 hbd hst2 HX
  generalize w1.heap.size = m5 at *
  generalize w.heap.size + 1 = hr at *
  have q0 := QB.out
  have q1 := QC.out
  refine wp_region_quiet_below (by kernel_rfl) (by kernel_rfl) ?_
  repeat (quiet_step ((go_at_call 22; with_reducible exact HFC.out _ _)))
  refine wpQuiet_nil ?_
  intro _ hw'
  obtain ⟨⟨dq, osq⟩, hw''⟩ := hw'
  subst hw''
  clear q0 q1 HFC QB QC
  have HE3 := Lib.hid (HE2.out.call (below_regrown w2 dq osq))
  clear HE2
  generalize grow (redrawn w2 dq) osq = w3 at *
  have l3 := HE3.out.bx.ld_req
  cases B
  · exfalso
    have := rlook_no HRIS.out HFN.out
    rw [HL.out] at this
    cases this
  obtain ⟨hJ, hlk⟩ := rlook_yes HRIS.out HFN.out
  have hr1 : r = (s.rs[J]'hJ).x := by
    rw [HL.out] at hlk
    injection hlk
  clear hlk
  go_upto_region 6 with (go_at_call 37; (with_reducible refine (HGD.out _).mono ?_); rintro e w4 ⟨rfl, hb4⟩; have HE4 := Lib.hid (HE3.out.call hb4); clear hb4)
  clear HE3 l3 HGD
  have c1 := HE4.out.own.cell1
  obtain ⟨g, o, hA, _, hrg⟩ := EK.See.range HE4.out.own.seeR hJ
  have cn : w4.cell? ⟨g, o + J * 4 + 1, none⟩ = some (.int .i64 (s.rs[J]'hJ).x.num) := RepM.range_num (hrg J hJ)
  have hnn : (s.rs[J]'hJ).x.num = x.num := by rw [← hr1]; exact hnum
  have cx : w4.cell? ⟨w.heap.size, 1, none⟩ = some (.int .i64 x.num) := HE4.out.bx.rq_cell rfl
  have i0 : (0 : Int) ≤ (J : Int) := by omega
  have i1 : (J : Int) < (s.rs.length : Int) := by omega
  rw [hnn] at cn
  rw [hA] at c1
  have e1 : (x.num == x.num) = true := by simp
  go_quiet (fail)
  have HE5 := Lib.hid (HE4.out.call (below_drewN (Below.refl _ _) nq))
  clear c1 cn cx hrg
  generalize w4.drewN nq = w5 at *
  have c1 := HE5.out.own.cell1
  obtain ⟨g2, o2, hA2, _, hrg⟩ := EK.See.range HE5.out.own.seeR hJ
  rw [hA] at hA2
  injection hA2 with hA2
  injection hA2 with e2 e3
  subst e2
  subst e3
  have lr := range_rp (w := w5) (hrg J hJ)
  have lr2 : (ldRp (.pointer (some ⟨g, o + J * 4, none⟩))).run Tryz.prog w5 = .ok (.agg (repv (s.rs[J]'hJ).x.client (s.rs[J]'hJ).x.num (s.rs[J]'hJ).x.code (s.rs[J]'hJ).A (s.rs[J]'hJ).x.vals.length (s.rs[J]'hJ).z)) w5 := lr
  rw [hA] at c1
  have HCR := Lib.hid (creply_any (s.rs[J]'hJ).x.client (s.rs[J]'hJ).x.num (s.rs[J]'hJ).x.code (s.rs[J]'hJ).x.vals (s.rs[J]'hJ).A (s.rs[J]'hJ).z (by have := HVN.out _ (List.getElem_mem hJ); omega) w5 (EK.Own.see (HE5.out.own.own.vals _ (List.getElem_mem hJ))))
  have HFINAL : Hid (ExeIs s.pl x s.pl (s.rs[J]'hJ).x) := Lib.hid (by
    unfold ExeIs
    rw [if_pos HG.out, HL.out]
    simp only []
    rw [if_pos hnum]
    exact ⟨by first | rfl | trivial, hr1.symm⟩)
  clear hr1 hnn hrg lr HE4
  generalize (s.rs[J]'hJ).x = rx at *
  go_wp2_with (go_at_call 23; (with_reducible refine (HCR.out).mono ?_); rintro e w6 ⟨A6, z6, rfl, ho6, hb6⟩; have HE6 := Lib.hid (HE5.out.call hb6); have HS6 := Lib.hid (EK.Own.base ho6 HE5.out.own.size); clear ho6 hb6; obtain ⟨w7, hst7, hb7, ho7, hf7, hm7, hs7⟩ := HE6.out.fin rx.client rx.num rx.code A6 rx.vals.length z6; have HB7 := Lib.hid hb7; have HO7 := Lib.hid ho7; have HF7 := Lib.hid hf7; have HS7 := Lib.hid (hs7 _ _ HS6.out); have HM7 := Lib.hid hm7; clear hb7 ho7 hf7 hm7 hs7)
  exact retn_rp rfl rfl rfl HB7.out ⟨s, rx, A6, z6, rfl, HFINAL.out, HO7.out, HS7.out, HF7.out, HM7.out, fun q h => .inr h⟩

set_option maxRecDepth 100000 in
set_option maxHeartbeats 4000000 in
theorem exec_old (s : StM) (base b : Nat) (hfit : s.pl.Fits 100000) (hris : s.pl.Ris) (x : ReqX) (w : World) (h : OwnB s w base b) (hg : reqGood x = true) (r : RepX) (hl : rLook x.client s.pl.rs = some r) (hnum : x.num < r.num) :
    Calls Tryz.prog 27 #[.pointer (some ⟨b, 0, none⟩), .agg x.cells.toArray] w (ExecPost s x base b w) := by
  obtain ⟨w1, hw1⟩ : ∃ w1, w1 = (w.alloc (.cells x.cells.toArray 56)).alloc (.cells (repv 0 0 0 none 0 0) 36) := ⟨_, rfl⟩
  have HX : Hid (Box w1 w.heap.size 56 x.cells.toArray) := by rw [hw1]; exact (Box.made w _ _).alloc _
  have HY : Hid (Box w1 (w.heap.size + 1) 36 (repv 0 0 0 none 0 0)) := by rw [hw1]; exact Box.made_at (by simp) _ _
  have hal : Below w.heap.size w w1 := by rw [hw1]; exact ((Below.refl _ _).alloc (Nat.le_refl _) _).alloc (by simp) _
  obtain ⟨w2, hst2, hb2, hbl2, _⟩ := laid_rp w1 (repv 0 0 0 none 0 0) rfl x.client x.num 0 none 0 0
  have hap : ∀ q, w.heap.size ≤ q → s.rA.map Addr.block ≠ some q := fun q hq e => by
    have := h.own.rs.lt q (by rw [own_blk]; exact e)
    omega
  have HE2 : Hid (EX s s x w base b w.heap.size (w.heap.size + 1) w1.heap.size 0 none 0 0 w2) := Lib.hid (by
    have h1 := h.size
    have h2 := HY.out.lt
    exact ⟨(h.call hal).call hbl2, HX.out.below hbl2 HX.out.lt, HY.out.below hbl2 HY.out.lt, hb2, (hal.mono h1).trans (hbl2.mono (by omega)), h1, by omega, by omega, by omega, hap _ (by omega), hap _ (by omega), ⟨fun k hk _ _ _ => (hbl2.block k (by omega)).trans (hal.block k hk)⟩, by omega, by omega, fun q e => .inr e⟩)
  have HRN : Hid (s.rs.length ≤ 200000) := Lib.hid (by have := hfit.rs; unfold StM.pl at this; simp only [List.length_map] at this; omega)
  have HVN : Hid (∀ r ∈ s.rs, r.x.vals.length ≤ 200000) := Lib.hid (fun r hr => by have := hfit.vals r.x (List.mem_map_of_mem hr); omega)
  have HFIT := Lib.hid hfit
  have HRIS : Hid (RS (s.rs.map RepM.x)) := Lib.hid hris.rs
  have HFN : Hid (Fnd iLt (fun r : RepM => r.x.client) s.rs x.client (rFindI s.rs x.client) (rFindB s.rs x.client)) := Lib.hid (find_fnd iLt (fun r : RepM => r.x.client) s.rs x.client)
  have HFC : Hid (∀ d os, Calls Tryz.prog 22 #[.slice s.rA s.rs.length s.rc, .int .i64 x.client] (grow (redrawn w2 d) os) fun e w'' => e = .returned (.tuple #[.int .i64 (rFindI s.rs x.client : Nat), .bool (rFindB s.rs x.client)]) ∧ ∃ p : Regrown, w'' = grow (redrawn w2 p.d) p.os) := Lib.hid (fun d os => Calls.regrown_of (rfind_any s.rs s.rA s.rc (by have := HRN.out; omega) x.client (grow (redrawn w2 d) os) (HE2.out.own.call (below_regrown w2 d os)).seeR))
  generalize rFindI s.rs x.client = J at *
  generalize rFindB s.rs x.client = B at *
  have c0 : w1.cell? ⟨w.heap.size, 0, none⟩ = some (.int .i64 x.client) := HX.out.rq_cell rfl
  have c1 : w1.cell? ⟨w.heap.size, 1, none⟩ = some (.int .i64 x.num) := HX.out.rq_cell rfl
  have hbd := bd_rp1 x.client x.num
  have QB := Lib.hid (fun d os => cell_regrown HE2.out.own.cell1 d os)
  have QC := Lib.hid (fun d os => cell_regrown (w := w2) (a := ⟨w.heap.size, 0, none⟩) (v := .int .i64 x.client) (HE2.out.bx.rq_cell rfl) d os)
  have HGD : Hid (∀ w', Calls Tryz.prog 37 #[.agg x.cells.toArray] w' fun e w'' => e = .returned (.bool (reqGood x)) ∧ Below w'.heap.size w' w'') := Lib.hid (fun w' => good_any9 x w')
  have HI : Hid (J ≤ s.rs.length) := Lib.hid HFN.out.le
  clear hal hb2 hbl2 hap h hfit hris HY
  rw [hg] at HGD
  have HG := Lib.hid hg
  clear hg
  have HL := Lib.hid hl
  clear hl
  go_enter Tryz.func27, Tryz.ntmps27
  go_upto_region 1 with fail
  change Code.wp _ _ _ _ ((w.alloc (.cells x.cells.toArray 56)).alloc (.cells (repv 0 0 0 none 0 0) 36))
  rw [← hw1]
  clear hw1
  go_upto_region 2 with fail
  clear c0 c1 hbd hst2 HX
  generalize w1.heap.size = m5 at *
  generalize w.heap.size + 1 = hr at *
  have q0 := QB.out
  have q1 := QC.out
  refine wp_region_quiet_below (by kernel_rfl) (by kernel_rfl) ?_
  repeat (quiet_step ((go_at_call 22; with_reducible exact HFC.out _ _)))
  refine wpQuiet_nil ?_
  intro _ hw'
  obtain ⟨⟨dq, osq⟩, hw''⟩ := hw'
  subst hw''
  clear q0 q1 HFC QB QC
  have HE3 := Lib.hid (HE2.out.call (below_regrown w2 dq osq))
  clear HE2
  generalize grow (redrawn w2 dq) osq = w3 at *
  have l3 := HE3.out.bx.ld_req
  cases B
  · exfalso
    have := rlook_no HRIS.out HFN.out
    rw [HL.out] at this
    cases this
  obtain ⟨hJ, hlk⟩ := rlook_yes HRIS.out HFN.out
  have hr1 : r = (s.rs[J]'hJ).x := by
    rw [HL.out] at hlk
    injection hlk
  have hnr : (s.rs[J]'hJ).x.num = r.num := by rw [hr1]
  clear hlk
  go_upto_region 6 with (go_at_call 37; (with_reducible refine (HGD.out _).mono ?_); rintro e w4 ⟨rfl, hb4⟩; have HE4 := Lib.hid (HE3.out.call hb4); clear hb4)
  clear HE3 l3 HGD
  have i0 : (0 : Int) ≤ (J : Int) := by omega
  have i1 : (J : Int) < (s.rs.length : Int) := by omega
  have e1 : (r.num == x.num) = false := by rw [beq_eq_false_iff_ne]; omega
  have e2 : decide (x.num < r.num) = true := decide_eq_true hnum
  have HFINAL : Hid (ExeIs s.pl x s.pl ⟨x.client, x.num, 8, []⟩) := Lib.hid (by
    unfold ExeIs
    rw [if_pos HG.out, HL.out]
    simp only []
    rw [if_neg (by omega), if_pos hnum]
    exact ⟨by first | rfl | trivial, by first | rfl | trivial⟩)
  have HNM := Lib.hid hnum
  clear hr1
  have c1 := HE4.out.own.cell1
  have cx : w4.cell? ⟨w.heap.size, 1, none⟩ = some (.int .i64 x.num) := HE4.out.bx.rq_cell rfl
  obtain ⟨g, o, hA, _, hrg⟩ := EK.See.range HE4.out.own.seeR hJ
  have cn : w4.cell? ⟨g, o + J * 4 + 1, none⟩ = some (.int .i64 (s.rs[J]'hJ).x.num) := RepM.range_num (hrg J hJ)
  rw [hnr] at cn
  rw [hA] at c1
  clear hrg
  go_quiet (fail)
  have HE5 := Lib.hid (HE4.out.call (below_drewN (Below.refl _ _) nq))
  clear HE4
  try clear c1 cn cx
  generalize w4.drewN nq = w5 at *
  go_upto_region 8 with fail
  have c1 := HE5.out.own.cell1
  have cx : w5.cell? ⟨w.heap.size, 1, none⟩ = some (.int .i64 x.num) := HE5.out.bx.rq_cell rfl
  obtain ⟨g2, o2, hA2, _, hrg⟩ := EK.See.range HE5.out.own.seeR hJ
  rw [hA] at hA2
  injection hA2 with hA2
  injection hA2 with e2 e3
  subst e2
  subst e3
  have cn : w5.cell? ⟨g, o + J * 4 + 1, none⟩ = some (.int .i64 (s.rs[J]'hJ).x.num) := RepM.range_num (hrg J hJ)
  rw [hnr] at cn
  rw [hA] at c1
  clear hrg
  go_quiet (fail)
  have HE6 := Lib.hid (HE5.out.call (below_drewN (Below.refl _ _) nq))
  clear HE5
  try clear c1 cn cx
  generalize w5.drewN nq = w6 at *
  have HE7 := Lib.hid (HE6.out.code 8)
  have f6 := HE6.out.ba.free 2
  have c6 := HE6.out.ba.cell 2
  have l7 := HE7.out.ba.l_rp
  obtain ⟨w8, hst8, hb8, ho8, hf8, hm8, hs8⟩ := HE7.out.fin x.client x.num 8 none 0 0
  have HB8 := Lib.hid hb8
  have HO8 := Lib.hid ho8
  have HF8 := Lib.hid hf8
  have HM8 := Lib.hid hm8
  clear hb8 ho8 hf8 hm8 hs8
  go_wp2
  exact retn_rp rfl rfl rfl HB8.out ⟨s, ⟨x.client, x.num, 8, []⟩, none, 0, rfl, HFINAL.out, HO8.out, see_nil10 _ _, HF8.out, HM8.out, fun q h => .inr h⟩

set_option maxRecDepth 100000 in
set_option maxHeartbeats 4000000 in
theorem exec_set (s : StM) (base b : Nat) (hfit : s.pl.Fits 100000) (hris : s.pl.Ris) (x : ReqX) (w : World) (h : OwnB s w base b) (hg : reqGood x = true) (r : RepX) (hl : rLook x.client s.pl.rs = some r) (hnum : r.num < x.num) (hop : ∀ w', OwnB s w' base b → Below base w w' → Calls Tryz.prog 38 #[.pointer (some ⟨b, 0, none⟩), .agg (opL x).toArray] w' (OperPost s x base b w')) :
    Calls Tryz.prog 27 #[.pointer (some ⟨b, 0, none⟩), .agg x.cells.toArray] w (ExecPost s x base b w) := by
  obtain ⟨w1, hw1⟩ : ∃ w1, w1 = (w.alloc (.cells x.cells.toArray 56)).alloc (.cells (repv 0 0 0 none 0 0) 36) := ⟨_, rfl⟩
  have HX : Hid (Box w1 w.heap.size 56 x.cells.toArray) := by rw [hw1]; exact (Box.made w _ _).alloc _
  have HY : Hid (Box w1 (w.heap.size + 1) 36 (repv 0 0 0 none 0 0)) := by rw [hw1]; exact Box.made_at (by simp) _ _
  have hal : Below w.heap.size w w1 := by rw [hw1]; exact ((Below.refl _ _).alloc (Nat.le_refl _) _).alloc (by simp) _
  obtain ⟨w2, hst2, hb2, hbl2, _⟩ := laid_rp w1 (repv 0 0 0 none 0 0) rfl x.client x.num 0 none 0 0
  have hap : ∀ q, w.heap.size ≤ q → s.rA.map Addr.block ≠ some q := fun q hq e => by
    have := h.own.rs.lt q (by rw [own_blk]; exact e)
    omega
  have HE2 : Hid (EX s s x w base b w.heap.size (w.heap.size + 1) w1.heap.size 0 none 0 0 w2) := Lib.hid (by
    have h1 := h.size
    have h2 := HY.out.lt
    exact ⟨(h.call hal).call hbl2, HX.out.below hbl2 HX.out.lt, HY.out.below hbl2 HY.out.lt, hb2, (hal.mono h1).trans (hbl2.mono (by omega)), h1, by omega, by omega, by omega, hap _ (by omega), hap _ (by omega), ⟨fun k hk _ _ _ => (hbl2.block k (by omega)).trans (hal.block k hk)⟩, by omega, by omega, fun q e => .inr e⟩)
  have HRN : Hid (s.rs.length ≤ 200000) := Lib.hid (by have := hfit.rs; unfold StM.pl at this; simp only [List.length_map] at this; omega)
  have HVN : Hid (∀ r ∈ s.rs, r.x.vals.length ≤ 200000) := Lib.hid (fun r hr => by have := hfit.vals r.x (List.mem_map_of_mem hr); omega)
  have HFIT := Lib.hid hfit
  have HRIS : Hid (RS (s.rs.map RepM.x)) := Lib.hid hris.rs
  have HFN : Hid (Fnd iLt (fun r : RepM => r.x.client) s.rs x.client (rFindI s.rs x.client) (rFindB s.rs x.client)) := Lib.hid (find_fnd iLt (fun r : RepM => r.x.client) s.rs x.client)
  have HFC : Hid (∀ d os, Calls Tryz.prog 22 #[.slice s.rA s.rs.length s.rc, .int .i64 x.client] (grow (redrawn w2 d) os) fun e w'' => e = .returned (.tuple #[.int .i64 (rFindI s.rs x.client : Nat), .bool (rFindB s.rs x.client)]) ∧ ∃ p : Regrown, w'' = grow (redrawn w2 p.d) p.os) := Lib.hid (fun d os => Calls.regrown_of (rfind_any s.rs s.rA s.rc (by have := HRN.out; omega) x.client (grow (redrawn w2 d) os) (HE2.out.own.call (below_regrown w2 d os)).seeR))
  generalize rFindI s.rs x.client = J at *
  generalize rFindB s.rs x.client = B at *
  have c0 : w1.cell? ⟨w.heap.size, 0, none⟩ = some (.int .i64 x.client) := HX.out.rq_cell rfl
  have c1 : w1.cell? ⟨w.heap.size, 1, none⟩ = some (.int .i64 x.num) := HX.out.rq_cell rfl
  have hbd := bd_rp1 x.client x.num
  have QB := Lib.hid (fun d os => cell_regrown HE2.out.own.cell1 d os)
  have QC := Lib.hid (fun d os => cell_regrown (w := w2) (a := ⟨w.heap.size, 0, none⟩) (v := .int .i64 x.client) (HE2.out.bx.rq_cell rfl) d os)
  have HGD : Hid (∀ w', Calls Tryz.prog 37 #[.agg x.cells.toArray] w' fun e w'' => e = .returned (.bool (reqGood x)) ∧ Below w'.heap.size w' w'') := Lib.hid (fun w' => good_any9 x w')
  have HI : Hid (J ≤ s.rs.length) := Lib.hid HFN.out.le
  clear hal hb2 hbl2 hap h hfit hris HY
  rw [hg] at HGD
  have HG := Lib.hid hg
  clear hg
  have HL := Lib.hid hl
  have hop := Lib.hid hop
  clear hl
  go_enter Tryz.func27, Tryz.ntmps27
  go_upto_region 1 with fail
  change Code.wp _ _ _ _ ((w.alloc (.cells x.cells.toArray 56)).alloc (.cells (repv 0 0 0 none 0 0) 36))
  rw [← hw1]
  clear hw1
  go_upto_region 2 with fail
  clear c0 c1 hbd hst2 HX
  generalize w1.heap.size = m5 at *
  generalize w.heap.size + 1 = hr at *
  have q0 := QB.out
  have q1 := QC.out
  refine wp_region_quiet_below (by kernel_rfl) (by kernel_rfl) ?_
  repeat (quiet_step ((go_at_call 22; with_reducible exact HFC.out _ _)))
  refine wpQuiet_nil ?_
  intro _ hw'
  obtain ⟨⟨dq, osq⟩, hw''⟩ := hw'
  subst hw''
  clear q0 q1 HFC QB QC
  have HE3 := Lib.hid (HE2.out.call (below_regrown w2 dq osq))
  clear HE2
  generalize grow (redrawn w2 dq) osq = w3 at *
  have l3 := HE3.out.bx.ld_req
  cases B
  · exfalso
    have := rlook_no HRIS.out HFN.out
    rw [HL.out] at this
    cases this
  obtain ⟨hJ, hlk⟩ := rlook_yes HRIS.out HFN.out
  have hr1 : r = (s.rs[J]'hJ).x := by
    rw [HL.out] at hlk
    injection hlk
  have hnr : (s.rs[J]'hJ).x.num = r.num := by rw [hr1]
  clear hlk
  go_upto_region 6 with (go_at_call 37; (with_reducible refine (HGD.out _).mono ?_); rintro e w4 ⟨rfl, hb4⟩; have HE4 := Lib.hid (HE3.out.call hb4); clear hb4)
  clear HE3 l3 HGD
  have i0 : (0 : Int) ≤ (J : Int) := by omega
  have i1 : (J : Int) < (s.rs.length : Int) := by omega
  have e1 : (r.num == x.num) = false := by rw [beq_eq_false_iff_ne]; omega
  have e2 : decide (x.num < r.num) = false := decide_eq_false (by omega)
  have HNM := Lib.hid hnum
  clear hr1
  have c1 := HE4.out.own.cell1
  have cx : w4.cell? ⟨w.heap.size, 1, none⟩ = some (.int .i64 x.num) := HE4.out.bx.rq_cell rfl
  obtain ⟨g, o, hA, _, hrg⟩ := EK.See.range HE4.out.own.seeR hJ
  have cn : w4.cell? ⟨g, o + J * 4 + 1, none⟩ = some (.int .i64 (s.rs[J]'hJ).x.num) := RepM.range_num (hrg J hJ)
  rw [hnr] at cn
  rw [hA] at c1
  clear hrg
  go_quiet (fail)
  have HE5 := Lib.hid (HE4.out.call (below_drewN (Below.refl _ _) nq))
  clear HE4
  try clear c1 cn cx
  generalize w4.drewN nq = w5 at *
  go_upto_region 8 with fail
  have c1 := HE5.out.own.cell1
  have cx : w5.cell? ⟨w.heap.size, 1, none⟩ = some (.int .i64 x.num) := HE5.out.bx.rq_cell rfl
  obtain ⟨g2, o2, hA2, _, hrg⟩ := EK.See.range HE5.out.own.seeR hJ
  rw [hA] at hA2
  injection hA2 with hA2
  injection hA2 with e2 e3
  subst e2
  subst e3
  have cn : w5.cell? ⟨g, o + J * 4 + 1, none⟩ = some (.int .i64 (s.rs[J]'hJ).x.num) := RepM.range_num (hrg J hJ)
  rw [hnr] at cn
  rw [hA] at c1
  clear hrg
  go_quiet (fail)
  have HE6 := Lib.hid (HE5.out.call (below_drewN (Below.refl _ _) nq))
  clear HE5
  try clear c1 cn cx
  generalize w5.drewN nq = w6 at *
  have lo := HE6.out.bx.l_op
  have HOP := Lib.hid (hop.out w6 HE6.out.own HE6.out.far)
  go_upto_region 12 with (go_at_call 38; (with_reducible refine (HOP.out).mono ?_); rintro e w7 ⟨s7, c7, vs7, A7, z7, rfl, hoi7, hrs7, ho7, hs7, hf7, ht7⟩; have HOI := Lib.hid hoi7; have HRS7 := Lib.hid hrs7; have HE7 := Lib.hid (HE6.out.oper hrs7.1 ho7 hf7 ht7 hrs7.2); have HS7 := Lib.hid hs7; clear hoi7 hrs7 ho7 hs7 hf7 ht7; have HE8 := Lib.hid (HE7.out.code c7); have HE9 := Lib.hid (HE8.out.vals A7 vs7.length z7); have f7 := HE7.out.ba.free 2; have k7 := HE7.out.ba.cell 2; have f8 := HE8.out.ba.free 3; have k8 := HE8.out.ba.cell 3; have HS9 := Lib.hid (HE7.out.seeAA HS7.out c7 A7 vs7.length z7))
  clear lo HOP HE6
  generalize (w7.setCell ⟨m5, 2, none⟩ (.int .i64 c7)).setCell ⟨m5, 3, none⟩ (.slice A7 vs7.length z7) = w9 at *
  clear f7 k7 f8 k8 HE7 HE8 HS7
  have hJ7 : J < s7.rs.length := by rw [HRS7.out.1]; exact hJ
  obtain ⟨_, hcap7, hmax7, hsome7⟩ := EK.Own.bounds HE9.out.own.own.rs
  obtain ⟨g7, hA7, hbg7, hgw7⟩ := hsome7 (by omega)
  have HG7 := Lib.hid (And.intro hA7 hbg7)
  have i7 : (J : Int) < (s7.rs.length : Int) := by omega
  have HCP : Hid (∀ w', EX s s7 x w base b w.heap.size hr m5 c7 A7 vs7.length z7 w' → SK.Own w' base (.slice A7 vs7.length z7) vs7 → True) := Lib.hid (fun _ _ _ => trivial)
  clear HCP hcap7 hmax7 hsome7 hgw7
  have HVL : Hid (vs7.length ≤ 8796093022000) := Lib.hid (by have := (HOI.out.fits HFIT.out).2; omega)
  have HCP : Hid (∀ w', EX s s7 x w base b w.heap.size hr m5 c7 A7 vs7.length z7 w' ∧ SK.Own w' base (.slice A7 vs7.length z7) vs7 → Calls Tryz.prog 23 #[.agg (repv x.client x.num c7 A7 vs7.length z7)] w' fun e w'' => ∃ A' z', e = .returned (.agg (repv x.client x.num c7 A' vs7.length z')) ∧ SK.Own w'' w'.heap.size (.slice A' vs7.length z') vs7 ∧ Below w'.heap.size w' w'') := Lib.hid (fun w' h => creply_any x.client x.num c7 vs7 A7 z7 HVL.out w' (EK.Own.see h.2))
  have HPUT : Hid (∀ w', EX s s7 x w base b w.heap.size hr m5 c7 A7 vs7.length z7 w' → ∀ A6 z6, SK.Own w' base (.slice A6 vs7.length z6) vs7 → SK.Own w' base (.slice A7 vs7.length z7) vs7 →
      ∃ (w'' : World) (s9 : StM), (stRp (.pointer (some ⟨g7, J * 4, none⟩)) (.agg (repv x.client x.num c7 A6 vs7.length z6))).run Tryz.prog w' = .ok () w'' ∧ (EX s s9 x w base b w.heap.size hr m5 c7 A7 vs7.length z7 w'' ∧ w'.heap.size ≤ w''.heap.size) ∧ SK.Own w'' base (.slice A7 vs7.length z7) vs7 ∧ s9.pl = { s7.pl with rs := (s7.rs.set J ⟨⟨x.client, x.num, c7, vs7⟩, A6, z6⟩).map RepM.x } ∧ Value.slice s9.rA s9.rs.length s9.rc = .slice (some ⟨g7, 0, none⟩) s7.rs.length s7.rc) := Lib.hid (fun w' h A6 z6 ho hs => by
    obtain ⟨g8, w8, hA8, hr8, ho8, hg8, _⟩ := h.own.putR (i := J) (by omega) ⟨⟨x.client, x.num, c7, vs7⟩, A6, z6⟩ ho
    have e8 : g8 = g7 := by
      rw [hA7] at hA8
      injection hA8 with hA8
      injection hA8 with hA8
      exact hA8.symm
    subst e8
    have hg8' : w'.grownBy w8 (Value.slice s7.rA s7.rs.length s7.rc).ownBlock := by rw [own_blk, hA7]; exact hg8
    exact ⟨w8, _, hr8, ⟨h.putR ho8 hA7 hg8 hbg7, hg8.size⟩, own_apart hs h.own.own.rs (by decide) hg8', rfl, by show Value.slice s7.rA (s7.rs.set _ _).length _ = _; rw [List.length_set, hA7]⟩)
  clear hbg7
  have HXS : Hid (XS w9.heap.size b m5 (.slice (some ⟨g7, 0, none⟩) s7.rs.length s7.rc) (repv x.client x.num c7 A7 vs7.length z7) w9.drew) := Lib.hid ⟨Nat.le_refl _, by rw [← hA7]; exact HE9.out.own.cell1, HE9.out.ba⟩
  have HED0 := Lib.hid (HE9.out.call ((Below.refl _ _).drew))
  have HSD := Lib.hid (EK.Own.keep HS9.out ((Below.refl _ _).drew))
  have HED := Lib.hid (And.intro HED0.out HSD.out)
  have hu47 := Tryz.underlying36
  clear HE9 HS9 hA7 HED0
  go_upto_region 14 with fail
  refine wp_region_held_drew (S := fun w' => XS w9.heap.size b m5 (.slice (some ⟨g7, 0, none⟩) s7.rs.length s7.rc) (repv x.client x.num c7 A7 vs7.length z7) w') (by kernel_rfl) HXS.out (fun hS => ?_)
  clear HXS
  generalize w9.drew = wd at *
  (refine wpAnyH_take (i := 0) (v := .pointer (some ⟨b, 0, none⟩)) rfl (by kernel_rfl) (by kernel_rfl) (by kernel_rfl) (fun _ _ _ h => h) (Or.inl ⟨by kernel_rfl, fun w hSw => by go_simp⟩) hS ?_)
  (try simp only [Act.put])
  (refine wpAnyH_take (i := 1) (v := .pointer (some ⟨b, 0, none⟩)) rfl (by kernel_rfl) (by kernel_rfl) (by kernel_rfl) (fun _ _ _ h => h) (Or.inl ⟨by kernel_rfl, fun w hSw => by go_simp⟩) hS ?_)
  (try simp only [Act.put])
  (refine wpAnyH_take (i := 2) (v := .pointer (some ⟨b, 1, none⟩)) rfl (by kernel_rfl) (by kernel_rfl) (by kernel_rfl) (fun _ _ _ h => h) (Or.inl ⟨by kernel_rfl, fun w hSw => by go_simp⟩) hS ?_)
  (try simp only [Act.put])
  (refine wpAnyH_take (i := 3) (v := .slice (some ⟨g7, 0, none⟩) s7.rs.length s7.rc) rfl (by kernel_rfl) (by kernel_rfl) (by kernel_rfl) (fun _ _ _ h => h) (Or.inl ⟨by kernel_rfl, fun w hSw => by have hc := XS.c1 hSw; go_simp⟩) hS ?_)
  (try simp only [Act.put])
  (refine wpAnyH_take (i := 4) (v := .int .i64 (J : Int)) rfl (by kernel_rfl) (by kernel_rfl) (by kernel_rfl) (fun _ _ _ h => h) (Or.inl ⟨by kernel_rfl, fun w hSw => by go_simp⟩) hS ?_)
  (try simp only [Act.put])
  (refine wpAnyH_take (i := 5) (v := .agg (repv x.client x.num c7 A7 vs7.length z7)) rfl (by kernel_rfl) (by kernel_rfl) (by kernel_rfl) (fun _ _ _ h => h) (yieldsIf_load_mid (by kernel_rfl) 36 (.tmp 5) rfl m5 (0) (by kernel_rfl) ((repv x.client x.num c7 A7 vs7.length z7).toList) _ (fun w hSw => Box.range (XS.bx hSw)) hu47 rfl (rp_list x.client x.num c7 A7 vs7.length z7)) hS ?_)
  (try simp only [Act.put])
  refine wpAnyH_ready (rs := [6]) (by decide +kernel) (by simp) (AllReadyH.cons rfl (fun K hK => ?_) AllReadyH.nil)
  go_simp
  (go_at_call 23; (with_reducible refine (HCP.out _ HED.out).mono ?_); rintro e u6 ⟨A6, z6, rfl, ho, hb⟩)
  have HSZ := Lib.hid hS.sz
  have HO6 := Lib.hid (EK.Own.base ho HED.out.1.own.size)
  have HE10 := Lib.hid (HED.out.1.call hb)
  have HS10 := Lib.hid (EK.Own.keep HED.out.2 hb)
  clear ho HED HSD
  refine hK.out _ _ (hS.call hb) (fun hS => ?_)
  clear hK K hb HSZ
  (try simp only [Act.put])
  (refine wpAnyH_take (i := 7) (v := .pointer (some ⟨g7, J * 4, none⟩)) rfl (by kernel_rfl) (by kernel_rfl) (by kernel_rfl) (fun _ _ _ h => h) (Or.inl ⟨by kernel_rfl, fun w hSw => by go_simp⟩) hS ?_)
  (try simp only [Act.put])
  refine wpAnyH_ready (rs := [8]) (by decide +kernel) (by simp) (AllReadyH.cons rfl (fun K hK => ?_) AllReadyH.nil)
  obtain ⟨u8, s9, hst, he9, hs9, hrs9, hps9⟩ := HPUT.out _ HE10.out A6 z6 HO6.out HS10.out
  have hS2 := XS.mk (Nat.le_trans hS.sz he9.2) (he9.1.own.cell1.trans (by rw [hps9])) he9.1.ba
  go_simp
  refine hK.out _ _ hS2 (fun hS => ?_)
  clear hK K hS2
  (try simp only [Act.put])
  have HE11 := Lib.hid he9.1
  have HS11 := Lib.hid hs9
  have HR9 := Lib.hid hrs9
  clear hst he9 hs9 hrs9 hps9 HE10 HS10 HO6
  refine wpAnyH_done (by kernel_rfl) ?_ _
  have HEND := Lib.hid hS
  clear hS HCP HPUT
  go_simp
  have l12 := HE11.out.ba.l_rp
  obtain ⟨w12, hst12, hb12, ho12, hf12, hm12, hs12⟩ := HE11.out.fin x.client x.num c7 A7 vs7.length z7
  have HB12 := Lib.hid hb12
  have HFINAL : Hid (ExecPost s x base b w (.returned (.agg (repv x.client x.num c7 A7 vs7.length z7))) w12) := Lib.hid (by
    refine ⟨s9, ⟨x.client, x.num, c7, vs7⟩, A7, z7, rfl, ?_, ho12, hs12 _ _ HS11.out, hf12, hm12, HE11.out.ra⟩
    unfold ExeIs
    rw [if_pos HG.out, HL.out]
    simp only []
    rw [if_neg (by have := HNM.out; omega), if_neg (by have := HNM.out; omega)]
    refine ⟨s7.pl, c7, vs7, HOI.out, rfl, ?_⟩
    rw [HR9.out]
    show (StX.mk s7.ps ((s7.rs.set J _).map RepM.x) s7.ep s7.ms) = StX.mk s7.ps (rPut _ (s7.rs.map RepM.x)) s7.ep s7.ms
    rw [HRS7.out.1]
    have hp := HFN.out.put_yes iLt3 (sorted_map HRIS.out) (x := (⟨⟨x.client, x.num, c7, vs7⟩, A6, z6⟩ : RepM)) rfl
    rw [hp, put_map])
  clear hb12 ho12 hf12 hm12 hs12
  go_wp2
  exact retn_rp rfl rfl rfl HB12.out HFINAL.out

set_option maxRecDepth 100000 in
set_option maxHeartbeats 4000000 in
theorem exec_new (s : StM) (base b : Nat) (hfit : s.pl.Fits 100000) (hris : s.pl.Ris) (x : ReqX) (w : World) (h : OwnB s w base b) (hg : reqGood x = true) (hl : rLook x.client s.pl.rs = none) (hop : ∀ w', OwnB s w' base b → Below base w w' → Calls Tryz.prog 38 #[.pointer (some ⟨b, 0, none⟩), .agg (opL x).toArray] w' (OperPost s x base b w')) :
    Calls Tryz.prog 27 #[.pointer (some ⟨b, 0, none⟩), .agg x.cells.toArray] w (ExecPost s x base b w) := by
  obtain ⟨w1, hw1⟩ : ∃ w1, w1 = (w.alloc (.cells x.cells.toArray 56)).alloc (.cells (repv 0 0 0 none 0 0) 36) := ⟨_, rfl⟩
  have HX : Hid (Box w1 w.heap.size 56 x.cells.toArray) := by rw [hw1]; exact (Box.made w _ _).alloc _
  have HY : Hid (Box w1 (w.heap.size + 1) 36 (repv 0 0 0 none 0 0)) := by rw [hw1]; exact Box.made_at (by simp) _ _
  have hal : Below w.heap.size w w1 := by rw [hw1]; exact ((Below.refl _ _).alloc (Nat.le_refl _) _).alloc (by simp) _
  obtain ⟨w2, hst2, hb2, hbl2, _⟩ := laid_rp w1 (repv 0 0 0 none 0 0) rfl x.client x.num 0 none 0 0
  have hap : ∀ q, w.heap.size ≤ q → s.rA.map Addr.block ≠ some q := fun q hq e => by
    have := h.own.rs.lt q (by rw [own_blk]; exact e)
    omega
  have HE2 : Hid (EX s s x w base b w.heap.size (w.heap.size + 1) w1.heap.size 0 none 0 0 w2) := Lib.hid (by
    have h1 := h.size
    have h2 := HY.out.lt
    exact ⟨(h.call hal).call hbl2, HX.out.below hbl2 HX.out.lt, HY.out.below hbl2 HY.out.lt, hb2, (hal.mono h1).trans (hbl2.mono (by omega)), h1, by omega, by omega, by omega, hap _ (by omega), hap _ (by omega), ⟨fun k hk _ _ _ => (hbl2.block k (by omega)).trans (hal.block k hk)⟩, by omega, by omega, fun q e => .inr e⟩)
  have HRN : Hid (s.rs.length ≤ 200000) := Lib.hid (by have := hfit.rs; unfold StM.pl at this; simp only [List.length_map] at this; omega)
  have HVN : Hid (∀ r ∈ s.rs, r.x.vals.length ≤ 200000) := Lib.hid (fun r hr => by have := hfit.vals r.x (List.mem_map_of_mem hr); omega)
  have HFIT := Lib.hid hfit
  have HRIS : Hid (RS (s.rs.map RepM.x)) := Lib.hid hris.rs
  have HFN : Hid (Fnd iLt (fun r : RepM => r.x.client) s.rs x.client (rFindI s.rs x.client) (rFindB s.rs x.client)) := Lib.hid (find_fnd iLt (fun r : RepM => r.x.client) s.rs x.client)
  have HFC : Hid (∀ d os, Calls Tryz.prog 22 #[.slice s.rA s.rs.length s.rc, .int .i64 x.client] (grow (redrawn w2 d) os) fun e w'' => e = .returned (.tuple #[.int .i64 (rFindI s.rs x.client : Nat), .bool (rFindB s.rs x.client)]) ∧ ∃ p : Regrown, w'' = grow (redrawn w2 p.d) p.os) := Lib.hid (fun d os => Calls.regrown_of (rfind_any s.rs s.rA s.rc (by have := HRN.out; omega) x.client (grow (redrawn w2 d) os) (HE2.out.own.call (below_regrown w2 d os)).seeR))
  generalize rFindI s.rs x.client = J at *
  generalize rFindB s.rs x.client = B at *
  have c0 : w1.cell? ⟨w.heap.size, 0, none⟩ = some (.int .i64 x.client) := HX.out.rq_cell rfl
  have c1 : w1.cell? ⟨w.heap.size, 1, none⟩ = some (.int .i64 x.num) := HX.out.rq_cell rfl
  have hbd := bd_rp1 x.client x.num
  have QB := Lib.hid (fun d os => cell_regrown HE2.out.own.cell1 d os)
  have QC := Lib.hid (fun d os => cell_regrown (w := w2) (a := ⟨w.heap.size, 0, none⟩) (v := .int .i64 x.client) (HE2.out.bx.rq_cell rfl) d os)
  have HGD : Hid (∀ w', Calls Tryz.prog 37 #[.agg x.cells.toArray] w' fun e w'' => e = .returned (.bool (reqGood x)) ∧ Below w'.heap.size w' w'') := Lib.hid (fun w' => good_any9 x w')
  have HI : Hid (J ≤ s.rs.length) := Lib.hid HFN.out.le
  clear hal hb2 hbl2 hap h hfit hris HY
  rw [hg] at HGD
  have HG := Lib.hid hg
  clear hg
  have HL := Lib.hid hl
  have hop := Lib.hid hop
  clear hl
  go_enter Tryz.func27, Tryz.ntmps27
  go_upto_region 1 with fail
  change Code.wp _ _ _ _ ((w.alloc (.cells x.cells.toArray 56)).alloc (.cells (repv 0 0 0 none 0 0) 36))
  rw [← hw1]
  clear hw1
  go_upto_region 2 with fail
  clear c0 c1 hbd hst2 HX
  generalize w1.heap.size = m5 at *
  generalize w.heap.size + 1 = hr at *
  have q0 := QB.out
  have q1 := QC.out
  refine wp_region_quiet_below (by kernel_rfl) (by kernel_rfl) ?_
  repeat (quiet_step ((go_at_call 22; with_reducible exact HFC.out _ _)))
  refine wpQuiet_nil ?_
  intro _ hw'
  obtain ⟨⟨dq, osq⟩, hw''⟩ := hw'
  subst hw''
  clear q0 q1 HFC QB QC
  have HE3 := Lib.hid (HE2.out.call (below_regrown w2 dq osq))
  clear HE2
  generalize grow (redrawn w2 dq) osq = w3 at *
  have l3 := HE3.out.bx.ld_req
  cases B
  rotate_left
  · exfalso
    obtain ⟨_, hlk⟩ := rlook_yes HRIS.out HFN.out
    rw [HL.out] at hlk
    cases hlk
  go_upto_region 6 with (go_at_call 37; (with_reducible refine (HGD.out _).mono ?_); rintro e w4 ⟨rfl, hb4⟩; have HE4 := Lib.hid (HE3.out.call hb4); clear hb4)
  clear HE3 l3 HGD
  go_quiet (fail)
  have HE5 := Lib.hid (HE4.out.call (below_drewN (Below.refl _ _) nq))
  clear HE4
  generalize w4.drewN nq = w5 at *
  go_upto_region 8 with fail
  go_quiet (fail)
  have HE6 := Lib.hid (HE5.out.call (below_drewN (Below.refl _ _) nq))
  clear HE5
  generalize w5.drewN nq = w6 at *
  have lo := HE6.out.bx.l_op
  have HOP := Lib.hid (hop.out w6 HE6.out.own HE6.out.far)
  go_upto_region 12 with (go_at_call 38; (with_reducible refine (HOP.out).mono ?_); rintro e w7 ⟨s7, c7, vs7, A7, z7, rfl, hoi7, hrs7, ho7, hs7, hf7, ht7⟩; have HOI := Lib.hid hoi7; have HRS7 := Lib.hid hrs7; have HE7 := Lib.hid (HE6.out.oper hrs7.1 ho7 hf7 ht7 hrs7.2); have HS7 := Lib.hid hs7; clear hoi7 hrs7 ho7 hs7 hf7 ht7; have HE8 := Lib.hid (HE7.out.code c7); have HE9 := Lib.hid (HE8.out.vals A7 vs7.length z7); have f7 := HE7.out.ba.free 2; have k7 := HE7.out.ba.cell 2; have f8 := HE8.out.ba.free 3; have k8 := HE8.out.ba.cell 3; have HS9 := Lib.hid (HE7.out.seeAA HS7.out c7 A7 vs7.length z7))
  clear lo HOP HE6
  generalize (w7.setCell ⟨m5, 2, none⟩ (.int .i64 c7)).setCell ⟨m5, 3, none⟩ (.slice A7 vs7.length z7) = w9 at *
  clear f7 k7 f8 k8 HE7 HE8 HS7
  have c9 := HE9.out.own.cell1
  have hz := bd_rp00
  have hbs : (bsT 23 1 #[(0, .agg (repv 0 0 0 none 0 0))]).run Tryz.prog w9 = .ok (.slice (some ⟨w9.heap.size, 0, none⟩) 1 1) (w9.alloc (.cells (repv 0 0 0 none 0 0) 36)) := RK.build1 zrep _ rfl (by decide) w9
  have hal : Below w9.heap.size w9 (w9.alloc (.cells (repv 0 0 0 none 0 0) 36)) := (Below.refl _ _).alloc (Nat.le_refl _) _
  have HE9a := Lib.hid (HE9.out.call hal)
  have HS9a := Lib.hid (EK.Own.keep HS9.out hal)
  have HX9 : Hid (Box (w9.alloc (.cells (repv 0 0 0 none 0 0) 36)) w9.heap.size 36 (RK.enc zrep).toArray) := Lib.hid (Box.made _ _ _)
  have HJ7 : Hid (J ≤ s7.rs.length) := Lib.hid (by rw [HRS7.out.1]; exact HI.out)
  have HIN := Lib.hid (insert_r s7.rs s7.rA s7.rc J HJ7.out (by rw [HRS7.out.1]; have := HRN.out; omega) zrep w9.heap.size base _ HE9a.out.own.own.rs HX9.out (fun g e => by
    have := HE9.out.own.own.rs.lt g (by rw [e]; rfl)
    omega) HE9a.out.own.size)
  have c9a : (w9.alloc (.cells (repv 0 0 0 none 0 0) 36)).cell? ⟨b, 1, none⟩ = some (.slice s7.rA s7.rs.length s7.rc) := HE9a.out.own.cell1
  have HINS : Hid (∀ w' A' c', RK.Own w' base (.slice A' (s7.rs.length + 1) c') (s7.rs.take J ++ zrep :: s7.rs.drop J) → (w9.alloc (.cells (repv 0 0 0 none 0 0) 36)).grownBy w' (s7.rA.map Addr.block) → NewRow s7.rA A' (w9.alloc (.cells (repv 0 0 0 none 0 0) 36)).heap.size → _) := Lib.hid (fun w' A' c' h1 h2 h3 => HE9a.out.ins HJ7.out h1 h2 h3 HS9a.out)
  clear hal HX9 HE9 HS9
  go_upto_region 14 with (go_at_call 39; (with_reducible refine (HIN.out).mono ?_); rintro e w10 ⟨A8, c8, rfl, ho8, hg8, hn8⟩; obtain ⟨hb8, s8, hr8, hp8, he8, hs8⟩ := HINS.out w10 A8 c8 ho8 hg8 hn8; have HE8 := Lib.hid he8; have HS8 := Lib.hid hs8; have HR8 := Lib.hid hr8; have HP8 := Lib.hid hp8; have c8' := hb8.cell 1; have f8 := hb8.free 1; clear ho8 hg8 hn8 hb8 he8 hs8 hr8 hp8)
  try clear c9
  clear hz hbs c9a HIN HINS HE9a HS9a
  try clear c8'
  try clear f8
  generalize w10.setCell ⟨b, 1, none⟩ (.slice A8 (s7.rs.length + 1) c8) = w9' at *
  have hJ7 : J < s8.rs.length := by rw [HR8.out, ins_len _ _ HJ7.out]; have := HJ7.out; omega
  obtain ⟨_, hcap7, hmax7, hsome7⟩ := EK.Own.bounds HE8.out.own.own.rs
  obtain ⟨g7, hA7, hbg7, hgw7⟩ := hsome7 (by omega)
  have HG7 := Lib.hid (And.intro hA7 hbg7)
  have i7 : (J : Int) < (s8.rs.length : Int) := by omega
  have HCP : Hid (∀ w', EX s s8 x w base b w.heap.size hr m5 c7 A7 vs7.length z7 w' → SK.Own w' base (.slice A7 vs7.length z7) vs7 → True) := Lib.hid (fun _ _ _ => trivial)
  clear HCP hcap7 hmax7 hsome7 hgw7
  have HVL : Hid (vs7.length ≤ 8796093022000) := Lib.hid (by have := (HOI.out.fits HFIT.out).2; omega)
  have HCP : Hid (∀ w', EX s s8 x w base b w.heap.size hr m5 c7 A7 vs7.length z7 w' ∧ SK.Own w' base (.slice A7 vs7.length z7) vs7 → Calls Tryz.prog 23 #[.agg (repv x.client x.num c7 A7 vs7.length z7)] w' fun e w'' => ∃ A' z', e = .returned (.agg (repv x.client x.num c7 A' vs7.length z')) ∧ SK.Own w'' w'.heap.size (.slice A' vs7.length z') vs7 ∧ Below w'.heap.size w' w'') := Lib.hid (fun w' h => creply_any x.client x.num c7 vs7 A7 z7 HVL.out w' (EK.Own.see h.2))
  have HPUT : Hid (∀ w', EX s s8 x w base b w.heap.size hr m5 c7 A7 vs7.length z7 w' → ∀ A6 z6, SK.Own w' base (.slice A6 vs7.length z6) vs7 → SK.Own w' base (.slice A7 vs7.length z7) vs7 →
      ∃ (w'' : World) (s9 : StM), (stRp (.pointer (some ⟨g7, J * 4, none⟩)) (.agg (repv x.client x.num c7 A6 vs7.length z6))).run Tryz.prog w' = .ok () w'' ∧ (EX s s9 x w base b w.heap.size hr m5 c7 A7 vs7.length z7 w'' ∧ w'.heap.size ≤ w''.heap.size) ∧ SK.Own w'' base (.slice A7 vs7.length z7) vs7 ∧ s9.pl = { s8.pl with rs := (s8.rs.set J ⟨⟨x.client, x.num, c7, vs7⟩, A6, z6⟩).map RepM.x } ∧ Value.slice s9.rA s9.rs.length s9.rc = .slice (some ⟨g7, 0, none⟩) s8.rs.length s8.rc) := Lib.hid (fun w' h A6 z6 ho hs => by
    obtain ⟨g8, w8, hA8, hr8, ho8, hg8, _⟩ := h.own.putR (i := J) (by omega) ⟨⟨x.client, x.num, c7, vs7⟩, A6, z6⟩ ho
    have e8 : g8 = g7 := by
      rw [hA7] at hA8
      injection hA8 with hA8
      injection hA8 with hA8
      exact hA8.symm
    subst e8
    have hg8' : w'.grownBy w8 (Value.slice s8.rA s8.rs.length s8.rc).ownBlock := by rw [own_blk, hA7]; exact hg8
    exact ⟨w8, _, hr8, ⟨h.putR ho8 hA7 hg8 hbg7, hg8.size⟩, own_apart hs h.own.own.rs (by decide) hg8', rfl, by show Value.slice s8.rA (s8.rs.set _ _).length _ = _; rw [List.length_set, hA7]⟩)
  clear hbg7
  have HXS : Hid (XS w9'.heap.size b m5 (.slice (some ⟨g7, 0, none⟩) s8.rs.length s8.rc) (repv x.client x.num c7 A7 vs7.length z7) w9'.drew) := Lib.hid ⟨Nat.le_refl _, by rw [← hA7]; exact HE8.out.own.cell1, HE8.out.ba⟩
  have HED0 := Lib.hid (HE8.out.call ((Below.refl _ _).drew))
  have HSD := Lib.hid (EK.Own.keep HS8.out ((Below.refl _ _).drew))
  have HED := Lib.hid (And.intro HED0.out HSD.out)
  have hu47 := Tryz.underlying36
  clear HE8 HS8 hA7 HED0
  refine wp_region_held_drew (S := fun w' => XS w9'.heap.size b m5 (.slice (some ⟨g7, 0, none⟩) s8.rs.length s8.rc) (repv x.client x.num c7 A7 vs7.length z7) w') (by kernel_rfl) HXS.out (fun hS => ?_)
  clear HXS
  generalize w9'.drew = wd at *
  (refine wpAnyH_take (i := 0) (v := .pointer (some ⟨b, 0, none⟩)) rfl (by kernel_rfl) (by kernel_rfl) (by kernel_rfl) (fun _ _ _ h => h) (Or.inl ⟨by kernel_rfl, fun w hSw => by go_simp⟩) hS ?_)
  (try simp only [Act.put])
  (refine wpAnyH_take (i := 1) (v := .pointer (some ⟨b, 0, none⟩)) rfl (by kernel_rfl) (by kernel_rfl) (by kernel_rfl) (fun _ _ _ h => h) (Or.inl ⟨by kernel_rfl, fun w hSw => by go_simp⟩) hS ?_)
  (try simp only [Act.put])
  (refine wpAnyH_take (i := 2) (v := .pointer (some ⟨b, 1, none⟩)) rfl (by kernel_rfl) (by kernel_rfl) (by kernel_rfl) (fun _ _ _ h => h) (Or.inl ⟨by kernel_rfl, fun w hSw => by go_simp⟩) hS ?_)
  (try simp only [Act.put])
  (refine wpAnyH_take (i := 3) (v := .slice (some ⟨g7, 0, none⟩) s8.rs.length s8.rc) rfl (by kernel_rfl) (by kernel_rfl) (by kernel_rfl) (fun _ _ _ h => h) (Or.inl ⟨by kernel_rfl, fun w hSw => by have hc := XS.c1 hSw; go_simp⟩) hS ?_)
  (try simp only [Act.put])
  (refine wpAnyH_take (i := 4) (v := .int .i64 (J : Int)) rfl (by kernel_rfl) (by kernel_rfl) (by kernel_rfl) (fun _ _ _ h => h) (Or.inl ⟨by kernel_rfl, fun w hSw => by go_simp⟩) hS ?_)
  (try simp only [Act.put])
  (refine wpAnyH_take (i := 5) (v := .agg (repv x.client x.num c7 A7 vs7.length z7)) rfl (by kernel_rfl) (by kernel_rfl) (by kernel_rfl) (fun _ _ _ h => h) (yieldsIf_load_mid (by kernel_rfl) 36 (.tmp 5) rfl m5 (0) (by kernel_rfl) ((repv x.client x.num c7 A7 vs7.length z7).toList) _ (fun w hSw => Box.range (XS.bx hSw)) hu47 rfl (rp_list x.client x.num c7 A7 vs7.length z7)) hS ?_)
  (try simp only [Act.put])
  refine wpAnyH_ready (rs := [6]) (by decide +kernel) (by simp) (AllReadyH.cons rfl (fun K hK => ?_) AllReadyH.nil)
  go_simp
  (go_at_call 23; (with_reducible refine (HCP.out _ HED.out).mono ?_); rintro e u6 ⟨A6, z6, rfl, ho, hb⟩)
  have HSZ := Lib.hid hS.sz
  have HO6 := Lib.hid (EK.Own.base ho HED.out.1.own.size)
  have HE10 := Lib.hid (HED.out.1.call hb)
  have HS10 := Lib.hid (EK.Own.keep HED.out.2 hb)
  clear ho HED HSD
  refine hK.out _ _ (hS.call hb) (fun hS => ?_)
  clear hK K hb HSZ
  (try simp only [Act.put])
  (refine wpAnyH_take (i := 7) (v := .pointer (some ⟨g7, J * 4, none⟩)) rfl (by kernel_rfl) (by kernel_rfl) (by kernel_rfl) (fun _ _ _ h => h) (Or.inl ⟨by kernel_rfl, fun w hSw => by go_simp⟩) hS ?_)
  (try simp only [Act.put])
  refine wpAnyH_ready (rs := [8]) (by decide +kernel) (by simp) (AllReadyH.cons rfl (fun K hK => ?_) AllReadyH.nil)
  obtain ⟨u8, s9, hst, he9, hs9, hrs9, hps9⟩ := HPUT.out _ HE10.out A6 z6 HO6.out HS10.out
  have hS2 := XS.mk (Nat.le_trans hS.sz he9.2) (he9.1.own.cell1.trans (by rw [hps9])) he9.1.ba
  go_simp
  refine hK.out _ _ hS2 (fun hS => ?_)
  clear hK K hS2
  (try simp only [Act.put])
  have HE11 := Lib.hid he9.1
  have HS11 := Lib.hid hs9
  have HR9 := Lib.hid hrs9
  clear hst he9 hs9 hrs9 hps9 HE10 HS10 HO6
  refine wpAnyH_done (by kernel_rfl) ?_ _
  have HEND := Lib.hid hS
  clear hS HCP HPUT
  go_simp
  have l12 := HE11.out.ba.l_rp
  obtain ⟨w12, hst12, hb12, ho12, hf12, hm12, hs12⟩ := HE11.out.fin x.client x.num c7 A7 vs7.length z7
  have HB12 := Lib.hid hb12
  have HFINAL : Hid (ExecPost s x base b w (.returned (.agg (repv x.client x.num c7 A7 vs7.length z7))) w12) := Lib.hid (by
    refine ⟨s9, ⟨x.client, x.num, c7, vs7⟩, A7, z7, rfl, ?_, ho12, hs12 _ _ HS11.out, hf12, hm12, HE11.out.ra⟩
    unfold ExeIs
    rw [if_pos HG.out, HL.out]
    refine ⟨s7.pl, c7, vs7, HOI.out, rfl, ?_⟩
    rw [HR9.out, HP8.out, HR8.out, ins_set _ _ HJ7.out]
    show (StX.mk s7.ps ((s7.rs.take J ++ _ :: s7.rs.drop J).map RepM.x) s7.ep s7.ms) = StX.mk s7.ps (rPut _ (s7.rs.map RepM.x)) s7.ep s7.ms
    rw [HRS7.out.1]
    have hp := HFN.out.put_no iLt3 (sorted_map HRIS.out) (x := (⟨⟨x.client, x.num, c7, vs7⟩, A6, z6⟩ : RepM)) rfl
    rw [hp, put_map])
  clear hb12 ho12 hf12 hm12 hs12
  go_wp2
  exact retn_rp rfl rfl rfl HB12.out HFINAL.out

set_option maxRecDepth 100000 in
theorem exec_any (s : StM) (base b : Nat) (hfit : s.pl.Fits 100000) (hris : s.pl.Ris) (x : ReqX) (w : World) (h : OwnB s w base b) (hop : reqGood x = true → ∀ w', OwnB s w' base b → Below base w w' → Calls Tryz.prog 38 #[.pointer (some ⟨b, 0, none⟩), .agg (opL x).toArray] w' (OperPost s x base b w')) :
    Calls Tryz.prog 27 #[.pointer (some ⟨b, 0, none⟩), .agg x.cells.toArray] w (ExecPost s x base b w) := by
  cases hg : reqGood x with
  | false => exact exec_bad s base b hfit hris x w h hg
  | true =>
    cases hl : rLook x.client s.pl.rs with
    | none => exact exec_new s base b hfit hris x w h hg hl (hop hg)
    | some r =>
      rcases Int.lt_trichotomy r.num x.num with h1 | h1 | h1
      · exact exec_set s base b hfit hris x w h hg r hl h1 (hop hg)
      · exact exec_same s base b hfit hris x w h hg r hl h1
      · exact exec_old s base b hfit hris x w h hg r hl h1

end Go.Proofs.YtbgbidgggjkmmaaGreatDoor

namespace Go.Proofs.YtbgbidgggjkmmaaGreatDoor
open Go.RowKit Go.Sort

attribute [local go_sem ↓] ldRp_def stRp_def ldSt_def stSt_def ldReq_def ldCf_def stCf_def

set_option maxRecDepth 100000 in
theorem retn_st2 {fn : Func} {p q : Tmp} (hf : fn.results = #[.cell p 28, .cell q 36]) {a : Act} {w : World} {g g' : Nat} (hp : a.tmps.getD p undef = .pointer (some ⟨g, 0, none⟩)) (hq : a.tmps.getD q undef = .pointer (some ⟨g', 0, none⟩)) (hdf : a.defers = []) {t t' : TypeId} {cs cs' : Array Value} (hb : Box w g t cs) (hs : (Tryz.prog.info? 28).map (·.size) = some cs.size) (hb' : Box w g' t' cs') (hs' : (Tryz.prog.info? 36).map (·.size) = some cs'.size)
    {R : Ending → World → Prop} (hR : R (.returned (.tuple #[.agg cs, .agg cs'])) w) : bodyPost Tryz.prog fn R .ret a w := by
  have hp' : a.tmps[p]?.getD undef = .pointer (some ⟨g, 0, none⟩) := by simpa using hp
  have hq' : a.tmps[q]?.getD undef = .pointer (some ⟨g', 0, none⟩) := by simpa using hq
  refine bodyPost_ret (v := .tuple #[.agg cs, .agg cs']) ?_ hdf hR
  simp [results, hf, hp', hq', asAddr, run_loadVar_row w g t 28 cs (0, 0) _ hb Tryz.underlying28 rfl hs, run_loadVar_row w g' t' 36 cs' (0, 0) _ hb' Tryz.underlying36 rfl hs']
set_option maxRecDepth 100000 in
theorem retn_rpb {fn : Func} {p q : Tmp} (hf : fn.results = #[.cell p 36, .tmp q]) {a : Act} {w : World} {g : Nat} (hp : a.tmps.getD p undef = .pointer (some ⟨g, 0, none⟩)) {b : Value} (hq : a.tmps.getD q undef = b) (hdf : a.defers = []) {t : TypeId} {c n k : Int} {A : Option Addr} {m z : Nat} (hb : Box w g t (repv c n k A m z))
    {R : Ending → World → Prop} (hR : R (.returned (.tuple #[.agg (repv c n k A m z), b])) w) : bodyPost Tryz.prog fn R .ret a w := by
  have hp' : a.tmps[p]?.getD undef = .pointer (some ⟨g, 0, none⟩) := by simpa using hp
  have hq' : a.tmps[q]?.getD undef = b := by simpa using hq
  refine bodyPost_ret (v := .tuple #[.agg (repv c n k A m z), b]) ?_ hdf hR
  simp [results, hf, hp', hq', asAddr, run_loadVar_row w g t 36 (repv c n k A m z) (0, 0) _ hb Tryz.underlying36 rfl (rp_size c n k A m z)]

/-- operate keeps its contract, for this request, at every state that is owned. -/
def HopFor (x : ReqX) (T : World → Prop) : Prop := reqGood x = true → ∀ (s : StM) (base b : Nat) (w : World), T w → s.ps.length ≤ 1000000 → PS s.ps → s.ms.length ≤ 20 → s.pl.Ok → OwnB s w base b → Calls Tryz.prog 38 #[.pointer (some ⟨b, 0, none⟩), .agg (opL x).toArray] w (OperPost s x base b w)
set_option maxRecDepth 100000 in
theorem hop_five (x : ReqX) (hk : reqGood x = true → x.kind ≤ 5) : HopFor x (fun _ => True) := by
  intro hg s base b w _ hn hps _ _ h
  have h1 := hk hg
  have h2 : 1 ≤ x.kind := by
    unfold reqGood at hg
    simp only [Bool.and_eq_true, decide_eq_true_eq] at hg
    omega
  have h3 : x.kind = 1 ∨ x.kind = 2 ∨ x.kind = 3 ∨ x.kind = 4 ∨ x.kind = 5 := by omega
  rcases h3 with h3 | h3 | h3 | h3 | h3
  · exact oper_get s base b hn hps x h3 w h
  · exact oper_put s base b hn hps x h3 w h
  · exact oper_delete s base b hn hps x h3 w h
  · exact oper_swap s base b hn hps x h3 w h
  · exact oper_list s base b hn hps x h3 w h
set_option maxRecDepth 100000 in
theorem pl_of {s s' : StM} (h : s'.pl = s.pl) : s'.ps = s.ps ∧ s'.ms = s.ms ∧ s'.rs.map RepM.x = s.rs.map RepM.x ∧ s'.ep = s.ep := by
  unfold StM.pl at h
  injection h with h1 h2 h3 h4
  exact ⟨h1, h4, h2, h3⟩

set_option maxRecDepth 100000 in
theorem StM.Own.aside {s : StM} {w w' : World} {base g : Nat} {cs : Array Value} (h : s.Own w base) (hb : Box w g 28 cs) (hg : w.grownBy w' (some g)) : s.Own w' base :=
  ⟨own_box h.ps hb (by decide) hg, own_box h.rs hb (by decide) hg, fun r hr => own_box (h.vals r hr) hb (by decide) hg, own_box h.ms hb (by decide) hg⟩
set_option maxRecDepth 100000 in
theorem StM.Own.asideR {s : StM} {w w' : World} {base g : Nat} {cs : Array Value} (h : s.Own w base) (hb : Box w g 36 cs) (hg : w.grownBy w' (some g)) (hn : s.rA.map Addr.block ≠ some g) : s.Own w' base :=
  ⟨own_box h.ps hb (by decide) hg, World.ownsRow.kept h.rs hg (.inr (by rw [own_blk]; exact hn)), fun r hr => own_box (h.vals r hr) hb (by decide) hg, own_box h.ms hb (by decide) hg⟩
/-- What Apply answers, and leaves. -/
def ApplyPost (s : StM) (x : ReqX) (w : World) (e : Ending) (w' : World) : Prop :=
  ∃ (s' : StM) (a : RepX) (A : Option Addr) (z : Nat), e = .returned (.tuple #[.agg s'.cells, .agg (repv a.client a.num a.code A a.vals.length z)]) ∧ ExeIs s.pl x s'.pl a ∧ s'.Own w' w.heap.size ∧ SK.Own w' w.heap.size (.slice A a.vals.length z) a.vals ∧ Below w.heap.size w w'

set_option maxRecDepth 100000 in
set_option maxHeartbeats 4000000 in
theorem sapply_any (s : StM) (hfit : s.pl.Fits 100000) (hris : s.pl.Ris) (x : ReqX) (T : World → Prop) (w : World) (hT : ∀ w', Below w.heap.size w w' → T w') (hop : HopFor x T) (hS : s.See w w.heap.size) :
    Calls Tryz.prog 15 #[.agg s.cells, .agg x.cells.toArray] w (ApplyPost s x w) := by
  obtain ⟨w1, hw1⟩ : ∃ w1, w1 = (((w.alloc (.cells s.cells 28)).alloc (.cells x.cells.toArray 56)).alloc (.cells (stV none 0 0 none 0 0 0 none 0 0) 28)).alloc (.cells (repv 0 0 0 none 0 0) 36) := ⟨_, rfl⟩
  have HX : Hid (Box w1 w.heap.size 28 s.cells) := by rw [hw1]; exact (((Box.made w _ _).alloc _).alloc _).alloc _
  have HQ : Hid (Box w1 (w.heap.size + 1) 56 x.cells.toArray) := by rw [hw1]; exact ((Box.made_at (by simp) _ _).alloc _).alloc _
  have HRS : Hid (Box w1 (w.heap.size + 2) 28 (stV none 0 0 none 0 0 0 none 0 0)) := by rw [hw1]; exact (Box.made_at (by simp) _ _).alloc _
  have HRR : Hid (Box w1 (w.heap.size + 3) 36 (repv 0 0 0 none 0 0)) := by rw [hw1]; exact Box.made_at (by simp) _ _
  have HF : Hid (Below w.heap.size w w1) := by rw [hw1]; exact ((((Below.refl _ _).alloc (Nat.le_refl _) _).alloc (by simp) _).alloc (by simp; omega) _).alloc (by simp; omega) _
  have hps : s.ps.length ≤ 1000000 := by have := hfit.ps; unfold StM.pl at this; simp only at this; omega
  have hrs : s.rs.length ≤ 1000000 := by have := hfit.rs; unfold StM.pl at this; simp only [List.length_map] at this; omega
  have hms : s.ms.length ≤ 20 := hfit.ms
  have HCS := Lib.hid (cstate_any s hps hrs (fun r hr => by have := hfit.vals r.x (List.mem_map_of_mem hr); omega) (by omega) w1 (hS.keep HF.out HF.out.size))
  have HEX : Hid (∀ (s1 : StM) (b : Nat) (w' : World), s1.pl = s.pl → Below w1.heap.size w1 w' → OwnB s1 w' w1.heap.size b → Calls Tryz.prog 27 #[.pointer (some ⟨b, 0, none⟩), .agg x.cells.toArray] w' (ExecPost s1 x w1.heap.size b w')) := Lib.hid (fun s1 b w' hp hb ho => by
    obtain ⟨e1, e2, e3, e4⟩ := pl_of hp
    exact exec_any s1 w1.heap.size b (by rw [hp]; exact hfit) (by rw [hp]; exact hris) x w' ho (fun hg w'' ho'' hb'' => hop hg s1 w1.heap.size b w'' (hT w'' ((HF.out.trans (hb.mono HF.out.size)).trans (hb''.mono HF.out.size))) (by rw [e1]; exact hps) (by rw [e1]; exact hris.ps) (by rw [e2]; exact hms) (by rw [hp]; exact hfit.ok) ho''))
  have ls := HX.out.l_st
  clear hS hfit hris hps hrs hms hT hop
  go_enter Tryz.func15, Tryz.ntmps15
  go_upto_region 1 with fail
  change Code.wp _ _ _ _ ((((w.alloc (.cells s.cells 28)).alloc (.cells x.cells.toArray 56)).alloc (.cells (stV none 0 0 none 0 0 0 none 0 0) 28)).alloc (.cells (repv 0 0 0 none 0 0) 36))
  rw [← hw1]
  clear hw1
  go_upto_region 2 with (go_at_call 26; (with_reducible refine (HCS.out).mono ?_); rintro e w2 ⟨s1, rfl, hp1, ho1, hb1⟩; have HP1 := Lib.hid hp1; have HO1 := Lib.hid ho1; have HB1 := Lib.hid hb1; clear hp1 ho1 hb1; obtain ⟨w3, hst3, hb3, hbl3, _⟩ := laid_st w2 (stV none 0 0 none 0 0 0 none 0 0) rfl s1.pA s1.ps.length s1.pc s1.rA s1.rs.length s1.rc s1.ep s1.mA s1.ms.length s1.mc; have HB3 : Hid (OwnB s1 w3 w1.heap.size w2.heap.size) := Lib.hid ⟨hb3, HO1.out.keep hbl3, HB1.out.size⟩; have HF3 := Lib.hid (HB1.out.trans (hbl3.mono HB1.out.size)); clear hb3 hbl3)
  clear HCS HO1 ls hst3 HB1
  generalize w2.heap.size = b at *
  have lq := (HQ.out.below HF3.out HQ.out.lt).ld_req
  have HC := Lib.hid (HEX.out s1 b w3 HP1.out HF3.out HB3.out)
  clear HEX HB3
  go_upto_region 3 with (go_at_call 27; (with_reducible refine (HC.out).mono ?_); rintro e w4 ⟨s4, a, A4, z4, rfl, hx4, ho4, hs4, hb4, _, _⟩; have HXE := Lib.hid hx4; have HO4 := Lib.hid ho4; have HF4 := Lib.hid (HF3.out.trans hb4); have GM7 : Hid (w1.heap.size ≤ w4.heap.size) := Lib.hid HF4.out.size; have HS4 := Lib.hid hs4; clear hx4 ho4 hs4 hb4; obtain ⟨w5, hst5, hb5, hbl5, _⟩ := laid_rp w4 (repv 0 0 0 none 0 0) rfl a.client a.num a.code A4 a.vals.length z4; have HB5 := Lib.hid hb5; have HO5 := Lib.hid (HO4.out.call hbl5); have HS5 := Lib.hid (EK.Own.keep HS4.out hbl5); have HF5 := Lib.hid (HF4.out.trans (hbl5.mono (Nat.le_trans HO4.out.size (Nat.le_refl _)))); clear hb5 hbl5)
  have HB5' : Hid (Box w5 w4.heap.size 36 (repv a.client a.num a.code A4 a.vals.length z4)) := HB5
  clear HC lq hst5 HO4 HS4 HF4 HF3 HQ HX HB5
  generalize w4.heap.size = m7 at *
  have HR1 := Lib.hid (HRS.out.below HF5.out HRS.out.lt)
  have HR2 := Lib.hid (HRR.out.below HF5.out HRR.out.lt)
  have GB := Lib.hid HO5.out.hb
  have GR := Lib.hid HRR.out.lt
  have HG := Lib.hid (HF.out.trans (HF5.out.mono HF.out.size))
  have hu28 := Tryz.underlying28
  have hu47 := Tryz.underlying36
  have HS0 : Hid (Box w5.drew b 28 (stV s4.pA s4.ps.length s4.pc s4.rA s4.rs.length s4.rc s4.ep s4.mA s4.ms.length s4.mc) ∧ Box w5.drew m7 36 (repv a.client a.num a.code A4 a.vals.length z4)) := Lib.hid ⟨HO5.out.box, HB5'.out⟩
  have GR4 : Hid (s4.rA.map Addr.block ≠ some (w.heap.size + 3)) := Lib.hid (fun e => by
    have h1 := HO5.out.own.rs.lt (w.heap.size + 3) (by rw [own_blk]; exact e)
    have h2 := GR.out
    omega)
  have HO6 := Lib.hid (EK.Own.base HS5.out HF.out.size)
  have HO7 := Lib.hid (HO5.out.own.base HF.out.size)
  have HR1d : Hid (Box w5.drew (w.heap.size + 2) 28 (stV none 0 0 none 0 0 0 none 0 0)) := HR1
  have HR2d : Hid (Box w5.drew (w.heap.size + 3) 36 (repv 0 0 0 none 0 0)) := HR2
  have HO6d : Hid (SK.Own w5.drew w.heap.size (.slice A4 a.vals.length z4) a.vals) := HO6
  have HO7d : Hid (s4.Own w5.drew w.heap.size) := Lib.hid (HO7.out.keep ((Below.refl _ _).drew))
  have HGd : Hid (Below w.heap.size w w5.drew) := Lib.hid HG.out.drew
  clear HRS HRR HF5 HO5 HB5' HS5 HR1 HR2 HO6 HO7 HG HF
  refine wp_region_held_drew (S := fun w' => Box w' b 28 (stV s4.pA s4.ps.length s4.pc s4.rA s4.rs.length s4.rc s4.ep s4.mA s4.ms.length s4.mc) ∧ Box w' m7 36 (repv a.client a.num a.code A4 a.vals.length z4)) (by kernel_rfl) HS0.out (fun hS => ?_)
  clear HS0
  generalize w5.drew = wd at *
  (refine wpAnyH_take (i := 0) (v := .agg (stV s4.pA s4.ps.length s4.pc s4.rA s4.rs.length s4.rc s4.ep s4.mA s4.ms.length s4.mc)) rfl (by kernel_rfl) (by kernel_rfl) (by kernel_rfl) (fun _ _ _ h => h) (yieldsIf_load_mid (by kernel_rfl) 28 (.tmp 6) rfl b (0) (by kernel_rfl) ((stV s4.pA s4.ps.length s4.pc s4.rA s4.rs.length s4.rc s4.ep s4.mA s4.ms.length s4.mc).toList) _ (fun w hSw => Box.range hSw.1) hu28 rfl (st_list s4.pA s4.ps.length s4.pc s4.rA s4.rs.length s4.rc s4.ep s4.mA s4.ms.length s4.mc)) hS ?_)
  (try simp only [Act.put])
  (refine wpAnyH_take (i := 1) (v := .agg (repv a.client a.num a.code A4 a.vals.length z4)) rfl (by kernel_rfl) (by kernel_rfl) (by kernel_rfl) (fun _ _ _ h => h) (yieldsIf_load_mid (by kernel_rfl) 36 (.tmp 7) rfl m7 (0) (by kernel_rfl) ((repv a.client a.num a.code A4 a.vals.length z4).toList) _ (fun w hSw => Box.range hSw.2) hu47 rfl (rp_list a.client a.num a.code A4 a.vals.length z4)) hS ?_)
  (try simp only [Act.put])
  refine wpAnyH_ready (rs := [2]) (by decide +kernel) (by simp) (AllReadyH.cons rfl (fun K hK => ?_) AllReadyH.nil)
  obtain ⟨u2, hst, hbx, hg⟩ := HR1d.out.s_st rfl s4.pA s4.ps.length s4.pc s4.rA s4.rs.length s4.rc s4.ep s4.mA s4.ms.length s4.mc
  have hS2 := And.intro (hS.1.grown hg (fun e => by have h1 := GB.out; have h2 := GR.out; injection e with e; omega)) (hS.2.grown hg (fun e => by have h1 := GM7.out; have h2 := GR.out; injection e with e; omega))
  go_simp
  refine hK.out _ _ hS2 (fun hS => ?_)
  clear hK K hS2
  (try simp only [Act.put])
  have HA1 := Lib.hid hbx
  have HR2e := Lib.hid (HR2d.out.grown hg (by simp))
  have HO6e := Lib.hid (own_box HO6d.out HR1d.out (by decide) hg)
  have HO7e := Lib.hid (StM.Own.aside HO7d.out HR1d.out hg)
  have HGe := Lib.hid (HGd.out.trans (below_only hg (by omega) HGd.out.size))
  clear hst hbx hg HR1d HR2d HO6d HO7d HGd
  refine wpAnyH_ready (rs := [3]) (by decide +kernel) (by simp) (AllReadyH.cons rfl (fun K hK => ?_) AllReadyH.nil)
  obtain ⟨u3, hst, hbx, hg⟩ := HR2e.out.s_rp rfl a.client a.num a.code A4 a.vals.length z4
  have hS2 := And.intro (hS.1.grown hg (fun e => by have h1 := GB.out; have h2 := GR.out; injection e with e; omega)) (hS.2.grown hg (fun e => by have h1 := GM7.out; have h2 := GR.out; injection e with e; omega))
  go_simp
  refine hK.out _ _ hS2 (fun hS => ?_)
  clear hK K hS2
  (try simp only [Act.put])
  have HA2 := Lib.hid hbx
  have HA1e := Lib.hid (HA1.out.grown hg (by simp))
  have HO6f := Lib.hid (own_box HO6e.out HR2e.out (by decide) hg)
  have HO7f := Lib.hid (StM.Own.asideR HO7e.out HR2e.out hg (GR4.out))
  have HGf := Lib.hid (HGe.out.trans (below_only hg (by omega) HGe.out.size))
  clear hst hbx hg HR2e HO6e HO7e HGe HA1 hS
  refine wpAnyH_done (by kernel_rfl) ?_ _
  go_simp
  go_wp2
  refine retn_st2 rfl rfl rfl rfl HA1e.out (st_size s4.pA s4.ps.length s4.pc s4.rA s4.rs.length s4.rc s4.ep s4.mA s4.ms.length s4.mc) HA2.out (rp_size a.client a.num a.code A4 a.vals.length z4) ?_
  exact ⟨s4, a, A4, z4, rfl, by rw [← HP1.out]; exact HXE.out, HO7f.out, HO6f.out, HGf.out⟩

end Go.Proofs.YtbgbidgggjkmmaaGreatDoor
