/-
  OnceKeeps, the walk: for every input the law returns true, and nothing that was there is turned.
-/
import Derived.Test.YtdgedhaiefingaaDoorOSigns
import Derived.Maps.AppendAt
import Derived.Deep.DeepCutAuto
namespace Go.Proofs.YtdgedhaiefingaaDoor
open Go.RowKit

attribute [local go_sem ↓] ldDigest_def bsAll_def apAll_def

/-- Two lists that are copied, one beside the other. -/
structure CpW (w1 : World) (v1 v2 : Value) (l1 l2 : List (List UInt8)) (w : World) : Prop where
  far : Below w1.heap.size w1 w
  r1 : w.ownsRow w1.heap.size 23 32 v1 l1.length (l1.flatten.map bv)
  r2 : w.ownsRow w1.heap.size 23 32 v2 l2.length (l2.flatten.map bv)
  ne : ∀ g, v1.ownBlock = some g → v2.ownBlock ≠ some g
theorem CpW.start (w1 w : World) (h : Below w1.heap.size w1 w) : CpW w1 (.slice none 0 0) (.slice none 0 0) [] [] w :=
  ⟨h, ⟨rfl, .inl ⟨rfl, rfl⟩⟩, ⟨rfl, .inl ⟨rfl, rfl⟩⟩, fun g h => by simp [Value.ownBlock] at h⟩
theorem CpW.call {w1 w w' : World} {v1 v2 : Value} {l1 l2 : List (List UInt8)} (s : CpW w1 v1 v2 l1 l2 w) (hb : Below w.heap.size w w') : CpW w1 v1 v2 l1 l2 w' :=
  ⟨s.far.trans (hb.mono s.far.size), World.ownsRow.kept s.r1 (only_below hb none) (by cases v1.ownBlock <;> simp), World.ownsRow.kept s.r2 (only_below hb none) (by cases v2.ownBlock <;> simp), s.ne⟩
theorem CpW.lit1 {w1 w : World} {v1 v2 : Value} {l1 l2 : List (List UInt8)} (s : CpW w1 v1 v2 l1 l2 w) : CpW w1 (.slice (some ⟨w.heap.size, 0, none⟩) 0 0) v2 [] l2 (w.alloc (.cells #[] 23)) := by
  have k := s.call ((Below.refl w.heap.size w).alloc (Nat.le_refl _) (.cells #[] 23))
  refine ⟨k.far, own_none w s.far.size, k.r2, fun g hg hg2 => ?_⟩
  have e : g = w.heap.size := by simpa [Value.ownBlock] using hg.symm
  have := (s.r2.lt g hg2).2
  omega
theorem CpW.lit2 {w1 w : World} {v1 v2 : Value} {l1 l2 : List (List UInt8)} (s : CpW w1 v1 v2 l1 l2 w) : CpW w1 v1 (.slice (some ⟨w.heap.size, 0, none⟩) 0 0) l1 [] (w.alloc (.cells #[] 23)) := by
  have k := s.call ((Below.refl w.heap.size w).alloc (Nat.le_refl _) (.cells #[] 23))
  refine ⟨k.far, k.r1, own_none w s.far.size, fun g hg hg2 => ?_⟩
  have e : g = w.heap.size := by simpa [Value.ownBlock] using hg2.symm
  have := (s.r1.lt g hg).2
  omega
/-- append of what is seen onto an empty row that isn't nil, and where the row lies then. -/
theorem append_at {w : World} {base : Nat} {g : Nat} (hown : w.ownsRow base 23 32 (.slice (some ⟨g, 0, none⟩) 0 0) 0 []) {A : Option Addr} {m c : Nat} {es : List (List UInt8)} (hm : m = es.length) (he : Digs w w.heap.size A es) (hb : m ≤ 1099511627776) (hbase : base ≤ w.heap.size) :
    ∃ A' c' w', (apAll #[27, 27] 27 #[.slice (some ⟨g, 0, none⟩) 0 0, .slice A m c]).run Tryd.prog w = .ok (.slice A' m c') w' ∧ w'.ownsRow base 23 32 (.slice A' m c') m (es.flatten.map bv) ∧ w.grownBy w' (some g) ∧ ((Value.slice A' m c').ownBlock = some g ∨ (Value.slice A' m c').ownBlock = some w.heap.size) := by
  obtain ⟨i0, hi0, hz0, hz1, hz2⟩ := info_parts dig_info3
  have hfl := he.all.flat
  have some_case : ∀ ad : Addr, A = some ad → (∀ j u, (es.flatten.map bv)[j]? = some u → w.cell? (ad.add j) = some u) → ∃ A' c' w', (apAll #[27, 27] 27 #[.slice (some ⟨g, 0, none⟩) 0 0, .slice A m c]).run Tryd.prog w = .ok (.slice A' m c') w' ∧ w'.ownsRow base 23 32 (.slice A' m c') m (es.flatten.map bv) ∧ w.grownBy w' (some g) ∧ ((Value.slice A' m c').ownBlock = some g ∨ (Value.slice A' m c').ownBlock = some w.heap.size) := by
    rintro ad rfl hc
    obtain ⟨v', w', hr, ho, hg, _, hat⟩ := run_append_own_at (P := Tryd.prog) w base 27 27 23 i0 _ 32 32 Tryd.underlying27 hi0 hz0 hz1 hz2 rfl (by omega) _ 0 _ hown ad m c (es.flatten.map bv) (by rw [List.length_map, hfl, hm]; omega) hc (bv_one _) (by unfold maxLen; omega) (by omega) hbase
    rw [Nat.zero_add] at ho
    obtain ⟨A', c', rfl⟩ := own_slice_s ho
    exact ⟨A', c', w', hr, by simpa using ho, hg, hat⟩
  rcases he.sees with hnil | ⟨g', o', rfl, _, hc⟩
  · cases A with
    | some ad => exact some_case ad rfl (fun j u hu => by rw [hnil] at hu; cases hu)
    | none =>
      have hm0 : m = 0 := by
        rw [List.map_eq_nil_iff] at hnil
        rw [hnil, List.length_nil] at hfl
        omega
      subst hm0
      refine ⟨some ⟨g, 0, none⟩, 0, w, ?_, by rw [hnil]; exact hown, only_refl _ _, .inl rfl⟩
      have hu : Tryd.prog.underlying 27 = some (.slice 23) := Tryd.underlying27
      show (Builtin.append_ _ _ _).run _ _ = _
      simp [Builtin.append_, run_underlying hu, sizeOf, typeInfo, hi0, Builtin.lenOf, Builtin.firstCells, storeCells]
  · exact some_case _ rfl (fun j u hu => by rw [plain_add]; exact hc j u hu)
theorem CpW.app1 {w1 w : World} {g : Nat} {v2 : Value} {l2 : List (List UInt8)} (s : CpW w1 (.slice (some ⟨g, 0, none⟩) 0 0) v2 [] l2 w) {A : Option Addr} {m c : Nat} {es : List (List UInt8)} (hm : m = es.length) (he : Digs w w.heap.size A es) (hb : m ≤ 1099511627776) :
    ∃ A' c' w', (apAll #[27, 27] 27 #[.slice (some ⟨g, 0, none⟩) 0 0, .slice A m c]).run Tryd.prog w = .ok (.slice A' m c') w' ∧ CpW w1 (.slice A' m c') v2 es l2 w' ∧ ∀ j cs, Box w j 29 cs → Box w' j 29 cs := by
  obtain ⟨A', c', w', h1, h2, h3, h4⟩ := append_at s.r1 hm he hb s.far.size
  subst hm
  refine ⟨A', c', w', h1, ⟨s.far.trans (below_own s.r1 h3 s.far.size), h2, World.ownsRow.kept s.r2 h3 (by
    rcases hq : v2.ownBlock with _ | q
    · exact .inl rfl
    · exact .inr (fun e => s.ne g rfl (by rw [hq]; exact e))), fun q hq hq2 => ?_⟩, fun j cs hj => hj.grown h3 (Ne.symm (hj.own_ne s.r1 (by decide)))⟩
  rcases h4 with h | h
  · rw [h] at hq
    exact s.ne q (by simpa [Value.ownBlock] using hq) hq2
  · rw [h] at hq
    injection hq with hq
    have := (s.r2.lt q hq2).2
    omega
theorem CpW.app2 {w1 w : World} {g : Nat} {v1 : Value} {l1 : List (List UInt8)} (s : CpW w1 v1 (.slice (some ⟨g, 0, none⟩) 0 0) l1 [] w) {A : Option Addr} {m c : Nat} {es : List (List UInt8)} (hm : m = es.length) (he : Digs w w.heap.size A es) (hb : m ≤ 1099511627776) :
    ∃ A' c' w', (apAll #[27, 27] 27 #[.slice (some ⟨g, 0, none⟩) 0 0, .slice A m c]).run Tryd.prog w = .ok (.slice A' m c') w' ∧ CpW w1 v1 (.slice A' m c') l1 es w' ∧ ∀ j cs, Box w j 29 cs → Box w' j 29 cs := by
  obtain ⟨A', c', w', h1, h2, h3, h4⟩ := append_at s.r2 hm he hb s.far.size
  subst hm
  refine ⟨A', c', w', h1, ⟨s.far.trans (below_own s.r2 h3 s.far.size), World.ownsRow.kept s.r1 h3 (by
    rcases hq : v1.ownBlock with _ | q
    · exact .inl rfl
    · exact .inr (fun e => s.ne q hq e.symm)), h2, fun q hq hq2 => ?_⟩, fun j cs hj => hj.grown h3 (Ne.symm (hj.own_ne s.r2 (by decide)))⟩
  rcases h4 with h | h
  · rw [h] at hq2
    exact s.ne q hq (by simpa [Value.ownBlock] using hq2)
  · rw [h] at hq2
    injection hq2 with hq2
    have := (s.r1.lt q hq).2
    omega
/-- A signature of one's own: a copy of two lists. -/
structure MineW (w1 : World) (a : Nat) (A B : Option Addr) (n m c c' : Nat) (X Y : List (List UInt8)) (w : World) : Prop where
  box : Box w a 29 #[.slice A n c, .slice B m c']
  x : Digs w w.heap.size A X
  y : Digs w w.heap.size B Y
  far : Below w1.heap.size w1 w
theorem MineW.call {w1 w w' : World} {a : Nat} {A B : Option Addr} {n m c c' : Nat} {X Y : List (List UInt8)} (s : MineW w1 a A B n m c c' X Y w) (hb : Below w.heap.size w w') : MineW w1 a A B n m c c' X Y w' :=
  ⟨s.box.below hb s.box.lt, s.x.far hb, s.y.far hb, s.far.trans (hb.mono s.far.size)⟩
theorem once2_size (A B : Option Addr) (n m c c' : Nat) : (Tryd.prog.info? 29).map (·.size) = some (#[.slice A n c, .slice B m c'] : Array Value).size := by
  show _ = some 2
  kernel_rfl
theorem once2_list (A B : Option Addr) (n m c c' : Nat) : (Tryd.prog.info? 29).map (·.size) = some ([.slice A n c, .slice B m c'] : List Value).length := by
  show _ = some 2
  kernel_rfl
noncomputable def stOnce (p v : Value) : Sem Unit := Instr.storeAt 29 p v
theorem stOnce_def (p v : Value) : Instr.storeAt 29 p v = stOnce p v := rfl
theorem CpW.mine {w1 w : World} {A B : Option Addr} {n m c c' : Nat} {X Y : List (List UInt8)} (s : CpW w1 (.slice A n c) (.slice B m c') X Y w) (hX : AllD X) (hY : AllD Y) (hn : n = X.length) (hm : m = Y.length) {a : Nat} {v u : Value} (hb : Box w a 29 #[v, u]) (ha : w1.heap.size ≤ a) :
    (stOnce (.pointer (some ⟨a, 0, none⟩)) (.agg #[.slice A n c, .slice B m c'])).run Tryd.prog w = .ok () (w.setCells a 0 [.slice A n c, .slice B m c']) ∧ MineW w1 a A B n m c c' X Y (w.setCells a 0 [.slice A n c, .slice B m c']) := by
  subst hn
  subst hm
  have hg := only_cells (g := a) [.slice A X.length c, .slice B Y.length c'] 0 w
  have n1 := hb.own_ne s.r1 (by decide)
  have n2 := hb.own_ne s.r2 (by decide)
  have k1 := World.ownsRow.kept s.r1 hg (.inr n1)
  have k2 := World.ownsRow.kept s.r2 hg (.inr n2)
  refine ⟨run_storeAt_mid (P := Tryd.prog) w a 0 29 #[.slice A X.length c, .slice B Y.length c'] (fun j hj => by
    have hj' : j < 2 := hj
    rw [Nat.zero_add, hb.cell, hb.free, Array.getElem?_eq_getElem (by exact hj')]
    exact ⟨rfl, rfl⟩) (once2_size A B _ _ c c') (by simp [Value.oneCell']), ⟨hb.cells_all #[.slice A X.length c, .slice B Y.length c'] rfl, ⟨hX, sees_own k1⟩, ⟨hY, sees_own k2⟩, below_cells s.far ha s.far.size _ _⟩⟩

/-- A store over one of a signature's digests leaves the block as long as it was. -/
theorem Box.mid_size {w : World} {g : Nat} {t : TypeId} {cs : Array Value} (h : Box w g t cs) (o : Nat) (vs : List Value) (hl : o + vs.length ≤ cs.size) : ∃ cs', Box (w.setCells g o vs) g t cs' ∧ cs'.size = cs.size := by
  obtain ⟨cs', hb, hs, _⟩ := Box.cells_at vs o w cs h hl
  exact ⟨cs', hb, hs⟩
/-- What the end of the walk reads of memory. -/
structure EndK (w0 : World) (a : Nat) (A B A' B' : Option Addr) (n m c c' e e' : Nat) (s d : List UInt8) (X Y : List (List UInt8)) (w : World) : Prop where
  s : Box w w0.heap.size 23 (s.map bv).toArray
  d : Box w (w0.heap.size + 1) 23 (d.map bv).toArray
  o : Box w (w0.heap.size + 1 + 1) 29 #[.slice A n c, .slice B m c']
  x : Digs w w.heap.size A X
  y : Digs w w.heap.size B Y
  far : Below w0.heap.size w0 w
  mine : Box w a 29 #[.slice A' n e, .slice B' m e']
  mx : Digs w w.heap.size A' X
  my : Digs w w.heap.size B' Y
theorem EndK.call {w0 w w' : World} {a : Nat} {A B A' B' : Option Addr} {n m c c' e e' : Nat} {s d : List UInt8} {X Y : List (List UInt8)} (k : EndK w0 a A B A' B' n m c c' e e' s d X Y w) (hb : Below w.heap.size w w') : EndK w0 a A B A' B' n m c c' e e' s d X Y w' :=
  ⟨k.s.below hb k.s.lt, k.d.below hb k.d.lt, k.o.below hb k.o.lt, k.x.far hb, k.y.far hb, k.far.trans (hb.mono k.far.size), k.mine.below hb k.mine.lt, k.mx.far hb, k.my.far hb⟩

attribute [local go_sem ↓] stOnce_def

abbrev sevenA : Array Value := #[.int .u8 7, .int .u8 0, .int .u8 0, .int .u8 0, .int .u8 0, .int .u8 0, .int .u8 0, .int .u8 0, .int .u8 0, .int .u8 0, .int .u8 0, .int .u8 0, .int .u8 0, .int .u8 0, .int .u8 0, .int .u8 0, .int .u8 0, .int .u8 0, .int .u8 0, .int .u8 0, .int .u8 0, .int .u8 0, .int .u8 0, .int .u8 0, .int .u8 0, .int .u8 0, .int .u8 0, .int .u8 0, .int .u8 0, .int .u8 0, .int .u8 0, .int .u8 0]
theorem seven_size : (Tryd.prog.info? 23).map (·.size) = some sevenA.size := by
  show _ = some 32
  kernel_rfl
theorem seven_one : sevenA.all (·.oneCell') = true := by decide +kernel
/-- What the loop over a signature that is written over carries of memory. -/
structure OverK (w5 : World) (b g h : Nat) (w : World) : Prop where
  far : Below w5.heap.size w5 w
  own : Box w b 29 (onceV g h 32 32)
  row : ∃ cs, Box w g 23 cs ∧ cs.size = 1024
  hg : w5.heap.size ≤ g
theorem OverK.put {w5 w : World} {b g h k : Nat} (s : OverK w5 b g h w) (hk : k < 32) : w.there g (k * 32) sevenA.size ∧ OverK w5 b g h (w.setCells g (k * 32) sevenA.toList) := by
  obtain ⟨cs, hb, hs⟩ := s.row
  have hz : sevenA.toList.length = 32 := rfl
  obtain ⟨cs', hb', hs'⟩ := hb.mid_size (k * 32) sevenA.toList (by rw [hz]; omega)
  have hg := only_cells (g := g) sevenA.toList (k * 32) w
  have hne := Box.apart s.own hb (by decide)
  refine ⟨fun j hj => ?_, below_cells s.far s.hg s.far.size _ _, s.own.grown hg (fun e => hne (by injection e)), ⟨cs', hb', by omega⟩, s.hg⟩
  have hj' : j < 32 := hj
  rw [hb.cell, hb.free, Array.getElem?_eq_getElem (by omega)]
  exact ⟨rfl, rfl⟩

set_option maxRecDepth 100000 in
set_option maxHeartbeats 4000000 in
theorem keeps_walk (seed d : List UInt8) (X Y : List (List UInt8)) (A B : Option Addr) (c c' : Nat) (w : World) (hs : seed.length = 32) (hd : d.length = 32) (hX : Digs w w.heap.size A X) (hY : Digs w w.heap.size B Y) (hR : Roots w) :
    Calls Tryd.prog 4 #[.agg (seed.map bv).toArray, .agg (d.map bv).toArray, .agg #[.slice A X.length c, .slice B Y.length c']] w fun e w' => e = .returned (.bool true) ∧ Below w.heap.size w w' := by
  obtain ⟨w1, hw1⟩ : ∃ w1, w1 = ((w.alloc (.cells (seed.map bv).toArray 23)).alloc (.cells (d.map bv).toArray 23)).alloc (.cells #[.slice A X.length c, .slice B Y.length c'] 29) := ⟨_, rfl⟩
  have HF1 : Hid (Below w.heap.size w w1) := by
    rw [hw1]
    exact (((Below.refl _ _).alloc (Nat.le_refl _) _).alloc (by simp) _).alloc (by simp; omega) _
  have HS1 : Hid (Box w1 w.heap.size 23 (seed.map bv).toArray) := by rw [hw1]; exact ((Box.made w _ _).alloc _).alloc _
  have HD1 : Hid (Box w1 (w.heap.size + 1) 23 (d.map bv).toArray) := by rw [hw1]; exact (Box.made_at (by simp) _ _).alloc _
  have HO1 : Hid (Box w1 (w.heap.size + 1 + 1) 29 ([.slice A X.length c, .slice B Y.length c'] : List Value).toArray) := by rw [hw1]; exact Box.made_at (by simp) _ _
  have HAL := Lib.hid (alive_any w1 (hR.of_below HF1.out))
  have HR := Lib.hid (hR.of_below HF1.out)
  have HX := Lib.hid (hX.far HF1.out)
  have HY := Lib.hid (hY.far HF1.out)
  have HGR := Lib.hid (great_any X.length Y.length A B c c')
  have HLO := Lib.hid (once2_list A B X.length Y.length c c')
  have HSL := Lib.hid hs
  have HDL := Lib.hid hd
  have hn1 := dig_list seed hs
  have HLD := Lib.hid (dig_list d hd)
  clear hX hY hR hs hd
  go_enter Tryd.func4, Tryd.ntmps4
  go_upto_region 1 with fail
  change Code.wp _ _ _ _ (((w.alloc (.cells (seed.map bv).toArray 23)).alloc (.cells (d.map bv).toArray 23)).alloc (.cells #[.slice A X.length c, .slice B Y.length c'] 29))
  rw [← hw1]
  clear hw1
  by_cases hgr : 200 < X.length ∨ 200 < Y.length
  · have HG2 : Hid (∀ w', Calls Tryd.prog 12 #[.agg #[.slice A X.length c, .slice B Y.length c']] w' fun e w'' => e = .returned (.bool true) ∧ Below w'.heap.size w' w'') := fun w' => by
      have h := HGR.out w'
      rw [show (decide (200 < X.length) || decide (200 < Y.length)) = true by simpa using hgr] at h
      exact h
    clear HGR hgr
    go_wp2_with (first
      | (go_at_call 6; (with_reducible refine (HAL.out).mono ?_); rintro e w2 ⟨rfl, hb⟩; have HB2 := Lib.hid hb; have HO2 := Lib.hid (HO1.out.below hb HO1.out.lt); clear hb)
      | ((with_reducible show wpList _ _ _ ((⟨some 12, _, _, _, _, _⟩ : Oper) :: _) _ _); refine wpList_load_mid rfl 29 (.tmp 5) rfl (w.heap.size + 1 + 1) 0 rfl [.slice A X.length c, .slice B Y.length c'] _ HO2.out.range Tryd.underlying29 rfl HLO.out ?_)
      | (go_at_call 12; (with_reducible refine (HG2.out _).mono ?_); rintro e w3 ⟨rfl, hb⟩; have HB3 := Lib.hid (HB2.out.trans (hb.mono HB2.out.size)); clear hb))
    go_ret
    exact ⟨rfl, HF1.out.trans (HB3.out.mono HF1.out.size)⟩
  have hgx : X.length ≤ 200 := by omega
  have hgy : Y.length ≤ 200 := by omega
  have HG2 : Hid (∀ w', Calls Tryd.prog 12 #[.agg #[.slice A X.length c, .slice B Y.length c']] w' fun e w'' => e = .returned (.bool false) ∧ Below w'.heap.size w' w'') := fun w' => by
    have h := HGR.out w'
    rw [show (decide (200 < X.length) || decide (200 < Y.length)) = false by simp; omega] at h
    exact h
  clear HGR hgr
  go_upto_region 5 with (first
    | (go_at_call 6; (with_reducible refine (HAL.out).mono ?_); rintro e w2 ⟨rfl, hb⟩; have HB2 := Lib.hid hb; have HO2 := Lib.hid (HO1.out.below hb HO1.out.lt); clear hb)
    | ((with_reducible show wpList _ _ _ ((⟨some 12, _, _, _, _, _⟩ : Oper) :: _) _ _); refine wpList_load_mid rfl 29 (.tmp 5) rfl (w.heap.size + 1 + 1) 0 rfl [.slice A X.length c, .slice B Y.length c'] _ HO2.out.range Tryd.underlying29 rfl HLO.out ?_)
    | (go_at_call 12; (with_reducible refine (HG2.out _).mono ?_); rintro e w3 ⟨rfl, hb⟩; have HB3 := Lib.hid (HB2.out.trans (hb.mono HB2.out.size)); clear hb))
  clear HG2 HAL HO2 HB2
  go_cut [7] (fun t7 wx => ∃ a A' B' e e', t7 = .pointer (some ⟨a, 0, none⟩) ∧ Hid (MineW w1 a A' B' X.length Y.length e e' X Y wx))
  case first =>
    have HSX : Hid (∀ W', Below w1.heap.size w1 W' → W'.cell? ⟨w.heap.size + 1 + 1, 0, none⟩ = some (.slice A X.length c) ∧ W'.cell? ⟨w.heap.size + 1 + 1, 1, none⟩ = some (.slice B Y.length c')) := fun W' hb => ⟨(HO1.out.below hb HO1.out.lt).cell 0, (HO1.out.below hb HO1.out.lt).cell 1⟩
    have hbn := build_none
    obtain ⟨w4, hw4⟩ : ∃ W, W = w3.drew := ⟨_, rfl⟩
    have HC4 : Hid (CpW w1 (.slice none 0 0) (.slice none 0 0) [] [] w4) := by rw [hw4]; exact CpW.start w1 _ HB3.out.drew
    have HS0 : Hid (Below w1.heap.size w1 w3.drew) := HB3.out.drew
    refine wp_region_held_drew (S := fun w' => Below w1.heap.size w1 w') (by kernel_rfl) HS0.out (fun hS => ?_)
    rw [← hw4]
    rw [← hw4] at hS
    clear HS0 hw4
    (refine wpAnyH_take (i := 1) (v := .pointer (some ⟨w.heap.size + 1 + 1, 0, none⟩)) rfl (by kernel_rfl) (by kernel_rfl) (by kernel_rfl) (fun _ _ _ h => h) (Or.inl ⟨by kernel_rfl, fun w hSw => by go_simp⟩) hS ?_)
    (try simp only [Act.put])
    (refine wpAnyH_take (i := 2) (v := .slice A X.length c) rfl (by kernel_rfl) (by kernel_rfl) (by kernel_rfl) (fun _ _ _ h => h) (Or.inl ⟨by kernel_rfl, fun w hSw => by have hc := (HSX.out w hSw).1; go_simp⟩) hS ?_)
    (try simp only [Act.put])
    (refine wpAnyH_take (i := 5) (v := .pointer (some ⟨w.heap.size + 1 + 1, 1, none⟩)) rfl (by kernel_rfl) (by kernel_rfl) (by kernel_rfl) (fun _ _ _ h => h) (Or.inl ⟨by kernel_rfl, fun w hSw => by go_simp⟩) hS ?_)
    (try simp only [Act.put])
    (refine wpAnyH_take (i := 6) (v := .slice B Y.length c') rfl (by kernel_rfl) (by kernel_rfl) (by kernel_rfl) (fun _ _ _ h => h) (Or.inl ⟨by kernel_rfl, fun w hSw => by have hc := (HSX.out w hSw).2; go_simp⟩) hS ?_)
    (try simp only [Act.put])
    refine wpAnyH_ready (rs := [0, 4, 9]) (by decide +kernel) (by simp) (AllReadyH.cons rfl (fun K hK => ?_) (AllReadyH.cons rfl (fun K hK => ?_) (AllReadyH.cons rfl (fun K hK => ?_) AllReadyH.nil)))
    all_goals go_simp
    · obtain ⟨w5, hwn⟩ : ∃ W, W = w4.alloc (.cells #[] 23) := ⟨_, rfl⟩
      have HC5 := HC4.out.lit1
      rw [← hwn] at HC5
      have HC5 := Lib.hid HC5
      rw [← hwn]
      clear hwn
      refine hK.out _ _ (HC5.out.far) (fun hS => ?_)
      clear hK K
      (try simp only [Act.put])
      obtain ⟨A1, c1, wA, hap1, hCA, hBA⟩ := HC5.out.app1 (c := c) rfl (HX.out.far HC5.out.far) (by omega)
      have HCA := Lib.hid hCA
      have HBA := Lib.hid hBA
      clear hCA hBA
      refine wpAnyH_ready (rs := [3, 4, 9]) (by decide +kernel) (by simp) (AllReadyH.cons rfl (fun K hK => ?_) (AllReadyH.cons rfl (fun K hK => ?_) (AllReadyH.cons rfl (fun K hK => ?_) AllReadyH.nil)))
      all_goals go_simp
      · have HC6 := HCA
        refine hK.out _ _ (HC6.out.far) (fun hS => ?_)
        clear hK K
        (try simp only [Act.put])
        clear hap1 HCA HBA
        generalize wA = w6 at *
        refine wpAnyH_ready (rs := [4, 9]) (by decide +kernel) (by simp) (AllReadyH.cons rfl (fun K hK => ?_) (AllReadyH.cons rfl (fun K hK => ?_) AllReadyH.nil))
        all_goals go_simp
        · obtain ⟨w7, hwn⟩ : ∃ W, W = w6.alloc (.cells #[] 23) := ⟨_, rfl⟩
          have HC7 := HC6.out.lit2
          rw [← hwn] at HC7
          have HC7 := Lib.hid HC7
          rw [← hwn]
          clear hwn
          refine hK.out _ _ (HC7.out.far) (fun hS => ?_)
          clear hK K
          (try simp only [Act.put])
          obtain ⟨B1, c2, wB, hap2, hCB, hBB⟩ := HC7.out.app2 (c := c') rfl (HY.out.far HC7.out.far) (by omega)
          have HCB := Lib.hid hCB
          have HBB := Lib.hid hBB
          clear hCB hBB
          refine wpAnyH_ready (rs := [7, 9]) (by decide +kernel) (by simp) (AllReadyH.cons rfl (fun K hK => ?_) (AllReadyH.cons rfl (fun K hK => ?_) AllReadyH.nil))
          all_goals go_simp
          · have HC8 := HCB
            refine hK.out _ _ (HC8.out.far) (fun hS => ?_)
            clear hK K
            (try simp only [Act.put])
            clear hap2 HCB HBB
            generalize wB = w8 at *
            (refine wpAnyH_take (i := 8) (v := .agg #[.slice A1 X.length c1, .slice B1 Y.length c2]) rfl (by kernel_rfl) (by kernel_rfl) (by kernel_rfl) (fun _ _ _ h => h) (Or.inl ⟨by kernel_rfl, fun w hSw => by go_simp⟩) hS ?_)
            (try simp only [Act.put])
            refine wpAnyH_ready (rs := [9]) (by decide +kernel) (by simp) (AllReadyH.cons rfl (fun K hK => ?_) AllReadyH.nil)
            all_goals go_simp
            obtain ⟨w9, hwn⟩ : ∃ W, W = w8.alloc (.cells #[.slice none 0 0, .slice none 0 0] 29) := ⟨_, rfl⟩
            have HC9 := HC8.out.call ((Below.refl w8.heap.size w8).alloc (Nat.le_refl _) (.cells #[.slice none 0 0, .slice none 0 0] 29))
            rw [← hwn] at HC9
            have HC9 := Lib.hid HC9
            have HBX : Hid (Box w9 w8.heap.size 29 #[.slice none 0 0, .slice none 0 0]) := by rw [hwn]; exact Box.made _ _ _
            have hba : w1.heap.size ≤ w8.heap.size := HC8.out.far.size
            rw [← hwn]
            clear hwn
            refine hK.out _ _ (HC9.out.far) (fun hS => ?_)
            clear hK K
            (try simp only [Act.put])
            obtain ⟨hst, hM⟩ := HC9.out.mine HX.out.all HY.out.all rfl rfl HBX.out hba
            have HM := Lib.hid hM
            clear hM
            refine wpAnyH_ready (rs := [10]) (by decide +kernel) (by simp) (AllReadyH.cons rfl (fun K hK => ?_) AllReadyH.nil)
            go_simp
            refine hK.out _ _ (HM.out.far) (fun hS => ?_)
            clear hK K
            (try simp only [Act.put])
            refine wpAnyH_done (by kernel_rfl) ?_ _
            go_wp2_with fail
            go_meet
            exact ⟨_, _, _, _, _, rfl, HM⟩
          · obtain ⟨w8, hwn⟩ : ∃ W, W = w7.alloc (.cells #[.slice none 0 0, .slice none 0 0] 29) := ⟨_, rfl⟩
            have HC8 := HC7.out.call ((Below.refl w7.heap.size w7).alloc (Nat.le_refl _) (.cells #[.slice none 0 0, .slice none 0 0] 29))
            rw [← hwn] at HC8
            have HC8 := Lib.hid HC8
            have HBX : Hid (Box w8 w7.heap.size 29 #[.slice none 0 0, .slice none 0 0]) := by rw [hwn]; exact Box.made _ _ _
            have hba : w1.heap.size ≤ w7.heap.size := HC7.out.far.size
            rw [← hwn]
            clear hwn
            refine hK.out _ _ (HC8.out.far) (fun hS => ?_)
            clear hK K
            (try simp only [Act.put])
            obtain ⟨B1, c2, wB, hap2, hCB, hBB⟩ := HC8.out.app2 (c := c') rfl (HY.out.far HC8.out.far) (by omega)
            have HCB := Lib.hid hCB
            have HBB := Lib.hid hBB
            clear hCB hBB
            refine wpAnyH_ready (rs := [7]) (by decide +kernel) (by simp) (AllReadyH.cons rfl (fun K hK => ?_) AllReadyH.nil)
            all_goals go_simp
            have HC9 := HCB
            have HBX := Lib.hid (HBB.out _ _ HBX.out)
            refine hK.out _ _ (HC9.out.far) (fun hS => ?_)
            clear hK K
            (try simp only [Act.put])
            clear hap2 HCB HBB
            generalize wB = w9 at *
            (refine wpAnyH_take (i := 8) (v := .agg #[.slice A1 X.length c1, .slice B1 Y.length c2]) rfl (by kernel_rfl) (by kernel_rfl) (by kernel_rfl) (fun _ _ _ h => h) (Or.inl ⟨by kernel_rfl, fun w hSw => by go_simp⟩) hS ?_)
            (try simp only [Act.put])
            obtain ⟨hst, hM⟩ := HC9.out.mine HX.out.all HY.out.all rfl rfl HBX.out hba
            have HM := Lib.hid hM
            clear hM
            refine wpAnyH_ready (rs := [10]) (by decide +kernel) (by simp) (AllReadyH.cons rfl (fun K hK => ?_) AllReadyH.nil)
            go_simp
            refine hK.out _ _ (HM.out.far) (fun hS => ?_)
            clear hK K
            (try simp only [Act.put])
            refine wpAnyH_done (by kernel_rfl) ?_ _
            go_wp2_with fail
            go_meet
            exact ⟨_, _, _, _, _, rfl, HM⟩
        · obtain ⟨w7, hwn⟩ : ∃ W, W = w6.alloc (.cells #[.slice none 0 0, .slice none 0 0] 29) := ⟨_, rfl⟩
          have HC7 := HC6.out.call ((Below.refl w6.heap.size w6).alloc (Nat.le_refl _) (.cells #[.slice none 0 0, .slice none 0 0] 29))
          rw [← hwn] at HC7
          have HC7 := Lib.hid HC7
          have HBX : Hid (Box w7 w6.heap.size 29 #[.slice none 0 0, .slice none 0 0]) := by rw [hwn]; exact Box.made _ _ _
          have hba : w1.heap.size ≤ w6.heap.size := HC6.out.far.size
          rw [← hwn]
          clear hwn
          refine hK.out _ _ (HC7.out.far) (fun hS => ?_)
          clear hK K
          (try simp only [Act.put])
          refine wpAnyH_ready (rs := [4]) (by decide +kernel) (by simp) (AllReadyH.cons rfl (fun K hK => ?_) AllReadyH.nil)
          all_goals go_simp
          obtain ⟨w8, hwn⟩ : ∃ W, W = w7.alloc (.cells #[] 23) := ⟨_, rfl⟩
          have HC8 := HC7.out.lit2
          rw [← hwn] at HC8
          have HC8 := Lib.hid HC8
          have HBX := Lib.hid (HBX.out.below (w' := w8) (by rw [hwn]; exact (Below.refl _ _).alloc (Nat.le_refl _) _) HBX.out.lt)
          rw [← hwn]
          clear hwn
          refine hK.out _ _ (HC8.out.far) (fun hS => ?_)
          clear hK K
          (try simp only [Act.put])
          obtain ⟨B1, c2, wB, hap2, hCB, hBB⟩ := HC8.out.app2 (c := c') rfl (HY.out.far HC8.out.far) (by omega)
          have HCB := Lib.hid hCB
          have HBB := Lib.hid hBB
          clear hCB hBB
          refine wpAnyH_ready (rs := [7]) (by decide +kernel) (by simp) (AllReadyH.cons rfl (fun K hK => ?_) AllReadyH.nil)
          all_goals go_simp
          have HC9 := HCB
          have HBX := Lib.hid (HBB.out _ _ HBX.out)
          refine hK.out _ _ (HC9.out.far) (fun hS => ?_)
          clear hK K
          (try simp only [Act.put])
          clear hap2 HCB HBB
          generalize wB = w9 at *
          (refine wpAnyH_take (i := 8) (v := .agg #[.slice A1 X.length c1, .slice B1 Y.length c2]) rfl (by kernel_rfl) (by kernel_rfl) (by kernel_rfl) (fun _ _ _ h => h) (Or.inl ⟨by kernel_rfl, fun w hSw => by go_simp⟩) hS ?_)
          (try simp only [Act.put])
          obtain ⟨hst, hM⟩ := HC9.out.mine HX.out.all HY.out.all rfl rfl HBX.out hba
          have HM := Lib.hid hM
          clear hM
          refine wpAnyH_ready (rs := [10]) (by decide +kernel) (by simp) (AllReadyH.cons rfl (fun K hK => ?_) AllReadyH.nil)
          go_simp
          refine hK.out _ _ (HM.out.far) (fun hS => ?_)
          clear hK K
          (try simp only [Act.put])
          refine wpAnyH_done (by kernel_rfl) ?_ _
          go_wp2_with fail
          go_meet
          exact ⟨_, _, _, _, _, rfl, HM⟩
      · obtain ⟨w6, hwn⟩ : ∃ W, W = w5.alloc (.cells #[] 23) := ⟨_, rfl⟩
        have HC6 := HC5.out.lit2
        rw [← hwn] at HC6
        have HC6 := Lib.hid HC6
        rw [← hwn]
        clear hwn
        refine hK.out _ _ (HC6.out.far) (fun hS => ?_)
        clear hK K
        (try simp only [Act.put])
        obtain ⟨A1, c1, wA, hap1, hCA, hBA⟩ := HC6.out.app1 (c := c) rfl (HX.out.far HC6.out.far) (by omega)
        have HCA := Lib.hid hCA
        have HBA := Lib.hid hBA
        clear hCA hBA
        refine wpAnyH_ready (rs := [3, 9]) (by decide +kernel) (by simp) (AllReadyH.cons rfl (fun K hK => ?_) (AllReadyH.cons rfl (fun K hK => ?_) AllReadyH.nil))
        all_goals go_simp
        · have HC7 := HCA
          refine hK.out _ _ (HC7.out.far) (fun hS => ?_)
          clear hK K
          (try simp only [Act.put])
          clear hap1 HCA HBA
          generalize wA = w7 at *
          obtain ⟨B1, c2, wB, hap2, hCB, hBB⟩ := HC7.out.app2 (c := c') rfl (HY.out.far HC7.out.far) (by omega)
          have HCB := Lib.hid hCB
          have HBB := Lib.hid hBB
          clear hCB hBB
          refine wpAnyH_ready (rs := [7, 9]) (by decide +kernel) (by simp) (AllReadyH.cons rfl (fun K hK => ?_) (AllReadyH.cons rfl (fun K hK => ?_) AllReadyH.nil))
          all_goals go_simp
          · have HC8 := HCB
            refine hK.out _ _ (HC8.out.far) (fun hS => ?_)
            clear hK K
            (try simp only [Act.put])
            clear hap2 HCB HBB
            generalize wB = w8 at *
            (refine wpAnyH_take (i := 8) (v := .agg #[.slice A1 X.length c1, .slice B1 Y.length c2]) rfl (by kernel_rfl) (by kernel_rfl) (by kernel_rfl) (fun _ _ _ h => h) (Or.inl ⟨by kernel_rfl, fun w hSw => by go_simp⟩) hS ?_)
            (try simp only [Act.put])
            refine wpAnyH_ready (rs := [9]) (by decide +kernel) (by simp) (AllReadyH.cons rfl (fun K hK => ?_) AllReadyH.nil)
            all_goals go_simp
            obtain ⟨w9, hwn⟩ : ∃ W, W = w8.alloc (.cells #[.slice none 0 0, .slice none 0 0] 29) := ⟨_, rfl⟩
            have HC9 := HC8.out.call ((Below.refl w8.heap.size w8).alloc (Nat.le_refl _) (.cells #[.slice none 0 0, .slice none 0 0] 29))
            rw [← hwn] at HC9
            have HC9 := Lib.hid HC9
            have HBX : Hid (Box w9 w8.heap.size 29 #[.slice none 0 0, .slice none 0 0]) := by rw [hwn]; exact Box.made _ _ _
            have hba : w1.heap.size ≤ w8.heap.size := HC8.out.far.size
            rw [← hwn]
            clear hwn
            refine hK.out _ _ (HC9.out.far) (fun hS => ?_)
            clear hK K
            (try simp only [Act.put])
            obtain ⟨hst, hM⟩ := HC9.out.mine HX.out.all HY.out.all rfl rfl HBX.out hba
            have HM := Lib.hid hM
            clear hM
            refine wpAnyH_ready (rs := [10]) (by decide +kernel) (by simp) (AllReadyH.cons rfl (fun K hK => ?_) AllReadyH.nil)
            go_simp
            refine hK.out _ _ (HM.out.far) (fun hS => ?_)
            clear hK K
            (try simp only [Act.put])
            refine wpAnyH_done (by kernel_rfl) ?_ _
            go_wp2_with fail
            go_meet
            exact ⟨_, _, _, _, _, rfl, HM⟩
          · obtain ⟨w8, hwn⟩ : ∃ W, W = w7.alloc (.cells #[.slice none 0 0, .slice none 0 0] 29) := ⟨_, rfl⟩
            have HC8 := HC7.out.call ((Below.refl w7.heap.size w7).alloc (Nat.le_refl _) (.cells #[.slice none 0 0, .slice none 0 0] 29))
            rw [← hwn] at HC8
            have HC8 := Lib.hid HC8
            have HBX : Hid (Box w8 w7.heap.size 29 #[.slice none 0 0, .slice none 0 0]) := by rw [hwn]; exact Box.made _ _ _
            have hba : w1.heap.size ≤ w7.heap.size := HC7.out.far.size
            rw [← hwn]
            clear hwn
            refine hK.out _ _ (HC8.out.far) (fun hS => ?_)
            clear hK K
            (try simp only [Act.put])
            obtain ⟨B1, c2, wB, hap2, hCB, hBB⟩ := HC8.out.app2 (c := c') rfl (HY.out.far HC8.out.far) (by omega)
            have HCB := Lib.hid hCB
            have HBB := Lib.hid hBB
            clear hCB hBB
            refine wpAnyH_ready (rs := [7]) (by decide +kernel) (by simp) (AllReadyH.cons rfl (fun K hK => ?_) AllReadyH.nil)
            all_goals go_simp
            have HC9 := HCB
            have HBX := Lib.hid (HBB.out _ _ HBX.out)
            refine hK.out _ _ (HC9.out.far) (fun hS => ?_)
            clear hK K
            (try simp only [Act.put])
            clear hap2 HCB HBB
            generalize wB = w9 at *
            (refine wpAnyH_take (i := 8) (v := .agg #[.slice A1 X.length c1, .slice B1 Y.length c2]) rfl (by kernel_rfl) (by kernel_rfl) (by kernel_rfl) (fun _ _ _ h => h) (Or.inl ⟨by kernel_rfl, fun w hSw => by go_simp⟩) hS ?_)
            (try simp only [Act.put])
            obtain ⟨hst, hM⟩ := HC9.out.mine HX.out.all HY.out.all rfl rfl HBX.out hba
            have HM := Lib.hid hM
            clear hM
            refine wpAnyH_ready (rs := [10]) (by decide +kernel) (by simp) (AllReadyH.cons rfl (fun K hK => ?_) AllReadyH.nil)
            go_simp
            refine hK.out _ _ (HM.out.far) (fun hS => ?_)
            clear hK K
            (try simp only [Act.put])
            refine wpAnyH_done (by kernel_rfl) ?_ _
            go_wp2_with fail
            go_meet
            exact ⟨_, _, _, _, _, rfl, HM⟩
        · obtain ⟨w7, hwn⟩ : ∃ W, W = w6.alloc (.cells #[.slice none 0 0, .slice none 0 0] 29) := ⟨_, rfl⟩
          have HC7 := HC6.out.call ((Below.refl w6.heap.size w6).alloc (Nat.le_refl _) (.cells #[.slice none 0 0, .slice none 0 0] 29))
          rw [← hwn] at HC7
          have HC7 := Lib.hid HC7
          have HBX : Hid (Box w7 w6.heap.size 29 #[.slice none 0 0, .slice none 0 0]) := by rw [hwn]; exact Box.made _ _ _
          have hba : w1.heap.size ≤ w6.heap.size := HC6.out.far.size
          rw [← hwn]
          clear hwn
          refine hK.out _ _ (HC7.out.far) (fun hS => ?_)
          clear hK K
          (try simp only [Act.put])
          obtain ⟨A1, c1, wA, hap1, hCA, hBA⟩ := HC7.out.app1 (c := c) rfl (HX.out.far HC7.out.far) (by omega)
          have HCA := Lib.hid hCA
          have HBA := Lib.hid hBA
          clear hCA hBA
          refine wpAnyH_ready (rs := [3]) (by decide +kernel) (by simp) (AllReadyH.cons rfl (fun K hK => ?_) AllReadyH.nil)
          all_goals go_simp
          have HC8 := HCA
          have HBX := Lib.hid (HBA.out _ _ HBX.out)
          refine hK.out _ _ (HC8.out.far) (fun hS => ?_)
          clear hK K
          (try simp only [Act.put])
          clear hap1 HCA HBA
          generalize wA = w8 at *
          obtain ⟨B1, c2, wB, hap2, hCB, hBB⟩ := HC8.out.app2 (c := c') rfl (HY.out.far HC8.out.far) (by omega)
          have HCB := Lib.hid hCB
          have HBB := Lib.hid hBB
          clear hCB hBB
          refine wpAnyH_ready (rs := [7]) (by decide +kernel) (by simp) (AllReadyH.cons rfl (fun K hK => ?_) AllReadyH.nil)
          all_goals go_simp
          have HC9 := HCB
          have HBX := Lib.hid (HBB.out _ _ HBX.out)
          refine hK.out _ _ (HC9.out.far) (fun hS => ?_)
          clear hK K
          (try simp only [Act.put])
          clear hap2 HCB HBB
          generalize wB = w9 at *
          (refine wpAnyH_take (i := 8) (v := .agg #[.slice A1 X.length c1, .slice B1 Y.length c2]) rfl (by kernel_rfl) (by kernel_rfl) (by kernel_rfl) (fun _ _ _ h => h) (Or.inl ⟨by kernel_rfl, fun w hSw => by go_simp⟩) hS ?_)
          (try simp only [Act.put])
          obtain ⟨hst, hM⟩ := HC9.out.mine HX.out.all HY.out.all rfl rfl HBX.out hba
          have HM := Lib.hid hM
          clear hM
          refine wpAnyH_ready (rs := [10]) (by decide +kernel) (by simp) (AllReadyH.cons rfl (fun K hK => ?_) AllReadyH.nil)
          go_simp
          refine hK.out _ _ (HM.out.far) (fun hS => ?_)
          clear hK K
          (try simp only [Act.put])
          refine wpAnyH_done (by kernel_rfl) ?_ _
          go_wp2_with fail
          go_meet
          exact ⟨_, _, _, _, _, rfl, HM⟩
      · obtain ⟨w6, hwn⟩ : ∃ W, W = w5.alloc (.cells #[.slice none 0 0, .slice none 0 0] 29) := ⟨_, rfl⟩
        have HC6 := HC5.out.call ((Below.refl w5.heap.size w5).alloc (Nat.le_refl _) (.cells #[.slice none 0 0, .slice none 0 0] 29))
        rw [← hwn] at HC6
        have HC6 := Lib.hid HC6
        have HBX : Hid (Box w6 w5.heap.size 29 #[.slice none 0 0, .slice none 0 0]) := by rw [hwn]; exact Box.made _ _ _
        have hba : w1.heap.size ≤ w5.heap.size := HC5.out.far.size
        rw [← hwn]
        clear hwn
        refine hK.out _ _ (HC6.out.far) (fun hS => ?_)
        clear hK K
        (try simp only [Act.put])
        obtain ⟨A1, c1, wA, hap1, hCA, hBA⟩ := HC6.out.app1 (c := c) rfl (HX.out.far HC6.out.far) (by omega)
        have HCA := Lib.hid hCA
        have HBA := Lib.hid hBA
        clear hCA hBA
        refine wpAnyH_ready (rs := [3, 4]) (by decide +kernel) (by simp) (AllReadyH.cons rfl (fun K hK => ?_) (AllReadyH.cons rfl (fun K hK => ?_) AllReadyH.nil))
        all_goals go_simp
        · have HC7 := HCA
          have HBX := Lib.hid (HBA.out _ _ HBX.out)
          refine hK.out _ _ (HC7.out.far) (fun hS => ?_)
          clear hK K
          (try simp only [Act.put])
          clear hap1 HCA HBA
          generalize wA = w7 at *
          refine wpAnyH_ready (rs := [4]) (by decide +kernel) (by simp) (AllReadyH.cons rfl (fun K hK => ?_) AllReadyH.nil)
          all_goals go_simp
          obtain ⟨w8, hwn⟩ : ∃ W, W = w7.alloc (.cells #[] 23) := ⟨_, rfl⟩
          have HC8 := HC7.out.lit2
          rw [← hwn] at HC8
          have HC8 := Lib.hid HC8
          have HBX := Lib.hid (HBX.out.below (w' := w8) (by rw [hwn]; exact (Below.refl _ _).alloc (Nat.le_refl _) _) HBX.out.lt)
          rw [← hwn]
          clear hwn
          refine hK.out _ _ (HC8.out.far) (fun hS => ?_)
          clear hK K
          (try simp only [Act.put])
          obtain ⟨B1, c2, wB, hap2, hCB, hBB⟩ := HC8.out.app2 (c := c') rfl (HY.out.far HC8.out.far) (by omega)
          have HCB := Lib.hid hCB
          have HBB := Lib.hid hBB
          clear hCB hBB
          refine wpAnyH_ready (rs := [7]) (by decide +kernel) (by simp) (AllReadyH.cons rfl (fun K hK => ?_) AllReadyH.nil)
          all_goals go_simp
          have HC9 := HCB
          have HBX := Lib.hid (HBB.out _ _ HBX.out)
          refine hK.out _ _ (HC9.out.far) (fun hS => ?_)
          clear hK K
          (try simp only [Act.put])
          clear hap2 HCB HBB
          generalize wB = w9 at *
          (refine wpAnyH_take (i := 8) (v := .agg #[.slice A1 X.length c1, .slice B1 Y.length c2]) rfl (by kernel_rfl) (by kernel_rfl) (by kernel_rfl) (fun _ _ _ h => h) (Or.inl ⟨by kernel_rfl, fun w hSw => by go_simp⟩) hS ?_)
          (try simp only [Act.put])
          obtain ⟨hst, hM⟩ := HC9.out.mine HX.out.all HY.out.all rfl rfl HBX.out hba
          have HM := Lib.hid hM
          clear hM
          refine wpAnyH_ready (rs := [10]) (by decide +kernel) (by simp) (AllReadyH.cons rfl (fun K hK => ?_) AllReadyH.nil)
          go_simp
          refine hK.out _ _ (HM.out.far) (fun hS => ?_)
          clear hK K
          (try simp only [Act.put])
          refine wpAnyH_done (by kernel_rfl) ?_ _
          go_wp2_with fail
          go_meet
          exact ⟨_, _, _, _, _, rfl, HM⟩
        · obtain ⟨w7, hwn⟩ : ∃ W, W = w6.alloc (.cells #[] 23) := ⟨_, rfl⟩
          have HC7 := HC6.out.lit2
          rw [← hwn] at HC7
          have HC7 := Lib.hid HC7
          have HBX := Lib.hid (HBX.out.below (w' := w7) (by rw [hwn]; exact (Below.refl _ _).alloc (Nat.le_refl _) _) HBX.out.lt)
          rw [← hwn]
          clear hwn
          refine hK.out _ _ (HC7.out.far) (fun hS => ?_)
          clear hK K
          (try simp only [Act.put])
          obtain ⟨A1, c1, wA, hap1, hCA, hBA⟩ := HC7.out.app1 (c := c) rfl (HX.out.far HC7.out.far) (by omega)
          have HCA := Lib.hid hCA
          have HBA := Lib.hid hBA
          clear hCA hBA
          refine wpAnyH_ready (rs := [3]) (by decide +kernel) (by simp) (AllReadyH.cons rfl (fun K hK => ?_) AllReadyH.nil)
          all_goals go_simp
          have HC8 := HCA
          have HBX := Lib.hid (HBA.out _ _ HBX.out)
          refine hK.out _ _ (HC8.out.far) (fun hS => ?_)
          clear hK K
          (try simp only [Act.put])
          clear hap1 HCA HBA
          generalize wA = w8 at *
          obtain ⟨B1, c2, wB, hap2, hCB, hBB⟩ := HC8.out.app2 (c := c') rfl (HY.out.far HC8.out.far) (by omega)
          have HCB := Lib.hid hCB
          have HBB := Lib.hid hBB
          clear hCB hBB
          refine wpAnyH_ready (rs := [7]) (by decide +kernel) (by simp) (AllReadyH.cons rfl (fun K hK => ?_) AllReadyH.nil)
          all_goals go_simp
          have HC9 := HCB
          have HBX := Lib.hid (HBB.out _ _ HBX.out)
          refine hK.out _ _ (HC9.out.far) (fun hS => ?_)
          clear hK K
          (try simp only [Act.put])
          clear hap2 HCB HBB
          generalize wB = w9 at *
          (refine wpAnyH_take (i := 8) (v := .agg #[.slice A1 X.length c1, .slice B1 Y.length c2]) rfl (by kernel_rfl) (by kernel_rfl) (by kernel_rfl) (fun _ _ _ h => h) (Or.inl ⟨by kernel_rfl, fun w hSw => by go_simp⟩) hS ?_)
          (try simp only [Act.put])
          obtain ⟨hst, hM⟩ := HC9.out.mine HX.out.all HY.out.all rfl rfl HBX.out hba
          have HM := Lib.hid hM
          clear hM
          refine wpAnyH_ready (rs := [10]) (by decide +kernel) (by simp) (AllReadyH.cons rfl (fun K hK => ?_) AllReadyH.nil)
          go_simp
          refine hK.out _ _ (HM.out.far) (fun hS => ?_)
          clear hK K
          (try simp only [Act.put])
          refine wpAnyH_done (by kernel_rfl) ?_ _
          go_wp2_with fail
          go_meet
          exact ⟨_, _, _, _, _, rfl, HM⟩
    · obtain ⟨w5, hwn⟩ : ∃ W, W = w4.alloc (.cells #[] 23) := ⟨_, rfl⟩
      have HC5 := HC4.out.lit2
      rw [← hwn] at HC5
      have HC5 := Lib.hid HC5
      rw [← hwn]
      clear hwn
      refine hK.out _ _ (HC5.out.far) (fun hS => ?_)
      clear hK K
      (try simp only [Act.put])
      refine wpAnyH_ready (rs := [0, 9]) (by decide +kernel) (by simp) (AllReadyH.cons rfl (fun K hK => ?_) (AllReadyH.cons rfl (fun K hK => ?_) AllReadyH.nil))
      all_goals go_simp
      · obtain ⟨w6, hwn⟩ : ∃ W, W = w5.alloc (.cells #[] 23) := ⟨_, rfl⟩
        have HC6 := HC5.out.lit1
        rw [← hwn] at HC6
        have HC6 := Lib.hid HC6
        rw [← hwn]
        clear hwn
        refine hK.out _ _ (HC6.out.far) (fun hS => ?_)
        clear hK K
        (try simp only [Act.put])
        obtain ⟨A1, c1, wA, hap1, hCA, hBA⟩ := HC6.out.app1 (c := c) rfl (HX.out.far HC6.out.far) (by omega)
        have HCA := Lib.hid hCA
        have HBA := Lib.hid hBA
        clear hCA hBA
        refine wpAnyH_ready (rs := [3, 9]) (by decide +kernel) (by simp) (AllReadyH.cons rfl (fun K hK => ?_) (AllReadyH.cons rfl (fun K hK => ?_) AllReadyH.nil))
        all_goals go_simp
        · have HC7 := HCA
          refine hK.out _ _ (HC7.out.far) (fun hS => ?_)
          clear hK K
          (try simp only [Act.put])
          clear hap1 HCA HBA
          generalize wA = w7 at *
          obtain ⟨B1, c2, wB, hap2, hCB, hBB⟩ := HC7.out.app2 (c := c') rfl (HY.out.far HC7.out.far) (by omega)
          have HCB := Lib.hid hCB
          have HBB := Lib.hid hBB
          clear hCB hBB
          refine wpAnyH_ready (rs := [7, 9]) (by decide +kernel) (by simp) (AllReadyH.cons rfl (fun K hK => ?_) (AllReadyH.cons rfl (fun K hK => ?_) AllReadyH.nil))
          all_goals go_simp
          · have HC8 := HCB
            refine hK.out _ _ (HC8.out.far) (fun hS => ?_)
            clear hK K
            (try simp only [Act.put])
            clear hap2 HCB HBB
            generalize wB = w8 at *
            (refine wpAnyH_take (i := 8) (v := .agg #[.slice A1 X.length c1, .slice B1 Y.length c2]) rfl (by kernel_rfl) (by kernel_rfl) (by kernel_rfl) (fun _ _ _ h => h) (Or.inl ⟨by kernel_rfl, fun w hSw => by go_simp⟩) hS ?_)
            (try simp only [Act.put])
            refine wpAnyH_ready (rs := [9]) (by decide +kernel) (by simp) (AllReadyH.cons rfl (fun K hK => ?_) AllReadyH.nil)
            all_goals go_simp
            obtain ⟨w9, hwn⟩ : ∃ W, W = w8.alloc (.cells #[.slice none 0 0, .slice none 0 0] 29) := ⟨_, rfl⟩
            have HC9 := HC8.out.call ((Below.refl w8.heap.size w8).alloc (Nat.le_refl _) (.cells #[.slice none 0 0, .slice none 0 0] 29))
            rw [← hwn] at HC9
            have HC9 := Lib.hid HC9
            have HBX : Hid (Box w9 w8.heap.size 29 #[.slice none 0 0, .slice none 0 0]) := by rw [hwn]; exact Box.made _ _ _
            have hba : w1.heap.size ≤ w8.heap.size := HC8.out.far.size
            rw [← hwn]
            clear hwn
            refine hK.out _ _ (HC9.out.far) (fun hS => ?_)
            clear hK K
            (try simp only [Act.put])
            obtain ⟨hst, hM⟩ := HC9.out.mine HX.out.all HY.out.all rfl rfl HBX.out hba
            have HM := Lib.hid hM
            clear hM
            refine wpAnyH_ready (rs := [10]) (by decide +kernel) (by simp) (AllReadyH.cons rfl (fun K hK => ?_) AllReadyH.nil)
            go_simp
            refine hK.out _ _ (HM.out.far) (fun hS => ?_)
            clear hK K
            (try simp only [Act.put])
            refine wpAnyH_done (by kernel_rfl) ?_ _
            go_wp2_with fail
            go_meet
            exact ⟨_, _, _, _, _, rfl, HM⟩
          · obtain ⟨w8, hwn⟩ : ∃ W, W = w7.alloc (.cells #[.slice none 0 0, .slice none 0 0] 29) := ⟨_, rfl⟩
            have HC8 := HC7.out.call ((Below.refl w7.heap.size w7).alloc (Nat.le_refl _) (.cells #[.slice none 0 0, .slice none 0 0] 29))
            rw [← hwn] at HC8
            have HC8 := Lib.hid HC8
            have HBX : Hid (Box w8 w7.heap.size 29 #[.slice none 0 0, .slice none 0 0]) := by rw [hwn]; exact Box.made _ _ _
            have hba : w1.heap.size ≤ w7.heap.size := HC7.out.far.size
            rw [← hwn]
            clear hwn
            refine hK.out _ _ (HC8.out.far) (fun hS => ?_)
            clear hK K
            (try simp only [Act.put])
            obtain ⟨B1, c2, wB, hap2, hCB, hBB⟩ := HC8.out.app2 (c := c') rfl (HY.out.far HC8.out.far) (by omega)
            have HCB := Lib.hid hCB
            have HBB := Lib.hid hBB
            clear hCB hBB
            refine wpAnyH_ready (rs := [7]) (by decide +kernel) (by simp) (AllReadyH.cons rfl (fun K hK => ?_) AllReadyH.nil)
            all_goals go_simp
            have HC9 := HCB
            have HBX := Lib.hid (HBB.out _ _ HBX.out)
            refine hK.out _ _ (HC9.out.far) (fun hS => ?_)
            clear hK K
            (try simp only [Act.put])
            clear hap2 HCB HBB
            generalize wB = w9 at *
            (refine wpAnyH_take (i := 8) (v := .agg #[.slice A1 X.length c1, .slice B1 Y.length c2]) rfl (by kernel_rfl) (by kernel_rfl) (by kernel_rfl) (fun _ _ _ h => h) (Or.inl ⟨by kernel_rfl, fun w hSw => by go_simp⟩) hS ?_)
            (try simp only [Act.put])
            obtain ⟨hst, hM⟩ := HC9.out.mine HX.out.all HY.out.all rfl rfl HBX.out hba
            have HM := Lib.hid hM
            clear hM
            refine wpAnyH_ready (rs := [10]) (by decide +kernel) (by simp) (AllReadyH.cons rfl (fun K hK => ?_) AllReadyH.nil)
            go_simp
            refine hK.out _ _ (HM.out.far) (fun hS => ?_)
            clear hK K
            (try simp only [Act.put])
            refine wpAnyH_done (by kernel_rfl) ?_ _
            go_wp2_with fail
            go_meet
            exact ⟨_, _, _, _, _, rfl, HM⟩
        · obtain ⟨w7, hwn⟩ : ∃ W, W = w6.alloc (.cells #[.slice none 0 0, .slice none 0 0] 29) := ⟨_, rfl⟩
          have HC7 := HC6.out.call ((Below.refl w6.heap.size w6).alloc (Nat.le_refl _) (.cells #[.slice none 0 0, .slice none 0 0] 29))
          rw [← hwn] at HC7
          have HC7 := Lib.hid HC7
          have HBX : Hid (Box w7 w6.heap.size 29 #[.slice none 0 0, .slice none 0 0]) := by rw [hwn]; exact Box.made _ _ _
          have hba : w1.heap.size ≤ w6.heap.size := HC6.out.far.size
          rw [← hwn]
          clear hwn
          refine hK.out _ _ (HC7.out.far) (fun hS => ?_)
          clear hK K
          (try simp only [Act.put])
          obtain ⟨A1, c1, wA, hap1, hCA, hBA⟩ := HC7.out.app1 (c := c) rfl (HX.out.far HC7.out.far) (by omega)
          have HCA := Lib.hid hCA
          have HBA := Lib.hid hBA
          clear hCA hBA
          refine wpAnyH_ready (rs := [3]) (by decide +kernel) (by simp) (AllReadyH.cons rfl (fun K hK => ?_) AllReadyH.nil)
          all_goals go_simp
          have HC8 := HCA
          have HBX := Lib.hid (HBA.out _ _ HBX.out)
          refine hK.out _ _ (HC8.out.far) (fun hS => ?_)
          clear hK K
          (try simp only [Act.put])
          clear hap1 HCA HBA
          generalize wA = w8 at *
          obtain ⟨B1, c2, wB, hap2, hCB, hBB⟩ := HC8.out.app2 (c := c') rfl (HY.out.far HC8.out.far) (by omega)
          have HCB := Lib.hid hCB
          have HBB := Lib.hid hBB
          clear hCB hBB
          refine wpAnyH_ready (rs := [7]) (by decide +kernel) (by simp) (AllReadyH.cons rfl (fun K hK => ?_) AllReadyH.nil)
          all_goals go_simp
          have HC9 := HCB
          have HBX := Lib.hid (HBB.out _ _ HBX.out)
          refine hK.out _ _ (HC9.out.far) (fun hS => ?_)
          clear hK K
          (try simp only [Act.put])
          clear hap2 HCB HBB
          generalize wB = w9 at *
          (refine wpAnyH_take (i := 8) (v := .agg #[.slice A1 X.length c1, .slice B1 Y.length c2]) rfl (by kernel_rfl) (by kernel_rfl) (by kernel_rfl) (fun _ _ _ h => h) (Or.inl ⟨by kernel_rfl, fun w hSw => by go_simp⟩) hS ?_)
          (try simp only [Act.put])
          obtain ⟨hst, hM⟩ := HC9.out.mine HX.out.all HY.out.all rfl rfl HBX.out hba
          have HM := Lib.hid hM
          clear hM
          refine wpAnyH_ready (rs := [10]) (by decide +kernel) (by simp) (AllReadyH.cons rfl (fun K hK => ?_) AllReadyH.nil)
          go_simp
          refine hK.out _ _ (HM.out.far) (fun hS => ?_)
          clear hK K
          (try simp only [Act.put])
          refine wpAnyH_done (by kernel_rfl) ?_ _
          go_wp2_with fail
          go_meet
          exact ⟨_, _, _, _, _, rfl, HM⟩
      · obtain ⟨w6, hwn⟩ : ∃ W, W = w5.alloc (.cells #[.slice none 0 0, .slice none 0 0] 29) := ⟨_, rfl⟩
        have HC6 := HC5.out.call ((Below.refl w5.heap.size w5).alloc (Nat.le_refl _) (.cells #[.slice none 0 0, .slice none 0 0] 29))
        rw [← hwn] at HC6
        have HC6 := Lib.hid HC6
        have HBX : Hid (Box w6 w5.heap.size 29 #[.slice none 0 0, .slice none 0 0]) := by rw [hwn]; exact Box.made _ _ _
        have hba : w1.heap.size ≤ w5.heap.size := HC5.out.far.size
        rw [← hwn]
        clear hwn
        refine hK.out _ _ (HC6.out.far) (fun hS => ?_)
        clear hK K
        (try simp only [Act.put])
        refine wpAnyH_ready (rs := [0]) (by decide +kernel) (by simp) (AllReadyH.cons rfl (fun K hK => ?_) AllReadyH.nil)
        all_goals go_simp
        obtain ⟨w7, hwn⟩ : ∃ W, W = w6.alloc (.cells #[] 23) := ⟨_, rfl⟩
        have HC7 := HC6.out.lit1
        rw [← hwn] at HC7
        have HC7 := Lib.hid HC7
        have HBX := Lib.hid (HBX.out.below (w' := w7) (by rw [hwn]; exact (Below.refl _ _).alloc (Nat.le_refl _) _) HBX.out.lt)
        rw [← hwn]
        clear hwn
        refine hK.out _ _ (HC7.out.far) (fun hS => ?_)
        clear hK K
        (try simp only [Act.put])
        obtain ⟨A1, c1, wA, hap1, hCA, hBA⟩ := HC7.out.app1 (c := c) rfl (HX.out.far HC7.out.far) (by omega)
        have HCA := Lib.hid hCA
        have HBA := Lib.hid hBA
        clear hCA hBA
        refine wpAnyH_ready (rs := [3]) (by decide +kernel) (by simp) (AllReadyH.cons rfl (fun K hK => ?_) AllReadyH.nil)
        all_goals go_simp
        have HC8 := HCA
        have HBX := Lib.hid (HBA.out _ _ HBX.out)
        refine hK.out _ _ (HC8.out.far) (fun hS => ?_)
        clear hK K
        (try simp only [Act.put])
        clear hap1 HCA HBA
        generalize wA = w8 at *
        obtain ⟨B1, c2, wB, hap2, hCB, hBB⟩ := HC8.out.app2 (c := c') rfl (HY.out.far HC8.out.far) (by omega)
        have HCB := Lib.hid hCB
        have HBB := Lib.hid hBB
        clear hCB hBB
        refine wpAnyH_ready (rs := [7]) (by decide +kernel) (by simp) (AllReadyH.cons rfl (fun K hK => ?_) AllReadyH.nil)
        all_goals go_simp
        have HC9 := HCB
        have HBX := Lib.hid (HBB.out _ _ HBX.out)
        refine hK.out _ _ (HC9.out.far) (fun hS => ?_)
        clear hK K
        (try simp only [Act.put])
        clear hap2 HCB HBB
        generalize wB = w9 at *
        (refine wpAnyH_take (i := 8) (v := .agg #[.slice A1 X.length c1, .slice B1 Y.length c2]) rfl (by kernel_rfl) (by kernel_rfl) (by kernel_rfl) (fun _ _ _ h => h) (Or.inl ⟨by kernel_rfl, fun w hSw => by go_simp⟩) hS ?_)
        (try simp only [Act.put])
        obtain ⟨hst, hM⟩ := HC9.out.mine HX.out.all HY.out.all rfl rfl HBX.out hba
        have HM := Lib.hid hM
        clear hM
        refine wpAnyH_ready (rs := [10]) (by decide +kernel) (by simp) (AllReadyH.cons rfl (fun K hK => ?_) AllReadyH.nil)
        go_simp
        refine hK.out _ _ (HM.out.far) (fun hS => ?_)
        clear hK K
        (try simp only [Act.put])
        refine wpAnyH_done (by kernel_rfl) ?_ _
        go_wp2_with fail
        go_meet
        exact ⟨_, _, _, _, _, rfl, HM⟩
    · obtain ⟨w5, hwn⟩ : ∃ W, W = w4.alloc (.cells #[.slice none 0 0, .slice none 0 0] 29) := ⟨_, rfl⟩
      have HC5 := HC4.out.call ((Below.refl w4.heap.size w4).alloc (Nat.le_refl _) (.cells #[.slice none 0 0, .slice none 0 0] 29))
      rw [← hwn] at HC5
      have HC5 := Lib.hid HC5
      have HBX : Hid (Box w5 w4.heap.size 29 #[.slice none 0 0, .slice none 0 0]) := by rw [hwn]; exact Box.made _ _ _
      have hba : w1.heap.size ≤ w4.heap.size := HC4.out.far.size
      rw [← hwn]
      clear hwn
      refine hK.out _ _ (HC5.out.far) (fun hS => ?_)
      clear hK K
      (try simp only [Act.put])
      refine wpAnyH_ready (rs := [0, 4]) (by decide +kernel) (by simp) (AllReadyH.cons rfl (fun K hK => ?_) (AllReadyH.cons rfl (fun K hK => ?_) AllReadyH.nil))
      all_goals go_simp
      · obtain ⟨w6, hwn⟩ : ∃ W, W = w5.alloc (.cells #[] 23) := ⟨_, rfl⟩
        have HC6 := HC5.out.lit1
        rw [← hwn] at HC6
        have HC6 := Lib.hid HC6
        have HBX := Lib.hid (HBX.out.below (w' := w6) (by rw [hwn]; exact (Below.refl _ _).alloc (Nat.le_refl _) _) HBX.out.lt)
        rw [← hwn]
        clear hwn
        refine hK.out _ _ (HC6.out.far) (fun hS => ?_)
        clear hK K
        (try simp only [Act.put])
        obtain ⟨A1, c1, wA, hap1, hCA, hBA⟩ := HC6.out.app1 (c := c) rfl (HX.out.far HC6.out.far) (by omega)
        have HCA := Lib.hid hCA
        have HBA := Lib.hid hBA
        clear hCA hBA
        refine wpAnyH_ready (rs := [3, 4]) (by decide +kernel) (by simp) (AllReadyH.cons rfl (fun K hK => ?_) (AllReadyH.cons rfl (fun K hK => ?_) AllReadyH.nil))
        all_goals go_simp
        · have HC7 := HCA
          have HBX := Lib.hid (HBA.out _ _ HBX.out)
          refine hK.out _ _ (HC7.out.far) (fun hS => ?_)
          clear hK K
          (try simp only [Act.put])
          clear hap1 HCA HBA
          generalize wA = w7 at *
          refine wpAnyH_ready (rs := [4]) (by decide +kernel) (by simp) (AllReadyH.cons rfl (fun K hK => ?_) AllReadyH.nil)
          all_goals go_simp
          obtain ⟨w8, hwn⟩ : ∃ W, W = w7.alloc (.cells #[] 23) := ⟨_, rfl⟩
          have HC8 := HC7.out.lit2
          rw [← hwn] at HC8
          have HC8 := Lib.hid HC8
          have HBX := Lib.hid (HBX.out.below (w' := w8) (by rw [hwn]; exact (Below.refl _ _).alloc (Nat.le_refl _) _) HBX.out.lt)
          rw [← hwn]
          clear hwn
          refine hK.out _ _ (HC8.out.far) (fun hS => ?_)
          clear hK K
          (try simp only [Act.put])
          obtain ⟨B1, c2, wB, hap2, hCB, hBB⟩ := HC8.out.app2 (c := c') rfl (HY.out.far HC8.out.far) (by omega)
          have HCB := Lib.hid hCB
          have HBB := Lib.hid hBB
          clear hCB hBB
          refine wpAnyH_ready (rs := [7]) (by decide +kernel) (by simp) (AllReadyH.cons rfl (fun K hK => ?_) AllReadyH.nil)
          all_goals go_simp
          have HC9 := HCB
          have HBX := Lib.hid (HBB.out _ _ HBX.out)
          refine hK.out _ _ (HC9.out.far) (fun hS => ?_)
          clear hK K
          (try simp only [Act.put])
          clear hap2 HCB HBB
          generalize wB = w9 at *
          (refine wpAnyH_take (i := 8) (v := .agg #[.slice A1 X.length c1, .slice B1 Y.length c2]) rfl (by kernel_rfl) (by kernel_rfl) (by kernel_rfl) (fun _ _ _ h => h) (Or.inl ⟨by kernel_rfl, fun w hSw => by go_simp⟩) hS ?_)
          (try simp only [Act.put])
          obtain ⟨hst, hM⟩ := HC9.out.mine HX.out.all HY.out.all rfl rfl HBX.out hba
          have HM := Lib.hid hM
          clear hM
          refine wpAnyH_ready (rs := [10]) (by decide +kernel) (by simp) (AllReadyH.cons rfl (fun K hK => ?_) AllReadyH.nil)
          go_simp
          refine hK.out _ _ (HM.out.far) (fun hS => ?_)
          clear hK K
          (try simp only [Act.put])
          refine wpAnyH_done (by kernel_rfl) ?_ _
          go_wp2_with fail
          go_meet
          exact ⟨_, _, _, _, _, rfl, HM⟩
        · obtain ⟨w7, hwn⟩ : ∃ W, W = w6.alloc (.cells #[] 23) := ⟨_, rfl⟩
          have HC7 := HC6.out.lit2
          rw [← hwn] at HC7
          have HC7 := Lib.hid HC7
          have HBX := Lib.hid (HBX.out.below (w' := w7) (by rw [hwn]; exact (Below.refl _ _).alloc (Nat.le_refl _) _) HBX.out.lt)
          rw [← hwn]
          clear hwn
          refine hK.out _ _ (HC7.out.far) (fun hS => ?_)
          clear hK K
          (try simp only [Act.put])
          obtain ⟨A1, c1, wA, hap1, hCA, hBA⟩ := HC7.out.app1 (c := c) rfl (HX.out.far HC7.out.far) (by omega)
          have HCA := Lib.hid hCA
          have HBA := Lib.hid hBA
          clear hCA hBA
          refine wpAnyH_ready (rs := [3]) (by decide +kernel) (by simp) (AllReadyH.cons rfl (fun K hK => ?_) AllReadyH.nil)
          all_goals go_simp
          have HC8 := HCA
          have HBX := Lib.hid (HBA.out _ _ HBX.out)
          refine hK.out _ _ (HC8.out.far) (fun hS => ?_)
          clear hK K
          (try simp only [Act.put])
          clear hap1 HCA HBA
          generalize wA = w8 at *
          obtain ⟨B1, c2, wB, hap2, hCB, hBB⟩ := HC8.out.app2 (c := c') rfl (HY.out.far HC8.out.far) (by omega)
          have HCB := Lib.hid hCB
          have HBB := Lib.hid hBB
          clear hCB hBB
          refine wpAnyH_ready (rs := [7]) (by decide +kernel) (by simp) (AllReadyH.cons rfl (fun K hK => ?_) AllReadyH.nil)
          all_goals go_simp
          have HC9 := HCB
          have HBX := Lib.hid (HBB.out _ _ HBX.out)
          refine hK.out _ _ (HC9.out.far) (fun hS => ?_)
          clear hK K
          (try simp only [Act.put])
          clear hap2 HCB HBB
          generalize wB = w9 at *
          (refine wpAnyH_take (i := 8) (v := .agg #[.slice A1 X.length c1, .slice B1 Y.length c2]) rfl (by kernel_rfl) (by kernel_rfl) (by kernel_rfl) (fun _ _ _ h => h) (Or.inl ⟨by kernel_rfl, fun w hSw => by go_simp⟩) hS ?_)
          (try simp only [Act.put])
          obtain ⟨hst, hM⟩ := HC9.out.mine HX.out.all HY.out.all rfl rfl HBX.out hba
          have HM := Lib.hid hM
          clear hM
          refine wpAnyH_ready (rs := [10]) (by decide +kernel) (by simp) (AllReadyH.cons rfl (fun K hK => ?_) AllReadyH.nil)
          go_simp
          refine hK.out _ _ (HM.out.far) (fun hS => ?_)
          clear hK K
          (try simp only [Act.put])
          refine wpAnyH_done (by kernel_rfl) ?_ _
          go_wp2_with fail
          go_meet
          exact ⟨_, _, _, _, _, rfl, HM⟩
      · obtain ⟨w6, hwn⟩ : ∃ W, W = w5.alloc (.cells #[] 23) := ⟨_, rfl⟩
        have HC6 := HC5.out.lit2
        rw [← hwn] at HC6
        have HC6 := Lib.hid HC6
        have HBX := Lib.hid (HBX.out.below (w' := w6) (by rw [hwn]; exact (Below.refl _ _).alloc (Nat.le_refl _) _) HBX.out.lt)
        rw [← hwn]
        clear hwn
        refine hK.out _ _ (HC6.out.far) (fun hS => ?_)
        clear hK K
        (try simp only [Act.put])
        refine wpAnyH_ready (rs := [0]) (by decide +kernel) (by simp) (AllReadyH.cons rfl (fun K hK => ?_) AllReadyH.nil)
        all_goals go_simp
        obtain ⟨w7, hwn⟩ : ∃ W, W = w6.alloc (.cells #[] 23) := ⟨_, rfl⟩
        have HC7 := HC6.out.lit1
        rw [← hwn] at HC7
        have HC7 := Lib.hid HC7
        have HBX := Lib.hid (HBX.out.below (w' := w7) (by rw [hwn]; exact (Below.refl _ _).alloc (Nat.le_refl _) _) HBX.out.lt)
        rw [← hwn]
        clear hwn
        refine hK.out _ _ (HC7.out.far) (fun hS => ?_)
        clear hK K
        (try simp only [Act.put])
        obtain ⟨A1, c1, wA, hap1, hCA, hBA⟩ := HC7.out.app1 (c := c) rfl (HX.out.far HC7.out.far) (by omega)
        have HCA := Lib.hid hCA
        have HBA := Lib.hid hBA
        clear hCA hBA
        refine wpAnyH_ready (rs := [3]) (by decide +kernel) (by simp) (AllReadyH.cons rfl (fun K hK => ?_) AllReadyH.nil)
        all_goals go_simp
        have HC8 := HCA
        have HBX := Lib.hid (HBA.out _ _ HBX.out)
        refine hK.out _ _ (HC8.out.far) (fun hS => ?_)
        clear hK K
        (try simp only [Act.put])
        clear hap1 HCA HBA
        generalize wA = w8 at *
        obtain ⟨B1, c2, wB, hap2, hCB, hBB⟩ := HC8.out.app2 (c := c') rfl (HY.out.far HC8.out.far) (by omega)
        have HCB := Lib.hid hCB
        have HBB := Lib.hid hBB
        clear hCB hBB
        refine wpAnyH_ready (rs := [7]) (by decide +kernel) (by simp) (AllReadyH.cons rfl (fun K hK => ?_) AllReadyH.nil)
        all_goals go_simp
        have HC9 := HCB
        have HBX := Lib.hid (HBB.out _ _ HBX.out)
        refine hK.out _ _ (HC9.out.far) (fun hS => ?_)
        clear hK K
        (try simp only [Act.put])
        clear hap2 HCB HBB
        generalize wB = w9 at *
        (refine wpAnyH_take (i := 8) (v := .agg #[.slice A1 X.length c1, .slice B1 Y.length c2]) rfl (by kernel_rfl) (by kernel_rfl) (by kernel_rfl) (fun _ _ _ h => h) (Or.inl ⟨by kernel_rfl, fun w hSw => by go_simp⟩) hS ?_)
        (try simp only [Act.put])
        obtain ⟨hst, hM⟩ := HC9.out.mine HX.out.all HY.out.all rfl rfl HBX.out hba
        have HM := Lib.hid hM
        clear hM
        refine wpAnyH_ready (rs := [10]) (by decide +kernel) (by simp) (AllReadyH.cons rfl (fun K hK => ?_) AllReadyH.nil)
        go_simp
        refine hK.out _ _ (HM.out.far) (fun hS => ?_)
        clear hK K
        (try simp only [Act.put])
        refine wpAnyH_done (by kernel_rfl) ?_ _
        go_wp2_with fail
        go_meet
        exact ⟨_, _, _, _, _, rfl, HM⟩
  case rest =>
    obtain ⟨a, A', B', e, e', rfl, HM⟩ := hcut
    have HE : Hid (EndK w a A B A' B' X.length Y.length c c' e e' seed d X Y wc) := ⟨HS1.out.below HM.out.far HS1.out.lt, HD1.out.below HM.out.far HD1.out.lt, HO1.out.below HM.out.far HO1.out.lt, HX.out.far HM.out.far, HY.out.far HM.out.far, HF1.out.trans (HM.out.far.mono HF1.out.size), HM.out.box, HM.out.x, HM.out.y⟩
    have HRW : Hid (∀ W, Below wc.heap.size wc W → Roots W) := fun W hb => HR.out.of_below (HM.out.far.trans (hb.mono HM.out.far.size))
    clear HM HS1 HD1 HO1 HX HY HF1 HR HB3 HLO
    have HLM := Lib.hid (once2_list A' B' X.length Y.length e e')
    have HLO := Lib.hid (once2_list A B X.length Y.length c c')
    have HCK : Hid (Calls Tryd.prog 13 #[.agg (seed.map bv).toArray, .agg (d.map bv).toArray, .agg #[.slice A' X.length e, .slice B' Y.length e']] wc fun e w' => e = .returned (.bool (goodO X Y && decide (ofT d X Y = seed))) ∧ Below wc.heap.size wc w') := check_any seed d HSL.out HDL.out X Y A' B' e e' wc HE.out.mx HE.out.my (HRW.out _ (Below.refl _ _))
    have HSG : Hid (∀ w', Below wc.heap.size wc w' → Calls Tryd.prog 10 #[.agg (seed.map bv).toArray, .int .i64 3, .agg (d.map bv).toArray] w' (SignIs w' (openT seed 3 d) (shutT seed 3 d))) := fun w' hb => sign_any seed HSL.out 3 d HDL.out w' (HRW.out _ hb)
    have HRS : Hid (∀ w', Calls Tryd.prog 11 #[.agg (seed.map bv).toArray, .int .i64 3, .agg (d.map bv).toArray] w' (RSignIs w' (openT seed 3 d) (shutT seed 3 d))) := fun w' => rsign_any seed HSL.out 3 (by decide) (by decide) d HDL.out w'
    have HSM : Hid (∀ w' g h A B c c', Box w' g 23 ((openT seed 3 d).flatten.map bv).toArray → Box w' h 23 ((shutT seed 3 d).flatten.map bv).toArray → Digs w' w'.heap.size A (openT seed 3 d) → Digs w' w'.heap.size B (shutT seed 3 d) →
        Calls Tryd.prog 9 #[.agg (onceV g h 32 32), .agg #[.slice A 32 c, .slice B 32 c']] w' fun e w'' => e = .returned (.bool true) ∧ Below w'.heap.size w' w'') := fun w' g h A B c c' b1 b2 d1 d2 => same_signs seed 3 d g h A B 32 32 c c' w' b1 b2 d1 d2
    have HS2 : Hid (∀ w', EndK w a A B A' B' X.length Y.length c c' e e' seed d X Y w' → Calls Tryd.prog 9 #[.agg #[.slice A' X.length e, .slice B' Y.length e'], .agg #[.slice A X.length c, .slice B Y.length c']] w' fun e w'' => e = .returned (.bool true) ∧ Below w'.heap.size w' w'') := fun w' k => by
      have h := rsame_any X Y X Y A' B' A B e e' c c' w' k.mx k.my k.x k.y (by omega) (by omega)
      rw [decide_eq_true rfl, decide_eq_true rfl] at h
      exact h
    have HFL : Hid ((openT seed 3 d).flatten.length = 1024) := by
      show _ = _
      rw [(open_all seed 3 d).flat, (sign_lens seed 3 d).1]
    have HSO := Lib.hid once_size
    clear hgx hgy HRW
    generalize openT seed 3 d = P at *
    generalize shutT seed 3 d = Q at *
    generalize (goodO X Y && decide (ofT d X Y = seed)) = good at *
    go_upto_region 9 with (first
      | ((with_reducible show wpList _ _ _ ((⟨some 23, _, _, _, _, _⟩ : Oper) :: _) _ _); refine wpList_load_mid rfl 23 (.tmp 3) rfl w.heap.size 0 rfl (seed.map bv) _ HE.out.s.range Tryd.underlying23 rfl hn1 ?_)
      | ((with_reducible show wpList _ _ _ ((⟨some 24, _, _, _, _, _⟩ : Oper) :: _) _ _); refine wpList_load_mid rfl 23 (.tmp 4) rfl (w.heap.size + 1) 0 rfl (d.map bv) _ HE.out.d.range Tryd.underlying23 rfl HLD.out ?_)
      | ((with_reducible show wpList _ _ _ ((⟨some 25, _, _, _, _, _⟩ : Oper) :: _) _ _); refine wpList_load_mid rfl 29 (.tmp 7) rfl a 0 rfl [.slice A' X.length e, .slice B' Y.length e'] _ (Box.range HE.out.mine) Tryd.underlying29 rfl HLM.out ?_)
      | (go_at_call 13; (with_reducible refine (HCK.out).mono ?_); rintro e w5 ⟨rfl, hb⟩; have HE5 := Lib.hid (HE.out.call hb); have HB5 := Lib.hid hb; clear hb)
      | ((with_reducible show wpList _ _ _ ((⟨some 27, _, _, _, _, _⟩ : Oper) :: _) _ _); refine wpList_load_mid rfl 23 (.tmp 3) rfl w.heap.size 0 rfl (seed.map bv) _ HE5.out.s.range Tryd.underlying23 rfl hn1 ?_)
      | ((with_reducible show wpList _ _ _ ((⟨some 28, _, _, _, _, _⟩ : Oper) :: _) _ _); refine wpList_load_mid rfl 23 (.tmp 4) rfl (w.heap.size + 1) 0 rfl (d.map bv) _ HE5.out.d.range Tryd.underlying23 rfl HLD.out ?_)
      | (go_at_call 10; (with_reducible refine (HSG.out _ HB5.out).mono ?_); rintro e w6 ⟨g, h, rfl, b1, b2, hg5, hh5, _, hb⟩; have HB6 := Lib.hid hb; have HG6 := Lib.hid (And.intro b1 hg5); clear b1 b2 hb hh5 hg5)
      | (((with_reducible show wpList _ _ _ ((⟨none, Op.store _ (.tmp 8) (.tmp 29), _, _, _, _⟩ : Oper) :: _) _ _)); refine wpList_store_box rfl 29 (.tmp 8) (.tmp 29) rfl w6.heap.size (onceV g h 32 32) rfl rfl 29 #[.slice none 0 0, .slice none 0 0] (Box.made w6 _ _) rfl (HSO.out g h 32 32) (once_one g h 32 32) ?_; intro w7 hb7 hg7; have hbl := ((Below.refl w6.heap.size w6).alloc (Nat.le_refl _) (.cells #[.slice none 0 0, .slice none 0 0] 29)).trans (below_only hg7 (Nat.le_refl _) (by simp)); have HV7 : Hid (OverK w5 w6.heap.size g h w7) := ⟨HB6.out.trans (hbl.mono HB6.out.size), hb7, ⟨_, HG6.out.1.below hbl HG6.out.1.lt, by rw [List.size_toArray, List.length_map, HFL.out]⟩, HG6.out.2⟩; have c07 := hb7.cell 0; clear hb7 hg7 hbl))
    clear HE HCK HB6 HG6 HFL
    go_loopw [9, 33] (fun _ i wr => ∃ k : Nat, k ≤ 32 ∧ i = .int .i64 (k : Int) ∧ Hid (OverK w5 w6.heap.size g h wr)) (fun _ i _ => 32 - (intOf i).toNat)
    case atStart => exact ⟨0, Nat.zero_le _, rfl, HV7⟩
    case round =>
      clear HV7 c07
      obtain ⟨k, hk, rfl, HV⟩ := hrel
      by_cases hlt : k < 32
      · have c0 := HV.out.own.cell 0
        simp only [List.getElem?_toArray, List.getElem?_cons_zero] at c0
        obtain ⟨hth, hnx⟩ := HV.out.put hlt
        have HTH := Lib.hid hth
        have HNX := Lib.hid hnx
        clear hth hnx HV
        have i0 : (0 : Int) ≤ (k : Int) := by omega
        have i1 : (k : Int) < 32 := by omega
        go_wp2_with (((with_reducible show wpList _ _ _ ((⟨none, Op.store _ (.tmp 40) (.tmp 39), _, _, _, _⟩ : Oper) :: _) _ _)); refine wpList_store_mid rfl 23 (.tmp 40) (.tmp 39) rfl g (k * 32) sevenA rfl rfl HTH.out seven_size seven_one ?_)
        generalize wr.setCells g (k * 32) sevenA.toList = w9 at *
        go_roundw
        case rel => exact ⟨k + 1, hlt, by go_num, HNX⟩
        case measure => simp [intOf]; omega
      · obtain rfl : k = 32 := by omega
        have HBW := Lib.hid (HB5.out.trans (HV.out.far.mono HB5.out.size))
        have HEr := Lib.hid (HE5.out.call HV.out.far)
        clear HE5 HV
        go_upto_region 13 with fail
        have hund := Tryd.underlying23
        have hund2 := Tryd.underlying29
        obtain ⟨w10, hw10⟩ : ∃ W, W = wr.drew := ⟨_, rfl⟩
        have HS0 : Hid (EndK w a A B A' B' X.length Y.length c c' e e' seed d X Y wr.drew) := HEr.out.call (Below.refl _ _).drew
        have HSG2 : Hid (∀ w', Below w10.heap.size w10 w' → Calls Tryd.prog 10 #[.agg (seed.map bv).toArray, .int .i64 3, .agg (d.map bv).toArray] w' (SignIs w' P Q)) := fun w' hb => HSG.out w' (HBW.out.trans (((by rw [hw10]; exact (Below.refl _ _).drew : Below wr.heap.size wr w10).trans (hb.mono (by rw [hw10]; exact Nat.le_refl _))).mono HBW.out.size))
        refine wp_region_held_drew (S := EndK w a A B A' B' X.length Y.length c c' e e' seed d X Y) (by kernel_rfl) HS0.out (fun hS => ?_)
        rw [← hw10]
        rw [← hw10] at hS
        have hB : Below w10.heap.size w10 w10 := Below.refl _ _
        clear HS0 hw10 HEr HBW HSG
        (refine wpAnyH_take (i := 0) (v := .agg #[.slice A' X.length e, .slice B' Y.length e']) rfl (by kernel_rfl) (by kernel_rfl) (by kernel_rfl) (fun _ _ _ h => h) (yieldsIf_load_mid (by kernel_rfl) 29 (.tmp 7) rfl a (0) (by kernel_rfl) ([.slice A' X.length e, .slice B' Y.length e']) _ (fun w h => Box.range h.mine) hund2 rfl HLM.out) hS ?_)
        (try simp only [Act.put])
        (refine wpAnyH_take (i := 1) (v := .agg #[.slice A X.length c, .slice B Y.length c']) rfl (by kernel_rfl) (by kernel_rfl) (by kernel_rfl) (fun _ _ _ h => h) (yieldsIf_load_mid (by kernel_rfl) 29 (.tmp 5) rfl (w.heap.size + 1 + 1) (0) (by kernel_rfl) ([.slice A X.length c, .slice B Y.length c']) _ (fun w h => Box.range h.o) hund2 rfl HLO.out) hS ?_)
        (try simp only [Act.put])
        refine wpAnyH_ready (rs := [2]) (by decide +kernel) (by simp) (AllReadyH.cons rfl (fun K hK => ?_) AllReadyH.nil)
        go_simp
        (go_at_call 9; (with_reducible refine (HS2.out _ hS).mono ?_); rintro e w11 ⟨rfl, hb⟩)
        have hB := hB.trans (hb.mono hB.size)
        refine hK.out _ _ (hS.call hb) (fun hS => ?_)
        clear hK K
        (try simp only [Act.put])
        clear hb
        refine wpAnyH_ready (rs := [3]) (by decide +kernel) (by simp) (AllReadyH.cons rfl (fun K hK => ?_) AllReadyH.nil)
        go_simp
        refine hK.out _ _ (hS) (fun hS => ?_)
        clear hK K
        (try simp only [Act.put])
        (refine wpAnyH_take (i := 4) (v := .agg (seed.map bv).toArray) rfl (by kernel_rfl) (by kernel_rfl) (by kernel_rfl) (fun _ _ _ h => h) (yieldsIf_load_mid (by kernel_rfl) 23 (.tmp 3) rfl w.heap.size (0) (by kernel_rfl) (seed.map bv) _ (fun w h => h.s.range) hund rfl hn1) hS ?_)
        (try simp only [Act.put])
        (refine wpAnyH_take (i := 5) (v := .agg (d.map bv).toArray) rfl (by kernel_rfl) (by kernel_rfl) (by kernel_rfl) (fun _ _ _ h => h) (yieldsIf_load_mid (by kernel_rfl) 23 (.tmp 4) rfl (w.heap.size + 1) (0) (by kernel_rfl) (d.map bv) _ (fun w h => h.d.range) hund rfl HLD.out) hS ?_)
        (try simp only [Act.put])
        (refine wpAnyH_take (i := 7) (v := .agg (seed.map bv).toArray) rfl (by kernel_rfl) (by kernel_rfl) (by kernel_rfl) (fun _ _ _ h => h) (yieldsIf_load_mid (by kernel_rfl) 23 (.tmp 3) rfl w.heap.size (0) (by kernel_rfl) (seed.map bv) _ (fun w h => h.s.range) hund rfl hn1) hS ?_)
        (try simp only [Act.put])
        (refine wpAnyH_take (i := 8) (v := .agg (d.map bv).toArray) rfl (by kernel_rfl) (by kernel_rfl) (by kernel_rfl) (fun _ _ _ h => h) (yieldsIf_load_mid (by kernel_rfl) 23 (.tmp 4) rfl (w.heap.size + 1) (0) (by kernel_rfl) (d.map bv) _ (fun w h => h.d.range) hund rfl HLD.out) hS ?_)
        (try simp only [Act.put])
        refine wpAnyH_ready (rs := [6]) (by decide +kernel) (by simp) (AllReadyH.cons rfl (fun K hK => ?_) AllReadyH.nil)
        go_simp
        (go_at_call 10; (with_reducible refine (HSG2.out _ hB).mono ?_); rintro e w12 ⟨g3, h3, rfl, b1, b2, _, _, _, hb⟩)
        have HS12 := Lib.hid (And.intro b1 b2)
        clear b1 b2
        have hB := hB.trans (hb.mono hB.size)
        refine hK.out _ _ (hS.call hb) (fun hS => ?_)
        clear hK K
        (try simp only [Act.put])
        clear hb
        refine wpAnyH_ready (rs := [9]) (by decide +kernel) (by simp) (AllReadyH.cons rfl (fun K hK => ?_) AllReadyH.nil)
        go_simp
        (go_at_call 11; (with_reducible refine (HRS.out _).mono ?_); rintro e w13 ⟨A3, B3, c3, e3, rfl, d1, d2, hb⟩)
        have HS13 := Lib.hid (HSM.out w13 g3 h3 A3 B3 c3 e3 (HS12.out.1.below hb HS12.out.1.lt) (HS12.out.2.below hb HS12.out.2.lt) d1 d2)
        clear d1 d2
        have hB := hB.trans (hb.mono hB.size)
        refine hK.out _ _ (hS.call hb) (fun hS => ?_)
        clear hK K
        (try simp only [Act.put])
        clear hb
        refine wpAnyH_ready (rs := [10]) (by decide +kernel) (by simp) (AllReadyH.cons rfl (fun K hK => ?_) AllReadyH.nil)
        go_simp
        (go_at_call 9; (with_reducible refine (HS13.out).mono ?_); rintro e w14 ⟨rfl, hb⟩)
        have hB := hB.trans (hb.mono hB.size)
        refine hK.out _ _ (hS.call hb) (fun hS => ?_)
        clear hK K
        (try simp only [Act.put])
        clear hb
        refine wpAnyH_ready (rs := [11]) (by decide +kernel) (by simp) (AllReadyH.cons rfl (fun K hK => ?_) AllReadyH.nil)
        go_simp
        refine hK.out _ _ (hS) (fun hS => ?_)
        clear hK K
        (try simp only [Act.put])
        refine wpAnyH_ready (rs := [12]) (by decide +kernel) (by simp) (AllReadyH.cons rfl (fun K hK => ?_) AllReadyH.nil)
        go_simp
        refine hK.out _ _ (hS) (fun hS => ?_)
        clear hK K
        (try simp only [Act.put])
        refine wpAnyH_done (by kernel_rfl) ?_ _
        have HF := Lib.hid hS.far
        clear hS hB hund hund2 HS13 HS12
        go_wp2
        go_ret
        exact ⟨rfl, HF.out⟩
end Go.Proofs.YtdgedhaiefingaaDoor
