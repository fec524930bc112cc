/-
  The document's signature (wapentakeref04.Sign).
-/
import Derived.Test.YtojgmdagamdcfaaGreatDoorOB
import Derived.Test.YtojgmdagamdcfaaGreatDoorOC
import Derived.Deep.AppendLies
import Derived.Deep.RegionHeld3
import Derived.Deep.DeepCutAuto
namespace Go.Proofs.YtojgmdagamdcfaaGreatDoor
open Go.RowKit

attribute [local go_sem ↓] ldDigest_def bsAll_def apAll_def

/-- One digest more, as the frozen append answers, and where the row lies then. -/
theorem push_lies {w : World} {base n : Nat} {v : Value} {ps : List (List UInt8)} (hn : n = ps.length) (hown : w.ownsRow base 33 32 v n (ps.flatten.map bv)) {b : Nat} {t : TypeId} {x : List UInt8} (hx : x.length = 32) (hb : Box w b t (x.map bv).toArray) (hle : n + 1 ≤ 1099511627776) (hbase : base ≤ w.heap.size) :
    ∃ g cap w', (apAll #[44, 44] 44 #[v, .slice (some ⟨b, 0, none⟩) 1 1]).run Tryz.prog w = .ok (.slice (some ⟨g, 0, none⟩) (n + 1) cap) w' ∧ w'.ownsRow base 33 32 (.slice (some ⟨g, 0, none⟩) (n + 1) cap) (n + 1) ((ps ++ [x]).flatten.map bv) ∧ w.grownBy w' v.ownBlock ∧ (v.ownBlock = some g ∨ g = w.heap.size) := by
  obtain ⟨i0, hi0, hz0, hz1, hz2⟩ := info_parts dig_info3
  obtain ⟨g, cap, w', hr, ho, hg, hat, _⟩ := run_append_lies (P := Tryz.prog) w 44 44 base 33 i0 _ 32 32 Tryz.underlying44 hi0 hz0 hz1 hz2 rfl (by omega) v n _ hown ⟨b, 0, none⟩ 1 1 (x.map bv) (by rw [List.length_map, hx]) (fun j u hu => by rw [plain_add, Nat.zero_add, hb.cell, List.getElem?_toArray]; exact hu) (bv_one _) (by omega) (by unfold maxLen; omega) (by omega) hbase w.heap.size rfl
  refine ⟨g, cap, w', hr, ?_, hg, hat⟩
  rw [List.flatten_append, List.map_append]
  simpa using ho

/-- What the walk of the document's Sign carries of memory. -/
structure RsW (w1 : World) (a : Nat) (X Y : List (List UInt8)) (k l : Nat) (v u : Value) (w : World) : Prop where
  box : Box w a 46 #[v, u]
  op : w.ownsRow w1.heap.size 33 32 v k ((X.take k).flatten.map bv)
  sh : w.ownsRow w1.heap.size 33 32 u l ((Y.take l).flatten.map bv)
  far : Below w1.heap.size w1 w
  ha : w1.heap.size ≤ a
  ne : ∀ g, v.ownBlock = some g → u.ownBlock ≠ some g
theorem RsW.call {w1 w w' : World} {a : Nat} {X Y : List (List UInt8)} {k l : Nat} {v u : Value} (s : RsW w1 a X Y k l v u w) (hb : Below w.heap.size w w') : RsW w1 a X Y k l v u w' :=
  ⟨s.box.below hb s.box.lt, World.ownsRow.kept s.op (only_below hb none) (by cases v.ownBlock <;> simp), World.ownsRow.kept s.sh (only_below hb none) (by cases u.ownBlock <;> simp), s.far.trans (hb.mono s.far.size), s.ha, s.ne⟩
theorem RsW.put_op {w1 w w' : World} {a g cap : Nat} {X Y : List (List UInt8)} {k l : Nat} {v u : Value} (s : RsW w1 a X Y k l v u w) (hX : k < X.length) (hg : w.grownBy w' v.ownBlock)
    (ho : w'.ownsRow w1.heap.size 33 32 (.slice (some ⟨g, 0, none⟩) (k + 1) cap) (k + 1) ((X.take k ++ [X.getD k []]).flatten.map bv)) (hat : v.ownBlock = some g ∨ g = w.heap.size) :
    RsW w1 a X Y (k + 1) l (.slice (some ⟨g, 0, none⟩) (k + 1) cap) u (w'.setCell ⟨a, 0, none⟩ (.slice (some ⟨g, 0, none⟩) (k + 1) cap)) := by
  have hva := s.box.own_ne s.op (by decide)
  have hb1 := s.box.grown hg (Ne.symm hva)
  have hua := s.box.own_ne s.sh (by decide)
  have hga := hb1.own_ne ho (by decide)
  have hu1 : w'.ownsRow w1.heap.size 33 32 u l ((Y.take l).flatten.map bv) := World.ownsRow.kept s.sh hg (by
    rcases hv : v.ownBlock with _ | q
    · rcases hq : u.ownBlock with _ | q2
      · exact .inl rfl
      · exact .inr (by simp)
    · exact .inr (s.ne q hv))
  have hp := hb1.put 0 (.slice (some ⟨g, 0, none⟩) (k + 1) cap)
  have hB1 : Below w1.heap.size w1 w' := s.far.trans (below_own s.op hg s.far.size)
  refine ⟨by simpa using hp, ?_, ownsRow_setCell_other hu1 (a := ⟨a, 0, none⟩) hua _, hB1.trans ((Below.refl _ _).setCell (p := ⟨a, 0, none⟩) s.ha _), s.ha, fun q hq hq2 => ?_⟩
  · have h := ownsRow_setCell_other ho (a := ⟨a, 0, none⟩) hga (.slice (some ⟨g, 0, none⟩) (k + 1) cap)
    rw [List.take_succ_eq_append_getElem hX]
    rw [List.getD_eq_getElem?_getD, List.getElem?_eq_getElem hX] at h
    exact h
  · have e : q = g := by simpa [Value.ownBlock] using hq.symm
    subst e
    rcases hat with h | h
    · exact s.ne _ h hq2
    · have := (s.sh.lt _ hq2).2
      omega
theorem RsW.put_sh {w1 w w' : World} {a g cap : Nat} {X Y : List (List UInt8)} {k l : Nat} {v u : Value} (s : RsW w1 a X Y k l v u w) (hY : l < Y.length) (hg : w.grownBy w' u.ownBlock)
    (ho : w'.ownsRow w1.heap.size 33 32 (.slice (some ⟨g, 0, none⟩) (l + 1) cap) (l + 1) ((Y.take l ++ [Y.getD l []]).flatten.map bv)) (hat : u.ownBlock = some g ∨ g = w.heap.size) :
    RsW w1 a X Y k (l + 1) v (.slice (some ⟨g, 0, none⟩) (l + 1) cap) (w'.setCell ⟨a, 1, none⟩ (.slice (some ⟨g, 0, none⟩) (l + 1) cap)) := by
  have hua := s.box.own_ne s.sh (by decide)
  have hb1 := s.box.grown hg (Ne.symm hua)
  have hva := s.box.own_ne s.op (by decide)
  have hga := hb1.own_ne ho (by decide)
  have hv1 : w'.ownsRow w1.heap.size 33 32 v k ((X.take k).flatten.map bv) := World.ownsRow.kept s.op hg (by
    rcases hv : v.ownBlock with _ | q
    · exact .inl rfl
    · exact .inr (fun e => s.ne q hv e.symm))
  have hp := hb1.put 1 (.slice (some ⟨g, 0, none⟩) (l + 1) cap)
  have hB1 : Below w1.heap.size w1 w' := s.far.trans (below_own s.sh hg s.far.size)
  refine ⟨by simpa using hp, ownsRow_setCell_other hv1 (a := ⟨a, 1, none⟩) hva _, ?_, hB1.trans ((Below.refl _ _).setCell (p := ⟨a, 1, none⟩) s.ha _), s.ha, fun q hq hq2 => ?_⟩
  · have h := ownsRow_setCell_other ho (a := ⟨a, 1, none⟩) hga (.slice (some ⟨g, 0, none⟩) (l + 1) cap)
    rw [List.take_succ_eq_append_getElem hY]
    rw [List.getD_eq_getElem?_getD, List.getElem?_eq_getElem hY] at h
    exact h
  · have e : q = g := by simpa [Value.ownBlock] using hq2.symm
    subst e
    rcases hat with h | h
    · exact s.ne _ hq h
    · have := (s.op.lt _ hq).2
      omega

theorem RsW.push_op {w1 w : World} {a b : Nat} {t : TypeId} {X Y : List (List UInt8)} {k l : Nat} {v u : Value} {x : List UInt8} (s : RsW w1 a X Y k l v u w) (hX : k < X.length) (hx : x.length = 32) (e : X.getD k [] = x) (hb : Box w b t (x.map bv).toArray) (hk : k ≤ 32) :
    ∃ g cap w', (apAll #[44, 44] 44 #[v, .slice (some ⟨b, 0, none⟩) 1 1]).run Tryz.prog w = .ok (.slice (some ⟨g, 0, none⟩) (k + 1) cap) w' ∧ w'.cell? ⟨a, 0, none⟩ = some v ∧ w'.frozen? ⟨a, 0, none⟩ = false ∧ Below w1.heap.size w1 w' ∧
      RsW w1 a X Y (k + 1) l (.slice (some ⟨g, 0, none⟩) (k + 1) cap) u (w'.setCell ⟨a, 0, none⟩ (.slice (some ⟨g, 0, none⟩) (k + 1) cap)) := by
  obtain ⟨g, cap, w', h1, h2, h3, h4⟩ := push_lies (by rw [List.length_take]; omega) s.op hx hb (by omega) s.far.size
  have hb1 := s.box.grown h3 (Ne.symm (s.box.own_ne s.op (by decide)))
  exact ⟨g, cap, w', h1, hb1.cell 0, hb1.free 0, s.far.trans (below_own s.op h3 s.far.size), s.put_op hX h3 (by rw [e]; exact h2) h4⟩
theorem RsW.push_sh {w1 w : World} {a b : Nat} {t : TypeId} {X Y : List (List UInt8)} {k l : Nat} {v u : Value} {x : List UInt8} (s : RsW w1 a X Y k l v u w) (hY : l < Y.length) (hx : x.length = 32) (e : Y.getD l [] = x) (hb : Box w b t (x.map bv).toArray) (hk : l ≤ 32) :
    ∃ g cap w', (apAll #[44, 44] 44 #[u, .slice (some ⟨b, 0, none⟩) 1 1]).run Tryz.prog w = .ok (.slice (some ⟨g, 0, none⟩) (l + 1) cap) w' ∧ w'.cell? ⟨a, 1, none⟩ = some u ∧ w'.frozen? ⟨a, 1, none⟩ = false ∧ Below w1.heap.size w1 w' ∧
      RsW w1 a X Y k (l + 1) v (.slice (some ⟨g, 0, none⟩) (l + 1) cap) (w'.setCell ⟨a, 1, none⟩ (.slice (some ⟨g, 0, none⟩) (l + 1) cap)) := by
  obtain ⟨g, cap, w', h1, h2, h3, h4⟩ := push_lies (by rw [List.length_take]; omega) s.sh hx hb (by omega) s.far.size
  have hb1 := s.box.grown h3 (Ne.symm (s.box.own_ne s.sh (by decide)))
  exact ⟨g, cap, w', h1, hb1.cell 1, hb1.free 1, s.far.trans (below_own s.sh h3 s.far.size), s.put_sh hY h3 (by rw [e]; exact h2) h4⟩
theorem RsW.cells {w1 w : World} {a : Nat} {X Y : List (List UInt8)} {k l : Nat} {v u : Value} (s : RsW w1 a X Y k l v u w) : w.cell? ⟨a, 0, none⟩ = some v ∧ w.cell? ⟨a, 1, none⟩ = some u := ⟨s.box.cell 0, s.box.cell 1⟩

def RSignIs (w : World) (X Y : List (List UInt8)) (e : Ending) (w' : World) : Prop := ∃ A B c c', e = .returned (.agg #[.slice A 32 c, .slice B 32 c']) ∧ Digs w' w'.heap.size A X ∧ Digs w' w'.heap.size B Y ∧ Below w.heap.size w w'

set_option maxRecDepth 100000 in
set_option maxHeartbeats 2000000 in
theorem rsign_any (seed : List UInt8) (hs : seed.length = 32) (leaf : Int) (hl1 : -9223372036854775808 ≤ leaf) (hl2 : leaf ≤ 9223372036854775807) (d : List UInt8) (hd : d.length = 32) (w : World) :
    Calls Tryz.prog 52 #[.agg (seed.map bv).toArray, .int .i64 leaf, .agg (d.map bv).toArray] w (RSignIs w (openT seed leaf d) (shutT seed leaf d)) := by
  obtain ⟨w1, hw1⟩ : ∃ w1, w1 = ((w.alloc (.cells (seed.map bv).toArray 33)).alloc (.cells (d.map bv).toArray 33)).alloc (.cells #[.slice none 0 0, .slice none 0 0] 46) := ⟨_, rfl⟩
  have HS : Hid (Box w1 w.heap.size 33 (seed.map bv).toArray) := by
    rw [hw1]
    exact ((Box.made w _ _).alloc _).alloc _
  have HD : Hid (Box w1 (w.heap.size + 1) 33 (d.map bv).toArray) := by
    rw [hw1]
    exact (Box.made_at (by simp) _ _).alloc _
  have HO : Hid (Box w1 (w.heap.size + 1 + 1) 46 #[.slice none 0 0, .slice none 0 0]) := by
    rw [hw1]
    exact Box.made_at (by simp) _ _
  have HF : Hid (Below w.heap.size w w1) := by
    rw [hw1]
    exact (((Below.refl _ _).alloc (Nat.le_refl _) _).alloc (by simp) _).alloc (by simp; omega) _
  have HZ : Hid (w1.heap.size = w.heap.size + 1 + 1 + 1) := by
    rw [hw1]
    exact Lib.hid (by simp)
  obtain ⟨hlx, hly⟩ := sign_lens seed leaf d
  have HX := Lib.hid hlx
  have HY := Lib.hid hly
  have HXA := Lib.hid (open_all seed leaf d)
  have HYA := Lib.hid (shut_all seed leaf d)
  have HXG : Hid (∀ i, i < 32 → (openT seed leaf d).getD i [] = secT seed leaf (2 * i + bitT d i)) := Lib.hid (fun i hi => open_at seed leaf d hi)
  have HYG : Hid (∀ i, i < 32 → (shutT seed leaf d).getD i [] = shaOf (secT seed leaf (2 * i + (1 - bitT d i)))) := Lib.hid (fun i hi => shut_at seed leaf d hi)
  have HSL := Lib.hid hs
  have HDL := Lib.hid hd
  clear hlx hly hs hd
  generalize openT seed leaf d = X at *
  generalize shutT seed leaf d = Y at *
  have HW1 := Lib.hid hw1
  go_enter Tryz.func52, Tryz.ntmps52
  go_upto_region 1 with fail
  change Code.wp _ _ _ _ (((w.alloc (.cells (seed.map bv).toArray 33)).alloc (.cells (d.map bv).toArray 33)).alloc (.cells #[.slice none 0 0, .slice none 0 0] 46))
  rw [← hw1]
  clear hw1 HW1
  have HW0 : Hid (RsW w1 w1.heap.size X Y 0 0 (.slice none 0 0) (.slice none 0 0) (w1.alloc (.cells #[.slice none 0 0, .slice none 0 0] 46))) :=
    ⟨Box.made _ _ _, ⟨rfl, .inl ⟨rfl, rfl⟩⟩, ⟨rfl, .inl ⟨rfl, rfl⟩⟩, (Below.refl _ _).alloc (Nat.le_refl _) _, Nat.le_refl _, fun g h => by simp [Value.ownBlock] at h⟩
  go_upto_region 3 with fail
  generalize w1.alloc (.cells #[.slice none 0 0, .slice none 0 0] 46) = w2 at *
  go_loopw [8] (fun i wr => ∃ (k : Nat) (v u : Value), k ≤ 32 ∧ i = .int .i64 (k : Int) ∧ Hid (RsW w1 w1.heap.size X Y k k v u wr)) (fun i _ => 32 - (intOf i).toNat)
  case atStart => exact ⟨0, _, _, Nat.zero_le _, rfl, HW0⟩
  case round =>
    clear HW0
    obtain ⟨k, v, u, hk, rfl, HW⟩ := hrel
    by_cases hlt : k < 32
    · have HBT : Hid (∀ w', Calls Tryz.prog 76 #[.agg (d.map bv).toArray, .int .i64 (k : Int)] w' fun e w'' => e = .returned (.int .i64 (bitT d k : Int)) ∧ Below w'.heap.size w' w'') := fun w' => rbit_any d HDL.out k hlt w'
      have hb2 := bitT_lt d k
      have hXk := HXG.out k hlt
      have hYk := HYG.out k hlt
      have HC0 : Hid (∀ w', Calls Tryz.prog 75 #[.agg (seed.map bv).toArray, .int .i64 leaf, .int .i64 (k : Int), .int .i64 (bitT d k : Int)] w' fun e w'' => e = .returned (.agg ((X.getD k []).map bv).toArray) ∧ Below w'.heap.size w' w'') := fun w' => by
        rw [hXk]
        exact rsecret_any seed HSL.out leaf hl1 hl2 k (bitT d k) hlt hb2 w'
      have HC1 : Hid (∀ w', Calls Tryz.prog 75 #[.agg (seed.map bv).toArray, .int .i64 leaf, .int .i64 (k : Int), .int .i64 (1 - (bitT d k : Int))] w' fun e w'' => e = .returned (.agg ((secT seed leaf (2 * k + (1 - bitT d k))).map bv).toArray) ∧ Below w'.heap.size w' w'') := fun w' => by
        have h := rsecret_any seed HSL.out leaf hl1 hl2 k (1 - bitT d k) hlt (by omega) w'
        rw [show ((1 - bitT d k : Nat) : Int) = 1 - (bitT d k : Int) by omega] at h
        exact h
      have HH : Hid (∀ w', Calls Tryz.prog 74 #[.agg ((secT seed leaf (2 * k + (1 - bitT d k))).map bv).toArray] w' fun e w'' => e = .returned (.agg ((Y.getD k []).map bv).toArray) ∧ Below w'.heap.size w' w'') := fun w' => by
        rw [hYk]
        exact rshut_any _ rfl w'
      have HX1 : Hid ((X.getD k []).length = 32) := HXA.out.get (by rw [HX.out]; exact hlt) []
      have HY1 : Hid ((Y.getD k []).length = 32) := HYA.out.get (by rw [HY.out]; exact hlt) []
      have HPX : Hid (∀ {b : Nat} {w' : World}, RsW w1 w1.heap.size X Y k k v u w' → Box w' b 33 ((X.getD k []).map bv).toArray → ∃ g cap w'', (apAll #[44, 44] 44 #[v, .slice (some ⟨b, 0, none⟩) 1 1]).run Tryz.prog w' = .ok (.slice (some ⟨g, 0, none⟩) (k + 1) cap) w'' ∧ w''.cell? ⟨w1.heap.size, 0, none⟩ = some v ∧ w''.frozen? ⟨w1.heap.size, 0, none⟩ = false ∧ Below w1.heap.size w1 w'' ∧
          RsW w1 w1.heap.size X Y (k + 1) k (.slice (some ⟨g, 0, none⟩) (k + 1) cap) u (w''.setCell ⟨w1.heap.size, 0, none⟩ (.slice (some ⟨g, 0, none⟩) (k + 1) cap))) := fun s hb => s.push_op (by rw [HX.out]; exact hlt) HX1.out rfl hb hk
      have HPY : Hid (∀ {v : Value} {b : Nat} {w' : World}, RsW w1 w1.heap.size X Y (k + 1) k v u w' → Box w' b 33 ((Y.getD k []).map bv).toArray → ∃ g cap w'', (apAll #[44, 44] 44 #[u, .slice (some ⟨b, 0, none⟩) 1 1]).run Tryz.prog w' = .ok (.slice (some ⟨g, 0, none⟩) (k + 1) cap) w'' ∧ w''.cell? ⟨w1.heap.size, 1, none⟩ = some u ∧ w''.frozen? ⟨w1.heap.size, 1, none⟩ = false ∧ Below w1.heap.size w1 w'' ∧
          RsW w1 w1.heap.size X Y (k + 1) (k + 1) v (.slice (some ⟨g, 0, none⟩) (k + 1) cap) (w''.setCell ⟨w1.heap.size, 1, none⟩ (.slice (some ⟨g, 0, none⟩) (k + 1) cap))) := fun s hb => s.push_sh (by rw [HY.out]; exact hlt) HY1.out rfl hb hk
      clear hXk hYk
      generalize X.getD k [] = x at *
      generalize Y.getD k [] = y at *
      generalize secT seed leaf (2 * k + (1 - bitT d k)) = sc at *
      generalize bitT d k = b at *
      have hw9 : IntKind.i64.wrap (1 - (b : Int)) = 1 - (b : Int) := IntWalk.i64_in _ (by omega)
      have hbx := build_one x HX1.out
      have hby := build_one y HY1.out
      have hn1 := dig_list seed HSL.out
      have hn2 := dig_list d HDL.out
      have hund := Tryz.underlying33
      have HSX : Hid (∀ W', Below w1.heap.size w1 W' → W'.rangeAt w.heap.size 0 (seed.map bv)) := fun W' hb => (HS.out.below hb HS.out.lt).range
      have HDX : Hid (∀ W', Below w1.heap.size w1 W' → W'.rangeAt (w.heap.size + 1) 0 (d.map bv)) := fun W' hb => (HD.out.below hb HD.out.lt).range
      go_upto_region 5 with fail
      go_cut [23] (fun _ wx => ∃ v', Hid (RsW w1 w1.heap.size X Y (k + 1) k v' u wx))
      case first =>
        obtain ⟨w3, hw3⟩ : ∃ W, W = wr.drew := ⟨_, rfl⟩
        have HW3 : Hid (RsW w1 w1.heap.size X Y k k v u w3) := by rw [hw3]; exact HW.out.call (Below.refl _ _).drew
        have HW3d := HW3
        rw [hw3] at HW3d
        refine wp_region_held_drew (S := fun w' => Below w1.heap.size w1 w') (by kernel_rfl) HW3d.out.far (fun hS => ?_)
        rw [← hw3]
        rw [← hw3] at hS
        clear HW3d hw3
        (refine wpAnyH_take (i := 0) (v := .pointer (some ⟨w1.heap.size, 0, none⟩)) rfl (by kernel_rfl) (by kernel_rfl) (by kernel_rfl) (fun _ _ _ h => h) (Or.inl ⟨by kernel_rfl, fun w hSw => by go_simp⟩) hS ?_)
        (try simp only [Act.put])
        (refine wpAnyH_take (i := 2) (v := .agg (seed.map bv).toArray) rfl (by kernel_rfl) (by kernel_rfl) (by kernel_rfl) (fun _ _ _ h => h) (yieldsIf_load_mid (by kernel_rfl) 33 (.tmp 3) rfl w.heap.size (0) (by kernel_rfl) (seed.map bv) _ (fun w h => HSX.out w h) hund rfl hn1) hS ?_)
        (try simp only [Act.put])
        (refine wpAnyH_take (i := 3) (v := .int .i64 leaf) rfl (by kernel_rfl) (by kernel_rfl) (by kernel_rfl) (fun _ _ _ h => h) (Or.inl ⟨by kernel_rfl, fun w hSw => by go_simp⟩) hS ?_)
        (try simp only [Act.put])
        (refine wpAnyH_take (i := 4) (v := .int .i64 (k : Int)) rfl (by kernel_rfl) (by kernel_rfl) (by kernel_rfl) (fun _ _ _ h => h) (Or.inl ⟨by kernel_rfl, fun w hSw => by go_simp⟩) hS ?_)
        (try simp only [Act.put])
        (refine wpAnyH_take (i := 5) (v := .agg (d.map bv).toArray) rfl (by kernel_rfl) (by kernel_rfl) (by kernel_rfl) (fun _ _ _ h => h) (yieldsIf_load_mid (by kernel_rfl) 33 (.tmp 5) rfl (w.heap.size + 1) (0) (by kernel_rfl) (d.map bv) _ (fun w h => HDX.out w h) hund rfl hn2) hS ?_)
        (try simp only [Act.put])
        (refine wpAnyH_take (i := 6) (v := .int .i64 (k : Int)) rfl (by kernel_rfl) (by kernel_rfl) (by kernel_rfl) (fun _ _ _ h => h) (Or.inl ⟨by kernel_rfl, fun w hSw => by go_simp⟩) hS ?_)
        (try simp only [Act.put])
        have fc := HW3.out.cells.1
        refine wpAnyH_ready (rs := [1, 7]) (by decide +kernel) (by simp) (AllReadyH.cons rfl (fun K hK => ?_) (AllReadyH.cons rfl (fun K hK => ?_) AllReadyH.nil))
        all_goals go_simp
        all_goals clear fc
        · refine hK.out _ _ (HW3.out.far) (fun hS => ?_)
          clear hK K
          (try simp only [Act.put])
          refine wpAnyH_ready (rs := [7]) (by decide +kernel) (by simp) (AllReadyH.cons rfl (fun K hK => ?_) AllReadyH.nil)
          go_simp
          (go_at_call 76; (with_reducible refine (HBT.out _).mono ?_); rintro e w4 ⟨rfl, hb⟩)
          have HW4 := Lib.hid (HW3.out.call hb)
          clear hb
          refine hK.out _ _ (HW4.out.far) (fun hS => ?_)
          clear hK K
          (try simp only [Act.put])
          refine wpAnyH_ready (rs := [8]) (by decide +kernel) (by simp) (AllReadyH.cons rfl (fun K hK => ?_) AllReadyH.nil)
          go_simp
          (go_at_call 75; (with_reducible refine (HC0.out _).mono ?_); rintro e w5 ⟨rfl, hb⟩)
          have HW5 := Lib.hid (HW4.out.call hb)
          clear hb
          refine hK.out _ _ (HW5.out.far) (fun hS => ?_)
          clear hK K
          (try simp only [Act.put])
          refine wpAnyH_ready (rs := [9]) (by decide +kernel) (by simp) (AllReadyH.cons rfl (fun K hK => ?_) AllReadyH.nil)
          go_simp
          obtain ⟨w6, hwn⟩ : ∃ W, W = w5.alloc (.cells (x.map bv).toArray 33) := ⟨_, rfl⟩
          have HW6 : Hid (RsW w1 w1.heap.size X Y k k v u w6) := by rw [hwn]; exact HW5.out.call ((Below.refl w5.heap.size w5).alloc (Nat.le_refl _) _)
          have hbl : Box w6 w5.heap.size 33 (x.map bv).toArray := by rw [hwn]; exact Box.made _ _ _
          rw [← hwn]
          obtain ⟨g, cap, w9, hap, f8, f9, hB9, hR9⟩ := HPX.out HW6.out hbl
          have HR9 := Lib.hid hR9
          have HB9 := Lib.hid hB9
          clear hR9 hwn hbl hB9
          refine hK.out _ _ (HW6.out.far) (fun hS => ?_)
          clear hK K
          (try simp only [Act.put])
          refine wpAnyH_ready (rs := [10]) (by decide +kernel) (by simp) (AllReadyH.cons rfl (fun K hK => ?_) AllReadyH.nil)
          go_simp
          clear hap
          refine hK.out _ _ (HB9.out) (fun hS => ?_)
          clear hK K
          (try simp only [Act.put])
          (refine wpAnyH_take (i := 11) (v := .pointer (some ⟨w1.heap.size, 0, none⟩)) rfl (by kernel_rfl) (by kernel_rfl) (by kernel_rfl) (fun _ _ _ h => h) (Or.inl ⟨by kernel_rfl, fun w hSw => by go_simp⟩) hS ?_)
          (try simp only [Act.put])
          refine wpAnyH_ready (rs := [12]) (by decide +kernel) (by simp) (AllReadyH.cons rfl (fun K hK => ?_) AllReadyH.nil)
          go_simp
          refine hK.out _ _ (HR9.out.far) (fun hS => ?_)
          clear hK K
          (try simp only [Act.put])
          refine wpAnyH_done (by kernel_rfl) ?_ _
          go_wp2_with fail
          go_meet
          exact ⟨_, HR9⟩
        · (go_at_call 76; (with_reducible refine (HBT.out _).mono ?_); rintro e w4 ⟨rfl, hb⟩)
          have HW4 := Lib.hid (HW3.out.call hb)
          clear hb
          refine hK.out _ _ (HW4.out.far) (fun hS => ?_)
          clear hK K
          (try simp only [Act.put])
          have fc := HW4.out.cells.1
          refine wpAnyH_ready (rs := [1, 8]) (by decide +kernel) (by simp) (AllReadyH.cons rfl (fun K hK => ?_) (AllReadyH.cons rfl (fun K hK => ?_) AllReadyH.nil))
          all_goals go_simp
          all_goals clear fc
          · refine hK.out _ _ (HW4.out.far) (fun hS => ?_)
            clear hK K
            (try simp only [Act.put])
            refine wpAnyH_ready (rs := [8]) (by decide +kernel) (by simp) (AllReadyH.cons rfl (fun K hK => ?_) AllReadyH.nil)
            go_simp
            (go_at_call 75; (with_reducible refine (HC0.out _).mono ?_); rintro e w5 ⟨rfl, hb⟩)
            have HW5 := Lib.hid (HW4.out.call hb)
            clear hb
            refine hK.out _ _ (HW5.out.far) (fun hS => ?_)
            clear hK K
            (try simp only [Act.put])
            refine wpAnyH_ready (rs := [9]) (by decide +kernel) (by simp) (AllReadyH.cons rfl (fun K hK => ?_) AllReadyH.nil)
            go_simp
            obtain ⟨w6, hwn⟩ : ∃ W, W = w5.alloc (.cells (x.map bv).toArray 33) := ⟨_, rfl⟩
            have HW6 : Hid (RsW w1 w1.heap.size X Y k k v u w6) := by rw [hwn]; exact HW5.out.call ((Below.refl w5.heap.size w5).alloc (Nat.le_refl _) _)
            have hbl : Box w6 w5.heap.size 33 (x.map bv).toArray := by rw [hwn]; exact Box.made _ _ _
            rw [← hwn]
            obtain ⟨g, cap, w9, hap, f8, f9, hB9, hR9⟩ := HPX.out HW6.out hbl
            have HR9 := Lib.hid hR9
            have HB9 := Lib.hid hB9
            clear hR9 hwn hbl hB9
            refine hK.out _ _ (HW6.out.far) (fun hS => ?_)
            clear hK K
            (try simp only [Act.put])
            refine wpAnyH_ready (rs := [10]) (by decide +kernel) (by simp) (AllReadyH.cons rfl (fun K hK => ?_) AllReadyH.nil)
            go_simp
            clear hap
            refine hK.out _ _ (HB9.out) (fun hS => ?_)
            clear hK K
            (try simp only [Act.put])
            (refine wpAnyH_take (i := 11) (v := .pointer (some ⟨w1.heap.size, 0, none⟩)) rfl (by kernel_rfl) (by kernel_rfl) (by kernel_rfl) (fun _ _ _ h => h) (Or.inl ⟨by kernel_rfl, fun w hSw => by go_simp⟩) hS ?_)
            (try simp only [Act.put])
            refine wpAnyH_ready (rs := [12]) (by decide +kernel) (by simp) (AllReadyH.cons rfl (fun K hK => ?_) AllReadyH.nil)
            go_simp
            refine hK.out _ _ (HR9.out.far) (fun hS => ?_)
            clear hK K
            (try simp only [Act.put])
            refine wpAnyH_done (by kernel_rfl) ?_ _
            go_wp2_with fail
            go_meet
            exact ⟨_, HR9⟩
          · (go_at_call 75; (with_reducible refine (HC0.out _).mono ?_); rintro e w5 ⟨rfl, hb⟩)
            have HW5 := Lib.hid (HW4.out.call hb)
            clear hb
            refine hK.out _ _ (HW5.out.far) (fun hS => ?_)
            clear hK K
            (try simp only [Act.put])
            have fc := HW5.out.cells.1
            refine wpAnyH_ready (rs := [1, 9]) (by decide +kernel) (by simp) (AllReadyH.cons rfl (fun K hK => ?_) (AllReadyH.cons rfl (fun K hK => ?_) AllReadyH.nil))
            all_goals go_simp
            all_goals clear fc
            · refine hK.out _ _ (HW5.out.far) (fun hS => ?_)
              clear hK K
              (try simp only [Act.put])
              refine wpAnyH_ready (rs := [9]) (by decide +kernel) (by simp) (AllReadyH.cons rfl (fun K hK => ?_) AllReadyH.nil)
              go_simp
              obtain ⟨w6, hwn⟩ : ∃ W, W = w5.alloc (.cells (x.map bv).toArray 33) := ⟨_, rfl⟩
              have HW6 : Hid (RsW w1 w1.heap.size X Y k k v u w6) := by rw [hwn]; exact HW5.out.call ((Below.refl w5.heap.size w5).alloc (Nat.le_refl _) _)
              have hbl : Box w6 w5.heap.size 33 (x.map bv).toArray := by rw [hwn]; exact Box.made _ _ _
              rw [← hwn]
              obtain ⟨g, cap, w9, hap, f8, f9, hB9, hR9⟩ := HPX.out HW6.out hbl
              have HR9 := Lib.hid hR9
              have HB9 := Lib.hid hB9
              clear hR9 hwn hbl hB9
              refine hK.out _ _ (HW6.out.far) (fun hS => ?_)
              clear hK K
              (try simp only [Act.put])
              refine wpAnyH_ready (rs := [10]) (by decide +kernel) (by simp) (AllReadyH.cons rfl (fun K hK => ?_) AllReadyH.nil)
              go_simp
              clear hap
              refine hK.out _ _ (HB9.out) (fun hS => ?_)
              clear hK K
              (try simp only [Act.put])
              (refine wpAnyH_take (i := 11) (v := .pointer (some ⟨w1.heap.size, 0, none⟩)) rfl (by kernel_rfl) (by kernel_rfl) (by kernel_rfl) (fun _ _ _ h => h) (Or.inl ⟨by kernel_rfl, fun w hSw => by go_simp⟩) hS ?_)
              (try simp only [Act.put])
              refine wpAnyH_ready (rs := [12]) (by decide +kernel) (by simp) (AllReadyH.cons rfl (fun K hK => ?_) AllReadyH.nil)
              go_simp
              refine hK.out _ _ (HR9.out.far) (fun hS => ?_)
              clear hK K
              (try simp only [Act.put])
              refine wpAnyH_done (by kernel_rfl) ?_ _
              go_wp2_with fail
              go_meet
              exact ⟨_, HR9⟩
            · obtain ⟨w6, hwn⟩ : ∃ W, W = w5.alloc (.cells (x.map bv).toArray 33) := ⟨_, rfl⟩
              have HW6 : Hid (RsW w1 w1.heap.size X Y k k v u w6) := by rw [hwn]; exact HW5.out.call ((Below.refl w5.heap.size w5).alloc (Nat.le_refl _) _)
              have hbl : Box w6 w5.heap.size 33 (x.map bv).toArray := by rw [hwn]; exact Box.made _ _ _
              rw [← hwn]
              obtain ⟨g, cap, w9, hap, f8, f9, hB9, hR9⟩ := HPX.out HW6.out hbl
              have HR9 := Lib.hid hR9
              have HB9 := Lib.hid hB9
              clear hR9 hwn hbl hB9
              refine hK.out _ _ (HW6.out.far) (fun hS => ?_)
              clear hK K
              (try simp only [Act.put])
              have fc := HW6.out.cells.1
              refine wpAnyH_ready (rs := [1]) (by decide +kernel) (by simp) (AllReadyH.cons rfl (fun K hK => ?_) AllReadyH.nil)
              go_simp
              clear fc
              refine hK.out _ _ (HW6.out.far) (fun hS => ?_)
              clear hK K
              (try simp only [Act.put])
              refine wpAnyH_ready (rs := [10]) (by decide +kernel) (by simp) (AllReadyH.cons rfl (fun K hK => ?_) AllReadyH.nil)
              go_simp
              clear hap
              refine hK.out _ _ (HB9.out) (fun hS => ?_)
              clear hK K
              (try simp only [Act.put])
              (refine wpAnyH_take (i := 11) (v := .pointer (some ⟨w1.heap.size, 0, none⟩)) rfl (by kernel_rfl) (by kernel_rfl) (by kernel_rfl) (fun _ _ _ h => h) (Or.inl ⟨by kernel_rfl, fun w hSw => by go_simp⟩) hS ?_)
              (try simp only [Act.put])
              refine wpAnyH_ready (rs := [12]) (by decide +kernel) (by simp) (AllReadyH.cons rfl (fun K hK => ?_) AllReadyH.nil)
              go_simp
              refine hK.out _ _ (HR9.out.far) (fun hS => ?_)
              clear hK K
              (try simp only [Act.put])
              refine wpAnyH_done (by kernel_rfl) ?_ _
              go_wp2_with fail
              go_meet
              exact ⟨_, HR9⟩
      case rest =>
        obtain ⟨v', HW2⟩ := hcut
        clear HPX HC0 HW
        go_upto_region 6 with fail
        obtain ⟨w3, hw3⟩ : ∃ W, W = wc.drew := ⟨_, rfl⟩
        have HW3 : Hid (RsW w1 w1.heap.size X Y (k + 1) k v' u w3) := by rw [hw3]; exact HW2.out.call (Below.refl _ _).drew
        have HW3d := HW3
        rw [hw3] at HW3d
        refine wp_region_held_drew (S := fun w' => Below w1.heap.size w1 w') (by kernel_rfl) HW3d.out.far (fun hS => ?_)
        rw [← hw3]
        rw [← hw3] at hS
        clear HW3d hw3
        (refine wpAnyH_take (i := 0) (v := .pointer (some ⟨w1.heap.size, 1, none⟩)) rfl (by kernel_rfl) (by kernel_rfl) (by kernel_rfl) (fun _ _ _ h => h) (Or.inl ⟨by kernel_rfl, fun w hSw => by go_simp⟩) hS ?_)
        (try simp only [Act.put])
        (refine wpAnyH_take (i := 2) (v := .agg (seed.map bv).toArray) rfl (by kernel_rfl) (by kernel_rfl) (by kernel_rfl) (fun _ _ _ h => h) (yieldsIf_load_mid (by kernel_rfl) 33 (.tmp 3) rfl w.heap.size (0) (by kernel_rfl) (seed.map bv) _ (fun w h => HSX.out w h) hund rfl hn1) hS ?_)
        (try simp only [Act.put])
        (refine wpAnyH_take (i := 3) (v := .int .i64 leaf) rfl (by kernel_rfl) (by kernel_rfl) (by kernel_rfl) (fun _ _ _ h => h) (Or.inl ⟨by kernel_rfl, fun w hSw => by go_simp⟩) hS ?_)
        (try simp only [Act.put])
        (refine wpAnyH_take (i := 4) (v := .int .i64 (k : Int)) rfl (by kernel_rfl) (by kernel_rfl) (by kernel_rfl) (fun _ _ _ h => h) (Or.inl ⟨by kernel_rfl, fun w hSw => by go_simp⟩) hS ?_)
        (try simp only [Act.put])
        (refine wpAnyH_take (i := 5) (v := .agg (d.map bv).toArray) rfl (by kernel_rfl) (by kernel_rfl) (by kernel_rfl) (fun _ _ _ h => h) (yieldsIf_load_mid (by kernel_rfl) 33 (.tmp 5) rfl (w.heap.size + 1) (0) (by kernel_rfl) (d.map bv) _ (fun w h => HDX.out w h) hund rfl hn2) hS ?_)
        (try simp only [Act.put])
        (refine wpAnyH_take (i := 6) (v := .int .i64 (k : Int)) rfl (by kernel_rfl) (by kernel_rfl) (by kernel_rfl) (fun _ _ _ h => h) (Or.inl ⟨by kernel_rfl, fun w hSw => by go_simp⟩) hS ?_)
        (try simp only [Act.put])
        have fc := HW3.out.cells.2
        refine wpAnyH_ready (rs := [1, 7]) (by decide +kernel) (by simp) (AllReadyH.cons rfl (fun K hK => ?_) (AllReadyH.cons rfl (fun K hK => ?_) AllReadyH.nil))
        all_goals go_simp
        all_goals clear fc
        · refine hK.out _ _ (HW3.out.far) (fun hS => ?_)
          clear hK K
          (try simp only [Act.put])
          refine wpAnyH_ready (rs := [7]) (by decide +kernel) (by simp) (AllReadyH.cons rfl (fun K hK => ?_) AllReadyH.nil)
          go_simp
          (go_at_call 76; (with_reducible refine (HBT.out _).mono ?_); rintro e w4 ⟨rfl, hb⟩)
          have HW4 := Lib.hid (HW3.out.call hb)
          clear hb
          refine hK.out _ _ (HW4.out.far) (fun hS => ?_)
          clear hK K
          (try simp only [Act.put])
          (refine wpAnyH_take (i := 8) (v := .int .i64 (1 - (b : Int))) rfl (by kernel_rfl) (by kernel_rfl) (by kernel_rfl) (fun _ _ _ h => h) (Or.inl ⟨by kernel_rfl, fun w hSw => by go_simp⟩) hS ?_)
          (try simp only [Act.put])
          refine wpAnyH_ready (rs := [9]) (by decide +kernel) (by simp) (AllReadyH.cons rfl (fun K hK => ?_) AllReadyH.nil)
          go_simp
          (go_at_call 75; (with_reducible refine (HC1.out _).mono ?_); rintro e w5 ⟨rfl, hb⟩)
          have HW5 := Lib.hid (HW4.out.call hb)
          clear hb
          refine hK.out _ _ (HW5.out.far) (fun hS => ?_)
          clear hK K
          (try simp only [Act.put])
          refine wpAnyH_ready (rs := [10]) (by decide +kernel) (by simp) (AllReadyH.cons rfl (fun K hK => ?_) AllReadyH.nil)
          go_simp
          (go_at_call 74; (with_reducible refine (HH.out _).mono ?_); rintro e w6 ⟨rfl, hb⟩)
          have HW6 := Lib.hid (HW5.out.call hb)
          clear hb
          refine hK.out _ _ (HW6.out.far) (fun hS => ?_)
          clear hK K
          (try simp only [Act.put])
          refine wpAnyH_ready (rs := [11]) (by decide +kernel) (by simp) (AllReadyH.cons rfl (fun K hK => ?_) AllReadyH.nil)
          go_simp
          obtain ⟨w7, hwn⟩ : ∃ W, W = w6.alloc (.cells (y.map bv).toArray 33) := ⟨_, rfl⟩
          have HW7 : Hid (RsW w1 w1.heap.size X Y (k + 1) k v' u w7) := by rw [hwn]; exact HW6.out.call ((Below.refl w6.heap.size w6).alloc (Nat.le_refl _) _)
          have hbl : Box w7 w6.heap.size 33 (y.map bv).toArray := by rw [hwn]; exact Box.made _ _ _
          rw [← hwn]
          obtain ⟨g, cap, w9, hap, f8, f9, hB9, hR9⟩ := HPY.out HW7.out hbl
          have HR9 := Lib.hid hR9
          have HB9 := Lib.hid hB9
          clear hR9 hwn hbl hB9
          refine hK.out _ _ (HW7.out.far) (fun hS => ?_)
          clear hK K
          (try simp only [Act.put])
          refine wpAnyH_ready (rs := [12]) (by decide +kernel) (by simp) (AllReadyH.cons rfl (fun K hK => ?_) AllReadyH.nil)
          go_simp
          clear hap
          refine hK.out _ _ (HB9.out) (fun hS => ?_)
          clear hK K
          (try simp only [Act.put])
          (refine wpAnyH_take (i := 13) (v := .pointer (some ⟨w1.heap.size, 1, none⟩)) rfl (by kernel_rfl) (by kernel_rfl) (by kernel_rfl) (fun _ _ _ h => h) (Or.inl ⟨by kernel_rfl, fun w hSw => by go_simp⟩) hS ?_)
          (try simp only [Act.put])
          refine wpAnyH_ready (rs := [14]) (by decide +kernel) (by simp) (AllReadyH.cons rfl (fun K hK => ?_) AllReadyH.nil)
          go_simp
          refine hK.out _ _ (HR9.out.far) (fun hS => ?_)
          clear hK K
          (try simp only [Act.put])
          refine wpAnyH_done (by kernel_rfl) ?_ _
          clear HB9 f8 f9 hS
          go_wp2
          go_roundw
          case rel => exact ⟨k + 1, v', _, hlt, by go_num, HR9⟩
          case measure => simp [intOf]; omega
        · (go_at_call 76; (with_reducible refine (HBT.out _).mono ?_); rintro e w4 ⟨rfl, hb⟩)
          have HW4 := Lib.hid (HW3.out.call hb)
          clear hb
          refine hK.out _ _ (HW4.out.far) (fun hS => ?_)
          clear hK K
          (try simp only [Act.put])
          (refine wpAnyH_take (i := 8) (v := .int .i64 (1 - (b : Int))) rfl (by kernel_rfl) (by kernel_rfl) (by kernel_rfl) (fun _ _ _ h => h) (Or.inl ⟨by kernel_rfl, fun w hSw => by go_simp⟩) hS ?_)
          (try simp only [Act.put])
          have fc := HW4.out.cells.2
          refine wpAnyH_ready (rs := [1, 9]) (by decide +kernel) (by simp) (AllReadyH.cons rfl (fun K hK => ?_) (AllReadyH.cons rfl (fun K hK => ?_) AllReadyH.nil))
          all_goals go_simp
          all_goals clear fc
          · refine hK.out _ _ (HW4.out.far) (fun hS => ?_)
            clear hK K
            (try simp only [Act.put])
            refine wpAnyH_ready (rs := [9]) (by decide +kernel) (by simp) (AllReadyH.cons rfl (fun K hK => ?_) AllReadyH.nil)
            go_simp
            (go_at_call 75; (with_reducible refine (HC1.out _).mono ?_); rintro e w5 ⟨rfl, hb⟩)
            have HW5 := Lib.hid (HW4.out.call hb)
            clear hb
            refine hK.out _ _ (HW5.out.far) (fun hS => ?_)
            clear hK K
            (try simp only [Act.put])
            refine wpAnyH_ready (rs := [10]) (by decide +kernel) (by simp) (AllReadyH.cons rfl (fun K hK => ?_) AllReadyH.nil)
            go_simp
            (go_at_call 74; (with_reducible refine (HH.out _).mono ?_); rintro e w6 ⟨rfl, hb⟩)
            have HW6 := Lib.hid (HW5.out.call hb)
            clear hb
            refine hK.out _ _ (HW6.out.far) (fun hS => ?_)
            clear hK K
            (try simp only [Act.put])
            refine wpAnyH_ready (rs := [11]) (by decide +kernel) (by simp) (AllReadyH.cons rfl (fun K hK => ?_) AllReadyH.nil)
            go_simp
            obtain ⟨w7, hwn⟩ : ∃ W, W = w6.alloc (.cells (y.map bv).toArray 33) := ⟨_, rfl⟩
            have HW7 : Hid (RsW w1 w1.heap.size X Y (k + 1) k v' u w7) := by rw [hwn]; exact HW6.out.call ((Below.refl w6.heap.size w6).alloc (Nat.le_refl _) _)
            have hbl : Box w7 w6.heap.size 33 (y.map bv).toArray := by rw [hwn]; exact Box.made _ _ _
            rw [← hwn]
            obtain ⟨g, cap, w9, hap, f8, f9, hB9, hR9⟩ := HPY.out HW7.out hbl
            have HR9 := Lib.hid hR9
            have HB9 := Lib.hid hB9
            clear hR9 hwn hbl hB9
            refine hK.out _ _ (HW7.out.far) (fun hS => ?_)
            clear hK K
            (try simp only [Act.put])
            refine wpAnyH_ready (rs := [12]) (by decide +kernel) (by simp) (AllReadyH.cons rfl (fun K hK => ?_) AllReadyH.nil)
            go_simp
            clear hap
            refine hK.out _ _ (HB9.out) (fun hS => ?_)
            clear hK K
            (try simp only [Act.put])
            (refine wpAnyH_take (i := 13) (v := .pointer (some ⟨w1.heap.size, 1, none⟩)) rfl (by kernel_rfl) (by kernel_rfl) (by kernel_rfl) (fun _ _ _ h => h) (Or.inl ⟨by kernel_rfl, fun w hSw => by go_simp⟩) hS ?_)
            (try simp only [Act.put])
            refine wpAnyH_ready (rs := [14]) (by decide +kernel) (by simp) (AllReadyH.cons rfl (fun K hK => ?_) AllReadyH.nil)
            go_simp
            refine hK.out _ _ (HR9.out.far) (fun hS => ?_)
            clear hK K
            (try simp only [Act.put])
            refine wpAnyH_done (by kernel_rfl) ?_ _
            clear HB9 f8 f9 hS
            go_wp2
            go_roundw
            case rel => exact ⟨k + 1, v', _, hlt, by go_num, HR9⟩
            case measure => simp [intOf]; omega
          · (go_at_call 75; (with_reducible refine (HC1.out _).mono ?_); rintro e w5 ⟨rfl, hb⟩)
            have HW5 := Lib.hid (HW4.out.call hb)
            clear hb
            refine hK.out _ _ (HW5.out.far) (fun hS => ?_)
            clear hK K
            (try simp only [Act.put])
            have fc := HW5.out.cells.2
            refine wpAnyH_ready (rs := [1, 10]) (by decide +kernel) (by simp) (AllReadyH.cons rfl (fun K hK => ?_) (AllReadyH.cons rfl (fun K hK => ?_) AllReadyH.nil))
            all_goals go_simp
            all_goals clear fc
            · refine hK.out _ _ (HW5.out.far) (fun hS => ?_)
              clear hK K
              (try simp only [Act.put])
              refine wpAnyH_ready (rs := [10]) (by decide +kernel) (by simp) (AllReadyH.cons rfl (fun K hK => ?_) AllReadyH.nil)
              go_simp
              (go_at_call 74; (with_reducible refine (HH.out _).mono ?_); rintro e w6 ⟨rfl, hb⟩)
              have HW6 := Lib.hid (HW5.out.call hb)
              clear hb
              refine hK.out _ _ (HW6.out.far) (fun hS => ?_)
              clear hK K
              (try simp only [Act.put])
              refine wpAnyH_ready (rs := [11]) (by decide +kernel) (by simp) (AllReadyH.cons rfl (fun K hK => ?_) AllReadyH.nil)
              go_simp
              obtain ⟨w7, hwn⟩ : ∃ W, W = w6.alloc (.cells (y.map bv).toArray 33) := ⟨_, rfl⟩
              have HW7 : Hid (RsW w1 w1.heap.size X Y (k + 1) k v' u w7) := by rw [hwn]; exact HW6.out.call ((Below.refl w6.heap.size w6).alloc (Nat.le_refl _) _)
              have hbl : Box w7 w6.heap.size 33 (y.map bv).toArray := by rw [hwn]; exact Box.made _ _ _
              rw [← hwn]
              obtain ⟨g, cap, w9, hap, f8, f9, hB9, hR9⟩ := HPY.out HW7.out hbl
              have HR9 := Lib.hid hR9
              have HB9 := Lib.hid hB9
              clear hR9 hwn hbl hB9
              refine hK.out _ _ (HW7.out.far) (fun hS => ?_)
              clear hK K
              (try simp only [Act.put])
              refine wpAnyH_ready (rs := [12]) (by decide +kernel) (by simp) (AllReadyH.cons rfl (fun K hK => ?_) AllReadyH.nil)
              go_simp
              clear hap
              refine hK.out _ _ (HB9.out) (fun hS => ?_)
              clear hK K
              (try simp only [Act.put])
              (refine wpAnyH_take (i := 13) (v := .pointer (some ⟨w1.heap.size, 1, none⟩)) rfl (by kernel_rfl) (by kernel_rfl) (by kernel_rfl) (fun _ _ _ h => h) (Or.inl ⟨by kernel_rfl, fun w hSw => by go_simp⟩) hS ?_)
              (try simp only [Act.put])
              refine wpAnyH_ready (rs := [14]) (by decide +kernel) (by simp) (AllReadyH.cons rfl (fun K hK => ?_) AllReadyH.nil)
              go_simp
              refine hK.out _ _ (HR9.out.far) (fun hS => ?_)
              clear hK K
              (try simp only [Act.put])
              refine wpAnyH_done (by kernel_rfl) ?_ _
              clear HB9 f8 f9 hS
              go_wp2
              go_roundw
              case rel => exact ⟨k + 1, v', _, hlt, by go_num, HR9⟩
              case measure => simp [intOf]; omega
            · (go_at_call 74; (with_reducible refine (HH.out _).mono ?_); rintro e w6 ⟨rfl, hb⟩)
              have HW6 := Lib.hid (HW5.out.call hb)
              clear hb
              refine hK.out _ _ (HW6.out.far) (fun hS => ?_)
              clear hK K
              (try simp only [Act.put])
              have fc := HW6.out.cells.2
              refine wpAnyH_ready (rs := [1, 11]) (by decide +kernel) (by simp) (AllReadyH.cons rfl (fun K hK => ?_) (AllReadyH.cons rfl (fun K hK => ?_) AllReadyH.nil))
              all_goals go_simp
              all_goals clear fc
              · refine hK.out _ _ (HW6.out.far) (fun hS => ?_)
                clear hK K
                (try simp only [Act.put])
                refine wpAnyH_ready (rs := [11]) (by decide +kernel) (by simp) (AllReadyH.cons rfl (fun K hK => ?_) AllReadyH.nil)
                go_simp
                obtain ⟨w7, hwn⟩ : ∃ W, W = w6.alloc (.cells (y.map bv).toArray 33) := ⟨_, rfl⟩
                have HW7 : Hid (RsW w1 w1.heap.size X Y (k + 1) k v' u w7) := by rw [hwn]; exact HW6.out.call ((Below.refl w6.heap.size w6).alloc (Nat.le_refl _) _)
                have hbl : Box w7 w6.heap.size 33 (y.map bv).toArray := by rw [hwn]; exact Box.made _ _ _
                rw [← hwn]
                obtain ⟨g, cap, w9, hap, f8, f9, hB9, hR9⟩ := HPY.out HW7.out hbl
                have HR9 := Lib.hid hR9
                have HB9 := Lib.hid hB9
                clear hR9 hwn hbl hB9
                refine hK.out _ _ (HW7.out.far) (fun hS => ?_)
                clear hK K
                (try simp only [Act.put])
                refine wpAnyH_ready (rs := [12]) (by decide +kernel) (by simp) (AllReadyH.cons rfl (fun K hK => ?_) AllReadyH.nil)
                go_simp
                clear hap
                refine hK.out _ _ (HB9.out) (fun hS => ?_)
                clear hK K
                (try simp only [Act.put])
                (refine wpAnyH_take (i := 13) (v := .pointer (some ⟨w1.heap.size, 1, none⟩)) rfl (by kernel_rfl) (by kernel_rfl) (by kernel_rfl) (fun _ _ _ h => h) (Or.inl ⟨by kernel_rfl, fun w hSw => by go_simp⟩) hS ?_)
                (try simp only [Act.put])
                refine wpAnyH_ready (rs := [14]) (by decide +kernel) (by simp) (AllReadyH.cons rfl (fun K hK => ?_) AllReadyH.nil)
                go_simp
                refine hK.out _ _ (HR9.out.far) (fun hS => ?_)
                clear hK K
                (try simp only [Act.put])
                refine wpAnyH_done (by kernel_rfl) ?_ _
                clear HB9 f8 f9 hS
                go_wp2
                go_roundw
                case rel => exact ⟨k + 1, v', _, hlt, by go_num, HR9⟩
                case measure => simp [intOf]; omega
              · obtain ⟨w7, hwn⟩ : ∃ W, W = w6.alloc (.cells (y.map bv).toArray 33) := ⟨_, rfl⟩
                have HW7 : Hid (RsW w1 w1.heap.size X Y (k + 1) k v' u w7) := by rw [hwn]; exact HW6.out.call ((Below.refl w6.heap.size w6).alloc (Nat.le_refl _) _)
                have hbl : Box w7 w6.heap.size 33 (y.map bv).toArray := by rw [hwn]; exact Box.made _ _ _
                rw [← hwn]
                obtain ⟨g, cap, w9, hap, f8, f9, hB9, hR9⟩ := HPY.out HW7.out hbl
                have HR9 := Lib.hid hR9
                have HB9 := Lib.hid hB9
                clear hR9 hwn hbl hB9
                refine hK.out _ _ (HW7.out.far) (fun hS => ?_)
                clear hK K
                (try simp only [Act.put])
                have fc := HW7.out.cells.2
                refine wpAnyH_ready (rs := [1]) (by decide +kernel) (by simp) (AllReadyH.cons rfl (fun K hK => ?_) AllReadyH.nil)
                go_simp
                clear fc
                refine hK.out _ _ (HW7.out.far) (fun hS => ?_)
                clear hK K
                (try simp only [Act.put])
                refine wpAnyH_ready (rs := [12]) (by decide +kernel) (by simp) (AllReadyH.cons rfl (fun K hK => ?_) AllReadyH.nil)
                go_simp
                clear hap
                refine hK.out _ _ (HB9.out) (fun hS => ?_)
                clear hK K
                (try simp only [Act.put])
                (refine wpAnyH_take (i := 13) (v := .pointer (some ⟨w1.heap.size, 1, none⟩)) rfl (by kernel_rfl) (by kernel_rfl) (by kernel_rfl) (fun _ _ _ h => h) (Or.inl ⟨by kernel_rfl, fun w hSw => by go_simp⟩) hS ?_)
                (try simp only [Act.put])
                refine wpAnyH_ready (rs := [14]) (by decide +kernel) (by simp) (AllReadyH.cons rfl (fun K hK => ?_) AllReadyH.nil)
                go_simp
                refine hK.out _ _ (HR9.out.far) (fun hS => ?_)
                clear hK K
                (try simp only [Act.put])
                refine wpAnyH_done (by kernel_rfl) ?_ _
                clear HB9 f8 f9 hS
                go_wp2
                go_roundw
                case rel => exact ⟨k + 1, v', _, hlt, by go_num, HR9⟩
                case measure => simp [intOf]; omega
    · obtain rfl : k = 32 := by omega
      have ho1 := HW.out.op
      have ho2 := HW.out.sh
      rw [List.take_of_length_le (by rw [HX.out]; exact Nat.le_refl _)] at ho1
      rw [List.take_of_length_le (by rw [HY.out]; exact Nat.le_refl _)] at ho2
      obtain ⟨A, c, rfl⟩ := own_slice_s ho1
      obtain ⟨B, c', rfl⟩ := own_slice_s ho2
      have HI1 := Lib.hid ho1
      have HI2 := Lib.hid ho2
      clear ho1 ho2
      have HLO : Hid ((Tryz.prog.info? 46).map (·.size) = some ([.slice A 32 c, .slice B 32 c'] : List Value).length) := by
        show _ = some 2
        kernel_rfl
      have HSO : Hid ((Tryz.prog.info? 46).map (·.size) = some (#[.slice A 32 c, .slice B 32 c'] : Array Value).size) := HLO
      have HO1 : Hid (∀ v ∈ (#[.slice A 32 c, .slice B 32 c'] : Array Value).toList, v.oneCell' = true) := by
        intro v hv
        simp at hv
        rcases hv with rfl | rfl <;> rfl
      have HO2 := Lib.hid (HO.out.below HW.out.far HO.out.lt)
      have HBX : Hid (Box wr w1.heap.size 46 ([.slice A 32 c, .slice B 32 c'] : List Value).toArray) := HW.out.box
      go_wp2_with (first
        | ((with_reducible show wpList _ _ _ ((⟨some 39, _, _, _, _, _⟩ : Oper) :: _) _ _); refine wpList_load_mid rfl 46 (.tmp 7) rfl w1.heap.size 0 rfl [.slice A 32 c, .slice B 32 c'] _ HBX.out.range Tryz.underlying46 rfl HLO.out ?_)
        | (((with_reducible show wpList _ _ _ ((⟨none, Op.store _ (.tmp 6) (.tmp 39), _, _, _, _⟩ : Oper) :: _) _ _)); refine wpList_store_box rfl 46 (.tmp 6) (.tmp 39) rfl (w.heap.size + 1 + 1) #[.slice A 32 c, .slice B 32 c'] rfl rfl 46 #[.slice none 0 0, .slice none 0 0] HO2.out rfl HSO.out HO1.out ?_; intro w7 hb7 hg7))
      refine bodyPost_ret (v := .agg #[.slice A 32 c, .slice B 32 c']) (results_cell_row rfl _ w7 (w.heap.size + 1 + 1) 46 #[.slice A 32 c, .slice B 32 c'] (0, 0) _ rfl hb7 Tryz.underlying46 rfl HSO.out) rfl ?_
      have hn : ∀ (g : Nat), w1.heap.size ≤ g → g ≠ w.heap.size + 1 + 1 := fun g hg => by
        have h2 := HZ.out
        omega
      have hk1 := World.ownsRow.kept HI1.out hg7 (by
        rcases hq : (Value.slice A 32 c).ownBlock with _ | q
        · exact .inl rfl
        · exact .inr (fun e => hn q (HI1.out.lt q hq).1 (by injection e)))
      have hk2 := World.ownsRow.kept HI2.out hg7 (by
        rcases hq : (Value.slice B 32 c').ownBlock with _ | q
        · exact .inl rfl
        · exact .inr (fun e => hn q (HI2.out.lt q hq).1 (by injection e)))
      exact ⟨A, B, c, c', rfl, ⟨HXA.out, sees_own hk1⟩, ⟨HYA.out, sees_own hk2⟩, (HF.out.trans (HW.out.far.mono HF.out.size)).trans (below_only hg7 (by omega) (HF.out.trans (HW.out.far.mono HF.out.size)).size)⟩
end Go.Proofs.YtojgmdagamdcfaaGreatDoor
