/-
  The document's signature (wapentakeref04.Sign).
-/
import Derived.Test.YtejnfgcnifcpaaaGreatDoorOB
import Derived.Test.YtejnfgcnifcpaaaGreatDoorOC
import Derived.Deep.AppendLies
import Derived.Deep.RegionHeld3
import Derived.Deep.DeepCutAuto
namespace Go.Proofs.YtejnfgcnifcpaaaGreatDoor
open Go.RowKit

attribute [local go_sem ↓] ldDigest_def bsAll_def apAll_def

/-- One digest more, as the frozen append answers, and where the row lies then. -/
theorem push_lies {w : World} {base n : Nat} {v : Value} {ps : List (List UInt8)} (hn : n = ps.length) (hown : w.ownsRow base 26 32 v n (ps.flatten.map bv)) {b : Nat} {t : TypeId} {x : List UInt8} (hx : x.length = 32) (hb : Box w b t (x.map bv).toArray) (hle : n + 1 ≤ 1099511627776) (hbase : base ≤ w.heap.size) :
    ∃ g cap w', (apAll #[63, 63] 63 #[v, .slice (some ⟨b, 0, none⟩) 1 1]).run Tryz.prog w = .ok (.slice (some ⟨g, 0, none⟩) (n + 1) cap) w' ∧ w'.ownsRow base 26 32 (.slice (some ⟨g, 0, none⟩) (n + 1) cap) (n + 1) ((ps ++ [x]).flatten.map bv) ∧ w.grownBy w' v.ownBlock ∧ (v.ownBlock = some g ∨ g = w.heap.size) := by
  obtain ⟨i0, hi0, hz0, hz1, hz2⟩ := info_parts dig_info3
  obtain ⟨g, cap, w', hr, ho, hg, hat, _⟩ := run_append_lies (P := Tryz.prog) w 63 63 base 26 i0 _ 32 32 Tryz.underlying63 hi0 hz0 hz1 hz2 rfl (by omega) v n _ hown ⟨b, 0, none⟩ 1 1 (x.map bv) (by rw [List.length_map, hx]) (fun j u hu => by rw [plain_add, Nat.zero_add, hb.cell, List.getElem?_toArray]; exact hu) (bv_one _) (by omega) (by unfold maxLen; omega) (by omega) hbase w.heap.size rfl
  refine ⟨g, cap, w', hr, ?_, hg, hat⟩
  rw [List.flatten_append, List.map_append]
  simpa using ho

/-- What the walk of the document's Sign carries of memory. -/
structure RsW (w1 : World) (a : Nat) (X Y : List (List UInt8)) (k l : Nat) (v u : Value) (w : World) : Prop where
  box : Box w a 65 #[v, u]
  op : w.ownsRow w1.heap.size 26 32 v k ((X.take k).flatten.map bv)
  sh : w.ownsRow w1.heap.size 26 32 u l ((Y.take l).flatten.map bv)
  far : Below w1.heap.size w1 w
  ha : w1.heap.size ≤ a
  ne : ∀ g, v.ownBlock = some g → u.ownBlock ≠ some g
theorem RsW.call {w1 w w' : World} {a : Nat} {X Y : List (List UInt8)} {k l : Nat} {v u : Value} (s : RsW w1 a X Y k l v u w) (hb : Below w.heap.size w w') : RsW w1 a X Y k l v u w' :=
  ⟨s.box.below hb s.box.lt, World.ownsRow.kept s.op (only_below hb none) (by cases v.ownBlock <;> simp), World.ownsRow.kept s.sh (only_below hb none) (by cases u.ownBlock <;> simp), s.far.trans (hb.mono s.far.size), s.ha, s.ne⟩
theorem RsW.put_op {w1 w w' : World} {a g cap : Nat} {X Y : List (List UInt8)} {k l : Nat} {v u : Value} (s : RsW w1 a X Y k l v u w) (hX : k < X.length) (hg : w.grownBy w' v.ownBlock)
    (ho : w'.ownsRow w1.heap.size 26 32 (.slice (some ⟨g, 0, none⟩) (k + 1) cap) (k + 1) ((X.take k ++ [X.getD k []]).flatten.map bv)) (hat : v.ownBlock = some g ∨ g = w.heap.size) :
    RsW w1 a X Y (k + 1) l (.slice (some ⟨g, 0, none⟩) (k + 1) cap) u (w'.setCell ⟨a, 0, none⟩ (.slice (some ⟨g, 0, none⟩) (k + 1) cap)) := by
  have hva := s.box.own_ne s.op (by decide)
  have hb1 := s.box.grown hg (Ne.symm hva)
  have hua := s.box.own_ne s.sh (by decide)
  have hga := hb1.own_ne ho (by decide)
  have hu1 : w'.ownsRow w1.heap.size 26 32 u l ((Y.take l).flatten.map bv) := World.ownsRow.kept s.sh hg (by
    rcases hv : v.ownBlock with _ | q
    · rcases hq : u.ownBlock with _ | q2
      · exact .inl rfl
      · exact .inr (by simp)
    · exact .inr (s.ne q hv))
  have hp := hb1.put 0 (.slice (some ⟨g, 0, none⟩) (k + 1) cap)
  have hB1 : Below w1.heap.size w1 w' := s.far.trans (below_own s.op hg s.far.size)
  refine ⟨by simpa using hp, ?_, ownsRow_setCell_other hu1 (a := ⟨a, 0, none⟩) hua _, hB1.trans ((Below.refl _ _).setCell (p := ⟨a, 0, none⟩) s.ha _), s.ha, fun q hq hq2 => ?_⟩
  · have h := ownsRow_setCell_other ho (a := ⟨a, 0, none⟩) hga (.slice (some ⟨g, 0, none⟩) (k + 1) cap)
    rw [List.take_succ_eq_append_getElem hX]
    rw [List.getD_eq_getElem?_getD, List.getElem?_eq_getElem hX] at h
    exact h
  · have e : q = g := by simpa [Value.ownBlock] using hq.symm
    subst e
    rcases hat with h | h
    · exact s.ne _ h hq2
    · have := (s.sh.lt _ hq2).2
      omega
theorem RsW.put_sh {w1 w w' : World} {a g cap : Nat} {X Y : List (List UInt8)} {k l : Nat} {v u : Value} (s : RsW w1 a X Y k l v u w) (hY : l < Y.length) (hg : w.grownBy w' u.ownBlock)
    (ho : w'.ownsRow w1.heap.size 26 32 (.slice (some ⟨g, 0, none⟩) (l + 1) cap) (l + 1) ((Y.take l ++ [Y.getD l []]).flatten.map bv)) (hat : u.ownBlock = some g ∨ g = w.heap.size) :
    RsW w1 a X Y k (l + 1) v (.slice (some ⟨g, 0, none⟩) (l + 1) cap) (w'.setCell ⟨a, 1, none⟩ (.slice (some ⟨g, 0, none⟩) (l + 1) cap)) := by
  have hua := s.box.own_ne s.sh (by decide)
  have hb1 := s.box.grown hg (Ne.symm hua)
  have hva := s.box.own_ne s.op (by decide)
  have hga := hb1.own_ne ho (by decide)
  have hv1 : w'.ownsRow w1.heap.size 26 32 v k ((X.take k).flatten.map bv) := World.ownsRow.kept s.op hg (by
    rcases hv : v.ownBlock with _ | q
    · exact .inl rfl
    · exact .inr (fun e => s.ne q hv e.symm))
  have hp := hb1.put 1 (.slice (some ⟨g, 0, none⟩) (l + 1) cap)
  have hB1 : Below w1.heap.size w1 w' := s.far.trans (below_own s.sh hg s.far.size)
  refine ⟨by simpa using hp, ownsRow_setCell_other hv1 (a := ⟨a, 1, none⟩) hva _, ?_, hB1.trans ((Below.refl _ _).setCell (p := ⟨a, 1, none⟩) s.ha _), s.ha, fun q hq hq2 => ?_⟩
  · have h := ownsRow_setCell_other ho (a := ⟨a, 1, none⟩) hga (.slice (some ⟨g, 0, none⟩) (l + 1) cap)
    rw [List.take_succ_eq_append_getElem hY]
    rw [List.getD_eq_getElem?_getD, List.getElem?_eq_getElem hY] at h
    exact h
  · have e : q = g := by simpa [Value.ownBlock] using hq2.symm
    subst e
    rcases hat with h | h
    · exact s.ne _ hq h
    · have := (s.op.lt _ hq).2
      omega

theorem RsW.push_op {w1 w : World} {a b : Nat} {t : TypeId} {X Y : List (List UInt8)} {k l : Nat} {v u : Value} {x : List UInt8} (s : RsW w1 a X Y k l v u w) (hX : k < X.length) (hx : x.length = 32) (e : X.getD k [] = x) (hb : Box w b t (x.map bv).toArray) (hk : k ≤ 32) :
    ∃ g cap w', (apAll #[63, 63] 63 #[v, .slice (some ⟨b, 0, none⟩) 1 1]).run Tryz.prog w = .ok (.slice (some ⟨g, 0, none⟩) (k + 1) cap) w' ∧ w'.cell? ⟨a, 0, none⟩ = some v ∧ w'.frozen? ⟨a, 0, none⟩ = false ∧ Below w1.heap.size w1 w' ∧
      RsW w1 a X Y (k + 1) l (.slice (some ⟨g, 0, none⟩) (k + 1) cap) u (w'.setCell ⟨a, 0, none⟩ (.slice (some ⟨g, 0, none⟩) (k + 1) cap)) := by
  obtain ⟨g, cap, w', h1, h2, h3, h4⟩ := push_lies (by rw [List.length_take]; omega) s.op hx hb (by omega) s.far.size
  have hb1 := s.box.grown h3 (Ne.symm (s.box.own_ne s.op (by decide)))
  exact ⟨g, cap, w', h1, hb1.cell 0, hb1.free 0, s.far.trans (below_own s.op h3 s.far.size), s.put_op hX h3 (by rw [e]; exact h2) h4⟩
theorem RsW.push_sh {w1 w : World} {a b : Nat} {t : TypeId} {X Y : List (List UInt8)} {k l : Nat} {v u : Value} {x : List UInt8} (s : RsW w1 a X Y k l v u w) (hY : l < Y.length) (hx : x.length = 32) (e : Y.getD l [] = x) (hb : Box w b t (x.map bv).toArray) (hk : l ≤ 32) :
    ∃ g cap w', (apAll #[63, 63] 63 #[u, .slice (some ⟨b, 0, none⟩) 1 1]).run Tryz.prog w = .ok (.slice (some ⟨g, 0, none⟩) (l + 1) cap) w' ∧ w'.cell? ⟨a, 1, none⟩ = some u ∧ w'.frozen? ⟨a, 1, none⟩ = false ∧ Below w1.heap.size w1 w' ∧
      RsW w1 a X Y k (l + 1) v (.slice (some ⟨g, 0, none⟩) (l + 1) cap) (w'.setCell ⟨a, 1, none⟩ (.slice (some ⟨g, 0, none⟩) (l + 1) cap)) := by
  obtain ⟨g, cap, w', h1, h2, h3, h4⟩ := push_lies (by rw [List.length_take]; omega) s.sh hx hb (by omega) s.far.size
  have hb1 := s.box.grown h3 (Ne.symm (s.box.own_ne s.sh (by decide)))
  exact ⟨g, cap, w', h1, hb1.cell 1, hb1.free 1, s.far.trans (below_own s.sh h3 s.far.size), s.put_sh hY h3 (by rw [e]; exact h2) h4⟩
theorem RsW.cells {w1 w : World} {a : Nat} {X Y : List (List UInt8)} {k l : Nat} {v u : Value} (s : RsW w1 a X Y k l v u w) : w.cell? ⟨a, 0, none⟩ = some v ∧ w.cell? ⟨a, 1, none⟩ = some u := ⟨s.box.cell 0, s.box.cell 1⟩

def RSignIs (w : World) (X Y : List (List UInt8)) (e : Ending) (w' : World) : Prop := ∃ A B c c', e = .returned (.agg #[.slice A 32 c, .slice B 32 c']) ∧ Digs w' w'.heap.size A X ∧ Digs w' w'.heap.size B Y ∧ Below w.heap.size w w'

end Go.Proofs.YtejnfgcnifcpaaaGreatDoor
