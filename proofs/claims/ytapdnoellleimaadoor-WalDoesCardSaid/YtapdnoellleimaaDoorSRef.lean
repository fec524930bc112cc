/-
  The document's answer: the digest (wapentakeref02.Of).
-/
import Derived.Test.YtapdnoellleimaaDoorSA
import Derived.Test.YtapdnoellleimaaDoorSNext
import Derived.Test.YtapdnoellleimaaDoorSB
import Derived.Test.YtapdnoellleimaaDoorSE
namespace Go.Proofs.YtapdnoellleimaaDoor
open Go.RowKit

noncomputable def ldWords (v : Value) : Sem Value := Instr.loadAt 114 v
theorem ldWords_def (v : Value) : Instr.loadAt 114 v = ldWords v := rfl
attribute [local go_sem ↓] ldState_def ldWords_def stState_def

theorem Box.load_words {w : World} {g : Nat} {t : TypeId} (h : Box w g t (roots.map wv).toArray) : (ldWords (.pointer (some ⟨g, 0, none⟩))).run Tryd.prog w = .ok (.agg (roots.map wv).toArray) w :=
  run_loadAt_mid (P := Tryd.prog) w g 0 114 (roots.map wv) _ (fun j v hv => by rw [Nat.zero_add, h.cell, List.getElem?_toArray]; exact hv) Tryd.underlying114 rfl (by kernel_rfl)
theorem Box.load_state {w : World} {g : Nat} {t : TypeId} {s : St} (h : Box w g t s.vals) : (ldState (.pointer (some ⟨g, 0, none⟩))).run Tryd.prog w = .ok (.agg s.vals) w :=
  run_loadAt_mid (P := Tryd.prog) w g 0 113 (s.list.map wv) _ (fun j v hv => by rw [Nat.zero_add, h.cell, vals_list, List.getElem?_toArray]; exact hv) Tryd.underlying113 rfl (by kernel_rfl)
theorem Box.store_state {w : World} {g : Nat} {t : TypeId} {s : St} (h : Box w g t s.vals) (m : St) : (stState (.pointer (some ⟨g, 0, none⟩)) (.agg m.vals)).run Tryd.prog w = .ok () (w.setCells g 0 (m.list.map wv)) :=
  run_storeAt_mid (P := Tryd.prog) w g 0 113 m.vals (fun j hj => by
    have hj' : j < 8 := hj
    rw [Nat.zero_add, h.cell, h.free, list_get s hj']
    exact ⟨rfl, rfl⟩) (by kernel_rfl) (all_oneCell_toArray (wv_one m.list))
theorem slice_part {A : Option Addr} {n c i : Nat} (hm : i + 64 ≤ n) (hc : n ≤ c) (w : World) :
    (Instr.slice 22 (.slice A n c) (some (.int .i64 (i : Int))) (some (.int .i64 ((i : Int) + 64))) none).run Tryd.prog w = .ok (.slice (if c = i then A else A.map (·.add i)) 64 (c - i)) w := by
  have hu : Tryd.prog.underlying 22 = some (.slice (Tryd.prog.elem 22)) := by kernel_rfl
  have hs : (sizeOf (Tryd.prog.elem 22)).run Tryd.prog w = .ok 1 w := by kernel_rfl
  rw [run_slice_lh w 22 A n c hu .i64 .i64 (i : Int) ((i : Int) + 64) (by omega) (by omega) (by omega), hs]
  have e : ((i : Int) + 64).toNat - i = 64 := by omega
  simp [sliced, e]

/-- What the walk of the document's Of carries of memory. -/
structure RefW (w0 : World) (gk gp : Nat) (P : List UInt8) (s : St) (w : World) : Prop where
  out : ∃ z, Box w w0.heap.size 89 z ∧ z.size = 32
  st : Box w (w0.heap.size + 1) 113 s.vals
  ks : Box w gk 114 (roots.map wv).toArray
  bytes : ∀ j u, (P.map bv)[j]? = some u → w.cell? ⟨gp, j, none⟩ = some u
  far : Below w0.heap.size w0 w
  high : w0.heap.size + 2 ≤ gk
  low : w0.heap.size + 2 ≤ gp
  old : gp < w.heap.size
theorem RefW.drew {w0 w : World} {gk gp : Nat} {P : List UInt8} {s : St} (h : RefW w0 gk gp P s w) : RefW w0 gk gp P s w.drew := ⟨h.out, h.st, h.ks, h.bytes, h.far.drew, h.high, h.low, h.old⟩
theorem RefW.call {w0 w w' : World} {gk gp : Nat} {P : List UInt8} {s : St} (h : RefW w0 gk gp P s w) (hb : Below w.heap.size w w') : RefW w0 gk gp P s w' := by
  obtain ⟨z, hz, hs⟩ := h.out
  exact ⟨⟨z, hz.below hb hz.lt, hs⟩, h.st.below hb h.st.lt, h.ks.below hb h.ks.lt, fun j u hu => (hb.cell (p := ⟨gp, j, none⟩) h.old).trans (h.bytes j u hu), h.far.trans (hb.mono h.far.size), h.high, h.low, Nat.lt_of_lt_of_le h.old hb.size⟩
theorem RefW.put {w0 w : World} {gk gp : Nat} {P : List UInt8} {s : St} (h : RefW w0 gk gp P s w) (m : St) : RefW w0 gk gp P m (w.setCells (w0.heap.size + 1) 0 (m.list.map wv)) := by
  obtain ⟨z, hz, hs⟩ := h.out
  have hg := only_cells (g := w0.heap.size + 1) (m.list.map wv) 0 w
  have h1 := h.high
  have h2 := h.low
  have hv : m.list.map wv = m.vals.toList := rfl
  have hst : Box (w.setCells (w0.heap.size + 1) 0 (m.list.map wv)) (w0.heap.size + 1) 113 m.vals := by
    rw [hv]
    exact h.st.cells_all m.vals rfl
  have hks := h.ks.grown hg (by simp; omega)
  have hout := hz.grown hg (by simp)
  have hby : ∀ j u, (P.map bv)[j]? = some u → (w.setCells (w0.heap.size + 1) 0 (m.list.map wv)).cell? ⟨gp, j, none⟩ = some u := fun j u hu => (World.cell?_of_block (a := ⟨gp, j, none⟩) (hg.block gp h.old (by simp; omega))).trans (h.bytes j u hu)
  exact ⟨⟨z, hout, hs⟩, hst, hks, hby, h.far.trans (below_only hg (by omega) h.far.size), h1, h2, Nat.lt_of_lt_of_le h.old hg.size⟩
theorem RefW.part {w0 w : World} {gk gp : Nat} {P : List UInt8} {s : St} (h : RefW w0 gk gp P s w) (i : Nat) : Sees w w.heap.size (some ⟨gp, i, none⟩) (((P.drop i).take 64).map bv) := by
  refine .inr ⟨gp, i, rfl, h.old, fun j u hu => h.bytes (i + j) u ?_⟩
  rw [List.getElem?_map, List.getElem?_take] at hu
  rw [List.getElem?_map]
  split at hu
  · rw [List.getElem?_drop] at hu
    exact hu
  · cases hu
/-- What the walk of the digest's bytes carries of memory. -/
structure DigW (w0 : World) (g : Nat) (s : St) (n : Nat) (w : World) : Prop where
  out : ∃ z, Box w w0.heap.size 89 z ∧ z.size = 32
  d : Box w g 89 (cellsD s.bytes n)
  far : Below w0.heap.size w0 w
  high : w0.heap.size < g
theorem DigW.put {w0 w : World} {g : Nat} {s : St} {n : Nat} (h : DigW w0 g s n w) (hn : n < 32) (b : UInt8) (hb : s.bytes[n]? = some b) : DigW w0 g s (n + 1) (w.setCell ⟨g, n, none⟩ (.int .u8 (b.toNat : Int))) := by
  obtain ⟨z, hz, hs⟩ := h.out
  have hh := h.high
  have hd := h.d.put n (.int .u8 (b.toNat : Int))
  rw [cellsD_put s.bytes rfl hn b hb] at hd
  exact ⟨⟨z, hz.aside (by simp; omega) _, hs⟩, hd, h.far.setCell (by simp; omega) _, hh⟩
set_option maxRecDepth 100000 in
theorem index_vals (s : St) (k : Nat) (hk : k < 8) (w : World) : (Instr.index 113 (.agg s.vals) (.int .i64 (k : Int))).run Tryd.prog w = .ok (.int .u32 (wi (s.list.getD k 0))) w := by
  have h1 : k = 0 ∨ k = 1 ∨ k = 2 ∨ k = 3 ∨ k = 4 ∨ k = 5 ∨ k = 6 ∨ k = 7 := by omega
  rcases h1 with rfl | rfl | rfl | rfl | rfl | rfl | rfl | rfl <;> rfl

set_option maxRecDepth 100000 in
set_option maxHeartbeats 2000000 in
theorem ref_any (l : List UInt8) (A : Option Addr) (c : Nat) (w : World) (hs : Sees w w.heap.size A (l.map bv)) (hl : l.length ≤ 1099511627776) :
    Calls Tryd.prog 61 #[.slice A l.length c] w fun e w' => e = .returned (.agg ((shaOf l).map bv).toArray) ∧ Below w.heap.size w w' := by
  have HS := Lib.hid hs
  clear hs
  have HX : Hid (Box ((w.alloc (.cells (List.replicate 32 (Value.int .u8 0)).toArray 89)).alloc (.cells (List.replicate 8 (Value.int .u32 0)).toArray 113)) (w.heap.size + 1) 113 (List.replicate 8 (Value.int .u32 0)).toArray) := Box.made_at (by simp) _ _
  have HO : Hid (Box ((w.alloc (.cells (List.replicate 32 (Value.int .u8 0)).toArray 89)).alloc (.cells (List.replicate 8 (Value.int .u32 0)).toArray 113)) w.heap.size 89 (List.replicate 32 (Value.int .u8 0)).toArray) := (Box.made w _ _).alloc _
  have HF : Hid (Below w.heap.size w ((w.alloc (.cells (List.replicate 32 (Value.int .u8 0)).toArray 89)).alloc (.cells (List.replicate 8 (Value.int .u32 0)).toArray 113))) := ((Below.refl _ _).alloc (Nat.le_refl _) _).alloc (by simp) _
  have HZ : Hid (((w.alloc (.cells (List.replicate 32 (Value.int .u8 0)).toArray 89)).alloc (.cells (List.replicate 8 (Value.int .u32 0)).toArray 113)).heap.size = w.heap.size + 2) := by
    show _ = _
    simp
  have hsame : Hid (st0.vals.size = (List.replicate 8 (Value.int .u32 0)).toArray.size) := Lib.hid rfl
  have hsz : Hid ((Tryd.prog.info? 113).map (·.size) = some st0.vals.size) := by
    show _ = some 8
    kernel_rfl
  have hone : Hid (∀ v ∈ st0.vals.toList, v.oneCell' = true) := wv_one st0.list
  go_enter Tryd.func61, Tryd.ntmps61
  go_wp2_with (((with_reducible show wpList _ _ _ ((⟨none, Op.store _ (.tmp 3) (.tmp 11), _, _, _, _⟩ : Oper) :: _) _ _)); refine wpList_store_box rfl 113 (.tmp 3) (.tmp 11) rfl (w.heap.size + 1) st0.vals rfl rfl 113 (List.replicate 8 (Value.int .u32 0)).toArray HX.out hsame.out hsz.out hone.out ?_; intro w2 hb2 hg2; have HX2 := Lib.hid hb2; have HO2 := Lib.hid (HO.out.grown hg2 (by simp)); have HF2 := Lib.hid (HF.out.trans (below_only hg2 (by omega) (by have := HZ.out; omega))); have HZ2 : Hid (w.heap.size + 2 ≤ w2.heap.size) := Nat.le_trans (Nat.le_of_eq HZ.out.symm) hg2.size; clear hb2 hg2)
  have HPC := Lib.hid (padded_any l A c w2 ((HS.out.below HF2.out).more HF2.out.size) hl)
  clear HX HO HF HZ hsame hsz hone HS
  refine (HPC.out).mono ?_
  rintro e w3 ⟨gp, cp, rfl, hse, hb3, hgp, hpc, hcm⟩
  have HP3 := Lib.hid hse
  have HX3 := Lib.hid (HX2.out.below hb3 HX2.out.lt)
  have HO3 := Lib.hid (HO2.out.below hb3 HO2.out.lt)
  have HF3 := Lib.hid (HF2.out.trans (hb3.mono HF2.out.size))
  have HZ3 : Hid (w.heap.size + 2 ≤ w3.heap.size) := Nat.le_trans HZ2.out hb3.size
  have HGP : Hid (w.heap.size + 2 ≤ gp) := Nat.le_trans HZ2.out hgp
  clear hse hb3 HX2 HO2 HF2 HZ2 HPC hgp
  have HNC := Lib.hid (numbers_any w3)
  go_wp2_with fail
  refine (HNC.out).mono ?_
  rintro e w4 ⟨rfl, hb4⟩
  have HX4 := Lib.hid (HX3.out.below hb4 HX3.out.lt)
  have HO4 := Lib.hid (HO3.out.below hb4 HO3.out.lt)
  have HF4 := Lib.hid (HF3.out.trans (hb4.mono HF3.out.size))
  have HP4 := Lib.hid ((HP3.out.below hb4).more hb4.size)
  have HZ4 : Hid (w.heap.size + 2 ≤ w4.heap.size) := Nat.le_trans HZ3.out hb4.size
  clear hb4 HX3 HO3 HF3 HZ3 HP3 HNC
  have hX5 : Hid (Box (w4.alloc (.cells (List.replicate 64 (Value.int .u32 0)).toArray 114)) w4.heap.size 114 (List.replicate 64 (Value.int .u32 0)).toArray) := Box.made w4 _ _
  have hsz : Hid ((Tryd.prog.info? 114).map (·.size) = some (roots.map wv).toArray.size) := by
    show _ = some 64
    kernel_rfl
  have hsame : Hid ((roots.map wv).toArray.size = (List.replicate 64 (Value.int .u32 0)).toArray.size) := Lib.hid rfl
  have hone : Hid (∀ v ∈ (roots.map wv).toArray.toList, v.oneCell' = true) := wv_one _
  generalize hP : padded l = P at *
  have HPP := Lib.hid hP
  clear hP
  go_wp2_with (((with_reducible show wpList _ _ _ ((⟨none, Op.store _ (.tmp 5) (.tmp 14), _, _, _, _⟩ : Oper) :: _) _ _)); refine wpList_store_box rfl 114 (.tmp 5) (.tmp 14) rfl w4.heap.size (roots.map wv).toArray rfl rfl 114 (List.replicate 64 (Value.int .u32 0)).toArray hX5.out hsame.out hsz.out hone.out ?_; intro w5 hb5 hg5; have HK5 := Lib.hid hb5; have HG5 := Lib.hid hg5; clear hb5 hg5)
  have HR5 : Hid (RefW w w4.heap.size gp P st0 w5) := by
    have h1 := HZ4.out
    have h2 := HGP.out
    have h3 : w4.heap.size + 1 ≤ w5.heap.size := by have := HG5.out.size; simp at this; omega
    have hlt : gp < w4.heap.size := by
      have := HPP.out
      rcases HP4.out with h | ⟨g, o, e, hg, _⟩
      · rw [List.map_eq_nil_iff] at h
        rw [h] at this
        unfold padded pad at this
        simp at this
      · injection e with e
        injection e with e
        omega
    refine ⟨⟨_, (HO4.out.alloc _).grown HG5.out (by simp; omega), rfl⟩, (HX4.out.alloc _).grown HG5.out (by simp; omega), HK5.out, fun j u hu => ?_, (HF4.out.alloc (by omega) (.cells (List.replicate 64 (Value.int .u32 0)).toArray 114)).trans (below_only HG5.out (by omega) (by simp; omega)), h1, h2, by omega⟩
    rcases HP4.out with h | ⟨g, o, e, hg, hc⟩
    · rw [h] at hu; cases hu
    · injection e with e
      injection e with e1 e2
      subst e1
      subst e2
      have := hc j u hu
      rw [Nat.zero_add] at this
      exact (World.cell?_of_block (a := ⟨gp, j, none⟩) (HG5.out.block gp (by simp; omega) (by simp; omega))).trans ((World.cell?_alloc_lt w4 _ ⟨gp, j, none⟩ hlt).trans this)
  clear HX4 HO4 HF4 HP4 HZ4 HK5 HG5 hX5 hsz hsame hone HGP
  generalize w4.heap.size = gk at *
  have hPm : ∃ M, P.length = 64 * M ∧ M = P.length / 64 := by
    refine ⟨P.length / 64, ?_, rfl⟩
    have h1 := pad_length l.length
    have h2 : P.length = l.length + (pad l.length).length := by rw [← HPP.out]; unfold padded; rw [List.length_append]
    omega
  obtain ⟨M, hM, hM2⟩ := hPm
  have HPM := Lib.hid hM
  have HM2 := Lib.hid hM2
  clear hM hM2
  have hPl : P.length ≤ 2199023255552 := by
    have h1 := pad_length l.length
    have h2 : P.length = l.length + (pad l.length).length := by rw [← HPP.out]; unfold padded; rw [List.length_append]
    omega
  unfold maxLen at hcm
  go_loopw [6] (fun i wr => ∃ (n j : Nat), i = .int .i64 n ∧ n ≤ P.length ∧ Hid (n = 64 * j) ∧ Hid (RefW w gk gp P (mixAll st0 j P) wr)) (fun i _ => P.length - (intOf i).toNat)
  case atStart => exact ⟨0, 0, rfl, Nat.zero_le _, rfl, HR5⟩
  case round =>
    clear HR5
    obtain ⟨n, j, rfl, hn, HN, HR⟩ := hrel
    by_cases hlt : n < P.length
    · have hn64 : n + 64 ≤ P.length := by
        have h1 := HPM.out
        have h2 := HN.out
        omega
      have HR1 : Hid (RefW w gk gp P (mixAll st0 j P) wr.drew) := HR.out.drew
      have hne : ¬ cp = n := by omega
      have hsl := slice_part (A := some ⟨gp, 0, none⟩) (n := P.length) (c := cp) (i := n) hn64 hpc
      simp only [hne, if_false, Option.map_some, plain_add, Nat.zero_add] at hsl
      have hs64 : IntKind.i64.wrap ((n : Int) + 64) = (n : Int) + 64 := IntWalk.i64_in _ (by omega)
      have l1 := HR1.out.st.load_state
      have l2 := HR1.out.ks.load_words
      have HNX := Lib.hid (next_any (mixAll st0 j P) ((P.drop n).take 64) (by rw [List.length_take, List.length_drop]; omega) wr.drew (some ⟨gp, n, none⟩) (cp - n) (HR1.out.part n))
      have HMX : Hid (mixAll st0 (j + 1) P = mix (mixAll st0 j P) ((P.drop n).take 64)) := by
        rw [HN.out]
        exact Lib.hid rfl
      generalize mix (mixAll st0 j P) ((P.drop n).take 64) = m at *
      generalize mixAll st0 j P = s0 at *
      clear HR
      go_upto_region 7 with fail
      go_region_with ((go_at_call 72; refine (HNX.out).mono ?_; rintro e w6 ⟨rfl, hB6⟩; have HR6 := Lib.hid (HR1.out.call hB6); clear hB6; have hst := HR6.out.st.store_state m))
      all_goals
        have HR7 := Lib.hid (HR6.out.put m)
        clear l1 l2 hst HR6 HNX hsl HR1 hne
        generalize w6.setCells (w.heap.size + 1) 0 (m.list.map wv) = w7 at *
        go_wp2
        go_roundw
        case rel => exact ⟨n + 64, j + 1, by go_num, hn64, by show _ = _; have := HN.out; omega, by show RefW _ _ _ _ _ _; rw [HMX.out]; exact HR7.out⟩
        case measure => simp [intOf]; omega
    · have hn2 : n = P.length := by omega
      have hj : j = M := by
        have h1 := HPM.out
        have h2 := HN.out
        omega
      have HR8 : Hid (RefW w gk gp P (mixAll st0 M P) wr) := by rw [← hj]; exact HR
      have HSH : Hid (shaOf l = (mixAll st0 M P).bytes) := by
        unfold shaOf
        rw [HPP.out, ← HM2.out]
        exact Lib.hid rfl
      subst hn2
      clear HN HR hj
      generalize mixAll st0 M P = s at *
      have HD8 : Hid (DigW w wr.heap.size s 0 (wr.alloc (.cells (List.replicate 32 (Value.int .u8 0)).toArray 89))) := by
        obtain ⟨z, hz, hs⟩ := HR8.out.out
        have hsz := HR8.out.st.lt
        exact ⟨⟨z, hz.alloc _, hs⟩, by rw [cellsD_zero]; exact Box.made _ _ _, HR8.out.far.alloc HR8.out.far.size _, by omega⟩
      have l1 := (HR8.out.st.alloc (.cells (List.replicate 32 (Value.int .u8 0)).toArray 89)).load_state
      go_upto_region 9 with fail
      change Code.wp _ _ _ _ (wr.alloc (.cells (List.replicate 32 (Value.int .u8 0)).toArray 89))
      generalize hw9 : wr.alloc (.cells (List.replicate 32 (Value.int .u8 0)).toArray 89) = w9 at *
      clear HR8 hw9
      generalize wr.heap.size = gd at *
      go_wp2
      clear l1
      go_loopw [8, 9, 10, 30] (fun _ _ _ i wr => ∃ k : Nat, k ≤ 8 ∧ i = .int .i64 k ∧ Hid (DigW w gd s (4 * k) wr)) (fun _ _ _ i _ => 8 - (intOf i).toNat)
      case atStart => exact ⟨0, by decide, rfl, HD8⟩
      case round =>
        clear HD8
        obtain ⟨k, hk, rfl, HD⟩ := hrel
        by_cases hk8 : k < 8
        · have hix := index_vals s k hk8
          have HGD : Hid (s.list.getD k 0 = s.list[k]?.getD 0) := List.getD_eq_getElem?_getD ..
          generalize s.list.getD k 0 = X at *
          go_wp2
          clear hix
          obtain ⟨wo, rfl⟩ : ∃ wo : World, wo = wr := ⟨_, rfl⟩
          go_loopw [10] (fun i wr => ∃ j : Nat, j ≤ 4 ∧ i = .int .i64 j ∧ Hid (DigW w gd s (4 * k + j) wr)) (fun i _ => 4 - (intOf i).toNat)
          case atStart => exact ⟨0, by decide, rfl, HD⟩
          case round =>
            rename_i wr0 _
            clear HD
            obtain ⟨j, hj, rfl, HD⟩ := hrel
            by_cases hj4 : j < 4
            · have hby := bytes_at s k j hk8 hj4
              have hpd := put_dbyte' s k j hj4
              rw [← HGD.out] at hpd
              have HD2 := Lib.hid (HD.out.put (n := 4 * k + j) (by omega) _ hby)
              rw [← hpd] at HD2
              obtain ⟨cv, hcv⟩ := cellsD_at s.bytes (n := 4 * k + j) (i := 4 * k + j) rfl (by omega) (by omega)
              have cg := HD.out.d.cell (4 * k + j)
              rw [hcv] at cg
              have f := HD.out.d.free (4 * k + j)
              clear hcv hby hpd
              go_wp2
              go_roundw
              case rel => exact ⟨j + 1, by omega, by go_num, HD2⟩
              case measure => simp [intOf]; omega
            · obtain rfl : j = 4 := by omega
              have HD3 : Hid (DigW w gd s (4 * (k + 1)) wr) := by
                rw [show 4 * (k + 1) = 4 * k + 4 from by omega]
                exact HD
              clear HD
              go_wp2
              go_roundw
              case rel => exact ⟨k + 1, by omega, by go_num, HD3⟩
              case measure => simp [intOf]; omega
        · obtain rfl : k = 8 := by omega
          obtain ⟨z, hz, hzs⟩ := HD.out.out
          have HZ := Lib.hid hz
          have HFA := Lib.hid HD.out.far
          have hd := HD.out.d
          rw [show 4 * 8 = 32 from rfl, cellsD_whole _ rfl] at hd
          have HDD := Lib.hid hd
          have HZS : Hid ((s.bytes.map bv).toArray.size = z.size) := by rw [hzs]; exact Lib.hid rfl
          have hsz : Hid ((Tryd.prog.info? 89).map (·.size) = some (s.bytes.map bv).toArray.size) := by
            show _ = some 32
            kernel_rfl
          have hone : Hid (∀ v ∈ (s.bytes.map bv).toArray.toList, v.oneCell' = true) := bv_one _
          clear hz hzs HD hd
          generalize hm : s.bytes = m at *
          clear hm
          go_upto_region 17 with fail
          go_step
          refine wpList_load_row (o := ⟨some 51, _, _, _, _, _⟩) rfl 89 (.tmp 7) rfl gd rfl 89 (m.map bv).toArray (0, 0) _ HDD.out Tryd.underlying89 rfl hsz.out ?_
          refine wpList_store_box (op := ⟨none, _, _, _, _, _⟩) rfl 89 (.tmp 2) (.tmp 51) rfl w.heap.size (m.map bv).toArray (by simp [Act.eval, Act.put]) (by simp [Act.eval, Act.put]) 89 z HZ.out HZS.out hsz.out hone.out ?_
          intro w3 hb3 hg3
          have HB5 := Lib.hid hb3
          have HG5 := Lib.hid hg3
          clear hb3 hg3
          simp only [Act.put]
          go_wp2
          refine bodyPost_ret (v := .agg (m.map bv).toArray) (results_cell_row rfl _ w3 w.heap.size 89 (m.map bv).toArray (0, 0) _ rfl HB5.out Tryd.underlying89 rfl hsz.out) rfl ⟨by rw [HSH.out], ?_⟩
          exact HFA.out.trans (below_only HG5.out (Nat.le_refl _) HFA.out.size)
end Go.Proofs.YtapdnoellleimaaDoor
