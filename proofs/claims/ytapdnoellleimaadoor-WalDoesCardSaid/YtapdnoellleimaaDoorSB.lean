/-
  What the walks of a block's rounds need: the table of roots in memory, a state as cells, a sum of states while it is stored.
  Package sha: the state that a block makes of another one (sha.mixed).
  A digest out of a state: byte by byte.
  Package sha: a state's bytes (sha.joined).
  A sha.hash in memory: its cells, and what each store makes of them.
  Loads and stores of a whole state, or a whole block, inside a hash: kept whole while a drawn region is walked (each is met by a fact on the run).
-/
import Derived.Test.YtapdnoellleimaaDoorSWords
import Derived.Test.YtapdnoellleimaaDoorSA
import Derived.Deep.RegionWith
namespace Go.Proofs.YtapdnoellleimaaDoor
open Go.RowKit

/-- The table of roots stands in its variable's block. -/
def Roots (w : World) : Prop := 0 < w.heap.size ∧ ∀ i, i < 64 → w.cell? ⟨0, i, none⟩ = some (.int .u32 (wi (roots.getD i 0)))
theorem Roots.below {w w' : World} {B : Nat} (h : Roots w) (hb : Below B w w') (hB : 0 < B) : Roots w' :=
  ⟨Nat.lt_of_lt_of_le h.1 hb.size, fun i hi => (hb.cell (p := ⟨0, i, none⟩) hB).trans (h.2 i hi)⟩
theorem Roots.of_below {w w' : World} (h : Roots w) (hb : Below w.heap.size w w') : Roots w' := h.below hb h.1
theorem Roots.drew {w : World} (h : Roots w) : Roots w.drew := h
theorem Roots.drewN {w : World} (h : Roots w) (n : Nat) : Roots (w.drewN n) := h

/-- A state as cells. -/
abbrev St.vals (s : St) : Array Value := #[.int .u32 (wi s.a), .int .u32 (wi s.b), .int .u32 (wi s.c), .int .u32 (wi s.d), .int .u32 (wi s.e), .int .u32 (wi s.f), .int .u32 (wi s.g), .int .u32 (wi s.h)]
theorem vals_list (s : St) : s.vals = (s.list.map wv).toArray := rfl

/-- The sum of two lists of words, while it is stored over the first. -/
def cellsP (l m : List UInt32) (k : Nat) : Array Value := (((List.zipWith (· + ·) l m).take k ++ l.drop k).map wv).toArray
theorem cellsP_zero (l m : List UInt32) : cellsP l m 0 = (l.map wv).toArray := rfl
theorem cellsP_get (l m : List UInt32) {k : Nat} (hl : k < l.length) (hm : l.length = m.length) : (cellsP l m k)[k]? = some (.int .u32 (wi (l.getD k 0))) := by
  have ht : ((List.zipWith (· + ·) l m).take k).length = k := by rw [List.length_take, List.length_zipWith]; omega
  unfold cellsP
  rw [List.getElem?_toArray, List.getElem?_map, List.getElem?_append_right (by omega), ht, Nat.sub_self, List.getElem?_drop, Nat.add_zero, List.getElem?_eq_getElem hl, List.getD_eq_getElem?_getD, List.getElem?_eq_getElem hl]
  rfl
theorem cellsP_put (l m : List UInt32) {k : Nat} (hl : k < l.length) (hm : l.length = m.length) : (cellsP l m k).setIfInBounds k (.int .u32 (wi (l.getD k 0 + m.getD k 0))) = cellsP l m (k + 1) := by
  have hz : k < (List.zipWith (· + ·) l m).length := by rw [List.length_zipWith]; omega
  have ht : (((List.zipWith (· + ·) l m).take k).map wv).length = k := by rw [List.length_map, List.length_take]; omega
  unfold cellsP
  apply Array.ext'
  rw [Array.toList_setIfInBounds, List.drop_eq_getElem_cons hl, List.map_append, List.map_cons]
  show (_ ++ _ :: _ : List Value).set k _ = _
  rw [set_at _ _ _ _ _ ht, List.take_succ_eq_append_getElem hz, List.getElem_zipWith]
  simp only [List.map_append, List.map_cons, List.append_assoc, List.cons_append, List.nil_append]
  rw [List.getD_eq_getElem?_getD, List.getElem?_eq_getElem hl, List.getD_eq_getElem?_getD, List.getElem?_eq_getElem (by omega)]
  rfl
theorem cellsP_whole (s t : St) : cellsP s.list t.list 8 = (s.plus t).vals := rfl
theorem cellsP_size (l m : List UInt32) {k : Nat} (hl : k ≤ l.length) (hm : l.length = m.length) : (cellsP l m k).size = l.length := by
  unfold cellsP
  rw [List.size_toArray, List.length_map, List.length_append, List.length_take, List.length_zipWith, List.length_drop]
  omega
theorem list_get (t : St) {k : Nat} (hk : k < 8) : t.vals[k]? = some (.int .u32 (wi (t.list.getD k 0))) := by
  have : ∀ k : Fin 8, t.vals[k.val]? = some (.int .u32 (wi (t.list.getD k.val 0))) := by
    intro k
    match k with
    | ⟨0, _⟩ => rfl
    | ⟨1, _⟩ => rfl
    | ⟨2, _⟩ => rfl
    | ⟨3, _⟩ => rfl
    | ⟨4, _⟩ => rfl
    | ⟨5, _⟩ => rfl
    | ⟨6, _⟩ => rfl
    | ⟨7, _⟩ => rfl
  exact this ⟨k, hk⟩
end Go.Proofs.YtapdnoellleimaaDoor

namespace Go.Proofs.YtapdnoellleimaaDoor
open Go.RowKit

theorem turned_any' (x : UInt32) (k : Nat) (h1 : 1 ≤ k) (h2 : k ≤ 31) (w : World) : Calls Tryd.prog 82 #[.int .u32 (wi x), .int .i64 (k : Int)] w fun e w' => e = .returned (.int .u32 (wi (rotr x k))) ∧ w' = w :=
  (turned_any x k h1 h2 w).mono fun _ _ ⟨h, h'⟩ => ⟨h, h'.symm⟩
theorem wi_compl (x : UInt32) : bits .xor .u32 (if IntKind.u32.signed = true then -1 else IntKind.u32.max) (wi x) = wi (~~~x) := by
  have e : (if IntKind.u32.signed = true then -1 else IntKind.u32.max) = wi 4294967295 := by decide
  rw [e, wi_xor]
  congr 1
/-- What the walk of a block's rounds carries of memory. -/
structure MixW (w0 : World) (b : List UInt8) (s : St) (g5 : Nat) (w : World) : Prop where
  st : Box w w0.heap.size 113 s.vals
  out : ∃ z, Box w (w0.heap.size + 1 + 1) 113 z ∧ z.size = 8
  ws : Box w g5 114 (cellsW b 64)
  far : Below w0.heap.size w0 w
  roots : Roots w
  high : w0.heap.size + 3 ≤ g5
theorem MixW.drewN {w0 : World} {b : List UInt8} {s : St} {g5 : Nat} {w : World} (h : MixW w0 b s g5 w) (n : Nat) : MixW w0 b s g5 (w.drewN n) :=
  ⟨h.st, h.out, h.ws, below_drewN h.far n, h.roots, h.high⟩
theorem MixW.cells {w0 : World} {b : List UInt8} {s : St} {g5 : Nat} {w : World} (h : MixW w0 b s g5 w) :
    w.cell? ⟨w0.heap.size, 0, none⟩ = some (.int .u32 (wi s.a)) ∧ w.cell? ⟨w0.heap.size, 1, none⟩ = some (.int .u32 (wi s.b)) ∧ w.cell? ⟨w0.heap.size, 2, none⟩ = some (.int .u32 (wi s.c)) ∧ w.cell? ⟨w0.heap.size, 3, none⟩ = some (.int .u32 (wi s.d)) ∧
    w.cell? ⟨w0.heap.size, 4, none⟩ = some (.int .u32 (wi s.e)) ∧ w.cell? ⟨w0.heap.size, 5, none⟩ = some (.int .u32 (wi s.f)) ∧ w.cell? ⟨w0.heap.size, 6, none⟩ = some (.int .u32 (wi s.g)) ∧ w.cell? ⟨w0.heap.size, 7, none⟩ = some (.int .u32 (wi s.h)) := by
  refine ⟨?_, ?_, ?_, ?_, ?_, ?_, ?_, ?_⟩ <;> (rw [h.st.cell]; rfl)

/-- What the walk of the sum carries. -/
structure SumW (w0 : World) (s t : St) (g : Nat) (k : Nat) (w : World) : Prop where
  st : Box w w0.heap.size 113 (cellsP s.list t.list k)
  out : ∃ z, Box w (w0.heap.size + 1 + 1) 113 z ∧ z.size = 8
  more : Box w g 113 t.vals
  far : Below w0.heap.size w0 w
  high : w0.heap.size + 3 ≤ g

set_option maxRecDepth 100000 in
set_option maxHeartbeats 1000000 in
theorem mixed_any (s : St) (b : List UInt8) (hb : b.length = 64) (w : World) (hR : Roots w) :
    Calls Tryd.prog 79 #[.agg s.vals, .agg (b.map bv).toArray] w fun e w' => e = .returned (.agg (mix s b).vals) ∧ Below w.heap.size w w' := by
  have HR := Lib.hid hR
  have HB := Lib.hid hb
  clear hR hb
  go_enter Tryd.func79, Tryd.ntmps79
  go_upto_region 1 with fail
  have hx0 : Box (((w.alloc (.cells s.vals 113)).alloc (.cells (b.map bv).toArray 119)).alloc (.cells (List.replicate 8 (Value.int .u32 0)).toArray 113)) w.heap.size 113 s.vals := ((Box.made w _ _).alloc _).alloc _
  have hx1 : Box (((w.alloc (.cells s.vals 113)).alloc (.cells (b.map bv).toArray 119)).alloc (.cells (List.replicate 8 (Value.int .u32 0)).toArray 113)) (w.heap.size + 1) 119 (b.map bv).toArray := (Box.made_at (by simp) _ _).alloc _
  have hx4 : Box (((w.alloc (.cells s.vals 113)).alloc (.cells (b.map bv).toArray 119)).alloc (.cells (List.replicate 8 (Value.int .u32 0)).toArray 113)) (w.heap.size + 1 + 1) 113 (List.replicate 8 (Value.int .u32 0)).toArray := Box.made_at (by simp) _ _
  have hF : Below w.heap.size w (((w.alloc (.cells s.vals 113)).alloc (.cells (b.map bv).toArray 119)).alloc (.cells (List.replicate 8 (Value.int .u32 0)).toArray 113)) := (((Below.refl _ _).alloc (Nat.le_refl _) _).alloc (by simp) _).alloc (by simp; omega) _
  have hs : (((w.alloc (.cells s.vals 113)).alloc (.cells (b.map bv).toArray 119)).alloc (.cells (List.replicate 8 (Value.int .u32 0)).toArray 113)).heap.size = w.heap.size + 3 := by simp
  change Code.wp _ _ _ _ (((w.alloc (.cells s.vals 113)).alloc (.cells (b.map bv).toArray 119)).alloc (.cells (List.replicate 8 (Value.int .u32 0)).toArray 113))
  generalize (((w.alloc (.cells s.vals 113)).alloc (.cells (b.map bv).toArray 119)).alloc (.cells (List.replicate 8 (Value.int .u32 0)).toArray 113)) = w1 at *
  have HX0 := Lib.hid hx0
  have HX1 := Lib.hid hx1
  have HX4 := Lib.hid hx4
  have HF := Lib.hid hF
  have HS := Lib.hid hs
  clear hx0 hx1 hx4 hF hs
  have hsz : Hid ((Tryd.prog.info? 119).map (·.size) = some (b.map bv).toArray.size) := by
    show _ = _
    rw [List.size_toArray, List.length_map, HB.out]
    kernel_rfl
  go_step
  refine wpList_load_row (o := ⟨some 19, _, _, _, _, _⟩) rfl 119 (.tmp 3) rfl (w.heap.size + 1) rfl 119 (b.map bv).toArray (0, 0) _ HX1.out Tryd.underlying119 rfl hsz.out ?_
  simp only [Act.put]
  have hC := words_any b HB.out w1
  have HC := Lib.hid hC
  clear hC hsz HX1
  go_wp2_with fail
  refine (HC.out).mono ?_
  rintro e w2 ⟨rfl, hb2⟩
  have HX02 := Lib.hid (HX0.out.below hb2 (by have := HS.out; omega))
  have HX42 := Lib.hid (HX4.out.below hb2 (by have := HS.out; omega))
  have HF2 := Lib.hid (HF.out.trans (hb2.mono (by have := HS.out; omega)))
  have HS2 : Hid (w.heap.size + 3 ≤ w2.heap.size) := by
    have h1 := hb2.size
    have h2 := HS.out
    show _ ≤ _
    omega
  clear hb2 HX0 HX4 HF HS HC
  have hws := cellsW_size b (Nat.le_refl 64)
  have hsz : Hid ((Tryd.prog.info? 114).map (·.size) = some (cellsW b 64).size) := by
    show _ = _
    rw [cellsW_size b (Nat.le_refl _)]
    kernel_rfl
  have hone : Hid (∀ v ∈ (cellsW b 64).toList, v.oneCell' = true) := cellsW_one b 64
  have HWS := Lib.hid hws
  clear hws
  have hX5 : Hid (Box (w2.alloc (.cells (List.replicate 64 (Value.int .u32 0)).toArray 114)) w2.heap.size 114 (List.replicate 64 (Value.int .u32 0)).toArray) := Box.made w2 _ _
  have hsame : Hid ((cellsW b 64).size = (List.replicate 64 (Value.int .u32 0)).toArray.size) := by
    show _ = _
    rw [HWS.out]
    rfl
  go_wp2_with ((with_reducible show wpList _ _ _ ((⟨none, Op.store _ (.tmp 5) (.tmp 20), _, _, _, _⟩ : Oper) :: _) _ _); refine wpList_store_box rfl 114 (.tmp 5) (.tmp 20) rfl w2.heap.size (cellsW b 64) rfl rfl 114 (List.replicate 64 (Value.int .u32 0)).toArray hX5.out hsame.out hsz.out hone.out ?_; intro w3 hb3 hg3; have HX5 := Lib.hid hb3; have HG5 := Lib.hid hg3; clear hb3 hg3)
  simp only [Act.put]
  have HM : Hid (MixW w b s w2.heap.size w3) := by
    refine ⟨(HX02.out.alloc (.cells (List.replicate 64 (Value.int .u32 0)).toArray 114)).grown HG5.out ?_, ⟨_, (HX42.out.alloc (.cells (List.replicate 64 (Value.int .u32 0)).toArray 114)).grown HG5.out ?_, rfl⟩, HX5.out, ?_, ?_, HS2.out⟩
    · have := HS2.out; simp; omega
    · have := HS2.out; simp; omega
    · exact (HF2.out.alloc (by have := HS2.out; omega) (.cells (List.replicate 64 (Value.int .u32 0)).toArray 114)).trans (below_only HG5.out (by have := HS2.out; omega) (by have := HS2.out; simp; omega))
    · exact HR.out.of_below ((HF2.out.alloc (by have := HS2.out; omega) (.cells (List.replicate 64 (Value.int .u32 0)).toArray 114)).trans (below_only HG5.out (by have := HS2.out; omega) (by have := HS2.out; simp; omega)))
  clear HX02 HX42 HF2 HG5 hX5 HX5 hsame HS2 hsz hone HWS HR
  generalize w2.heap.size = g5 at *
  obtain ⟨c0, c1, c2, c3, c4, c5, c6, c7⟩ := HM.out.cells
  go_quiet (fail)
  have HM4 := Lib.hid (HM.out.drewN nq)
  generalize w3.drewN nq = w4 at *
  clear HM c0 c1 c2 c3 c4 c5 c6 c7
  obtain ⟨c0, c1, c2, c3, c4, c5, c6, c7⟩ := HM4.out.cells
  go_upto_region 3 with fail
  go_quiet (fail)
  have HM5 := Lib.hid (HM4.out.drewN nq)
  generalize w4.drewN nq = w5 at *
  clear HM4 c0 c1 c2 c3 c4 c5 c6 c7
  go_wp2
  go_loopw [6, 7, 8, 9, 10, 11, 12, 13, 37] (fun va vb vc vd ve vf vg vh i wr => ∃ k : Nat, k ≤ 64 ∧ i = .int .i64 k ∧ va = .int .u32 (wi (rnd b s k).a) ∧ vb = .int .u32 (wi (rnd b s k).b) ∧ vc = .int .u32 (wi (rnd b s k).c) ∧ vd = .int .u32 (wi (rnd b s k).d) ∧
    ve = .int .u32 (wi (rnd b s k).e) ∧ vf = .int .u32 (wi (rnd b s k).f) ∧ vg = .int .u32 (wi (rnd b s k).g) ∧ vh = .int .u32 (wi (rnd b s k).h) ∧ Hid (MixW w b s g5 wr)) (fun _ _ _ _ _ _ _ _ i _ => 64 - (intOf i).toNat)
  case atStart => exact ⟨0, by decide, rfl, rfl, rfl, rfl, rfl, rfl, rfl, rfl, rfl, HM5⟩
  case round =>
    rename_i wr0
    clear HM5
    obtain ⟨k, hk, rfl, rfl, rfl, rfl, rfl, rfl, rfl, rfl, rfl, HM⟩ := hrel
    by_cases hlt : k < 64
    · as_aux_lemma =>
        have HT : Hid (rnd b s (k + 1) = (rnd b s k).step (roots.getD k 0) (wd b k)) := rfl
        generalize rnd b s k = t at *
        obtain ⟨A, B, C, D, E, F, G, H⟩ := t
        have b0 : 0 ≤ (k : Int) ∧ (k : Int) < 64 := by omega
        have c1 := HM.out.roots.2 k hlt
        have c2 := HM.out.ws.cell k
        rw [cellsW_get b hlt] at c2
        generalize roots.getD k 0 = R at *
        generalize wd b k = V at *
        have T1 : Hid (∀ w, Calls Tryd.prog 82 #[.int .u32 (wi E), .int .i64 6] w fun e w' => e = .returned (.int .u32 (wi (rotr E 6))) ∧ w' = w) := fun w => turned_any' E 6 (by decide) (by decide) w
        have T2 : Hid (∀ w, Calls Tryd.prog 82 #[.int .u32 (wi E), .int .i64 11] w fun e w' => e = .returned (.int .u32 (wi (rotr E 11))) ∧ w' = w) := fun w => turned_any' E 11 (by decide) (by decide) w
        have T3 : Hid (∀ w, Calls Tryd.prog 82 #[.int .u32 (wi E), .int .i64 25] w fun e w' => e = .returned (.int .u32 (wi (rotr E 25))) ∧ w' = w) := fun w => turned_any' E 25 (by decide) (by decide) w
        have wx := wi_xor
        have wa := wi_addw
        have wn := wi_and
        have wt := wi_compl
        go_wp2
        go_quiet ((first | (with_reducible exact Calls.quiet_of_same (T1.out _)) | (with_reducible exact Calls.quiet_of_same (T2.out _)) | (with_reducible exact Calls.quiet_of_same (T3.out _))))
        have HM1 := Lib.hid (HM.out.drewN nq)
        generalize wr.drewN nq = w6 at *
        have U1 := Lib.hid (turned_any A 2 (by decide) (by decide) w6)
        have U2 := Lib.hid (turned_any A 13 (by decide) (by decide) w6)
        have U3 := Lib.hid (turned_any A 22 (by decide) (by decide) w6)
        have wa2 := wi_add
        clear HM c1 c2 T1 T2 T3 wt b0
        go_wp2_with fail
        refine (U1.out).mono ?_
        rintro e w' ⟨rfl, rfl⟩
        go_wp2_with fail
        refine (U2.out).mono ?_
        rintro e w' ⟨rfl, rfl⟩
        go_wp2_with fail
        refine (U3.out).mono ?_
        rintro e w' ⟨rfl, rfl⟩
        go_wp2
        clear wx wa wn wa2 U1 U2 U3
        go_roundw
        case rel => exact ⟨k + 1, by omega, by go_num, by rw [HT.out]; rfl, by rw [HT.out]; rfl, by rw [HT.out]; rfl, by rw [HT.out]; rfl, by rw [HT.out]; rfl, by rw [HT.out]; rfl, by rw [HT.out]; rfl, by rw [HT.out]; rfl, HM1⟩
        case measure => simp [intOf]; omega
    · obtain rfl : k = 64 := by omega
      have HE : Hid (mix s b = s.plus (rnd b s 64)) := rfl
      generalize rnd b s 64 = t at *
      rw [show ((64 : Nat) : Int) = 64 from rfl]
      obtain ⟨wo, rfl⟩ : ∃ wo : World, wo = wr := ⟨_, rfl⟩
      have hlow : w.heap.size + 3 ≤ wo.heap.size := by
        have := HM.out.ws.lt
        have := HM.out.high
        omega
      have HL := Lib.hid hlow
      clear hlow
      have hbox : Hid (Box (wo.alloc (.cells t.vals 113)) wo.heap.size 113 t.vals) := Box.made wo _ _
      go_wp2
      go_loopw [109] (fun i wr => ∃ k : Nat, k ≤ 8 ∧ i = .int .i64 k ∧ Hid (SumW w s t wo.heap.size k wr)) (fun i _ => 8 - (intOf i).toNat)
      case atStart =>
        have hM := HM.out
        obtain ⟨z, hz, hzs⟩ := hM.out
        exact ⟨0, by decide, rfl, ⟨by have := hM.st.alloc (.cells t.vals 113); exact this, ⟨z, hz.alloc _, hzs⟩, hbox.out, hM.far.alloc (by have := HL.out; omega) _, HL.out⟩⟩
      case round =>
        rename_i wr1
        clear HM hbox
        obtain ⟨k, hk, rfl, HM⟩ := hrel
        by_cases hlt : k < 8
        · as_aux_lemma =>
            go_wp2
            refine wp_still_tail 8 (by kernel_rfl) (by kernel_rfl) ?_
            intro w2 hw2
            have HM2 : Hid (SumW w s t wo.heap.size k w2) := by
              rw [hw2]
              exact ⟨HM.out.st, HM.out.out, HM.out.more, HM.out.far.drew, HM.out.high⟩
            clear hw2 HM
            simp only [List.take_succ_cons, List.take_zero, List.drop_succ_cons, List.drop_zero]
            have b0 : 0 ≤ (k : Int) ∧ (k : Int) < 8 := by omega
            have c1 := HM2.out.st.cell k
            have c2 := HM2.out.more.cell k
            rw [cellsP_get s.list t.list (k := k) hlt rfl] at c1
            rw [list_get t hlt] at c2
            have f := HM2.out.st.free k
            have wa := wi_addw
            generalize hX : s.list.getD k 0 = X at *
            generalize hY : t.list.getD k 0 = Y at *
            have HX := Lib.hid hX
            have HY := Lib.hid hY
            clear hX hY
            repeat still_step
            try refine wpStill_nil ?_
            go_wp2
            go_roundw
            case rel =>
              have hM := HM2.out
              obtain ⟨z, hz, hzs⟩ := hM.out
              have h := hM.st.put k (.int .u32 (wi (s.list.getD k 0 + t.list.getD k 0)))
              rw [cellsP_put s.list t.list (k := k) hlt rfl, HX.out, HY.out] at h
              have hh := hM.high
              exact ⟨k + 1, by omega, by go_num, ⟨h, ⟨z, hz.aside (by simp; omega) _, hzs⟩, hM.more.aside (by simp; omega) _, hM.far.setCell (by simp) _, hh⟩⟩
            case measure => simp [intOf]; omega
        · as_aux_lemma =>
            obtain rfl : k = 8 := by omega
            have hM := HM.out
            obtain ⟨z, hz, hzs⟩ := hM.out
            have hst : Box wr w.heap.size 113 (s.plus t).vals := hM.st
            rw [← HE.out] at hst
            have HST := Lib.hid hst
            have HZ := Lib.hid hz
            have HFA := Lib.hid hM.far
            have HZS : Hid ((mix s b).vals.size = z.size) := by rw [hzs]; exact Lib.hid rfl
            have hsz : Hid ((Tryd.prog.info? 113).map (·.size) = some (mix s b).vals.size) := by
              show _ = some 8
              kernel_rfl
            have hone : Hid (∀ v ∈ (mix s b).vals.toList, v.oneCell' = true) := by
              rw [vals_list]
              exact wv_one _
            clear hM hz hzs hst HM HE HL
            generalize hm : mix s b = m at *
            have HMM := Lib.hid hm
            clear hm
            go_upto_region 17 with fail
            go_step
            refine wpList_load_row (o := ⟨some 121, _, _, _, _, _⟩) rfl 113 (.tmp 2) rfl w.heap.size rfl 113 m.vals (0, 0) _ HST.out Tryd.underlying113 rfl hsz.out ?_
            refine wpList_store_box (op := ⟨none, _, _, _, _, _⟩) rfl 113 (.tmp 4) (.tmp 121) rfl (w.heap.size + 1 + 1) m.vals (by simp [Act.eval, Act.put]) (by simp [Act.eval, Act.put]) 113 z HZ.out HZS.out hsz.out hone.out ?_
            intro w3 hb3 hg3
            have HB5 := Lib.hid hb3
            have HG5 := Lib.hid hg3
            clear hb3 hg3
            simp only [Act.put]
            go_wp2
            refine bodyPost_ret (v := .agg m.vals) (results_cell_row rfl _ w3 (w.heap.size + 1 + 1) 113 m.vals (0, 0) _ rfl HB5.out Tryd.underlying113 rfl hsz.out) rfl ⟨by rw [HMM.out], ?_⟩
            exact HFA.out.trans (below_only HG5.out (by omega) HFA.out.size)
end Go.Proofs.YtapdnoellleimaaDoor

namespace Go.Proofs.YtapdnoellleimaaDoor
open Go.RowKit

/-- Byte j of word i, the highest first. -/
def dbyte (s : St) (i j : Nat) : UInt8 := UInt8.ofNat ((s.list.getD i 0).toNat / 256 ^ (3 - j))
theorem bytes_length (s : St) : s.bytes.length = 32 := rfl
theorem bytes_at (s : St) (i j : Nat) (hi : i < 8) (hj : j < 4) : s.bytes[4 * i + j]? = some (dbyte s i j) := by
  have h1 : i = 0 ∨ i = 1 ∨ i = 2 ∨ i = 3 ∨ i = 4 ∨ i = 5 ∨ i = 6 ∨ i = 7 := by omega
  have h2 : j = 0 ∨ j = 1 ∨ j = 2 ∨ j = 3 := by omega
  rcases h1 with rfl | rfl | rfl | rfl | rfl | rfl | rfl | rfl <;> rcases h2 with rfl | rfl | rfl | rfl <;> rfl
/-- The digest's cells while it is filled: the first n bytes. -/
def cellsD (l : List UInt8) (n : Nat) : Array Value := ((l.take n ++ List.replicate (32 - n) 0).map bv).toArray
theorem cellsD_zero (l : List UInt8) : cellsD l 0 = (List.replicate 32 (Value.int .u8 0)).toArray := rfl
theorem cellsD_size (l : List UInt8) {n : Nat} (hl : l.length = 32) (h : n ≤ 32) : (cellsD l n).size = 32 := by
  unfold cellsD
  rw [List.size_toArray, List.length_map, List.length_append, List.length_take, List.length_replicate]
  omega
theorem cellsD_at (l : List UInt8) {n i : Nat} (hl : l.length = 32) (h : n ≤ 32) (hi : i < 32) : ∃ v, (cellsD l n)[i]? = some v :=
  ⟨_, Array.getElem?_eq_getElem (by rw [cellsD_size l hl h]; exact hi)⟩
theorem cellsD_put (l : List UInt8) {n : Nat} (hl : l.length = 32) (h : n < 32) (b : UInt8) (hb : l[n]? = some b) : (cellsD l n).setIfInBounds n (.int .u8 (b.toNat : Int)) = cellsD l (n + 1) := by
  unfold cellsD
  have e : 32 - n = (32 - (n + 1)) + 1 := by omega
  have hg : l[n]'(by omega) = b := by
    rw [List.getElem?_eq_getElem (by omega)] at hb
    exact Option.some.inj hb
  apply Array.ext'
  rw [Array.toList_setIfInBounds, e, List.replicate_succ, List.take_succ_eq_append_getElem (by omega), hg]
  simp only [List.map_append, List.map_cons, List.append_assoc, List.cons_append, List.nil_append]
  rw [set_at _ _ _ _ _ (by rw [List.length_map, List.length_take]; omega)]
  rfl
theorem cellsD_whole (l : List UInt8) (hl : l.length = 32) : cellsD l 32 = (l.map bv).toArray := by
  unfold cellsD
  rw [List.take_of_length_le (by omega)]
  simp
theorem put_dbyte (s : St) (i j : Nat) (hj : j < 4) (S : Int) (hS : S = 24 - 8 * (j : Int)) : IntKind.u8.wrap (wi (s.list.getD i 0) / 2 ^ S.toNat) = ((dbyte s i j).toNat : Int) := by
  unfold dbyte wi
  exact put_byte _ (3 - j) S (by omega)
theorem put_dbyte' (s : St) (i j : Nat) (hj : j < 4) : wi (s.list[i]?.getD 0) / 2 ^ (24 - 8 * j) % 256 = ((dbyte s i j).toNat : Int) := by
  have h := put_dbyte s i j hj ((24 - 8 * j : Nat) : Int) (by omega)
  rw [IntKind.wrap_u8', Int.toNat_natCast, List.getD_eq_getElem?_getD] at h
  exact h
end Go.Proofs.YtapdnoellleimaaDoor

namespace Go.Proofs.YtapdnoellleimaaDoor
open Go.RowKit

/-- What the walk of joined carries of memory. -/
structure JoinW (w0 : World) (s : St) (n : Nat) (w : World) : Prop where
  st : Box w w0.heap.size 113 s.vals
  out : ∃ z, Box w (w0.heap.size + 1) 89 z ∧ z.size = 32
  d : Box w (w0.heap.size + 1 + 1) 89 (cellsD s.bytes n)
  far : Below w0.heap.size w0 w

set_option maxRecDepth 100000 in
set_option maxHeartbeats 1000000 in
theorem joined_any (s : St) (w : World) :
    Calls Tryd.prog 80 #[.agg s.vals] w fun e w' => e = .returned (.agg (s.bytes.map bv).toArray) ∧ Below w.heap.size w w' := by
  go_enter Tryd.func80, Tryd.ntmps80
  go_wp2
  go_loopw [5] (fun i wr => ∃ k : Nat, k ≤ 32 ∧ i = .int .i64 k ∧ Hid (JoinW w s k wr)) (fun i _ => 32 - (intOf i).toNat)
  case atStart =>
    refine ⟨0, by decide, rfl, ?_⟩
    exact ⟨((Box.made w _ _).alloc _).alloc _, ⟨_, (Box.made_at (by simp) _ _).alloc _, rfl⟩, by rw [cellsD_zero]; exact Box.made_at (by simp) _ _, (((Below.refl _ _).alloc (Nat.le_refl _) _).alloc (by simp) _).alloc (by simp; omega) _⟩
  case round =>
    obtain ⟨k, hk, rfl, HM⟩ := hrel
    by_cases hlt : k < 32
    · have HK := Lib.hid (bytes_at s (k / 4) (k % 4) (by omega) (by omega))
      have hq : k / 4 < 8 := by omega
      have c1 := HM.out.st.cell (k / 4)
      rw [list_get s hq] at c1
      obtain ⟨cv, hcv⟩ := cellsD_at s.bytes (n := k) (i := k) rfl (by omega) (by omega)
      have cg := HM.out.d.cell k
      rw [hcv] at cg
      clear hcv
      have f := HM.out.d.free k
      have bk : (k : Int) < 32 := by omega
      have b0 : 0 ≤ (k : Int) / 4 ∧ (k : Int) / 4 < 8 := by omega
      go_wp2
      go_roundw
      case rel =>
        refine ⟨k + 1, by omega, by go_num, ?_⟩
        obtain ⟨z, hz, hzs⟩ := HM.out.out
        have hb : s.bytes[k]? = some (dbyte s (k / 4) (k % 4)) := by
          have := HK.out
          rw [show 4 * (k / 4) + k % 4 = k from by omega] at this
          exact this
        have h := HM.out.d.put k (.int .u8 ((dbyte s (k / 4) (k % 4)).toNat : Int))
        rw [cellsD_put s.bytes rfl hlt _ hb, ← put_dbyte' s (k / 4) (k % 4) (by omega)] at h
        have hh : JoinW w s (k + 1) _ := ⟨HM.out.st.aside (by simp; omega) _, ⟨z, hz.aside (by simp) _, hzs⟩, h, HM.out.far.setCell (by simp; omega) _⟩
        exact hh
      case measure => simp [intOf]; omega
    · obtain rfl : k = 32 := by omega
      obtain ⟨z, hz, hzs⟩ := HM.out.out
      have HZ := Lib.hid hz
      have HFA := Lib.hid HM.out.far
      have hd := HM.out.d
      rw [cellsD_whole _ rfl] at hd
      have HD := Lib.hid hd
      have HZS : Hid ((s.bytes.map bv).toArray.size = z.size) := by rw [hzs]; exact Lib.hid rfl
      have hsz : Hid ((Tryd.prog.info? 89).map (·.size) = some (s.bytes.map bv).toArray.size) := by
        show _ = some 32
        kernel_rfl
      have hone : Hid (∀ v ∈ (s.bytes.map bv).toArray.toList, v.oneCell' = true) := bv_one _
      clear hz hzs HM hd
      generalize hm : s.bytes = m at *
      have HMM := Lib.hid hm
      clear hm
      go_upto_region 7 with fail
      go_step
      refine wpList_load_row (o := ⟨some 21, _, _, _, _, _⟩) rfl 89 (.tmp 3) rfl (w.heap.size + 1 + 1) rfl 89 (m.map bv).toArray (0, 0) _ HD.out Tryd.underlying89 rfl hsz.out ?_
      refine wpList_store_box (op := ⟨none, _, _, _, _, _⟩) rfl 89 (.tmp 2) (.tmp 21) rfl (w.heap.size + 1) (m.map bv).toArray (by simp [Act.eval, Act.put]) (by simp [Act.eval, Act.put]) 89 z HZ.out HZS.out hsz.out hone.out ?_
      intro w3 hb3 hg3
      have HB5 := Lib.hid hb3
      have HG5 := Lib.hid hg3
      clear hb3 hg3
      simp only [Act.put]
      go_wp2
      refine bodyPost_ret (v := .agg (m.map bv).toArray) (results_cell_row rfl _ w3 (w.heap.size + 1) 89 (m.map bv).toArray (0, 0) _ rfl HB5.out Tryd.underlying89 rfl hsz.out) rfl ⟨by rw [HMM.out], ?_⟩
      exact HFA.out.trans (below_only HG5.out (by omega) HFA.out.size)
end Go.Proofs.YtapdnoellleimaaDoor

namespace Go.Proofs.YtapdnoellleimaaDoor
open Go.RowKit

/-- A piece of a block is stored anew. -/
theorem Box.mid {w : World} {g : Nat} {t : TypeId} (X Y Z vs : List Value) (h : Box w g t (X ++ (Y ++ Z)).toArray) (hl : vs.length = Y.length) : Box (w.setCells g X.length vs) g t (X ++ (vs ++ Z)).toArray := by
  obtain ⟨cs', hb, hs, h1, h2, h3⟩ := Box.cells_at vs X.length w _ h (by simp; omega)
  have e : cs' = (X ++ (vs ++ Z)).toArray := by
    apply Array.ext_getElem?
    intro j
    rcases Nat.lt_or_ge j X.length with hj | hj
    · rw [h1 j hj, List.getElem?_toArray, List.getElem?_toArray, List.getElem?_append_left hj, List.getElem?_append_left hj]
    · rcases Nat.lt_or_ge j (X.length + vs.length) with hk | hk
      · have := h2 (j - X.length) (by omega)
        rw [show X.length + (j - X.length) = j from by omega] at this
        rw [this, List.getElem?_toArray, List.getElem?_append_right hj, List.getElem?_append_left (by omega)]
      · rw [h3 j hk, List.getElem?_toArray, List.getElem?_toArray, List.getElem?_append_right hj, List.getElem?_append_right hj, List.getElem?_append_right (by omega), List.getElem?_append_right (by omega), hl]
  rw [e] at hb
  exact hb

def hashList (st : St) (blk : List UInt8) (used size : Nat) : List Value := st.list.map wv ++ (blk.map bv ++ [.int .i64 (used : Int), .int .u64 (size : Int)])
structure HashW (w : World) (a : Nat) (st : St) (blk : List UInt8) (used size : Nat) : Prop where
  box : Box w a 121 (hashList st blk used size).toArray
  len : blk.length = 64

theorem hashList_length (st : St) (blk : List UInt8) (used size : Nat) (h : blk.length = 64) : (hashList st blk used size).length = 74 := by
  unfold hashList
  rw [List.length_append, List.length_append, List.length_map, List.length_map, h]
  rfl
theorem hashList_low (st : St) (blk : List UInt8) (used size : Nat) {j : Nat} (h : j < 8) : (hashList st blk used size)[j]? = (st.list.map wv)[j]? := by
  unfold hashList
  rw [List.getElem?_append_left (by rw [List.length_map]; exact h)]
theorem hashList_mid (st : St) (blk : List UInt8) (used size : Nat) {j : Nat} (hb : blk.length = 64) (h : j < 64) : (hashList st blk used size)[8 + j]? = (blk.map bv)[j]? := by
  have e : (st.list.map wv).length = 8 := rfl
  unfold hashList
  rw [List.getElem?_append_right (by omega), e, Nat.add_sub_cancel_left, List.getElem?_append_left (by rw [List.length_map]; omega)]
theorem hashList_used (st : St) (blk : List UInt8) (used size : Nat) (hb : blk.length = 64) : (hashList st blk used size)[72]? = some (.int .i64 (used : Int)) := by
  have e : (st.list.map wv).length = 8 := rfl
  unfold hashList
  rw [List.getElem?_append_right (by omega), e, List.getElem?_append_right (by rw [List.length_map]; omega), List.length_map, hb]
  rfl
theorem hashList_size (st : St) (blk : List UInt8) (used size : Nat) (hb : blk.length = 64) : (hashList st blk used size)[73]? = some (.int .u64 (size : Int)) := by
  have e : (st.list.map wv).length = 8 := rfl
  unfold hashList
  rw [List.getElem?_append_right (by omega), e, List.getElem?_append_right (by rw [List.length_map]; omega), List.length_map, hb]
  rfl

section
variable {w : World} {a : Nat} {st : St} {blk : List UInt8} {used size : Nat}
theorem HashW.lt (h : HashW w a st blk used size) : a < w.heap.size := h.box.lt
theorem HashW.free (h : HashW w a st blk used size) (i : Nat) : w.frozen? ⟨a, i, none⟩ = false := h.box.free i
theorem HashW.cell_used (h : HashW w a st blk used size) : w.cell? ⟨a, 72, none⟩ = some (.int .i64 (used : Int)) := by rw [h.box.cell, List.getElem?_toArray, hashList_used _ _ _ _ h.len]
theorem HashW.cell_size (h : HashW w a st blk used size) : w.cell? ⟨a, 73, none⟩ = some (.int .u64 (size : Int)) := by rw [h.box.cell, List.getElem?_toArray, hashList_size _ _ _ _ h.len]
theorem HashW.cell_byte (h : HashW w a st blk used size) {j : Nat} (hj : j < 64) : w.cell? ⟨a, 8 + j, none⟩ = some (.int .u8 ((blk.getD j 0).toNat : Int)) := by
  have := bytes_get (b := blk) (i := j) (by rw [h.len]; exact hj)
  rw [List.getElem?_toArray] at this
  rw [h.box.cell, List.getElem?_toArray, hashList_mid _ _ _ _ h.len hj, this]
  rfl
theorem HashW.state_range (h : HashW w a st blk used size) : w.rangeAt a 0 (st.list.map wv) := fun j v hv => by
  have hj : j < 8 := by
    rcases Nat.lt_or_ge j 8 with hj | hj
    · exact hj
    · rw [List.getElem?_eq_none (by exact hj)] at hv; cases hv
  rw [Nat.zero_add, h.box.cell, List.getElem?_toArray, hashList_low _ _ _ _ hj]
  exact hv
theorem HashW.block_range (h : HashW w a st blk used size) : w.rangeAt a 8 (blk.map bv) := fun j v hv => by
  have hj : j < 64 := by
    rcases Nat.lt_or_ge j 64 with hj | hj
    · exact hj
    · rw [List.getElem?_eq_none (by rw [List.length_map, h.len]; exact hj)] at hv; cases hv
  rw [h.box.cell, List.getElem?_toArray, hashList_mid _ _ _ _ h.len hj]
  exact hv
theorem HashW.cells8 (h : HashW w a st blk used size) :
    w.cell? ⟨a, 0, none⟩ = some (.int .u32 (wi st.a)) ∧ w.cell? ⟨a, 1, none⟩ = some (.int .u32 (wi st.b)) ∧ w.cell? ⟨a, 2, none⟩ = some (.int .u32 (wi st.c)) ∧ w.cell? ⟨a, 3, none⟩ = some (.int .u32 (wi st.d)) ∧
    w.cell? ⟨a, 4, none⟩ = some (.int .u32 (wi st.e)) ∧ w.cell? ⟨a, 5, none⟩ = some (.int .u32 (wi st.f)) ∧ w.cell? ⟨a, 6, none⟩ = some (.int .u32 (wi st.g)) ∧ w.cell? ⟨a, 7, none⟩ = some (.int .u32 (wi st.h)) := by
  refine ⟨?_, ?_, ?_, ?_, ?_, ?_, ?_, ?_⟩ <;> (rw [h.box.cell]; rfl)
theorem HashW.free8 (h : HashW w a st blk used size) :
    w.frozen? ⟨a, 0, none⟩ = false ∧ w.frozen? ⟨a, 1, none⟩ = false ∧ w.frozen? ⟨a, 2, none⟩ = false ∧ w.frozen? ⟨a, 3, none⟩ = false ∧ w.frozen? ⟨a, 4, none⟩ = false ∧ w.frozen? ⟨a, 5, none⟩ = false ∧ w.frozen? ⟨a, 6, none⟩ = false ∧ w.frozen? ⟨a, 7, none⟩ = false :=
  ⟨h.free _, h.free _, h.free _, h.free _, h.free _, h.free _, h.free _, h.free _⟩
theorem HashW.there (h : HashW w a st blk used size) (o n : Nat) (ho : o + n ≤ 74) : w.there a o n := fun j hj => by
  refine ⟨?_, h.free _⟩
  rw [h.box.cell, List.getElem?_toArray, List.getElem?_eq_getElem (by rw [hashList_length _ _ _ _ h.len]; omega)]
  rfl
theorem HashW.drew (h : HashW w a st blk used size) : HashW w.drew a st blk used size := ⟨h.box, h.len⟩
theorem HashW.drewN (h : HashW w a st blk used size) (n : Nat) : HashW (w.drewN n) a st blk used size := ⟨h.box, h.len⟩
theorem HashW.of_below {w' : World} {B : Nat} (h : HashW w a st blk used size) (hb : Below B w w') (ha : a < B) : HashW w' a st blk used size := ⟨h.box.below hb ha, h.len⟩

theorem HashW.put_used (h : HashW w a st blk used size) (u : Nat) : HashW (w.setCell ⟨a, 72, none⟩ (.int .i64 (u : Int))) a st blk u size := by
  refine ⟨?_, h.len⟩
  have hb := h.box
  unfold hashList at hb ⊢
  have e : (st.list.map wv ++ blk.map bv).length = 72 := by rw [List.length_append, List.length_map, List.length_map, h.len]; rfl
  have := Box.mid (st.list.map wv ++ blk.map bv) [.int .i64 (used : Int)] [.int .u64 (size : Int)] [.int .i64 (u : Int)] (by simpa [List.append_assoc] using hb) rfl
  rw [e] at this
  rw [List.append_assoc] at this
  exact this
theorem HashW.put_size (h : HashW w a st blk used size) (u : Nat) : HashW (w.setCell ⟨a, 73, none⟩ (.int .u64 (u : Int))) a st blk used u := by
  refine ⟨?_, h.len⟩
  have hb := h.box
  unfold hashList at hb ⊢
  have e : (st.list.map wv ++ (blk.map bv ++ [Value.int .i64 (used : Int)])).length = 73 := by rw [List.length_append, List.length_append, List.length_map, List.length_map, h.len]; rfl
  have := Box.mid (st.list.map wv ++ (blk.map bv ++ [Value.int .i64 (used : Int)])) [.int .u64 (size : Int)] [] [.int .u64 (u : Int)] (by simpa [List.append_assoc] using hb) rfl
  rw [e] at this
  rw [List.append_assoc, List.append_assoc] at this
  exact this
theorem HashW.put_state (h : HashW w a st blk used size) (s' : St) : HashW (w.setCells a 0 (s'.list.map wv)) a s' blk used size := by
  refine ⟨?_, h.len⟩
  have hb := h.box
  unfold hashList at hb ⊢
  exact Box.mid [] (st.list.map wv) _ (s'.list.map wv) hb rfl
theorem HashW.put_block (h : HashW w a st blk used size) (o : Nat) (x : List UInt8) (ho : o + x.length ≤ 64) : HashW (w.setCells a (8 + o) (x.map bv)) a st (into blk o x) used size := by
  refine ⟨?_, by rw [into_length _ _ _ (by rw [h.len]; exact ho), h.len]⟩
  have hb := h.box
  unfold hashList at hb ⊢
  have e : (st.list.map wv ++ (blk.take o).map bv).length = 8 + o := by
    rw [List.length_append, List.length_map, List.length_map, List.length_take, h.len]
    have : st.list.length = 8 := rfl
    omega
  have eb : blk = blk.take o ++ ((blk.drop o).take x.length ++ blk.drop (o + x.length)) := by rw [← List.drop_drop, List.take_append_drop, List.take_append_drop]
  have := Box.mid (w := w) (g := a) (t := 121) (st.list.map wv ++ (blk.take o).map bv) (((blk.drop o).take x.length).map bv) ((blk.drop (o + x.length)).map bv ++ [.int .i64 (used : Int), .int .u64 (size : Int)]) (x.map bv) (by
    have e2 : st.list.map wv ++ (blk.take o).map bv ++ (((blk.drop o).take x.length).map bv ++ ((blk.drop (o + x.length)).map bv ++ [.int .i64 (used : Int), .int .u64 (size : Int)])) = st.list.map wv ++ (blk.map bv ++ [.int .i64 (used : Int), .int .u64 (size : Int)]) := by
      conv => rhs; rw [eb]
      simp only [List.map_append, List.append_assoc]
    rw [e2]
    exact hb) (by rw [List.length_map, List.length_map, List.length_take, List.length_drop, h.len]; omega)
  rw [e] at this
  unfold into
  simp only [List.map_append, List.append_assoc] at this ⊢
  exact this
/-- What copy makes of the block. -/
theorem HashW.copied (h : HashW w a st blk used size) (o : Nat) (x : List UInt8) (ho : o + x.length ≤ 64) :
    HashW (w.setRow a ((hashList st blk used size).toArray.toList.take (8 + o) ++ (x.map bv ++ (hashList st blk used size).toArray.toList.drop (8 + o + (x.map bv).length))).toArray) a st (into blk o x) used size := by
  have hp := h.put_block o x ho
  refine ⟨?_, hp.len⟩
  have e : (hashList st blk used size).toArray.toList.take (8 + o) ++ (x.map bv ++ (hashList st blk used size).toArray.toList.drop (8 + o + (x.map bv).length)) = hashList st (into blk o x) used size := by
    unfold hashList into
    have e1 : (st.list.map wv).length = 8 := rfl
    rw [List.toList_toArray, List.take_append, e1, List.take_of_length_le (by omega), Nat.add_sub_cancel_left, List.take_append_of_le_length (by rw [List.length_map, h.len]; omega), List.drop_append, e1,
      List.drop_eq_nil_of_le (by omega), List.length_map, show 8 + o + x.length - 8 = o + x.length from by omega, List.drop_append_of_le_length (by rw [List.length_map, h.len]; omega)]
    simp only [List.map_append, List.append_assoc, List.map_take, List.map_drop, List.nil_append]
  rw [e]
  have := setRow_heap w a (hashList st blk used size).toArray (hashList st (into blk o x) used size).toArray 121 (0, 0) h.box
  exact this
end
theorem only_setRow (w : World) (g : Nat) (cs : Array Value) : w.grownBy (w.setRow g cs) (some g) :=
  ⟨rfl, rfl, rfl, by simp [World.setRow], fun k _ hk => setRow_other w g k _ (fun e => hk (by rw [e]))⟩
end Go.Proofs.YtapdnoellleimaaDoor

namespace Go.Proofs.YtapdnoellleimaaDoor
open Go.RowKit

noncomputable def ldState (v : Value) : Sem Value := Instr.loadAt 113 v
noncomputable def ldBlock (v : Value) : Sem Value := Instr.loadAt 119 v
noncomputable def stState (p v : Value) : Sem Unit := Instr.storeAt 113 p v
theorem ldState_def (v : Value) : Instr.loadAt 113 v = ldState v := rfl
theorem ldBlock_def (v : Value) : Instr.loadAt 119 v = ldBlock v := rfl
theorem stState_def (p v : Value) : Instr.storeAt 113 p v = stState p v := rfl

noncomputable def stDigest (p v : Value) : Sem Unit := Instr.storeAt 89 p v
theorem stDigest_def (p v : Value) : Instr.storeAt 89 p v = stDigest p v := rfl
/-- A digest is stored over a block that is known whole. -/
theorem Box.store_digest {w : World} {g : Nat} {t : TypeId} {cs : Array Value} (h : Box w g t cs) (hs : cs.size = 32) (d : List UInt8) (hd : d.length = 32) :
    (stDigest (.pointer (some ⟨g, 0, none⟩)) (.agg (d.map bv).toArray)).run Tryd.prog w = .ok () (w.setCells g 0 (d.map bv)) :=
  run_storeAt_mid (P := Tryd.prog) w g 0 89 (d.map bv).toArray (fun j hj => by
    have hj' : j < 32 := by simpa [hd] using hj
    rw [Nat.zero_add, h.cell, h.free, Array.getElem?_eq_getElem (by omega)]
    exact ⟨rfl, rfl⟩) (by rw [List.size_toArray, List.length_map, hd]; kernel_rfl) (all_oneCell_toArray (bv_one d))

theorem HashW.load_state {w : World} {a : Nat} {st : St} {blk : List UInt8} {used size : Nat} (h : HashW w a st blk used size) : (ldState (.pointer (some ⟨a, 0, none⟩))).run Tryd.prog w = .ok (.agg st.vals) w :=
  run_loadAt_mid (P := Tryd.prog) w a 0 113 (st.list.map wv) _ h.state_range Tryd.underlying113 rfl (by kernel_rfl)
theorem HashW.load_block {w : World} {a : Nat} {st : St} {blk : List UInt8} {used size : Nat} (h : HashW w a st blk used size) : (ldBlock (.pointer (some ⟨a, 8, none⟩))).run Tryd.prog w = .ok (.agg (blk.map bv).toArray) w :=
  run_loadAt_mid (P := Tryd.prog) w a 8 119 (blk.map bv) _ h.block_range Tryd.underlying119 rfl (by rw [List.length_map, h.len]; kernel_rfl)
theorem HashW.store_state {w : World} {a : Nat} {st : St} {blk : List UInt8} {used size : Nat} (h : HashW w a st blk used size) (m : St) :
    (stState (.pointer (some ⟨a, 0, none⟩)) (.agg m.vals)).run Tryd.prog w = .ok () (w.setCells a 0 (m.list.map wv)) :=
  run_storeAt_mid (P := Tryd.prog) w a 0 113 m.vals (h.there 0 8 (by decide)) (by kernel_rfl) (all_oneCell_toArray (wv_one m.list))
end Go.Proofs.YtapdnoellleimaaDoor
