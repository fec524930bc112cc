/-
  A public half: once.Public.
  Under what a signature is right: once.Of.
-/
import Derived.Test.YtbclepdcngaonaaGreatDoorOC
import Derived.Test.YtbclepdcngaonaaGreatDoorOB
import Derived.Test.YtbclepdcngaonaaGreatDoorOX
import Derived.Test.YtbclepdcngaonaaGreatDoorTG
import Derived.Deep.RegionHeld3
namespace Go.Proofs.YtbclepdcngaonaaGreatDoor
open Go.RowKit

attribute [local go_sem ↓] ldDigest_def stDigest_def bsAll_def

/-- The bytes of a Writer, as one piece. -/
theorem one_made {w : World} {t : TypeId} {bs : List UInt8} {A : Option Addr} {c : Nat} (h : Sees w w.heap.size A (bs.map bv)) (hc : bs.length ≤ c) (hm : c ≤ maxLen) :
    Pieces (w.alloc (.cells #[.slice A bs.length c] t)) (w.alloc (.cells #[.slice A bs.length c] t)).heap.size (some ⟨w.heap.size, 0, none⟩) [bs] := by
  have hF : Below w.heap.size w (w.alloc (.cells #[.slice A bs.length c] t)) := (Below.refl _ _).alloc (Nat.le_refl _) _
  have hB : Box (w.alloc (.cells #[.slice A bs.length c] t)) w.heap.size t #[.slice A bs.length c] := Box.made _ _ _
  exact Pieces.one hB hB.lt hc hm ((h.below hF).more hF.size)

end Go.Proofs.YtbclepdcngaonaaGreatDoor

namespace Go.Proofs.YtbclepdcngaonaaGreatDoor
open Go.RowKit

attribute [local go_sem ↓] ldDigest_def bsAll_def

theorem all_two {a b : List UInt8} (ha : a.length = 32) (hb : b.length = 32) : AllD [a, b] := by
  intro x hx
  rcases List.mem_cons.1 hx with rfl | hx
  · exact ha
  · obtain rfl := List.mem_singleton.1 hx
    exact hb
/-- The two digests of each of the first k bits. -/
def bothsT (d : List UInt8) (op sh : List (List UInt8)) (k : Nat) : List UInt8 := (List.range k).flatMap (bothT d op sh)
theorem bothsT_succ (d : List UInt8) (op sh : List (List UInt8)) (k : Nat) : bothsT d op sh (k + 1) = bothsT d op sh k ++ bothT d op sh k := by
  unfold bothsT
  rw [List.range_succ, List.flatMap_append]
  simp
theorem bothT_len {d : List UInt8} {op sh : List (List UInt8)} (hs : AllD sh) {k : Nat} (hk : k < sh.length) : (bothT d op sh k).length = 64 := by
  unfold bothT
  have h := hs.get hk []
  split <;> rw [List.length_append, sha_len, h]
theorem bothsT_len {d : List UInt8} {op sh : List (List UInt8)} (hs : AllD sh) : ∀ k, k ≤ sh.length → (bothsT d op sh k).length = 64 * k
  | 0, _ => rfl
  | k + 1, hk => by
    rw [bothsT_succ, List.length_append, bothsT_len hs k (by omega), bothT_len hs (by omega)]
    omega

theorem zs32_size : (Tryz.prog.info? 29).map (·.size) = some zs32.size := by
  show _ = some 32
  kernel_rfl
theorem zs32_one : ∀ v ∈ zs32.toList, v.oneCell' = true := by decide +kernel
/-- A digest and a truth value are answered. -/
theorem ret_dig_tmp {fn : Func} {p q : Tmp} (hf : fn.results = #[.cell p 29, .tmp q]) {a : Act} {w : World} {g : Nat} (hp : a.tmps.getD p undef = .pointer (some ⟨g, 0, none⟩)) {b : Value} (hq : a.tmps.getD q undef = b) (hdf : a.defers = []) {t : TypeId} {cs : Array Value} (hb : Box w g t cs) (hd : (Tryz.prog.info? 29).map (·.size) = some cs.size)
    {R : Ending → World → Prop} (hR : R (.returned (.tuple #[.agg cs, b])) w) : bodyPost Tryz.prog fn R .ret a w := by
  have hp' : a.tmps[p]?.getD undef = .pointer (some ⟨g, 0, none⟩) := by simpa using hp
  have hq' : a.tmps[q]?.getD undef = b := by simpa using hq
  refine bodyPost_ret (v := .tuple #[.agg cs, b]) ?_ hdf hR
  simp [results, hf, hp', hq', asAddr, run_loadVar_row w g t 29 cs (0, 0) _ hb Tryz.underlying29 rfl hd]

set_option maxRecDepth 100000 in
set_option maxHeartbeats 2000000 in
theorem of_not (d : List UInt8) (op sh : List (List UInt8)) (A B : Option Addr) (c c' : Nat) (h : ¬ (op.length = 32 ∧ sh.length = 32)) (w : World) :
    Calls Tryz.prog 141 #[.agg (d.map bv).toArray, .agg #[.slice A op.length c, .slice B sh.length c']] w fun e w' => e = .returned (.tuple #[.agg zs32, .bool false]) ∧ Below w.heap.size w w' := by
  obtain ⟨w1, hw1⟩ : ∃ w1, w1 = ((w.alloc (.cells (d.map bv).toArray 29)).alloc (.cells #[.slice A op.length c, .slice B sh.length c'] 70)).alloc (.cells zs32 29) := ⟨_, rfl⟩
  have HB : Hid (Box w1 (w.heap.size + 1) 70 #[.slice A op.length c, .slice B sh.length c']) := by
    rw [hw1]
    exact (Box.made_at (by simp) _ _).alloc _
  have HO : Hid (Box w1 (w.heap.size + 1 + 1) 29 zs32) := by
    rw [hw1]
    exact Box.made_at (by simp) _ _
  have HF : Hid (Below w.heap.size w w1) := by
    rw [hw1]
    exact (((Below.refl _ _).alloc (Nat.le_refl _) _).alloc (by simp) _).alloc (by simp; omega) _
  have HN := Lib.hid h
  clear h
  go_enter Tryz.func141, Tryz.ntmps141
  go_upto_region 1 with fail
  change Code.wp _ _ _ _ (((w.alloc (.cells (d.map bv).toArray 29)).alloc (.cells #[.slice A op.length c, .slice B sh.length c'] 70)).alloc (.cells zs32 29))
  rw [← hw1]
  clear hw1
  have c0 := HB.out.cell 0
  have c1 := HB.out.cell 1
  simp only [List.getElem?_toArray, List.getElem?_cons_zero, List.getElem?_cons_succ] at c0 c1
  generalize op.length = n at *
  generalize sh.length = m at *
  by_cases h1 : n = 32
  · have h2 : ¬ m = 32 := fun e => HN.out ⟨h1, e⟩
    subst h1
    have e2 : ((m : Int) == 32) = false := by rw [beq_eq_false_iff_ne]; omega
    have e4 : ((m : Int) != 32) = true := by rw [bne_iff_ne]; omega
    go_wp2_with (((with_reducible show wpList _ _ _ ((⟨none, Op.store _ (.tmp 4) (.tmp 19), _, _, _, _⟩ : Oper) :: _) _ _)); refine wpList_store_box rfl 29 (.tmp 4) (.tmp 19) rfl (w.heap.size + 1 + 1) zs32 rfl rfl 29 zs32 HO.out rfl zs32_size zs32_one ?_; intro w7 hb7 hg7)
    exact ret_dig_tmp rfl rfl rfl rfl hb7 zs32_size ⟨rfl, HF.out.trans (below_only hg7 (by omega) HF.out.size)⟩
  · have e2 : ((n : Int) == 32) = false := by rw [beq_eq_false_iff_ne]; omega
    have e4 : ((n : Int) != 32) = true := by rw [bne_iff_ne]; omega
    go_wp2_with (((with_reducible show wpList _ _ _ ((⟨none, Op.store _ (.tmp 4) (.tmp 19), _, _, _, _⟩ : Oper) :: _) _ _)); refine wpList_store_box rfl 29 (.tmp 4) (.tmp 19) rfl (w.heap.size + 1 + 1) zs32 rfl rfl 29 zs32 HO.out rfl zs32_size zs32_one ?_; intro w7 hb7 hg7)
    exact ret_dig_tmp rfl rfl rfl rfl hb7 zs32_size ⟨rfl, HF.out.trans (below_only hg7 (by omega) HF.out.size)⟩

set_option maxRecDepth 100000 in
set_option maxHeartbeats 2000000 in
theorem of_any' (d : List UInt8) (hd : d.length = 32) (op sh : List (List UInt8)) (A B : Option Addr) (c c' : Nat) (ho : op.length = 32) (hs : sh.length = 32) (w : World) (hA : Digs w w.heap.size A op) (hB : Digs w w.heap.size B sh) (hR : Roots w) :
    Calls Tryz.prog 141 #[.agg (d.map bv).toArray, .agg #[.slice A 32 c, .slice B 32 c']] w fun e w' => e = .returned (.tuple #[.agg ((ofT d op sh).map bv).toArray, .bool true]) ∧ Below w.heap.size w w' := by
  obtain ⟨w1, hw1⟩ : ∃ w1, w1 = ((w.alloc (.cells (d.map bv).toArray 29)).alloc (.cells #[.slice A 32 c, .slice B 32 c'] 70)).alloc (.cells zs32 29) := ⟨_, rfl⟩
  have HD : Hid (Box w1 w.heap.size 29 (d.map bv).toArray) := by
    rw [hw1]
    exact ((Box.made w _ _).alloc _).alloc _
  have HBX : Hid (Box w1 (w.heap.size + 1) 70 #[.slice A 32 c, .slice B 32 c']) := by
    rw [hw1]
    exact (Box.made_at (by simp) _ _).alloc _
  have HO : Hid (Box w1 (w.heap.size + 1 + 1) 29 zs32) := by
    rw [hw1]
    exact Box.made_at (by simp) _ _
  have HF : Hid (Below w.heap.size w w1) := by
    rw [hw1]
    exact (((Below.refl _ _).alloc (Nat.le_refl _) _).alloc (by simp) _).alloc (by simp; omega) _
  have HDA := Lib.hid (hA.far HF.out)
  have HDB := Lib.hid (hB.far HF.out)
  obtain ⟨g1, o1, rfl, _, _⟩ := hA.some_ (by omega)
  obtain ⟨g2, o2, rfl, _, _⟩ := hB.some_ (by omega)
  have HR := Lib.hid (hR.of_below HF.out)
  have HXL := Lib.hid ho
  have HYL := Lib.hid hs
  have HDL := Lib.hid hd
  have HLD := Lib.hid (dig_size d hd)
  have HSA := Lib.hid hB.all
  have HQ : Hid (ofT d op sh = shaOf (bothsT d op sh 32)) := Lib.hid rfl
  clear hA hB hR ho hs hd
  go_enter Tryz.func141, Tryz.ntmps141
  go_upto_region 1 with fail
  change Code.wp _ _ _ _ (((w.alloc (.cells (d.map bv).toArray 29)).alloc (.cells #[.slice (some ⟨g1, o1, none⟩) 32 c, .slice (some ⟨g2, o2, none⟩) 32 c'] 70)).alloc (.cells zs32 29))
  rw [← hw1]
  clear hw1
  have c0 := HBX.out.cell 0
  have c1 := HBX.out.cell 1
  simp only [List.getElem?_toArray, List.getElem?_cons_zero, List.getElem?_cons_succ] at c0 c1
  have HW0 : Hid (Wr (w1.alloc (.cells #[.slice none 0 0] 48)) w1.heap.size w1.heap.size []) := wr_new (Box.made _ _ _) (Nat.le_refl _)
  have HB0 : Hid (Below w1.heap.size w1 (w1.alloc (.cells #[.slice none 0 0] 48))) := (Below.refl _ _).alloc (Nat.le_refl _) _
  go_upto_region 5 with fail
  clear c0 c1
  go_loopw [7, 8, 20] (fun _ _ i wr => ∃ k : Nat, k ≤ 32 ∧ i = .int .i64 (k : Int) ∧ Hid (Wr wr w1.heap.size w1.heap.size (bothsT d op sh k)) ∧ Hid (Below w1.heap.size w1 wr)) (fun _ _ i _ => 32 - (intOf i).toNat)
  case atStart => exact ⟨0, Nat.zero_le _, rfl, HW0, HB0⟩
  case round =>
    clear HW0 HB0
    obtain ⟨k, hk, rfl, HW, HB⟩ := hrel
    by_cases hlt : k < 32
    · have HXA := HDA.out.all
      have HX1 : Hid ((op.getD k []).length = 32) := HXA.get (by rw [HXL.out]; exact hlt) []
      have HY1 : Hid ((sh.getD k []).length = 32) := HSA.out.get (by rw [HYL.out]; exact hlt) []
      have HM : Hid ((shaOf (op.getD k [])).length = 32) := Lib.hid rfl
      have HBT : Hid (∀ w', Calls Tryz.prog 155 #[.agg (d.map bv).toArray, .int .i64 (k : Int)] w' fun e w'' => e = .returned (.int .i64 (bitT d k : Int)) ∧ Below w'.heap.size w' w'') := fun w' => bit_any d HDL.out k hlt w'
      have HH : Hid (∀ w', Below w1.heap.size w1 w' → Calls Tryz.prog 154 #[.agg ((op.getD k []).map bv).toArray] w' fun e w'' => e = .returned (.agg ((shaOf (op.getD k [])).map bv).toArray) ∧ Below w'.heap.size w' w'') := fun w' hb => shut_any _ HX1.out w' (HR.out.of_below hb)
      have HRX : Hid (∀ w', Below w1.heap.size w1 w' → w'.rangeAt g1 (o1 + k * 32) ((op.getD k []).map bv)) := fun w' hb => (HDA.out.far hb).at_ (by rw [HXL.out]; exact hlt)
      have HRY : Hid (∀ w', Below w1.heap.size w1 w' → w'.rangeAt g2 (o2 + k * 32) ((sh.getD k []).map bv)) := fun w' hb => (HDB.out.far hb).at_ (by rw [HYL.out]; exact hlt)
      have HRL : Hid ((bothsT d op sh k).length ≤ 2048) := by
        show _ ≤ _
        rw [bothsT_len HSA.out k (by rw [HYL.out]; exact hk)]
        omega
      have HSX : Hid (∀ w', Below w1.heap.size w1 w' → w'.cell? ⟨w.heap.size + 1, 0, none⟩ = some (.slice (some ⟨g1, o1, none⟩) 32 c) ∧ w'.cell? ⟨w.heap.size + 1, 1, none⟩ = some (.slice (some ⟨g2, o2, none⟩) 32 c')) := fun w' hb => ⟨(HBX.out.below hb HBX.out.lt).cell 0, (HBX.out.below hb HBX.out.lt).cell 1⟩
      have HRD : Hid (∀ w', Below w1.heap.size w1 w' → w'.rangeAt w.heap.size 0 (d.map bv)) := fun w' hb => (HD.out.below hb HD.out.lt).range
      have hb2 := bitT_lt d k
      have HE0 : Hid (bitT d k = 0 → bothsT d op sh (k + 1) = bothsT d op sh k ++ [shaOf (op.getD k []), sh.getD k []].flatMap id) := Lib.hid (fun e => by rw [bothsT_succ]; unfold bothT; rw [if_pos e]; simp)
      have HE1 : Hid (¬ bitT d k = 0 → bothsT d op sh (k + 1) = bothsT d op sh k ++ [sh.getD k [], shaOf (op.getD k [])].flatMap id) := Lib.hid (fun e => by rw [bothsT_succ]; unfold bothT; rw [if_neg e]; simp)
      generalize shaOf (op.getD k []) = h1 at *
      generalize op.getD k [] = x at *
      generalize sh.getD k [] = y at *
      generalize bitT d k = b at *
      have HLX := Lib.hid (dig_size x HX1.out)
      have HSM := Lib.hid (dig_same h1 HM.out)
      have HSZ := Lib.hid (dig_size h1 HM.out)
      have HNX := Lib.hid (dig_list h1 HM.out)
      have hn2 := dig_list y HY1.out
      have i0 : (0 : Int) ≤ (k : Int) := by omega
      have i1 : (k : Int) < 32 := by omega
      obtain ⟨oa, hoa⟩ : ∃ oa, o1 + k * 32 = oa := ⟨_, rfl⟩
      obtain ⟨ob, hob⟩ : ∃ ob, o2 + k * 32 = ob := ⟨_, rfl⟩
      rw [hoa] at HRX
      rw [hob] at HRY
      have c0 := (HSX.out wr HB.out).1
      clear HXA
      have HWD : Hid (∀ (W : World) (p q : List UInt8), p.length = 32 → q.length = 32 → Wr W w1.heap.size w1.heap.size (bothsT d op sh k) → Calls Tryz.prog 64 #[.pointer (some ⟨w1.heap.size, 0, none⟩), .slice (some ⟨W.heap.size, 0, none⟩) 2 2] (W.alloc (.cells (([p, q] : List (List UInt8)).flatten.map bv).toArray 29)) fun e w' => e = .returned (.tuple #[]) ∧ Wr w' w1.heap.size w1.heap.size (bothsT d op sh k ++ [p, q].flatMap id) ∧ Below w1.heap.size (W.alloc (.cells (([p, q] : List (List UInt8)).flatten.map bv).toArray 29)) w' ∧ ∀ j cs, Box W j 29 cs → Box w' j 29 cs) := fun W p q hp hq hW => by
        have hF : Below W.heap.size W (W.alloc (.cells (([p, q] : List (List UInt8)).flatten.map bv).toArray 29)) := (Below.refl _ _).alloc (Nat.le_refl _) _
        have hW2 := hW.below_size hF
        have hx : Box (W.alloc (.cells (([p, q] : List (List UInt8)).flatten.map bv).toArray 29)) W.heap.size 29 (([p, q] : List (List UInt8)).flatten.map bv).toArray := Box.made _ _ _
        have hsrc := Src.of_box hW2 hx (by decide) (by decide)
        refine (wdigest_any w1.heap.size w1.heap.size (some ⟨W.heap.size, 0, none⟩) [p, q] (all_two hp hq) 2 (bothsT d op sh k) _ hW2 (by simpa using hsrc) (by have := HRL.out; simp; omega)).mono ?_
        rintro e w' ⟨he, h1, h2⟩
        exact ⟨he, h1, h2.below hW2, fun j cs hj => (h2.block j (hj.below hF hj.lt).lt (hW2.not_mine (hj.below hF hj.lt) (by decide) (by decide))).trans (hj.below hF hj.lt)⟩
      have HBS : Hid (∀ (p q : List UInt8) (W : World), p.length = 32 → q.length = 32 → (bsAll 2 #[(0, .agg (p.map bv).toArray), (1, .agg (q.map bv).toArray)]).run Tryz.prog W = .ok (.slice (some ⟨W.heap.size, 0, none⟩) 2 2) (W.alloc (.cells (([p, q] : List (List UInt8)).flatten.map bv).toArray 29))) := fun p q W hp hq => build_digs [p, q] (all_two hp hq) (by simp) (by simp) W
      have hund := Tryz.underlying29
      by_cases hbz : b = 0
      · subst hbz
        go_upto_region 9 with (first
          | ((with_reducible show wpList _ _ _ ((⟨some 27, _, _, _, _, _⟩ : Oper) :: _) _ _); refine wpList_load_mid rfl 29 (.tmp 26) rfl g1 oa rfl (x.map bv) _ (HRX.out wr HB.out) Tryz.underlying29 rfl HLX.out ?_)
          | (go_at_call 154; (with_reducible refine (HH.out _ HB.out).mono ?_); rintro e w2 ⟨rfl, hb⟩; have HW2 := Lib.hid (HW.out.below_size hb); have HB2 := Lib.hid (HB.out.trans (hb.mono HB.out.size)); clear hb)
          | (((with_reducible show wpList _ _ _ ((⟨none, Op.store _ (.tmp 8) (.tmp 28), _, _, _, _⟩ : Oper) :: _) _ _)); refine wpList_store_box rfl 29 (.tmp 8) (.tmp 28) rfl w2.heap.size (h1.map bv).toArray rfl rfl 29 zs32 (Box.made w2 _ _) HSM.out HSZ.out (bv_one _) ?_; intro w3 hb3 hg3; have HX3 := Lib.hid hb3; have hbl := ((Below.refl w2.heap.size w2).alloc (Nat.le_refl _) (.cells zs32 29)).trans (below_only hg3 (Nat.le_refl _) (by simp)); have HW3 := Lib.hid (HW2.out.below_size hbl); have HB3 := Lib.hid (HB2.out.trans (hbl.mono HB2.out.size)); clear hb3 hg3 hbl)
          | ((with_reducible show wpList _ _ _ ((⟨some 29, _, _, _, _, _⟩ : Oper) :: _) _ _); refine wpList_load_mid rfl 29 (.tmp 2) rfl w.heap.size 0 rfl (d.map bv) _ (HRD.out w3 HB3.out) Tryz.underlying29 rfl HLD.out ?_)
          | (go_at_call 155; (with_reducible refine (HBT.out _).mono ?_); rintro e w4 ⟨rfl, hb⟩; have HX4 := Lib.hid (HX3.out.below hb HX3.out.lt); have HW4 := Lib.hid (HW3.out.below_size hb); have HB4 := Lib.hid (HB3.out.trans (hb.mono HB3.out.size)); clear hb))
        obtain ⟨w5, hw5⟩ : ∃ W, W = w4.drew := ⟨_, rfl⟩
        have HW5 : Hid (Wr w5 w1.heap.size w1.heap.size (bothsT d op sh k)) := by rw [hw5]; exact HW4.out.below_size (Below.refl _ _).drew
        have HX5 : Hid (Box w5 w2.heap.size 29 (h1.map bv).toArray) := by rw [hw5]; exact HX4.out.drew
        have HB5 : Hid (Below w1.heap.size w1 w5) := by rw [hw5]; exact HB4.out.drew
        have hbs := HBS.out h1 y w5 HM.out HY1.out
        have HWD2 := Lib.hid (HWD.out w5 h1 y HM.out HY1.out HW5.out)
        have HF6 : Hid (Below w5.heap.size w5 (w5.alloc (.cells (([h1, y] : List (List UInt8)).flatten.map bv).toArray 29))) := (Below.refl _ _).alloc (Nat.le_refl _) _
        generalize (([h1, y] : List (List UInt8)).flatten.map bv).toArray = Z at *
        have HS5 : Hid (Below w1.heap.size w1 w4.drew ∧ Box w4.drew w2.heap.size 29 (h1.map bv).toArray) := by rw [← hw5]; exact ⟨HB5.out, HX5.out⟩
        refine wp_region_held_drew (S := fun w' => Below w1.heap.size w1 w' ∧ Box w' w2.heap.size 29 (h1.map bv).toArray) (by kernel_rfl) HS5.out (fun hS => ?_)
        rw [← hw5]
        rw [← hw5] at hS
        clear HS5 hw5
        (refine wpAnyH_take (i := 0) (v := .agg (h1.map bv).toArray) rfl (by kernel_rfl) (by kernel_rfl) (by kernel_rfl) (fun _ _ _ h => h) (yieldsIf_load_mid (by kernel_rfl) 29 (.tmp 8) rfl w2.heap.size (0) (by kernel_rfl) (h1.map bv) _ (fun w h => h.2.range) hund rfl HNX.out) hS ?_)
        (try simp only [Act.put])
        (refine wpAnyH_take (i := 1) (v := .pointer (some ⟨w.heap.size + 1, 1, none⟩)) rfl (by kernel_rfl) (by kernel_rfl) (by kernel_rfl) (fun _ _ _ h => h) (Or.inl ⟨by kernel_rfl, fun w hSw => by go_simp⟩) hS ?_)
        (try simp only [Act.put])
        (refine wpAnyH_take (i := 2) (v := .slice (some ⟨g2, o2, none⟩) 32 c') rfl (by kernel_rfl) (by kernel_rfl) (by kernel_rfl) (fun _ _ _ h => h) (Or.inl ⟨by kernel_rfl, fun w hSw => by have hc := (HSX.out w hSw.1).2; go_simp⟩) hS ?_)
        (try simp only [Act.put])
        (refine wpAnyH_take (i := 3) (v := .int .i64 (k : Int)) rfl (by kernel_rfl) (by kernel_rfl) (by kernel_rfl) (fun _ _ _ h => h) (Or.inl ⟨by kernel_rfl, fun w hSw => by go_simp⟩) hS ?_)
        (try simp only [Act.put])
        (refine wpAnyH_take (i := 4) (v := .pointer (some ⟨g2, ob, none⟩)) rfl (by kernel_rfl) (by kernel_rfl) (by kernel_rfl) (fun _ _ _ h => h) (Or.inl ⟨by kernel_rfl, fun w hSw => by go_simp⟩) hS ?_)
        (try simp only [Act.put])
        (refine wpAnyH_take (i := 5) (v := .agg (y.map bv).toArray) rfl (by kernel_rfl) (by kernel_rfl) (by kernel_rfl) (fun _ _ _ h => h) (yieldsIf_load_mid (by kernel_rfl) 29 (.tmp 37) rfl g2 (ob) (by kernel_rfl) (y.map bv) _ (fun w h => HRY.out w h.1) hund rfl hn2) hS ?_)
        (try simp only [Act.put])
        refine wpAnyH_ready (rs := [6]) (by decide +kernel) (by simp) (AllReadyH.cons rfl (fun K hK => ?_) AllReadyH.nil)
        go_simp
        refine hK.out _ _ ⟨HB5.out.trans (HF6.out.mono HB5.out.size), HX5.out.below HF6.out HX5.out.lt⟩ (fun hS => ?_)
        clear hK K
        (try simp only [Act.put])
        refine wpAnyH_ready (rs := [7]) (by decide +kernel) (by simp) (AllReadyH.cons rfl (fun K hK => ?_) AllReadyH.nil)
        go_simp
        (go_at_call 64; (with_reducible refine (HWD2.out).mono ?_); rintro e w7 ⟨rfl, hW7, hb7, hx7⟩)
        have HW7 : Hid (Wr w7 w1.heap.size w1.heap.size (bothsT d op sh (k + 1))) := by rw [HE0.out (by trivial)]; exact hW7
        have HB7 := Lib.hid (hS.1.trans hb7)
        refine hK.out _ _ ⟨HB7.out, hx7 _ _ HX5.out⟩ (fun hS => ?_)
        clear hK K hW7 hb7 hx7
        (try simp only [Act.put])
        refine wpAnyH_done (by kernel_rfl) ?_ _
        clear hS hbs hund HF6 HX5 HB5 HW5 HWD2 hoa hob c0
        go_wp2
        go_roundw
        case rel => exact ⟨k + 1, hlt, by go_num, HW7, HB7⟩
        case measure => simp [intOf]; omega
      · have hbz2 : ((b : Int) == 0) = false := by rw [beq_eq_false_iff_ne]; omega
        go_upto_region 10 with (first
          | ((with_reducible show wpList _ _ _ ((⟨some 27, _, _, _, _, _⟩ : Oper) :: _) _ _); refine wpList_load_mid rfl 29 (.tmp 26) rfl g1 oa rfl (x.map bv) _ (HRX.out wr HB.out) Tryz.underlying29 rfl HLX.out ?_)
          | (go_at_call 154; (with_reducible refine (HH.out _ HB.out).mono ?_); rintro e w2 ⟨rfl, hb⟩; have HW2 := Lib.hid (HW.out.below_size hb); have HB2 := Lib.hid (HB.out.trans (hb.mono HB.out.size)); clear hb)
          | (((with_reducible show wpList _ _ _ ((⟨none, Op.store _ (.tmp 8) (.tmp 28), _, _, _, _⟩ : Oper) :: _) _ _)); refine wpList_store_box rfl 29 (.tmp 8) (.tmp 28) rfl w2.heap.size (h1.map bv).toArray rfl rfl 29 zs32 (Box.made w2 _ _) HSM.out HSZ.out (bv_one _) ?_; intro w3 hb3 hg3; have HX3 := Lib.hid hb3; have hbl := ((Below.refl w2.heap.size w2).alloc (Nat.le_refl _) (.cells zs32 29)).trans (below_only hg3 (Nat.le_refl _) (by simp)); have HW3 := Lib.hid (HW2.out.below_size hbl); have HB3 := Lib.hid (HB2.out.trans (hbl.mono HB2.out.size)); clear hb3 hg3 hbl)
          | ((with_reducible show wpList _ _ _ ((⟨some 29, _, _, _, _, _⟩ : Oper) :: _) _ _); refine wpList_load_mid rfl 29 (.tmp 2) rfl w.heap.size 0 rfl (d.map bv) _ (HRD.out w3 HB3.out) Tryz.underlying29 rfl HLD.out ?_)
          | (go_at_call 155; (with_reducible refine (HBT.out _).mono ?_); rintro e w4 ⟨rfl, hb⟩; have HX4 := Lib.hid (HX3.out.below hb HX3.out.lt); have HW4 := Lib.hid (HW3.out.below_size hb); have HB4 := Lib.hid (HB3.out.trans (hb.mono HB3.out.size)); clear hb))
        obtain ⟨w5, hw5⟩ : ∃ W, W = w4.drew := ⟨_, rfl⟩
        have HW5 : Hid (Wr w5 w1.heap.size w1.heap.size (bothsT d op sh k)) := by rw [hw5]; exact HW4.out.below_size (Below.refl _ _).drew
        have HX5 : Hid (Box w5 w2.heap.size 29 (h1.map bv).toArray) := by rw [hw5]; exact HX4.out.drew
        have HB5 : Hid (Below w1.heap.size w1 w5) := by rw [hw5]; exact HB4.out.drew
        have hbs := HBS.out y h1 w5 HY1.out HM.out
        have HWD2 := Lib.hid (HWD.out w5 y h1 HY1.out HM.out HW5.out)
        have HF6 : Hid (Below w5.heap.size w5 (w5.alloc (.cells (([y, h1] : List (List UInt8)).flatten.map bv).toArray 29))) := (Below.refl _ _).alloc (Nat.le_refl _) _
        generalize (([y, h1] : List (List UInt8)).flatten.map bv).toArray = Z at *
        have HS5 : Hid (Below w1.heap.size w1 w4.drew ∧ Box w4.drew w2.heap.size 29 (h1.map bv).toArray) := by rw [← hw5]; exact ⟨HB5.out, HX5.out⟩
        refine wp_region_held_drew (S := fun w' => Below w1.heap.size w1 w' ∧ Box w' w2.heap.size 29 (h1.map bv).toArray) (by kernel_rfl) HS5.out (fun hS => ?_)
        rw [← hw5]
        rw [← hw5] at hS
        clear HS5 hw5
        (refine wpAnyH_take (i := 0) (v := .pointer (some ⟨w.heap.size + 1, 1, none⟩)) rfl (by kernel_rfl) (by kernel_rfl) (by kernel_rfl) (fun _ _ _ h => h) (Or.inl ⟨by kernel_rfl, fun w hSw => by go_simp⟩) hS ?_)
        (try simp only [Act.put])
        (refine wpAnyH_take (i := 1) (v := .slice (some ⟨g2, o2, none⟩) 32 c') rfl (by kernel_rfl) (by kernel_rfl) (by kernel_rfl) (fun _ _ _ h => h) (Or.inl ⟨by kernel_rfl, fun w hSw => by have hc := (HSX.out w hSw.1).2; go_simp⟩) hS ?_)
        (try simp only [Act.put])
        (refine wpAnyH_take (i := 2) (v := .int .i64 (k : Int)) rfl (by kernel_rfl) (by kernel_rfl) (by kernel_rfl) (fun _ _ _ h => h) (Or.inl ⟨by kernel_rfl, fun w hSw => by go_simp⟩) hS ?_)
        (try simp only [Act.put])
        (refine wpAnyH_take (i := 3) (v := .pointer (some ⟨g2, ob, none⟩)) rfl (by kernel_rfl) (by kernel_rfl) (by kernel_rfl) (fun _ _ _ h => h) (Or.inl ⟨by kernel_rfl, fun w hSw => by go_simp⟩) hS ?_)
        (try simp only [Act.put])
        (refine wpAnyH_take (i := 4) (v := .agg (y.map bv).toArray) rfl (by kernel_rfl) (by kernel_rfl) (by kernel_rfl) (fun _ _ _ h => h) (yieldsIf_load_mid (by kernel_rfl) 29 (.tmp 44) rfl g2 (ob) (by kernel_rfl) (y.map bv) _ (fun w h => HRY.out w h.1) hund rfl hn2) hS ?_)
        (try simp only [Act.put])
        (refine wpAnyH_take (i := 5) (v := .agg (h1.map bv).toArray) rfl (by kernel_rfl) (by kernel_rfl) (by kernel_rfl) (fun _ _ _ h => h) (yieldsIf_load_mid (by kernel_rfl) 29 (.tmp 8) rfl w2.heap.size (0) (by kernel_rfl) (h1.map bv) _ (fun w h => h.2.range) hund rfl HNX.out) hS ?_)
        (try simp only [Act.put])
        refine wpAnyH_ready (rs := [6]) (by decide +kernel) (by simp) (AllReadyH.cons rfl (fun K hK => ?_) AllReadyH.nil)
        go_simp
        refine hK.out _ _ ⟨HB5.out.trans (HF6.out.mono HB5.out.size), HX5.out.below HF6.out HX5.out.lt⟩ (fun hS => ?_)
        clear hK K
        (try simp only [Act.put])
        refine wpAnyH_ready (rs := [7]) (by decide +kernel) (by simp) (AllReadyH.cons rfl (fun K hK => ?_) AllReadyH.nil)
        go_simp
        (go_at_call 64; (with_reducible refine (HWD2.out).mono ?_); rintro e w7 ⟨rfl, hW7, hb7, hx7⟩)
        have HW7 : Hid (Wr w7 w1.heap.size w1.heap.size (bothsT d op sh (k + 1))) := by rw [HE1.out hbz]; exact hW7
        have HB7 := Lib.hid (hS.1.trans hb7)
        refine hK.out _ _ ⟨HB7.out, hx7 _ _ HX5.out⟩ (fun hS => ?_)
        clear hK K hW7 hb7 hx7
        (try simp only [Act.put])
        refine wpAnyH_done (by kernel_rfl) ?_ _
        clear hS hbs hund HF6 HX5 HB5 HW5 HWD2 hoa hob c0
        go_wp2
        go_roundw
        case rel => exact ⟨k + 1, hlt, by go_num, HW7, HB7⟩
        case measure => simp [intOf]; omega
    · obtain rfl : k = 32 := by omega
      have HBL : Hid ((bothsT d op sh 32).length = 2048) := by
        show _ = _
        rw [bothsT_len HSA.out 32 (by rw [HYL.out]; exact Nat.le_refl _)]
      have HBY : Hid (Calls Tryz.prog 14 #[.pointer (some ⟨w1.heap.size, 0, none⟩)] wr (BytesIs wr (bothsT d op sh 32))) := bytes_any _ _ _ _ HW.out (by rw [HBL.out]; decide)
      have HQL : Hid ((ofT d op sh).length = 32) := Lib.hid rfl
      have HOF : Hid (∀ W' A, Below w1.heap.size w1 W' → Pieces W' W'.heap.size A [bothsT d op sh 32] → Calls Tryz.prog 53 #[.slice A 1 1] W' fun e w'' => e = .returned (.agg ((ofT d op sh).map bv).toArray) ∧ Below W'.heap.size W' w'') := fun W' A hb hp => by
        have h := of_any [bothsT d op sh 32] A 1 W' hp (by simp) (by rw [show ([bothsT d op sh 32] : List (List UInt8)).flatten = bothsT d op sh 32 by simp, HBL.out]; decide) (HR.out.of_below hb)
        rw [show ([bothsT d op sh 32] : List (List UInt8)).flatten = bothsT d op sh 32 by simp, ← HQ.out] at h
        exact h
      clear HW hlt HQ HBL
      generalize bothsT d op sh 32 = bs at *
      generalize hq : ofT d op sh = q at *
      have HQ := Lib.hid hq
      clear hq
      have HSM := Lib.hid (dig_same q HQL.out)
      have HSZ := Lib.hid (dig_size q HQL.out)
      go_wp2_with (first
        | (go_at_call 14; (with_reducible refine (HBY.out).mono ?_); rintro e w2 ⟨A, c, rfl, hc1, hc2, hsee, hb⟩; have HP := Lib.hid (one_made (t := 45) hsee hc1 hc2); have HB2 := Lib.hid (HB.out.trans (hb.mono HB.out.size)); have HB3 := Lib.hid (HB2.out.alloc HB2.out.size (.cells #[.slice A bs.length c] 45)); clear hc1 hc2 hsee hb)
        | (go_at_call 53; (with_reducible refine (HOF.out _ _ HB3.out HP.out).mono ?_); rintro e w6 ⟨rfl, hb⟩; have HB6 := Lib.hid (HB3.out.trans (hb.mono HB3.out.size)); clear hb)
        | (((with_reducible show wpList _ _ _ ((⟨none, Op.store _ (.tmp 4) (.tmp 52), _, _, _, _⟩ : Oper) :: _) _ _)); refine wpList_store_box rfl 29 (.tmp 4) (.tmp 52) rfl (w.heap.size + 1 + 1) (q.map bv).toArray rfl rfl 29 zs32 (HO.out.below HB6.out HO.out.lt) HSM.out HSZ.out (bv_one _) ?_; intro w7 hb7 hg7))
      exact ret_dig_tmp rfl rfl rfl rfl hb7 HSZ.out ⟨by rw [HQ.out]; rfl, (HF.out.trans (HB6.out.mono HF.out.size)).trans (below_only hg7 (by omega) (HF.out.trans (HB6.out.mono HF.out.size)).size)⟩

end Go.Proofs.YtbclepdcngaonaaGreatDoor
