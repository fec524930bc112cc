/-
  Keys in order: bytes.Compare, cmp.Compare, cmp.Or of two, ring.order.
-/
import Derived.Test.YtojgmdagamdcfaaGreatDoorRiKey
import Derived.Lib.Bytealg
import Derived.Lib.Small
import Derived.Laws.Externs
import Derived.Sort.Grow
import Derived.Deep.RegionHeld3
import Derived.LoopN
namespace Go.Proofs.YtojgmdagamdcfaaGreatDoor
open Go.RowKit

set_option maxRecDepth 100000 in
theorem load_bytes {P : Program} (w : World) : ∀ (l : List UInt8) (g o : Nat) (acc : ByteArray), (∀ j u, (l.map bv)[j]? = some u → w.cell? ⟨g, o + j, none⟩ = some u) → (Extern.Bytes.loadBytes ⟨g, o, none⟩ l.length acc).run P w = .ok ⟨acc.data ++ l.toArray⟩ w
  | [], _, _, acc, _ => by simp [Extern.Bytes.loadBytes]
  | b :: l, g, o, acc, h => by
    have h0 : w.cell? ⟨g, o, none⟩ = some (.int .u8 (b.toNat : Int)) := h 0 _ rfl
    have ih := load_bytes (P := P) w l g (o + 1) (acc.push b) (fun j u hu => by
      have := h (j + 1) u (by simpa using hu)
      rw [show o + 1 + j = o + (j + 1) by omega]
      exact this)
    have hb : ((b.toNat : Int)).toNat.toUInt8 = b := by simp
    have ha : (⟨g, o, none⟩ : Addr).add 1 = ⟨g, o + 1, none⟩ := plain_add g o 1
    simp only [List.length_cons, Extern.Bytes.loadBytes, Sem.run_bind, run_load, h0, Result.andThen, hb, ha]
    rw [ih]
    congr 1
    apply ByteArray.ext
    simp [ByteArray.push]
set_option maxRecDepth 100000 in
theorem run_compareBytes {P : Program} (w : World) (g o g' o' c c' : Nat) (r s : List UInt8) (h1 : ∀ j u, (r.map bv)[j]? = some u → w.cell? ⟨g, o + j, none⟩ = some u) (h2 : ∀ j u, (s.map bv)[j]? = some u → w.cell? ⟨g', o' + j, none⟩ = some u) :
    (Extern.BytealgCompare.compare #[.slice (some ⟨g, o, none⟩) r.length c, .slice (some ⟨g', o', none⟩) s.length c']).run P w = .ok (.int .i64 (Lib.compareBytes r s)) w := by
  change Sem.run P (do pure (goInt (Extern.BytealgCompare.cmp (← Extern.Bytes.bytesOf (.slice (some ⟨g, o, none⟩) r.length c)) (← Extern.Bytes.bytesOf (.slice (some ⟨g', o', none⟩) s.length c'))))) w = _
  simp only [Extern.Bytes.bytesOf, Sem.run_bind, Sem.run_pure, load_bytes w r g o .empty h1, load_bytes w s g' o' .empty h2, Result.andThen]
  rw [Lib.cmp_eq]
  simp [goInt]

set_option maxRecDepth 100000 in
theorem bcompare_any (g o g' o' c c' : Nat) (r s : List UInt8) (w : World) (h1 : ∀ j u, (r.map bv)[j]? = some u → w.cell? ⟨g, o + j, none⟩ = some u) (h2 : ∀ j u, (s.map bv)[j]? = some u → w.cell? ⟨g', o' + j, none⟩ = some u) :
    Calls Tryz.prog 58 #[.slice (some ⟨g, o, none⟩) r.length c, .slice (some ⟨g', o', none⟩) s.length c'] w fun e w' => e = .returned (.int .i64 (Lib.compareBytes r s)) ∧ w' = w := by
  have hr := run_compareBytes (P := Tryz.prog) w g o g' o' c c' r s h1 h2
  clear h1 h2
  go_enter Tryz.func58, Tryz.ntmps58
  go_wp2
  rw [run_callFunc_extern Tryz.func87 (by kernel_rfl) (by kernel_rfl) (by kernel_rfl) (e := Extern.BytealgCompare.compare) (by kernel_rfl), hr]
  simp only [Result.andThen]
  rw [Oper.upon_value]
  go_wp2
  go_ret
  exact ⟨rfl, rfl⟩

set_option maxRecDepth 100000 in
theorem icompare_any (x y : Int) (w : World) : Calls Tryz.prog 59 #[.int .i64 x, .int .i64 y] w fun e w' => e = .returned (.int .i64 (Lib.compareInt x y)) ∧ w' = w := by
  go_enter Tryz.func59, Tryz.ntmps59
  go_wp2
  all_goals (go_ret; refine ⟨?_, rfl⟩; unfold Lib.compareInt; (repeat' split) <;> first | rfl | (exfalso; omega))

set_option maxRecDepth 100000 in
theorem cor_any (g c : Nat) (x y : Int) (w : World) (c0 : w.cell? ⟨g, 0, none⟩ = some (.int .i64 x)) (c1 : w.cell? ⟨g, 1, none⟩ = some (.int .i64 y)) :
    Calls Tryz.prog 57 #[.slice (some ⟨g, 0, none⟩) 2 c] w fun e w' => e = .returned (.int .i64 (if x = 0 then y else x)) ∧ w' = w := by
  by_cases hx : x = 0
  · subst hx
    by_cases hy : y = 0
    · subst hy
      go_enter Tryz.func57, Tryz.ntmps57
      go_wp2
      refine wp_loop_rounds 3 ?_
      rw [rounds_succ]
      go_wp2
      rw [rounds_succ]
      go_wp2
      rw [rounds_succ]
      go_wp2
      go_ret
      exact ⟨rfl, rfl⟩
    · have h1 : (y == 0) = false := by simpa using hy
      go_enter Tryz.func57, Tryz.ntmps57
      go_wp2
      refine wp_loop_rounds 3 ?_
      rw [rounds_succ]
      go_wp2
      rw [rounds_succ]
      go_wp2
      go_ret
      exact ⟨rfl, rfl⟩
  · have h1 : (x == 0) = false := by simpa using hx
    go_enter Tryz.func57, Tryz.ntmps57
    go_wp2
    refine wp_loop_rounds 3 ?_
    rw [rounds_succ]
    go_wp2
    go_ret
    exact ⟨rfl, rfl⟩

/-- How two keys stand. -/
def cmpKey (r : List UInt8) (h : Int) (s : List UInt8) (k : Int) : Int := if Lib.compareBytes r s = 0 then Lib.compareInt h k else Lib.compareBytes r s

set_option maxRecDepth 100000 in
set_option maxHeartbeats 1000000 in
theorem order_any (r s : List UInt8) (h k : Int) (hr : r.length = 32) (hs : s.length = 32) (w : World) :
    Calls Tryz.prog 37 #[.agg (keyV r h), .agg (keyV s k)] w fun e w' => e = .returned (.int .i64 (cmpKey r h s k)) ∧ ∃ q os, w' = Go.Sort.grow (w.drewN q) os := by
  obtain ⟨w1, hw1⟩ : ∃ w1, w1 = (w.alloc (.cells (keyV r h) 37)).alloc (.cells (keyV s k) 37) := ⟨_, rfl⟩
  have HX : Hid (Box w1 w.heap.size 37 (keyV r h)) := by
    rw [hw1]
    exact (Box.made w _ _).alloc _
  have HY : Hid (Box w1 (w.heap.size + 1) 37 (keyV s k)) := by
    rw [hw1]
    exact Box.made_at (by simp) _ _
  have HG : Hid (w1 = Go.Sort.grow w #[.cells (keyV r h) 37, .cells (keyV s k) 37]) := by
    rw [hw1, Go.Sort.alloc_eq_grow, Go.Sort.alloc_eq_grow, Go.Sort.grow_grow]
    rfl
  have HB : Hid (∀ w', Box w' w.heap.size 37 (keyV r h) → Box w' (w.heap.size + 1) 37 (keyV s k) → Calls Tryz.prog 58 #[.slice (some ⟨w.heap.size, 0, none⟩) 32 32, .slice (some ⟨w.heap.size + 1, 0, none⟩) 32 32] w' fun e w'' => e = .returned (.int .i64 (Lib.compareBytes r s)) ∧ w'' = w') := fun w' hx hy => by
    have hb := bcompare_any w.heap.size 0 (w.heap.size + 1) 0 32 32 r s w' (fun j u hu => by
      rw [Nat.zero_add, hx.cell]
      have hj := (List.getElem?_eq_some_iff.1 hu).1
      unfold keyV keyL
      rw [List.getElem?_toArray, List.getElem?_append_left hj]
      exact hu) (fun j u hu => by
      rw [Nat.zero_add, hy.cell]
      have hj := (List.getElem?_eq_some_iff.1 hu).1
      unfold keyV keyL
      rw [List.getElem?_toArray, List.getElem?_append_left hj]
      exact hu)
    rw [hr, hs] at hb
    exact hb
  have HC : Hid (∀ (w' : World), Box w' w.heap.size 37 (keyV r h) → Box w' (w.heap.size + 1) 37 (keyV s k) → w'.cell? ⟨w.heap.size, 32, none⟩ = some (.int .i64 h) ∧ w'.cell? ⟨w.heap.size + 1, 32, none⟩ = some (.int .i64 k)) := fun w' hx hy => by
    rw [hx.cell, hy.cell]
    unfold keyV keyL
    rw [List.getElem?_toArray, List.getElem?_append_right (by simp [hr]), List.getElem?_toArray, List.getElem?_append_right (by simp [hs])]
    simp [hr, hs]
  clear hr hs
  go_enter Tryz.func37, Tryz.ntmps37
  go_upto_region 1 with fail
  change Code.wp _ _ _ _ ((w.alloc (.cells (keyV r h) 37)).alloc (.cells (keyV s k) 37))
  rw [← hw1]
  clear hw1
  have HXd : Hid (Box w1.drew w.heap.size 37 (keyV r h)) := HX
  have HYd : Hid (Box w1.drew (w.heap.size + 1) 37 (keyV s k)) := HY
  have HGd : Hid (w1.drew = Go.Sort.grow (w.drewN 1) #[.cells (keyV r h) 37, .cells (keyV s k) 37]) := by
    rw [HG.out]
    rfl
  clear HX HY HG
  refine wp_region_held_drew (S := fun w' => Box w' w.heap.size 37 (keyV r h) ∧ Box w' (w.heap.size + 1) 37 (keyV s k)) (by kernel_rfl) ⟨HXd.out, HYd.out⟩ (fun hS => ?_)
  generalize w1.drew = w2 at *
  (refine wpAnyH_take (i := 0) (v := .pointer (some ⟨w.heap.size, 0, none⟩)) rfl (by kernel_rfl) (by kernel_rfl) (by kernel_rfl) (fun _ _ _ h => h) (Or.inl ⟨by kernel_rfl, fun w hSw => by go_simp⟩) hS ?_)
  (try simp only [Act.put])
  (refine wpAnyH_take (i := 1) (v := .slice (some ⟨w.heap.size, 0, none⟩) 32 32) rfl (by kernel_rfl) (by kernel_rfl) (by kernel_rfl) (fun _ _ _ h => h) (Or.inl ⟨by kernel_rfl, fun w hSw => by go_simp⟩) hS ?_)
  (try simp only [Act.put])
  (refine wpAnyH_take (i := 2) (v := .pointer (some ⟨w.heap.size + 1, 0, none⟩)) rfl (by kernel_rfl) (by kernel_rfl) (by kernel_rfl) (fun _ _ _ h => h) (Or.inl ⟨by kernel_rfl, fun w hSw => by go_simp⟩) hS ?_)
  (try simp only [Act.put])
  (refine wpAnyH_take (i := 3) (v := .slice (some ⟨w.heap.size + 1, 0, none⟩) 32 32) rfl (by kernel_rfl) (by kernel_rfl) (by kernel_rfl) (fun _ _ _ h => h) (Or.inl ⟨by kernel_rfl, fun w hSw => by go_simp⟩) hS ?_)
  (try simp only [Act.put])
  (refine wpAnyH_take (i := 5) (v := .pointer (some ⟨w.heap.size, 32, none⟩)) rfl (by kernel_rfl) (by kernel_rfl) (by kernel_rfl) (fun _ _ _ h => h) (Or.inl ⟨by kernel_rfl, fun w hSw => by go_simp⟩) hS ?_)
  (try simp only [Act.put])
  (refine wpAnyH_take (i := 6) (v := .int .i64 h) rfl (by kernel_rfl) (by kernel_rfl) (by kernel_rfl) (fun _ _ _ h => h) (Or.inl ⟨by kernel_rfl, fun w hSw => by have hc := (HC.out _ hSw.1 hSw.2).1; go_simp⟩) hS ?_)
  (try simp only [Act.put])
  (refine wpAnyH_take (i := 7) (v := .pointer (some ⟨w.heap.size + 1, 32, none⟩)) rfl (by kernel_rfl) (by kernel_rfl) (by kernel_rfl) (fun _ _ _ h => h) (Or.inl ⟨by kernel_rfl, fun w hSw => by go_simp⟩) hS ?_)
  (try simp only [Act.put])
  (refine wpAnyH_take (i := 8) (v := .int .i64 k) rfl (by kernel_rfl) (by kernel_rfl) (by kernel_rfl) (fun _ _ _ h => h) (Or.inl ⟨by kernel_rfl, fun w hSw => by have hc := (HC.out _ hSw.1 hSw.2).2; go_simp⟩) hS ?_)
  (try simp only [Act.put])
  refine wpAnyH_ready (rs := [4]) (by decide +kernel) (by simp) (AllReadyH.cons rfl (fun K hK => ?_) AllReadyH.nil)
  go_simp
  (go_at_call 58; (with_reducible refine (HB.out _ hS.1 hS.2).mono ?_); rintro e w3 ⟨rfl, rfl⟩)
  refine hK.out _ _ (hS) (fun hS => ?_)
  clear hK K
  (try simp only [Act.put])
  refine wpAnyH_ready (rs := [9]) (by decide +kernel) (by simp) (AllReadyH.cons rfl (fun K hK => ?_) AllReadyH.nil)
  go_simp
  (go_at_call 59; (with_reducible refine (icompare_any h k _).mono ?_); rintro e w4 ⟨rfl, rfl⟩)
  refine hK.out _ _ (hS) (fun hS => ?_)
  clear hK K
  (try simp only [Act.put])
  refine wpAnyH_ready (rs := [10]) (by decide +kernel) (by simp) (AllReadyH.cons rfl (fun K hK => ?_) AllReadyH.nil)
  go_simp
  obtain ⟨w5, hw5⟩ : ∃ w5, w5 = w4.alloc (.cells #[.int .i64 (Lib.compareBytes r s), .int .i64 (Lib.compareInt h k)] 3) := ⟨_, rfl⟩
  have HX5 : Hid (Box w5 w.heap.size 37 (keyV r h)) := by
    rw [hw5]
    exact hS.1.alloc _
  have HY5 : Hid (Box w5 (w.heap.size + 1) 37 (keyV s k)) := by
    rw [hw5]
    exact hS.2.alloc _
  have HZ5 : Hid (Box w5 w4.heap.size 3 #[.int .i64 (Lib.compareBytes r s), .int .i64 (Lib.compareInt h k)]) := by
    rw [hw5]
    exact Box.made _ _ _
  have HG5 : Hid (∃ q os, w5 = Go.Sort.grow (w.drewN q) os) := by
    rw [hw5, HGd.out, Go.Sort.alloc_eq_grow, Go.Sort.grow_grow]
    exact ⟨_, _, rfl⟩
  have HO5 : Hid (Calls Tryz.prog 57 #[.slice (some ⟨w4.heap.size, 0, none⟩) 2 2] w5 fun e w' => e = .returned (.int .i64 (cmpKey r h s k)) ∧ w' = w5) := Lib.hid (cor_any w4.heap.size 2 (Lib.compareBytes r s) (Lib.compareInt h k) w5 (HZ5.out.cell 0) (HZ5.out.cell 1))
  rw [← hw5]
  clear hw5
  refine hK.out _ _ (⟨HX5.out, HY5.out⟩) (fun hS => ?_)
  clear hK K
  (try simp only [Act.put])
  refine wpAnyH_ready (rs := [11]) (by decide +kernel) (by simp) (AllReadyH.cons rfl (fun K hK => ?_) AllReadyH.nil)
  go_simp
  (go_at_call 57; (with_reducible refine (HO5.out).mono ?_); rintro e w6 ⟨rfl, rfl⟩)
  refine hK.out _ _ (hS) (fun hS => ?_)
  clear hK K
  (try simp only [Act.put])
  refine wpAnyH_ready (rs := [12]) (by decide +kernel) (by simp) (AllReadyH.cons rfl (fun K hK => ?_) AllReadyH.nil)
  go_simp
  refine hK.out _ _ (hS) (fun hS => ?_)
  clear hK K
  (try simp only [Act.put])
  refine wpAnyH_done (by kernel_rfl) ?_ _
  clear hS
  go_wp2
  go_ret
  exact ⟨rfl, HG5.out⟩

set_option maxRecDepth 100000 in
theorem compareBytes_self : ∀ r : List UInt8, Lib.compareBytes r r = 0
  | [] => rfl
  | b :: r => by
    unfold Lib.compareBytes
    rw [if_neg (UInt8.lt_irrefl b), if_neg (UInt8.lt_irrefl b)]
    exact compareBytes_self r
set_option maxRecDepth 100000 in
theorem compareBytes_eq : ∀ {r s : List UInt8}, Lib.compareBytes r s = 0 → r = s
  | [], [], _ => rfl
  | [], _ :: _, h => by simp [Lib.compareBytes] at h
  | _ :: _, [], h => by simp [Lib.compareBytes] at h
  | a :: r, b :: s, h => by
    unfold Lib.compareBytes at h
    by_cases h1 : a < b
    · rw [if_pos h1] at h
      cases h
    · rw [if_neg h1] at h
      by_cases h2 : b < a
      · rw [if_pos h2] at h
        cases h
      · rw [if_neg h2] at h
        rw [compareBytes_eq h, UInt8.le_antisymm (UInt8.not_lt.1 h2) (UInt8.not_lt.1 h1)]
set_option maxRecDepth 100000 in
theorem compareBytes_swap : ∀ r s : List UInt8, Lib.compareBytes s r = - Lib.compareBytes r s
  | [], [] => rfl
  | [], _ :: _ => rfl
  | _ :: _, [] => rfl
  | a :: r, b :: s => by
    unfold Lib.compareBytes
    by_cases h1 : a < b
    · rw [if_pos h1, if_neg (fun h2 => UInt8.lt_irrefl a (UInt8.lt_trans h1 h2)), if_pos h1]
      rfl
    · by_cases h2 : b < a
      · rw [if_pos h2, if_neg h1, if_pos h2]
      · rw [if_neg h2, if_neg h1, if_neg h1, if_neg h2]
        exact compareBytes_swap r s
set_option maxRecDepth 100000 in
theorem compareBytes_trans : ∀ {r s t : List UInt8}, Lib.compareBytes r s < 0 → Lib.compareBytes s t < 0 → Lib.compareBytes r t < 0
  | [], [], _, h, _ => by simp [Lib.compareBytes] at h
  | [], _ :: _, [], _, h => by simp [Lib.compareBytes] at h
  | [], _ :: _, _ :: _, _, _ => by simp [Lib.compareBytes]
  | _ :: _, [], _, h, _ => by simp [Lib.compareBytes] at h
  | _ :: _, _ :: _, [], _, h => by simp [Lib.compareBytes] at h
  | a :: r, b :: s, c :: t, h, k => by
    unfold Lib.compareBytes at h k ⊢
    by_cases h1 : a < b
    · by_cases k1 : b < c
      · rw [if_pos (UInt8.lt_trans h1 k1)]
        decide
      · rw [if_neg k1] at k
        by_cases k2 : c < b
        · rw [if_pos k2] at k
          simp at k
        · obtain rfl := UInt8.le_antisymm (UInt8.not_lt.1 k2) (UInt8.not_lt.1 k1)
          rw [if_pos h1]
          decide
    · rw [if_neg h1] at h
      by_cases h2 : b < a
      · rw [if_pos h2] at h
        simp at h
      · rw [if_neg h2] at h
        obtain rfl := UInt8.le_antisymm (UInt8.not_lt.1 h2) (UInt8.not_lt.1 h1)
        by_cases k1 : a < c
        · rw [if_pos k1]
          decide
        · rw [if_neg k1] at k ⊢
          by_cases k2 : c < a
          · rw [if_pos k2] at k
            simp at k
          · rw [if_neg k2] at k ⊢
            exact compareBytes_trans h k
set_option maxRecDepth 100000 in
theorem cmpKey_neg (r : List UInt8) (h : Int) (s : List UInt8) (k : Int) : cmpKey r h s k < 0 ↔ Lib.compareBytes r s < 0 ∨ (r = s ∧ h < k) := by
  unfold cmpKey
  constructor
  · intro hc
    split at hc
    · rename_i h0
      refine .inr ⟨compareBytes_eq h0, ?_⟩
      unfold Lib.compareInt at hc
      split at hc
      · assumption
      · split at hc <;> simp at hc
    · exact .inl hc
  · rintro (hc | ⟨rfl, hc⟩)
    · rw [if_neg (by omega)]
      exact hc
    · rw [if_pos (compareBytes_self r)]
      unfold Lib.compareInt
      rw [if_pos hc]
      decide
end Go.Proofs.YtojgmdagamdcfaaGreatDoor
