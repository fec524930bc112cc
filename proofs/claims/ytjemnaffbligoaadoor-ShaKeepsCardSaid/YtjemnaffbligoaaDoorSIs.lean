/-
  ShaIs, the walk: for every input the law returns true, and nothing that was there is turned.
-/
import Derived.Test.YtjemnaffbligoaaDoorSAlive
import Derived.Test.YtjemnaffbligoaaDoorSKit2
namespace Go.Proofs.YtjemnaffbligoaaDoor
open Go.RowKit

theorem own_slice {w : World} {base n : Nat} {e : TypeId} {v : Value} {xs : List Value} (h : w.ownsRow base e 1 v n xs) : ∃ A c, v = .slice A n c := by
  rcases h.2 with ⟨h1, h2⟩ | ⟨g, cap, cur, h1, _⟩
  · refine ⟨none, 0, ?_⟩
    have : n = 0 := by have := h.1; rw [h2] at this; simp at this; omega
    rw [h1, this]
  · exact ⟨_, _, h1⟩
/-- append of what is seen onto an owned row that may be nil: for the walk. -/
theorem wpList_append_maybe {P : Program} {w : World} {ops : Array Oper} {rest : List Oper} {o : Oper} {a : Act} {Q : Exit → Act → World → Prop} (hgd : o.guard = none) (s x : Operand) (t : TypeId)
    (ho : o.op = .call { callee := .builtin .append, args := #[s, x], argTypes := #[t, t] })
    (base : Nat) (e : TypeId) (i : TypeInfo) (z : Value) (ht : P.underlying t = some (.slice e)) (hi : P.info? e = some i) (hz : i.zero = some z)
    (hsize : i.size = 1) (hby : i.bytes = 1) (hzs : z.cells.size = 1)
    (v : Value) (n : Nat) (xs : List Value) (hs : a.eval s = v) (hown : w.ownsRow base e 1 v n xs)
    (B : Nat) (A : Option Addr) (m c : Nat) (news : List Value) (hx : a.eval x = .slice A m c) (hsee : Sees w B A news) (hl : news.length = m) (h1 : ∀ u ∈ news, u.oneCell' = true)
    (hb : n + m ≤ 70368744177664) (hbase : base ≤ w.heap.size)
    (h : ∀ v' w', w'.ownsRow base e 1 v' (n + m) (xs ++ news) → w.grownBy w' v.ownBlock → wpList P ops Q rest (a.put o.dst v') w') : wpList P ops Q (o :: rest) a w := by
  have some_case : ∀ ad : Addr, A = some ad → (∀ j u, news[j]? = some u → w.cell? (ad.add j) = some u) → wpList P ops Q (o :: rest) a w := by
    rintro ad rfl hn
    exact wpList_append_own w hgd s x t ho base e i z 1 1 ht hi hz hsize hby hzs (by omega) v n xs hs hown ad m c news hx (by omega) hn h1 (by unfold maxLen; omega) (by omega) hbase (fun v' w' h2 h3 _ => h v' w' h2 h3)
  rcases hsee with rfl | ⟨g, o', rfl, _, hc⟩
  · cases A with
    | some ad => exact some_case ad rfl (fun j u hu => by cases hu)
    | none =>
      simp only [List.length_nil] at hl
      subst hl
      refine wpList_plain hgd fun K hK => ?_
      have h0 := h v w (by simpa using hown) (only_refl _ _)
      rcases hown.2 with ⟨rfl, rfl⟩ | ⟨g, cap, cur, rfl, _, _, hnc, _⟩
      · have hrun : (Builtin.append_ #[t, t] o.type #[.slice none 0 0, .slice none 0 c]).run P w = .ok (.slice none 0 0) w := by
          simp [Builtin.append_, run_underlying ht, sizeOf, typeInfo, hi, Builtin.lenOf, Builtin.firstCells]
        unfold Oper.wp
        simp [execOp, ho, resolve, invoke, builtin, hs, hx, hrun, Result.andThen]
        exact hK _ _ h0
      · have hrun : (Builtin.append_ #[t, t] o.type #[.slice (some ⟨g, 0, none⟩) n cap, .slice none 0 c]).run P w = .ok (.slice (some ⟨g, 0, none⟩) n cap) w := by
          simp [Builtin.append_, run_underlying ht, sizeOf, typeInfo, hi, Builtin.lenOf, Builtin.firstCells, hnc, storeCells]
        unfold Oper.wp
        simp [execOp, ho, resolve, invoke, builtin, hs, hx, hrun, Result.andThen]
        exact hK _ _ h0
  · exact some_case _ rfl (fun j u hu => by rw [plain_add]; exact hc j u hu)

/-- What the walk of ShaIs carries of memory. -/
structure IsW (w0 w1 : World) (v : Value) (xs : List UInt8) (w : World) : Prop where
  own : w.ownsRow w1.heap.size 5 1 v xs.length (xs.map bv)
  far : Below w1.heap.size w1 w
  all : Below w0.heap.size w0 w

set_option maxRecDepth 100000 in
set_option maxHeartbeats 1000000 in
theorem is_walk (ps : List (List UInt8)) (A : Option Addr) (c : Nat) (w : World) (hp : Pieces w w.heap.size A ps) (hq : ∀ i (_ : i < ps.length), (ps.getD i []).length ≤ 140737488351232) (hR : Roots w) :
    Calls Tryd.prog 3 #[.slice A ps.length c] w fun e w' => e = .returned (.bool true) ∧ Below w.heap.size w w' := by
  have HAL := Lib.hid (alive_any w hR)
  have HR := Lib.hid hR
  have HP := Lib.hid hp
  obtain ⟨i0, hi0, hz0, hz1, hz2⟩ := info_parts w_byte_info
  have HQ := Lib.hid hq
  clear hR hp hq
  go_enter Tryd.func3, Tryd.ntmps3
  go_wp2_with (go_at_call 8; refine (HAL.out).mono ?_; rintro e w1 ⟨rfl, hB1⟩; have HB1 := Lib.hid hB1; clear hB1)
  have HP1 := Lib.hid ((HP.out.keep (w' := w1) (fun p hp => HB1.out.cell hp)).more HB1.out.size)
  have HW1 : Hid (IsW w w1 (.slice none 0 0) [] w1) := ⟨World.ownsRow_nil _ _ _ _, Below.refl _ _, HB1.out⟩
  clear HP HAL
  go_loopw [3, 10] (fun v i wr => ∃ (k n : Nat) (Aa : Option Addr) (ca : Nat) (xs : List UInt8), k ≤ ps.length ∧ i = .int .i64 k ∧ v = .slice Aa n ca ∧ n ≤ 8192 ∧ Hid (n = xs.length) ∧ Hid (k = 0 ∨ ps.length ≤ 200) ∧ Hid (xs = (ps.take k).flatten) ∧ Hid (IsW w w1 (.slice Aa n ca) xs wr)) (fun _ i _ => ps.length - (intOf i).toNat)
  case atStart => exact ⟨0, 0, none, 0, [], Nat.zero_le _, rfl, rfl, by decide, rfl, .inl rfl, rfl, HW1⟩
  case round =>
    clear HW1
    obtain ⟨k, n, Aa, ca, xs, hk, rfl, rfl, hn8, HN, HK, HXS, HW⟩ := hrel
    by_cases hlt : k < ps.length
    · obtain ⟨g1, o1, A', c', hA, hcell, hc1, hc2, hsee⟩ := (HP1.out.keep (w' := wr) (fun p hp => HW.out.far.cell hp)).at_ hlt
      have HSU := Lib.hid (flat_take_succ ps k hlt)
      have HA := Lib.hid hA
      have HC2 := Lib.hid hc2
      unfold maxLen at hc2
      have hql := HQ.out k hlt
      generalize ps.getD k [] = q at *
      subst hA
      have HSE := Lib.hid hsee
      clear hsee
      by_cases hbig : (8192 : Int) < (n : Int) + (q.length : Int)
      · go_wp2
        go_ret
        exact ⟨rfl, HW.out.all⟩
      · have hbig' : decide ((8192 : Int) < (n : Int) + (q.length : Int)) = false := by simpa using hbig
        by_cases h200 : (200 : Int) < (ps.length : Int)
        · go_wp2
          go_ret
          exact ⟨rfl, HW.out.all⟩
        · have h200' : decide ((200 : Int) < (ps.length : Int)) = false := by simpa using h200
          have HQL : Hid ((q.map bv).length = q.length) := List.length_map ..
          have HOW : Hid (wr.ownsRow w1.heap.size 5 1 (.slice Aa n ca) n (xs.map bv)) := by
            have h := HW.out.own
            rw [← HN.out] at h
            exact h
          go_wp2_with (((with_reducible show wpList _ _ _ ((⟨some 27, _, _, _, _, _⟩ : Oper) :: _) _ _)); refine wpList_append_maybe rfl (.tmp 25) (.tmp 26) 24 rfl w1.heap.size 5 i0 _ Tryd.underlying24 hi0 hz0 hz1 hz2 rfl (.slice Aa n ca) n (xs.map bv) rfl HOW.out w1.heap.size A' q.length c' (q.map bv) rfl HSE.out HQL.out (bv_one _) (by omega) HW.out.far.size ?_; intro v' w4 hown hgrow; obtain ⟨Aa2, ca2, rfl⟩ := own_slice hown; have HO4 := Lib.hid hown; have HG4 := Lib.hid hgrow; clear hown hgrow)
          have hxs : xs ++ q = (ps.take (k + 1)).flatten := by rw [HSU.out, HXS.out]
          have HXS2 := Lib.hid hxs
          have HW4 : Hid (IsW w w1 (.slice Aa2 (n + q.length) ca2) (xs ++ q) w4) := by
            have hlow : Below w1.heap.size wr w4 := by
              refine ⟨HG4.out.os, HG4.out.tape, HG4.out.output, HG4.out.size, fun b hb => HG4.out.block b (Nat.lt_of_lt_of_le hb HW.out.far.size) (fun e => ?_)⟩
              have := (HOW.out.lt b e.symm).1
              omega
            refine ⟨?_, HW.out.far.trans hlow, HW.out.all.trans (hlow.mono HB1.out.size)⟩
            rw [List.length_append, List.map_append, ← HN.out]
            exact HO4.out
          have HK2 : Hid (k + 1 = 0 ∨ ps.length ≤ 200) := .inr (by omega)
          have HN2 : Hid (n + q.length = (xs ++ q).length) := by
            show _ = _
            rw [List.length_append, HN.out]
          clear hxs HW HO4 HG4 HOW HQL HSE hcell h200' hbig' HK HXS HSU hc1
          go_wp2
          go_roundw
          case rel => exact ⟨k + 1, n + q.length, Aa2, ca2, xs ++ q, by omega, by go_num, rfl, by omega, HN2, HK2, HXS2, HW4⟩
          case measure => simp [intOf]; omega
    · obtain rfl : k = ps.length := by omega
      have hxs : xs = ps.flatten := by
        have := HXS.out
        rwa [List.take_length] at this
      have HXF := Lib.hid hxs
      have h200 : Hid (ps.length ≤ 200) := by
        show _ ≤ _
        rcases HK.out with h | h
        · omega
        · exact h
      have hn := HN.out
      have hsxs : Sees wr wr.heap.size Aa (xs.map bv) := by
        have h := HW.out.own
        rw [← hn] at h
        exact Sees.of_own h
      have HOF : Hid (∀ w5, Below wr.heap.size wr w5 → Calls Tryd.prog 9 #[.slice A ps.length c] w5 fun e w' => e = .returned (.agg ((shaOf xs).map bv).toArray) ∧ Below w5.heap.size w5 w') := by
        intro w5 hb5
        have hfar := HW.out.far.trans (hb5.mono HW.out.far.size)
        have h := of_any ps A c w5 ((HP1.out.keep (w' := w5) (fun p hp => hfar.cell hp)).more hfar.size) (by have := h200.out; omega) (by rw [← HXF.out]; omega) (HR.out.of_below (HW.out.all.trans (hb5.mono HW.out.all.size)))
        rw [← HXF.out] at h
        exact h
      have HRF : Hid (∀ w5, Below wr.heap.size wr w5 → Calls Tryd.prog 10 #[.slice Aa n ca] w5 fun e w' => e = .returned (.agg ((shaOf xs).map bv).toArray) ∧ Below w5.heap.size w5 w') := by
        intro w5 hb5
        have h := ref_any xs Aa ca w5 ((hsxs.below hb5).more hb5.size) (by omega)
        rw [← hn] at h
        exact h
      have HOO : Hid (∀ w5, Below wr.heap.size wr w5 → Calls Tryd.prog 9 #[.slice (some ⟨w5.heap.size, 0, none⟩) 1 1] (w5.alloc (.cells #[.slice Aa n ca] 24)) fun e w' => e = .returned (.agg ((shaOf xs).map bv).toArray) ∧ Below (w5.alloc (.cells #[.slice Aa n ca] 24)).heap.size (w5.alloc (.cells #[.slice Aa n ca] 24)) w') := by
        intro w5 hb5
        have hb6 : Below wr.heap.size wr (w5.alloc (.cells #[.slice Aa n ca] 24)) := hb5.alloc hb5.size _
        have hBV : Box (w5.alloc (.cells #[.slice Aa n ca] 24)) w5.heap.size 24 #[.slice Aa n ca] := Box.made _ _ _
        have hca : n ≤ ca ∧ ca ≤ maxLen := by
          rcases HW.out.own.2 with ⟨h, _⟩ | ⟨g, cap, cur, h, _, _, h1, h2, _⟩
          · injection h with e1 e2 e3
            exact ⟨by omega, by rw [e3]; simp [maxLen]⟩
          · injection h with e1 e2 e3
            subst e3
            exact ⟨by omega, h2⟩
        have h := of_any [xs] (some ⟨w5.heap.size, 0, none⟩) 1 _ (Pieces.one (by rw [← hn]; exact hBV) hBV.lt (by rw [← hn]; exact hca.1) hca.2 ((hsxs.below hb6).more hb6.size)) (by simp) (by simp; omega) (HR.out.of_below (HW.out.all.trans (hb6.mono HW.out.all.size)))
        have hfl : ([xs] : List (List UInt8)).flatten = xs := by simp
        rw [hfl] at h
        exact h
      have HALL := Lib.hid HW.out.all
      have hdl : (shaOf xs).length = 32 := rfl
      clear hsxs hn hxs HXF HXS HK HN HW
      generalize shaOf xs = d at *
      have hde : ∀ w, (Op.equalIn 10000 26 (.agg (d.map bv).toArray) (.agg (d.map bv).toArray)).run Tryd.prog w = .ok true w := fun w => by
        rw [dig_eq _ _ hdl hdl w]
        simp
      have HDE := Lib.hid hde
      clear hde hdl
      go_wp2_with fail
      refine (HOF.out wr (Below.refl _ _)).mono ?_
      rintro e w5 ⟨rfl, hb5⟩
      have HB5 := Lib.hid hb5
      clear hb5
      go_wp2_with fail
      refine (HRF.out w5 HB5.out).mono ?_
      rintro e w6 ⟨rfl, hb6⟩
      have HB6 := Lib.hid (HB5.out.trans (hb6.mono HB5.out.size))
      clear hb6
      have hde := HDE.out
      go_wp2_with fail
      clear hde
      refine (HOO.out w6 HB6.out).mono ?_
      rintro e w7 ⟨rfl, hb7⟩
      have HB7 : Hid (Below wr.heap.size wr w7) := (HB6.out.alloc HB6.out.size (.cells #[.slice Aa n ca] 24)).trans (hb7.mono (HB6.out.alloc HB6.out.size (.cells #[.slice Aa n ca] 24)).size)
      clear hb7
      go_wp2_with fail
      refine (HOF.out w7 HB7.out).mono ?_
      rintro e w8 ⟨rfl, hb8⟩
      have HB8 := Lib.hid (HB7.out.trans (hb8.mono HB7.out.size))
      clear hb8
      have hde := HDE.out
      go_wp2
      go_ret
      exact ⟨rfl, HALL.out.trans (HB8.out.mono HALL.out.size)⟩
end Go.Proofs.YtjemnaffbligoaaDoor
