/-
  (*Disk).Names: as many as there are files.
-/
import Derived.Test.YtaobhkalnnmnhaaPB
import Derived.Test.YtaobhkalnnmnhaaDkLay
namespace Go.Proofs.Ytaobhkalnnmnhaa
open Go.RowKit Go.Maps Go.Sort

set_option maxRecDepth 100000 in
theorem mapkeys_any (mb : Option Nat) (w : World) : Calls Try.prog 27 #[.map mb] w fun e w' => e = .returned (.func (.func 30) #[] #[.pointer (some ⟨w.heap.size, 0, none⟩)]) ∧ w' = w.alloc (.cells #[.map mb] 43) := by
  go_enter Try.func27, Try.ntmps27
  go_wp2
  go_ret
  exact ⟨rfl, rfl⟩
set_option maxRecDepth 100000 in
theorem sortsS (m : Nat) : AnyZ.SortsIn Try.prog sortedSRen Fence.wide m :=
  ⟨fun blk off cap ss W hH hblk hsz => callsIn_wide.2 (AnyM.slices_Sort_string sortSLay blk off cap ss W hH hblk hsz),
   fun p cap W => callsIn_wide.2 (AnyM.slices_Sort_string_none sortSLay p cap W)⟩
set_option maxRecDepth 100000 in
/-- slices.Sorted of what maps.Keys handed back: as many as the map has. -/
theorem sorted_keys16 (mb : Nat) (es : List (SX × Value)) (hl : es.length < 1000000) (w : World) (hM : MapIs sKey w mb es) :
    Calls Try.prog 26 #[.func (.func 30) #[] #[.pointer (some ⟨w.heap.size, 0, none⟩)]] (w.alloc (.cells #[.map (some mb)] 43)) fun e w' => ∃ A c, e = .returned (.slice A es.length c) ∧ Below w.heap.size w w' := by
  obtain ⟨D, nn, hown, hrd⟩ := hM.own
  have hsize : Maps.size D = es.length := hrd.size hown
  have hbl := hown.lt
  refine (callsIn_wide (n := 5)).1 ?_
  have hseq : SeqGives Fence.wide 2 Try.prog 30 #[.pointer (some ⟨w.heap.size, 0, none⟩)] encStr (fun ss => ss.Perm (strKeys D)) (Maps.size D) (w.alloc (.cells #[.map (some mb)] 43)) :=
    AnyZ.keys_gives (ρ := keysSRen) { keysSLay with } Fence.wide _ trivial rfl (by omega) w.heap.size mb nn D _ (by simp) (by simp) (by
      obtain ⟨es', clock, hb, Ft, hs, hD⟩ := hown
      exact ⟨es', clock, (Below.heap_alloc _ _ mb hbl).trans hb, Ft, hs, hD⟩)
  have cS := AnyZ.sorted_in sortedSLay Fence.wide 5 trivial trivial trivial trivial rfl (by omega) (sortsS _) (enters_of Try.func29 (by kernel_rfl) rfl) 30 #[.pointer (some ⟨w.heap.size, 0, none⟩)] trivial (enters_of Try.func30 (by kernel_rfl) rfl) _ _ (by rw [hsize]; unfold maxLen; omega) (by rw [hsize]; omega) _ hseq
  change CallsIn _ _ Try.prog 26 _ _ _ at cS
  refine cS.mono ?_
  rintro e w' ⟨v, ss, rfl, hS, hrow, _, hb⟩
  have hlen : ss.length = es.length := by
    rw [hS.length_eq, ← hsize]
    cases D <;> simp [strKeys, Maps.size]
  obtain ⟨A, c, rfl⟩ := own_slice_s hrow
  rw [hlen]
  exact ⟨A, c, rfl, ((Below.refl _ w).alloc (Nat.le_refl _) _).trans (hb.mono (by simp))⟩
set_option maxRecDepth 100000 in
theorem dknames_any (base p : Nat) (X : DX) (hd : X.down = false) (hf : X.Few) (w : World) (h : DkIs w base p X) :
    Calls Try.prog 18 #[.pointer (some ⟨p, 0, none⟩)] w fun e w' => ∃ A c, e = .returned (.slice A X.fs.length c) ∧ Below w.heap.size w w' := by
  obtain ⟨mb, ms, h⟩ := h
  have c0 : w.cell? ⟨p, 0, none⟩ = some (.map (some mb)) := h.box.cell 0
  have c2 : w.cell? ⟨p, 2, none⟩ = some (.bool X.down) := h.box.cell 2
  rw [hd] at c2
  have hlen : X.fs.length = (ms.map FM.ent).length := by rw [h.eq, List.length_map, List.length_map]
  have HK := Lib.hid (mapkeys_any (some mb) w)
  have HS := Lib.hid (sorted_keys16 mb (ms.map FM.ent) (by rw [← hlen]; exact hf.fs) w h.fs.map)
  rw [← hlen] at HS
  generalize X.fs.length = n at *
  clear h hd hlen hf
  go_enter Try.func18, Try.ntmps18
  go_wp2_with (first
    | (go_at_call 27; (with_reducible refine (HK.out).mono ?_); rintro e w1 ⟨rfl, rfl⟩)
    | (go_at_call 26; (with_reducible refine (HS.out).mono ?_); rintro e w2 ⟨A, c, rfl, hb⟩; have HB := Lib.hid hb; clear hb))
  go_ret
  exact ⟨A, c, rfl, HB.out⟩
end Go.Proofs.Ytaobhkalnnmnhaa
