/-
  Keys in order: bytes.Compare, cmp.Compare, cmp.Or of two, ring.order.
-/
import Derived.Test.YtadnnnbdlkjnkaaGreatDoorRiKey
import Derived.Lib.Bytealg
import Derived.Lib.Small
import Derived.Laws.Externs
import Derived.Sort.Grow
import Derived.Deep.RegionHeld3
import Derived.LoopN
namespace Go.Proofs.YtadnnnbdlkjnkaaGreatDoor
open Go.RowKit

set_option maxRecDepth 100000 in
theorem load_bytes {P : Program} (w : World) : ∀ (l : List UInt8) (g o : Nat) (acc : ByteArray), (∀ j u, (l.map bv)[j]? = some u → w.cell? ⟨g, o + j, none⟩ = some u) → (Extern.Bytes.loadBytes ⟨g, o, none⟩ l.length acc).run P w = .ok ⟨acc.data ++ l.toArray⟩ w
  | [], _, _, acc, _ => by simp [Extern.Bytes.loadBytes]
  | b :: l, g, o, acc, h => by
    have h0 : w.cell? ⟨g, o, none⟩ = some (.int .u8 (b.toNat : Int)) := h 0 _ rfl
    have ih := load_bytes (P := P) w l g (o + 1) (acc.push b) (fun j u hu => by
      have := h (j + 1) u (by simpa using hu)
      rw [show o + 1 + j = o + (j + 1) by omega]
      exact this)
    have hb : ((b.toNat : Int)).toNat.toUInt8 = b := by simp
    have ha : (⟨g, o, none⟩ : Addr).add 1 = ⟨g, o + 1, none⟩ := plain_add g o 1
    simp only [List.length_cons, Extern.Bytes.loadBytes, Sem.run_bind, run_load, h0, Result.andThen, hb, ha]
    rw [ih]
    congr 1
    apply ByteArray.ext
    simp [ByteArray.push]
set_option maxRecDepth 100000 in
theorem run_compareBytes {P : Program} (w : World) (g o g' o' c c' : Nat) (r s : List UInt8) (h1 : ∀ j u, (r.map bv)[j]? = some u → w.cell? ⟨g, o + j, none⟩ = some u) (h2 : ∀ j u, (s.map bv)[j]? = some u → w.cell? ⟨g', o' + j, none⟩ = some u) :
    (Extern.BytealgCompare.compare #[.slice (some ⟨g, o, none⟩) r.length c, .slice (some ⟨g', o', none⟩) s.length c']).run P w = .ok (.int .i64 (Lib.compareBytes r s)) w := by
  change Sem.run P (do pure (goInt (Extern.BytealgCompare.cmp (← Extern.Bytes.bytesOf (.slice (some ⟨g, o, none⟩) r.length c)) (← Extern.Bytes.bytesOf (.slice (some ⟨g', o', none⟩) s.length c'))))) w = _
  simp only [Extern.Bytes.bytesOf, Sem.run_bind, Sem.run_pure, load_bytes w r g o .empty h1, load_bytes w s g' o' .empty h2, Result.andThen]
  rw [Lib.cmp_eq]
  simp [goInt]

set_option maxRecDepth 100000 in
theorem bcompare_any (g o g' o' c c' : Nat) (r s : List UInt8) (w : World) (h1 : ∀ j u, (r.map bv)[j]? = some u → w.cell? ⟨g, o + j, none⟩ = some u) (h2 : ∀ j u, (s.map bv)[j]? = some u → w.cell? ⟨g', o' + j, none⟩ = some u) :
    Calls Tryz.prog 54 #[.slice (some ⟨g, o, none⟩) r.length c, .slice (some ⟨g', o', none⟩) s.length c'] w fun e w' => e = .returned (.int .i64 (Lib.compareBytes r s)) ∧ w' = w := by
  have hr := run_compareBytes (P := Tryz.prog) w g o g' o' c c' r s h1 h2
  clear h1 h2
  go_enter Tryz.func54, Tryz.ntmps54
  go_wp2
  rw [run_callFunc_extern Tryz.func72 (by kernel_rfl) (by kernel_rfl) (by kernel_rfl) (e := Extern.BytealgCompare.compare) (by kernel_rfl), hr]
  simp only [Result.andThen]
  rw [Oper.upon_value]
  go_wp2
  go_ret
  exact ⟨rfl, rfl⟩

/-- How two keys stand. -/
def cmpKey (r : List UInt8) (h : Int) (s : List UInt8) (k : Int) : Int := if Lib.compareBytes r s = 0 then Lib.compareInt h k else Lib.compareBytes r s

set_option maxRecDepth 100000 in
theorem compareBytes_self : ∀ r : List UInt8, Lib.compareBytes r r = 0
  | [] => rfl
  | b :: r => by
    unfold Lib.compareBytes
    rw [if_neg (UInt8.lt_irrefl b), if_neg (UInt8.lt_irrefl b)]
    exact compareBytes_self r
set_option maxRecDepth 100000 in
theorem compareBytes_eq : ∀ {r s : List UInt8}, Lib.compareBytes r s = 0 → r = s
  | [], [], _ => rfl
  | [], _ :: _, h => by simp [Lib.compareBytes] at h
  | _ :: _, [], h => by simp [Lib.compareBytes] at h
  | a :: r, b :: s, h => by
    unfold Lib.compareBytes at h
    by_cases h1 : a < b
    · rw [if_pos h1] at h
      cases h
    · rw [if_neg h1] at h
      by_cases h2 : b < a
      · rw [if_pos h2] at h
        cases h
      · rw [if_neg h2] at h
        rw [compareBytes_eq h, UInt8.le_antisymm (UInt8.not_lt.1 h2) (UInt8.not_lt.1 h1)]
set_option maxRecDepth 100000 in
theorem compareBytes_swap : ∀ r s : List UInt8, Lib.compareBytes s r = - Lib.compareBytes r s
  | [], [] => rfl
  | [], _ :: _ => rfl
  | _ :: _, [] => rfl
  | a :: r, b :: s => by
    unfold Lib.compareBytes
    by_cases h1 : a < b
    · rw [if_pos h1, if_neg (fun h2 => UInt8.lt_irrefl a (UInt8.lt_trans h1 h2)), if_pos h1]
      rfl
    · by_cases h2 : b < a
      · rw [if_pos h2, if_neg h1, if_pos h2]
      · rw [if_neg h2, if_neg h1, if_neg h1, if_neg h2]
        exact compareBytes_swap r s
set_option maxRecDepth 100000 in
theorem compareBytes_trans : ∀ {r s t : List UInt8}, Lib.compareBytes r s < 0 → Lib.compareBytes s t < 0 → Lib.compareBytes r t < 0
  | [], [], _, h, _ => by simp [Lib.compareBytes] at h
  | [], _ :: _, [], _, h => by simp [Lib.compareBytes] at h
  | [], _ :: _, _ :: _, _, _ => by simp [Lib.compareBytes]
  | _ :: _, [], _, h, _ => by simp [Lib.compareBytes] at h
  | _ :: _, _ :: _, [], _, h => by simp [Lib.compareBytes] at h
  | a :: r, b :: s, c :: t, h, k => by
    unfold Lib.compareBytes at h k ⊢
    by_cases h1 : a < b
    · by_cases k1 : b < c
      · rw [if_pos (UInt8.lt_trans h1 k1)]
        decide
      · rw [if_neg k1] at k
        by_cases k2 : c < b
        · rw [if_pos k2] at k
          simp at k
        · obtain rfl := UInt8.le_antisymm (UInt8.not_lt.1 k2) (UInt8.not_lt.1 k1)
          rw [if_pos h1]
          decide
    · rw [if_neg h1] at h
      by_cases h2 : b < a
      · rw [if_pos h2] at h
        simp at h
      · rw [if_neg h2] at h
        obtain rfl := UInt8.le_antisymm (UInt8.not_lt.1 h2) (UInt8.not_lt.1 h1)
        by_cases k1 : a < c
        · rw [if_pos k1]
          decide
        · rw [if_neg k1] at k ⊢
          by_cases k2 : c < a
          · rw [if_pos k2] at k
            simp at k
          · rw [if_neg k2] at k ⊢
            exact compareBytes_trans h k
set_option maxRecDepth 100000 in
theorem cmpKey_neg (r : List UInt8) (h : Int) (s : List UInt8) (k : Int) : cmpKey r h s k < 0 ↔ Lib.compareBytes r s < 0 ∨ (r = s ∧ h < k) := by
  unfold cmpKey
  constructor
  · intro hc
    split at hc
    · rename_i h0
      refine .inr ⟨compareBytes_eq h0, ?_⟩
      unfold Lib.compareInt at hc
      split at hc
      · assumption
      · split at hc <;> simp at hc
    · exact .inl hc
  · rintro (hc | ⟨rfl, hc⟩)
    · rw [if_neg (by omega)]
      exact hc
    · rw [if_pos (compareBytes_self r)]
      unfold Lib.compareInt
      rw [if_pos hc]
      decide
end Go.Proofs.YtadnnnbdlkjnkaaGreatDoor
