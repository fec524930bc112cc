/-
  Loads of a digest and appends, frozen for drawn regions.
-/
import Derived.Test.YtdgedhaiefingaaDoorSKit2
import Derived.Test.YtdgedhaiefingaaDoorSPad
namespace Go.Proofs.YtdgedhaiefingaaDoor
open Go.RowKit

noncomputable def ldDigest (v : Value) : Sem Value := Instr.loadAt 23 v
theorem ldDigest_def (v : Value) : Instr.loadAt 23 v = ldDigest v := rfl
noncomputable def apAll (ts : Array TypeId) (ty : TypeId) (vs : Array Value) : Sem Value := Builtin.append_ ts ty vs
theorem apAll_def (ts : Array TypeId) (ty : TypeId) (vs : Array Value) : Builtin.append_ ts ty vs = apAll ts ty vs := rfl

theorem Box.load_digest {w : World} {g : Nat} {t : TypeId} {d : List UInt8} (h : Box w g t (d.map bv).toArray) (hd : d.length = 32) : (ldDigest (.pointer (some ⟨g, 0, none⟩))).run Tryd.prog w = .ok (.agg (d.map bv).toArray) w :=
  run_loadAt_mid (P := Tryd.prog) w g 0 23 (d.map bv) _ (fun j v hv => by rw [Nat.zero_add, h.cell, List.getElem?_toArray]; exact hv) Tryd.underlying23 rfl (by rw [List.length_map, hd]; kernel_rfl)

theorem append_fact {w : World} {base n g cap : Nat} {xs : List Value} (hown : w.ownsRow base 5 1 (.slice (some ⟨g, 0, none⟩) n cap) n xs)
    {g' m c k : Nat} {news : List Value} (hk : k = n + m) (hsee : ∀ j u, news[j]? = some u → w.cell? ⟨g', j, none⟩ = some u) (hl : news.length = m) (h1 : ∀ u ∈ news, u.oneCell' = true)
    (hb : n + m ≤ 70368744177664) (hbase : base ≤ w.heap.size) :
    ∃ g7 cap7 w7, (apAll #[37, 37] 37 #[.slice (some ⟨g, 0, none⟩) n cap, .slice (some ⟨g', 0, none⟩) m c]).run Tryd.prog w = .ok (.slice (some ⟨g7, 0, none⟩) k cap7) w7 ∧ w7.ownsRow base 5 1 (.slice (some ⟨g7, 0, none⟩) k cap7) k (xs ++ news) ∧ w.grownBy w7 (some g) := by
  obtain ⟨i0, hi0, hz0, hz1, hz2⟩ := info_parts w_byte_info
  obtain ⟨v', w', hr, ho, hg, hn⟩ := run_append_own w base 37 37 5 i0 _ 1 1 Tryd.underlying37 hi0 hz0 hz1 hz2 rfl (by omega) _ n xs hown ⟨g', 0, none⟩ m c news (by omega) (fun j u hu => by rw [plain_add, Nat.zero_add]; exact hsee j u hu) h1 (by unfold maxLen; omega) (by omega) hbase
  subst hk
  obtain ⟨g7, cap7, rfl, _⟩ := own_form ho (fun e => nn_some (hn.1 e).1)
  exact ⟨g7, cap7, w', hr, ho, hg⟩
end Go.Proofs.YtdgedhaiefingaaDoor
