/-
  Rows of digests in memory: slices that read as digests, rows that are owned, stores into them.
-/
import Derived.Test.YtdgedhaiefingaaDoorSFrozen
import Derived.Test.YtdgedhaiefingaaDoorSCutKit
import Derived.Test.YtdgedhaiefingaaDoorSIsKit
import Derived.Test.YtdgedhaiefingaaDoorTPlain
namespace Go.Proofs.YtdgedhaiefingaaDoor
open Go.RowKit

/-- The digest of two, as trees make it. -/
def pT (a b : List UInt8) : List UInt8 := shaOf (1 :: (a ++ b))
theorem sha_len (l : List UInt8) : (shaOf l).length = 32 := rfl
theorem pT_len (a b : List UInt8) : (pT a b).length = 32 := rfl

/-- All are digests. -/
def AllD (ds : List (List UInt8)) : Prop := ∀ d ∈ ds, d.length = 32
theorem AllD.get {ds : List (List UInt8)} (h : AllD ds) {k : Nat} (hk : k < ds.length) (z : List UInt8) : (ds.getD k z).length = 32 := by
  rw [List.getD_eq_getElem?_getD, List.getElem?_eq_getElem hk, Option.getD_some]
  exact h _ (List.getElem_mem hk)
theorem AllD.tail {d : List UInt8} {ds : List (List UInt8)} (h : AllD (d :: ds)) : AllD ds := fun x hx => h x (List.mem_cons_of_mem _ hx)
theorem AllD.flat : ∀ {ds : List (List UInt8)}, AllD ds → ds.flatten.length = 32 * ds.length
  | [], _ => rfl
  | d :: ds, h => by
    rw [List.flatten_cons, List.length_append, h d (List.mem_cons_self ..), AllD.flat h.tail, List.length_cons]
    omega
theorem AllD.flat_drop : ∀ {ds : List (List UInt8)}, AllD ds → ∀ k, ds.flatten.drop (32 * k) = (ds.drop k).flatten
  | [], _, k => by simp
  | d :: ds, h, 0 => by simp
  | d :: ds, h, k + 1 => by
    have hd := h d (List.mem_cons_self ..)
    rw [List.flatten_cons, List.drop_append, hd, show 32 * (k + 1) - 32 = 32 * k from by omega, List.drop_eq_nil_of_le (by omega), List.nil_append, AllD.flat_drop h.tail k, List.drop_succ_cons]
theorem AllD.flat_take : ∀ {ds : List (List UInt8)}, AllD ds → ∀ k, ds.flatten.take (32 * k) = (ds.take k).flatten
  | [], _, k => by simp
  | d :: ds, h, 0 => by simp
  | d :: ds, h, k + 1 => by
    have hd := h d (List.mem_cons_self ..)
    rw [List.flatten_cons, List.take_append, hd, show 32 * (k + 1) - 32 = 32 * k from by omega, List.take_of_length_le (by omega), AllD.flat_take h.tail k, List.take_succ_cons, List.flatten_cons]
theorem AllD.flat_at {ds : List (List UInt8)} (h : AllD ds) {k : Nat} (hk : k < ds.length) (z : List UInt8) : (ds.flatten.drop (32 * k)).take 32 = ds.getD k z := by
  have hg := h.get hk z
  rw [h.flat_drop k, List.drop_eq_getElem_cons hk, List.flatten_cons]
  rw [List.getD_eq_getElem?_getD, List.getElem?_eq_getElem hk, Option.getD_some] at hg ⊢
  rw [List.take_append, List.take_of_length_le (by omega), hg, Nat.sub_self, List.take_zero, List.append_nil]
theorem AllD.drop {ds : List (List UInt8)} (h : AllD ds) (k : Nat) : AllD (ds.drop k) := fun d hd => h d (List.mem_of_mem_drop hd)
theorem AllD.take {ds : List (List UInt8)} (h : AllD ds) (k : Nat) : AllD (ds.take k) := fun d hd => h d (List.mem_of_mem_take hd)
theorem AllD.append {ds es : List (List UInt8)} (h : AllD ds) (h' : AllD es) : AllD (ds ++ es) := fun d hd => (List.mem_append.1 hd).elim (h d) (h' d)
theorem AllD.one {d : List UInt8} (h : d.length = 32) : AllD [d] := fun x hx => by
  obtain rfl := List.mem_singleton.1 hx
  exact h
theorem AllD.nil : AllD [] := fun _ h => by cases h
theorem AllD.up : ∀ {ds : List (List UInt8)}, AllD ds → AllD (up pT ds)
  | [], h => by rw [Go.Proofs.YtdgedhaiefingaaDoor.up]; exact h; intro a b r h; cases h
  | [_], h => by rw [Go.Proofs.YtdgedhaiefingaaDoor.up]; exact h; intro a b r h; cases h
  | a :: b :: r, h => by
    rw [Go.Proofs.YtdgedhaiefingaaDoor.up]
    intro d hd
    rcases List.mem_cons.1 hd with rfl | hd
    · rfl
    · exact AllD.up h.tail.tail d hd

/-- A slice whose address is A reads as the digests ds, below block B. -/
structure Digs (w : World) (B : Nat) (A : Option Addr) (ds : List (List UInt8)) : Prop where
  all : AllD ds
  sees : Sees w B A (ds.flatten.map bv)
theorem Digs.keep {w w' : World} {B : Nat} {A : Option Addr} {ds : List (List UInt8)} (h : Digs w B A ds) (hk : ∀ p : Addr, p.block < B → w'.cell? p = w.cell? p) : Digs w' B A ds := ⟨h.all, h.sees.keep hk⟩
theorem Digs.more {w : World} {B B' : Nat} {A : Option Addr} {ds : List (List UInt8)} (h : Digs w B A ds) (hB : B ≤ B') : Digs w B' A ds := ⟨h.all, h.sees.more hB⟩
theorem Digs.below {w w' : World} {B : Nat} {A : Option Addr} {ds : List (List UInt8)} (h : Digs w B A ds) (hb : Below B w w') : Digs w' B A ds := ⟨h.all, h.sees.below hb⟩
/-- Seen in a world, and in each that has only grown behind it. -/
theorem Digs.far {w w' : World} {A : Option Addr} {ds : List (List UInt8)} (h : Digs w w.heap.size A ds) (hb : Below w.heap.size w w') : Digs w' w'.heap.size A ds := (h.below hb).more hb.size
theorem Digs.empty (w : World) (B : Nat) (A : Option Addr) : Digs w B A [] := ⟨AllD.nil, .inl rfl⟩
theorem Digs.some_ {w : World} {B : Nat} {A : Option Addr} {ds : List (List UInt8)} (h : Digs w B A ds) (hp : 0 < ds.length) : ∃ g o, A = some ⟨g, o, none⟩ ∧ g < B ∧ w.rangeAt g o (ds.flatten.map bv) := by
  rcases h.sees with hn | ⟨g, o, rfl, hg, hc⟩
  · have hf := h.all.flat
    rw [List.map_eq_nil_iff] at hn
    rw [hn, List.length_nil] at hf
    omega
  · exact ⟨g, o, rfl, hg, hc⟩
theorem range_part {w : World} {g o : Nat} {cs : List Value} (h : w.rangeAt g o cs) (k n : Nat) : w.rangeAt g (o + k) ((cs.drop k).take n) := by
  intro j v hv
  rw [List.getElem?_take] at hv
  split at hv
  · rw [List.getElem?_drop] at hv
    rw [Nat.add_assoc]
    exact h (k + j) v hv
  · cases hv
theorem Digs.at_ {w : World} {B g o : Nat} {ds : List (List UInt8)} (h : Digs w B (some ⟨g, o, none⟩) ds) {k : Nat} (hk : k < ds.length) : w.rangeAt g (o + k * 32) ((ds.getD k []).map bv) := by
  obtain ⟨g', o', e, _, hr⟩ := h.some_ (by omega)
  injection e with e
  injection e with e1 e2
  subst e1
  subst e2
  rw [← h.all.flat_at hk [], List.map_take, List.map_drop, Nat.mul_comm k 32]
  exact range_part hr _ _
theorem range_load {w : World} {g o : Nat} {d : List UInt8} (h : w.rangeAt g o (d.map bv)) (hd : d.length = 32) : (ldDigest (.pointer (some ⟨g, o, none⟩))).run Tryd.prog w = .ok (.agg (d.map bv).toArray) w :=
  run_loadAt_mid (P := Tryd.prog) w g o 23 (d.map bv) _ h Tryd.underlying23 rfl (by rw [List.length_map, hd]; kernel_rfl)
theorem Digs.load {w : World} {B g o : Nat} {ds : List (List UInt8)} (h : Digs w B (some ⟨g, o, none⟩) ds) {k : Nat} (hk : k < ds.length) : (ldDigest (.pointer (some ⟨g, o + k * 32, none⟩))).run Tryd.prog w = .ok (.agg ((ds.getD k []).map bv).toArray) w :=
  range_load (h.at_ hk) (h.all.get hk [])
theorem Digs.drop {w : World} {B : Nat} {A : Option Addr} {ds : List (List UInt8)} (h : Digs w B A ds) {k cap : Nat} (hc : ds.length ≤ cap) (hk : k ≤ ds.length) : Digs w B (if cap = k then A else A.map (·.add (k * 32))) (ds.drop k) := by
  refine ⟨h.all.drop k, ?_⟩
  have hf := h.all.flat
  have hs := h.sees.cut (k := 32 * k) (cap := 32 * cap) (by rw [List.length_map]; omega) (by rw [List.length_map]; omega)
  rw [← List.map_drop, h.all.flat_drop k] at hs
  by_cases e : cap = k
  · rw [if_pos e]
    rw [if_pos (by omega)] at hs
    exact hs
  · rw [if_neg e, Nat.mul_comm k 32]
    rw [if_neg (by omega)] at hs
    exact hs
theorem Digs.take {w : World} {B : Nat} {A : Option Addr} {ds : List (List UInt8)} (h : Digs w B A ds) (k : Nat) : Digs w B A (ds.take k) := by
  refine ⟨h.all.take k, ?_⟩
  rw [← h.all.flat_take k, List.map_take]
  exact h.sees.take _

/-- A row of digests that is owned. -/
abbrev OwnD (w : World) (base : Nat) (v : Value) (ds : List (List UInt8)) : Prop := w.ownsRow base 23 32 v ds.length (ds.flatten.map bv)
theorem sees_own {w : World} {base : Nat} {e : TypeId} {s c n : Nat} {A : Option Addr} {xs : List Value} (h : w.ownsRow base e s (.slice A n c) n xs) : Sees w w.heap.size A xs := by
  rcases h.2 with ⟨_, h2⟩ | ⟨g, cap, cur, hv, hb, hg, _⟩
  · refine .inl (List.eq_nil_of_length_eq_zero ?_)
    rw [h.1, h2, Nat.zero_mul]
  · have hlt := (h.lt g (by rw [hv]; rfl)).2
    injection hv with hA
    subst hA
    refine .inr ⟨g, 0, rfl, hlt, fun j u hu => ?_⟩
    have := h.cells (g := g) rfl j u hu
    rwa [plain_add] at this
theorem OwnD.digs {w : World} {base c : Nat} {A : Option Addr} {ds : List (List UInt8)} (h : OwnD w base (.slice A ds.length c) ds) (ha : AllD ds) : Digs w w.heap.size A ds := ⟨ha, sees_own h⟩
theorem OwnD.form {w : World} {base n c : Nat} {A : Option Addr} {xs : List Value} (h : w.ownsRow base 23 32 (.slice A n c) n xs) : n ≤ c ∧ c ≤ maxLen ∧ (0 < n → ∃ g, A = some ⟨g, 0, none⟩ ∧ base ≤ g ∧ g < w.heap.size) := by
  rcases h.2 with ⟨h1, h2⟩ | ⟨g, cap, cur, h1, hb, hg, hn, hm, _⟩
  · injection h1 with e1 e2 e3
    subst e3
    exact ⟨by omega, by simp [maxLen], fun hp => by omega⟩
  · have hlt := (h.lt g (by rw [h1]; rfl)).2
    injection h1 with e1 e2 e3
    subst e3
    exact ⟨hn, hm, fun _ => ⟨g, e1, hb, hlt⟩⟩
theorem dig_info3 : (Tryd.prog.info? 23).map (fun i => (i.zero, i.size, i.bytes)) = some (some (.agg (List.replicate 32 (Value.int .u8 0)).toArray), 32, 32) := by kernel_rfl

/-- append of what is seen onto an owned row of digests (nil or not), as the frozen call's run. -/
theorem append_digs {w : World} {base n : Nat} {v : Value} {ds : List (List UInt8)} (hn : n = ds.length) (hown : w.ownsRow base 23 32 v n (ds.flatten.map bv)) {A : Option Addr} {m c : Nat} {es : List (List UInt8)} (hm : m = es.length) (he : Digs w w.heap.size A es)
    (hb : n + m ≤ 1099511627776) (hbase : base ≤ w.heap.size) :
    ∃ v' w', (apAll #[27, 27] 27 #[v, .slice A m c]).run Tryd.prog w = .ok v' w' ∧ w'.ownsRow base 23 32 v' (n + m) ((ds ++ es).flatten.map bv) ∧ w.grownBy w' v.ownBlock := by
  obtain ⟨i0, hi0, hz0, hz1, hz2⟩ := info_parts dig_info3
  have hfl := he.all.flat
  rw [List.flatten_append, List.map_append]
  have some_case : ∀ ad : Addr, A = some ad → (∀ j u, (es.flatten.map bv)[j]? = some u → w.cell? (ad.add j) = some u) → ∃ v' w', (apAll #[27, 27] 27 #[v, .slice A m c]).run Tryd.prog w = .ok v' w' ∧ w'.ownsRow base 23 32 v' (n + m) (ds.flatten.map bv ++ es.flatten.map bv) ∧ w.grownBy w' v.ownBlock := by
    rintro ad rfl hc
    obtain ⟨v', w', hr, ho, hg, _⟩ := run_append_own (P := Tryd.prog) w base 27 27 23 i0 _ 32 32 Tryd.underlying27 hi0 hz0 hz1 hz2 rfl (by omega) v n _ hown ad m c (es.flatten.map bv) (by rw [List.length_map, hfl, hm]; omega) hc (bv_one _) (by unfold maxLen; omega) (by omega) hbase
    exact ⟨v', w', hr, ho, hg⟩
  rcases he.sees with hnil | ⟨g, o', rfl, _, hc⟩
  · cases A with
    | some ad => exact some_case ad rfl (fun j u hu => by rw [hnil] at hu; cases hu)
    | none =>
      have hm0 : m = 0 := by
        rw [List.map_eq_nil_iff] at hnil
        rw [hnil, List.length_nil] at hfl
        omega
      subst hm0
      refine ⟨v, w, ?_, by rw [hnil]; simpa using hown, only_refl _ _⟩
      have hu : Tryd.prog.underlying 27 = some (.slice 23) := Tryd.underlying27
      show (Builtin.append_ _ _ _).run _ _ = _
      rcases hown.2 with ⟨rfl, rfl⟩ | ⟨g, cap, cur, rfl, _, _, hnc, _⟩
      · simp [Builtin.append_, run_underlying hu, sizeOf, typeInfo, hi0, Builtin.lenOf, Builtin.firstCells]
      · simp [Builtin.append_, run_underlying hu, sizeOf, typeInfo, hi0, Builtin.lenOf, Builtin.firstCells, hnc, storeCells]
  · exact some_case _ rfl (fun j u hu => by rw [plain_add]; exact hc j u hu)

theorem below_own {w w' : World} {base n s : Nat} {e : TypeId} {v : Value} {xs : List Value} (h : w.ownsRow base e s v n xs) (hg : w.grownBy w' v.ownBlock) (hs : base ≤ w.heap.size) : Below base w w' :=
  ⟨hg.os, hg.tape, hg.output, hg.size, fun b hb => hg.block b (Nat.lt_of_lt_of_le hb hs) (fun e => by
    have := (h.lt b e.symm).1
    omega)⟩
theorem Digs.apart {w w' : World} {row : Option Nat} {A : Option Addr} {ds : List (List UInt8)} (h : Digs w w.heap.size A ds) (hg : w.grownBy w' row) (hne : ∀ g o, A = some ⟨g, o, none⟩ → row ≠ some g) : Digs w' w'.heap.size A ds := by
  refine ⟨h.all, ?_⟩
  rcases h.sees with h0 | ⟨g, o, rfl, hlt, hc⟩
  · exact .inl h0
  · refine .inr ⟨g, o, rfl, Nat.lt_of_lt_of_le hlt hg.size, fun j u hu => ?_⟩
    exact (World.cell?_of_block (a := ⟨g, o + j, none⟩) (hg.block g hlt (fun e => hne g o rfl e.symm))).trans (hc j u hu)

theorem digs_from {A : Option Addr} {n c m : Nat} (hm : m ≤ n) (w : World) :
    (Instr.slice 27 (.slice A n c) (some (.int .i64 (m : Int))) none none).run Tryd.prog w = .ok (.slice (if c = m then A else A.map (·.add (m * 32))) (n - m) (c - m)) w := by
  have hu : Tryd.prog.underlying 27 = some (.slice (Tryd.prog.elem 27)) := by kernel_rfl
  have hs : (sizeOf (Tryd.prog.elem 27)).run Tryd.prog w = .ok 32 w := by kernel_rfl
  rw [run_slice_l w 27 A n c hu .i64 (m : Int) (by omega) (by omega), hs]
  simp [sliced]
theorem digs_upto {A : Option Addr} {n c i : Nat} (hi : i ≤ c) (w : World) :
    (Instr.slice 27 (.slice A n c) none (some (.int .i64 (i : Int))) none).run Tryd.prog w = .ok (.slice A i c) w := by
  have hu : Tryd.prog.underlying 27 = some (.slice (Tryd.prog.elem 27)) := by kernel_rfl
  have hs : (sizeOf (Tryd.prog.elem 27)).run Tryd.prog w = .ok 32 w := by kernel_rfl
  rw [run_slice_h w 27 A n c hu .i64 (i : Int) (by omega) (by omega), hs]
  rcases A with _ | a
  · simp [sliced]
  · simp [sliced, Addr.add_zero']
/-- A store into the middle of a block that is known whole. -/
theorem Box.put_mid {w : World} {g : Nat} {t : TypeId} {pre mid post vs : List Value} {o : Nat} (h : Box w g t (pre ++ (mid ++ post)).toArray) (ho : pre.length = o) (hl : vs.length = mid.length) : Box (w.setCells g o vs) g t (pre ++ (vs ++ post)).toArray := by
  subst ho
  obtain ⟨cs', hb, hs, h1, h2, h3⟩ := Box.cells_at vs pre.length w _ h (by simp; omega)
  have e : cs' = (pre ++ (vs ++ post)).toArray := by
    apply Array.ext_getElem?
    intro j
    rcases Nat.lt_or_ge j pre.length with hj | hj
    · rw [h1 j hj, List.getElem?_toArray, List.getElem?_toArray, List.getElem?_append_left hj, List.getElem?_append_left hj]
    · rcases Nat.lt_or_ge j (pre.length + vs.length) with hj2 | hj2
      · have := h2 (j - pre.length) (by omega)
        rw [show pre.length + (j - pre.length) = j from by omega] at this
        rw [this, List.getElem?_toArray, List.getElem?_append_right hj, List.getElem?_append_left (by omega)]
      · rw [h3 j hj2, List.getElem?_toArray, List.getElem?_toArray, List.getElem?_append_right hj, List.getElem?_append_right hj, List.getElem?_append_right (by omega), List.getElem?_append_right (by omega), hl]
  rw [e] at hb
  exact hb
/-- A digest is stored into the middle of a block. -/
theorem Box.store_mid {w : World} {g : Nat} {t : TypeId} {cs : Array Value} (h : Box w g t cs) {o : Nat} (ho : o + 32 ≤ cs.size) (d : List UInt8) (hd : d.length = 32) :
    (stDigest (.pointer (some ⟨g, o, none⟩)) (.agg (d.map bv).toArray)).run Tryd.prog w = .ok () (w.setCells g o (d.map bv)) :=
  run_storeAt_mid (P := Tryd.prog) w g o 23 (d.map bv).toArray (fun j hj => by
    have hj' : j < 32 := by simpa [hd] using hj
    rw [h.cell, h.free, Array.getElem?_eq_getElem (by omega)]
    exact ⟨rfl, rfl⟩) (by rw [List.size_toArray, List.length_map, hd]; kernel_rfl) (all_oneCell_toArray (bv_one d))

/-- A slice literal that holds one digest, as the walk leaves it. -/
theorem fold_dig (d : List UInt8) (hd : d.length = 32) : List.foldl (fun (cs : Array Value) (x : Value × Nat) => cs.setIfInBounds x.2 x.1) #[Value.int .u8 0, Value.int .u8 0, Value.int .u8 0, Value.int .u8 0, Value.int .u8 0, Value.int .u8 0, Value.int .u8 0, Value.int .u8 0, Value.int .u8 0, Value.int .u8 0, Value.int .u8 0, Value.int .u8 0, Value.int .u8 0, Value.int .u8 0, Value.int .u8 0, Value.int .u8 0, Value.int .u8 0, Value.int .u8 0, Value.int .u8 0, Value.int .u8 0, Value.int .u8 0, Value.int .u8 0, Value.int .u8 0, Value.int .u8 0, Value.int .u8 0, Value.int .u8 0, Value.int .u8 0, Value.int .u8 0, Value.int .u8 0, Value.int .u8 0, Value.int .u8 0, Value.int .u8 0] (d.map bv).zipIdx = (d.map bv).toArray :=
  fold_whole (d.map bv) _ (by rw [List.length_map, hd]; rfl)

theorem xor_one (n : Nat) (h : n < 9223372036854775808) : bits .xor .i64 (n : Int) 1 = ((sib n : Nat) : Int) := by
  have e1 : BitVec.ofInt 64 (n : Int) = BitVec.ofNat 64 n := BitVec.ofInt_natCast ..
  have e2 : BitVec.ofInt 64 1 = BitVec.ofNat 64 1 := rfl
  show IntKind.i64.wrap ((BitVec.ofInt 64 (n : Int) ^^^ BitVec.ofInt 64 1).toNat : Int) = _
  have e3 : (BitVec.ofInt 64 (n : Int) ^^^ BitVec.ofInt 64 1).toNat = n ^^^ 1 := by
    rw [e1, e2, BitVec.toNat_xor, BitVec.toNat_ofNat, BitVec.toNat_ofNat, Nat.mod_eq_of_lt (by omega), Nat.mod_eq_of_lt (by omega)]
  have e4 : n ^^^ 1 = sib n := by
    have h1 : (n ^^^ 1) / 2 = n / 2 := by rw [Nat.xor_div_two]; simp
    have h2 : (n ^^^ 1) % 2 = (n + 1) % 2 := by
      rw [← Nat.and_one_is_mod, Nat.and_xor_distrib_right, Nat.and_one_is_mod]
      rcases Nat.mod_two_eq_zero_or_one n with h | h <;> rw [h]
      · show 1 = _; omega
      · show 0 = _; omega
    unfold sib
    split <;> omega
  rw [e3, e4]
  have : sib n < 9223372036854775808 := by unfold sib; split <;> omega
  exact IntWalk.i64_in _ (by omega)
end Go.Proofs.YtdgedhaiefingaaDoor
