/-
  Rows of digests in memory: slices that read as digests, rows that are owned, stores into them.
  What walks over digests share, of no function of the program.
  A slice literal of digests, frozen: what it makes.
  Rows of digests that grow: literals, appends, as the frozen calls answer.
  Loads that answer in every world that has only grown.
  The document's own answers for texts: wapentakeref01.Digest, wapentakeref02.Text.
  wapentakeref03.Same: two lists of digests compared.
-/
import Derived.Test.YtapdnoellleimaaDoorSA
import Derived.Test.YtapdnoellleimaaDoorSD
import Derived.Lib.QuietBelow
import Derived.Test.YtapdnoellleimaaDoorSRef
import Derived.Lib.ConvBytes
import Derived.Lib.SmallJoins
import Derived.BigQuiet
namespace Go.Proofs.YtapdnoellleimaaDoor
open Go.RowKit

/-- The digest of two, as trees make it. -/
def pT (a b : List UInt8) : List UInt8 := shaOf (1 :: (a ++ b))
theorem sha_len (l : List UInt8) : (shaOf l).length = 32 := rfl
theorem pT_len (a b : List UInt8) : (pT a b).length = 32 := rfl

/-- All are digests. -/
def AllD (ds : List (List UInt8)) : Prop := ∀ d ∈ ds, d.length = 32
theorem AllD.get {ds : List (List UInt8)} (h : AllD ds) {k : Nat} (hk : k < ds.length) (z : List UInt8) : (ds.getD k z).length = 32 := by
  rw [List.getD_eq_getElem?_getD, List.getElem?_eq_getElem hk, Option.getD_some]
  exact h _ (List.getElem_mem hk)
theorem AllD.tail {d : List UInt8} {ds : List (List UInt8)} (h : AllD (d :: ds)) : AllD ds := fun x hx => h x (List.mem_cons_of_mem _ hx)
theorem AllD.flat : ∀ {ds : List (List UInt8)}, AllD ds → ds.flatten.length = 32 * ds.length
  | [], _ => rfl
  | d :: ds, h => by
    rw [List.flatten_cons, List.length_append, h d (List.mem_cons_self ..), AllD.flat h.tail, List.length_cons]
    omega
theorem AllD.flat_drop : ∀ {ds : List (List UInt8)}, AllD ds → ∀ k, ds.flatten.drop (32 * k) = (ds.drop k).flatten
  | [], _, k => by simp
  | d :: ds, h, 0 => by simp
  | d :: ds, h, k + 1 => by
    have hd := h d (List.mem_cons_self ..)
    rw [List.flatten_cons, List.drop_append, hd, show 32 * (k + 1) - 32 = 32 * k from by omega, List.drop_eq_nil_of_le (by omega), List.nil_append, AllD.flat_drop h.tail k, List.drop_succ_cons]
theorem AllD.flat_take : ∀ {ds : List (List UInt8)}, AllD ds → ∀ k, ds.flatten.take (32 * k) = (ds.take k).flatten
  | [], _, k => by simp
  | d :: ds, h, 0 => by simp
  | d :: ds, h, k + 1 => by
    have hd := h d (List.mem_cons_self ..)
    rw [List.flatten_cons, List.take_append, hd, show 32 * (k + 1) - 32 = 32 * k from by omega, List.take_of_length_le (by omega), AllD.flat_take h.tail k, List.take_succ_cons, List.flatten_cons]
theorem AllD.flat_at {ds : List (List UInt8)} (h : AllD ds) {k : Nat} (hk : k < ds.length) (z : List UInt8) : (ds.flatten.drop (32 * k)).take 32 = ds.getD k z := by
  have hg := h.get hk z
  rw [h.flat_drop k, List.drop_eq_getElem_cons hk, List.flatten_cons]
  rw [List.getD_eq_getElem?_getD, List.getElem?_eq_getElem hk, Option.getD_some] at hg ⊢
  rw [List.take_append, List.take_of_length_le (by omega), hg, Nat.sub_self, List.take_zero, List.append_nil]
theorem AllD.drop {ds : List (List UInt8)} (h : AllD ds) (k : Nat) : AllD (ds.drop k) := fun d hd => h d (List.mem_of_mem_drop hd)
theorem AllD.take {ds : List (List UInt8)} (h : AllD ds) (k : Nat) : AllD (ds.take k) := fun d hd => h d (List.mem_of_mem_take hd)
theorem AllD.append {ds es : List (List UInt8)} (h : AllD ds) (h' : AllD es) : AllD (ds ++ es) := fun d hd => (List.mem_append.1 hd).elim (h d) (h' d)
theorem AllD.one {d : List UInt8} (h : d.length = 32) : AllD [d] := fun x hx => by
  obtain rfl := List.mem_singleton.1 hx
  exact h
theorem AllD.nil : AllD [] := fun _ h => by cases h
theorem AllD.up : ∀ {ds : List (List UInt8)}, AllD ds → AllD (up pT ds)
  | [], h => by rw [Go.Proofs.YtapdnoellleimaaDoor.up]; exact h; intro a b r h; cases h
  | [_], h => by rw [Go.Proofs.YtapdnoellleimaaDoor.up]; exact h; intro a b r h; cases h
  | a :: b :: r, h => by
    rw [Go.Proofs.YtapdnoellleimaaDoor.up]
    intro d hd
    rcases List.mem_cons.1 hd with rfl | hd
    · rfl
    · exact AllD.up h.tail.tail d hd

/-- A slice whose address is A reads as the digests ds, below block B. -/
structure Digs (w : World) (B : Nat) (A : Option Addr) (ds : List (List UInt8)) : Prop where
  all : AllD ds
  sees : Sees w B A (ds.flatten.map bv)
theorem Digs.keep {w w' : World} {B : Nat} {A : Option Addr} {ds : List (List UInt8)} (h : Digs w B A ds) (hk : ∀ p : Addr, p.block < B → w'.cell? p = w.cell? p) : Digs w' B A ds := ⟨h.all, h.sees.keep hk⟩
theorem Digs.more {w : World} {B B' : Nat} {A : Option Addr} {ds : List (List UInt8)} (h : Digs w B A ds) (hB : B ≤ B') : Digs w B' A ds := ⟨h.all, h.sees.more hB⟩
theorem Digs.below {w w' : World} {B : Nat} {A : Option Addr} {ds : List (List UInt8)} (h : Digs w B A ds) (hb : Below B w w') : Digs w' B A ds := ⟨h.all, h.sees.below hb⟩
/-- Seen in a world, and in each that has only grown behind it. -/
theorem Digs.far {w w' : World} {A : Option Addr} {ds : List (List UInt8)} (h : Digs w w.heap.size A ds) (hb : Below w.heap.size w w') : Digs w' w'.heap.size A ds := (h.below hb).more hb.size
theorem Digs.empty (w : World) (B : Nat) (A : Option Addr) : Digs w B A [] := ⟨AllD.nil, .inl rfl⟩
theorem Digs.some_ {w : World} {B : Nat} {A : Option Addr} {ds : List (List UInt8)} (h : Digs w B A ds) (hp : 0 < ds.length) : ∃ g o, A = some ⟨g, o, none⟩ ∧ g < B ∧ w.rangeAt g o (ds.flatten.map bv) := by
  rcases h.sees with hn | ⟨g, o, rfl, hg, hc⟩
  · have hf := h.all.flat
    rw [List.map_eq_nil_iff] at hn
    rw [hn, List.length_nil] at hf
    omega
  · exact ⟨g, o, rfl, hg, hc⟩
theorem range_part {w : World} {g o : Nat} {cs : List Value} (h : w.rangeAt g o cs) (k n : Nat) : w.rangeAt g (o + k) ((cs.drop k).take n) := by
  intro j v hv
  rw [List.getElem?_take] at hv
  split at hv
  · rw [List.getElem?_drop] at hv
    rw [Nat.add_assoc]
    exact h (k + j) v hv
  · cases hv
theorem Digs.at_ {w : World} {B g o : Nat} {ds : List (List UInt8)} (h : Digs w B (some ⟨g, o, none⟩) ds) {k : Nat} (hk : k < ds.length) : w.rangeAt g (o + k * 32) ((ds.getD k []).map bv) := by
  obtain ⟨g', o', e, _, hr⟩ := h.some_ (by omega)
  injection e with e
  injection e with e1 e2
  subst e1
  subst e2
  rw [← h.all.flat_at hk [], List.map_take, List.map_drop, Nat.mul_comm k 32]
  exact range_part hr _ _
theorem range_load {w : World} {g o : Nat} {d : List UInt8} (h : w.rangeAt g o (d.map bv)) (hd : d.length = 32) : (ldDigest (.pointer (some ⟨g, o, none⟩))).run Tryd.prog w = .ok (.agg (d.map bv).toArray) w :=
  run_loadAt_mid (P := Tryd.prog) w g o 89 (d.map bv) _ h Tryd.underlying89 rfl (by rw [List.length_map, hd]; kernel_rfl)
theorem Digs.load {w : World} {B g o : Nat} {ds : List (List UInt8)} (h : Digs w B (some ⟨g, o, none⟩) ds) {k : Nat} (hk : k < ds.length) : (ldDigest (.pointer (some ⟨g, o + k * 32, none⟩))).run Tryd.prog w = .ok (.agg ((ds.getD k []).map bv).toArray) w :=
  range_load (h.at_ hk) (h.all.get hk [])
theorem Digs.drop {w : World} {B : Nat} {A : Option Addr} {ds : List (List UInt8)} (h : Digs w B A ds) {k cap : Nat} (hc : ds.length ≤ cap) (hk : k ≤ ds.length) : Digs w B (if cap = k then A else A.map (·.add (k * 32))) (ds.drop k) := by
  refine ⟨h.all.drop k, ?_⟩
  have hf := h.all.flat
  have hs := h.sees.cut (k := 32 * k) (cap := 32 * cap) (by rw [List.length_map]; omega) (by rw [List.length_map]; omega)
  rw [← List.map_drop, h.all.flat_drop k] at hs
  by_cases e : cap = k
  · rw [if_pos e]
    rw [if_pos (by omega)] at hs
    exact hs
  · rw [if_neg e, Nat.mul_comm k 32]
    rw [if_neg (by omega)] at hs
    exact hs
theorem Digs.take {w : World} {B : Nat} {A : Option Addr} {ds : List (List UInt8)} (h : Digs w B A ds) (k : Nat) : Digs w B A (ds.take k) := by
  refine ⟨h.all.take k, ?_⟩
  rw [← h.all.flat_take k, List.map_take]
  exact h.sees.take _

/-- A row of digests that is owned. -/
abbrev OwnD (w : World) (base : Nat) (v : Value) (ds : List (List UInt8)) : Prop := w.ownsRow base 89 32 v ds.length (ds.flatten.map bv)
theorem sees_own {w : World} {base : Nat} {e : TypeId} {s c n : Nat} {A : Option Addr} {xs : List Value} (h : w.ownsRow base e s (.slice A n c) n xs) : Sees w w.heap.size A xs := by
  rcases h.2 with ⟨_, h2⟩ | ⟨g, cap, cur, hv, hb, hg, _⟩
  · refine .inl (List.eq_nil_of_length_eq_zero ?_)
    rw [h.1, h2, Nat.zero_mul]
  · have hlt := (h.lt g (by rw [hv]; rfl)).2
    injection hv with hA
    subst hA
    refine .inr ⟨g, 0, rfl, hlt, fun j u hu => ?_⟩
    have := h.cells (g := g) rfl j u hu
    rwa [plain_add] at this
theorem OwnD.digs {w : World} {base c : Nat} {A : Option Addr} {ds : List (List UInt8)} (h : OwnD w base (.slice A ds.length c) ds) (ha : AllD ds) : Digs w w.heap.size A ds := ⟨ha, sees_own h⟩
theorem OwnD.form {w : World} {base n c : Nat} {A : Option Addr} {xs : List Value} (h : w.ownsRow base 89 32 (.slice A n c) n xs) : n ≤ c ∧ c ≤ maxLen ∧ (0 < n → ∃ g, A = some ⟨g, 0, none⟩ ∧ base ≤ g ∧ g < w.heap.size) := by
  rcases h.2 with ⟨h1, h2⟩ | ⟨g, cap, cur, h1, hb, hg, hn, hm, _⟩
  · injection h1 with e1 e2 e3
    subst e3
    exact ⟨by omega, by simp [maxLen], fun hp => by omega⟩
  · have hlt := (h.lt g (by rw [h1]; rfl)).2
    injection h1 with e1 e2 e3
    subst e3
    exact ⟨hn, hm, fun _ => ⟨g, e1, hb, hlt⟩⟩
theorem dig_info3 : (Tryd.prog.info? 89).map (fun i => (i.zero, i.size, i.bytes)) = some (some (.agg (List.replicate 32 (Value.int .u8 0)).toArray), 32, 32) := by kernel_rfl

theorem below_own {w w' : World} {base n s : Nat} {e : TypeId} {v : Value} {xs : List Value} (h : w.ownsRow base e s v n xs) (hg : w.grownBy w' v.ownBlock) (hs : base ≤ w.heap.size) : Below base w w' :=
  ⟨hg.os, hg.tape, hg.output, hg.size, fun b hb => hg.block b (Nat.lt_of_lt_of_le hb hs) (fun e => by
    have := (h.lt b e.symm).1
    omega)⟩
theorem Digs.apart {w w' : World} {row : Option Nat} {A : Option Addr} {ds : List (List UInt8)} (h : Digs w w.heap.size A ds) (hg : w.grownBy w' row) (hne : ∀ g o, A = some ⟨g, o, none⟩ → row ≠ some g) : Digs w' w'.heap.size A ds := by
  refine ⟨h.all, ?_⟩
  rcases h.sees with h0 | ⟨g, o, rfl, hlt, hc⟩
  · exact .inl h0
  · refine .inr ⟨g, o, rfl, Nat.lt_of_lt_of_le hlt hg.size, fun j u hu => ?_⟩
    exact (World.cell?_of_block (a := ⟨g, o + j, none⟩) (hg.block g hlt (fun e => hne g o rfl e.symm))).trans (hc j u hu)

/-- A store into the middle of a block that is known whole. -/
theorem Box.put_mid {w : World} {g : Nat} {t : TypeId} {pre mid post vs : List Value} {o : Nat} (h : Box w g t (pre ++ (mid ++ post)).toArray) (ho : pre.length = o) (hl : vs.length = mid.length) : Box (w.setCells g o vs) g t (pre ++ (vs ++ post)).toArray := by
  subst ho
  obtain ⟨cs', hb, hs, h1, h2, h3⟩ := Box.cells_at vs pre.length w _ h (by simp; omega)
  have e : cs' = (pre ++ (vs ++ post)).toArray := by
    apply Array.ext_getElem?
    intro j
    rcases Nat.lt_or_ge j pre.length with hj | hj
    · rw [h1 j hj, List.getElem?_toArray, List.getElem?_toArray, List.getElem?_append_left hj, List.getElem?_append_left hj]
    · rcases Nat.lt_or_ge j (pre.length + vs.length) with hj2 | hj2
      · have := h2 (j - pre.length) (by omega)
        rw [show pre.length + (j - pre.length) = j from by omega] at this
        rw [this, List.getElem?_toArray, List.getElem?_append_right hj, List.getElem?_append_left (by omega)]
      · rw [h3 j hj2, List.getElem?_toArray, List.getElem?_toArray, List.getElem?_append_right hj, List.getElem?_append_right hj, List.getElem?_append_right (by omega), List.getElem?_append_right (by omega), hl]
  rw [e] at hb
  exact hb
/-- A digest is stored into the middle of a block. -/
theorem Box.store_mid {w : World} {g : Nat} {t : TypeId} {cs : Array Value} (h : Box w g t cs) {o : Nat} (ho : o + 32 ≤ cs.size) (d : List UInt8) (hd : d.length = 32) :
    (stDigest (.pointer (some ⟨g, o, none⟩)) (.agg (d.map bv).toArray)).run Tryd.prog w = .ok () (w.setCells g o (d.map bv)) :=
  run_storeAt_mid (P := Tryd.prog) w g o 89 (d.map bv).toArray (fun j hj => by
    have hj' : j < 32 := by simpa [hd] using hj
    rw [h.cell, h.free, Array.getElem?_eq_getElem (by omega)]
    exact ⟨rfl, rfl⟩) (by rw [List.size_toArray, List.length_map, hd]; kernel_rfl) (all_oneCell_toArray (bv_one d))

/-- A slice literal that holds one digest, as the walk leaves it. -/
theorem fold_dig (d : List UInt8) (hd : d.length = 32) : List.foldl (fun (cs : Array Value) (x : Value × Nat) => cs.setIfInBounds x.2 x.1) #[Value.int .u8 0, Value.int .u8 0, Value.int .u8 0, Value.int .u8 0, Value.int .u8 0, Value.int .u8 0, Value.int .u8 0, Value.int .u8 0, Value.int .u8 0, Value.int .u8 0, Value.int .u8 0, Value.int .u8 0, Value.int .u8 0, Value.int .u8 0, Value.int .u8 0, Value.int .u8 0, Value.int .u8 0, Value.int .u8 0, Value.int .u8 0, Value.int .u8 0, Value.int .u8 0, Value.int .u8 0, Value.int .u8 0, Value.int .u8 0, Value.int .u8 0, Value.int .u8 0, Value.int .u8 0, Value.int .u8 0, Value.int .u8 0, Value.int .u8 0, Value.int .u8 0, Value.int .u8 0] (d.map bv).zipIdx = (d.map bv).toArray :=
  fold_whole (d.map bv) _ (by rw [List.length_map, hd]; rfl)

theorem xor_one (n : Nat) (h : n < 9223372036854775808) : bits .xor .i64 (n : Int) 1 = ((sib n : Nat) : Int) := by
  have e1 : BitVec.ofInt 64 (n : Int) = BitVec.ofNat 64 n := BitVec.ofInt_natCast ..
  have e2 : BitVec.ofInt 64 1 = BitVec.ofNat 64 1 := rfl
  show IntKind.i64.wrap ((BitVec.ofInt 64 (n : Int) ^^^ BitVec.ofInt 64 1).toNat : Int) = _
  have e3 : (BitVec.ofInt 64 (n : Int) ^^^ BitVec.ofInt 64 1).toNat = n ^^^ 1 := by
    rw [e1, e2, BitVec.toNat_xor, BitVec.toNat_ofNat, BitVec.toNat_ofNat, Nat.mod_eq_of_lt (by omega), Nat.mod_eq_of_lt (by omega)]
  have e4 : n ^^^ 1 = sib n := by
    have h1 : (n ^^^ 1) / 2 = n / 2 := by rw [Nat.xor_div_two]; simp
    have h2 : (n ^^^ 1) % 2 = (n + 1) % 2 := by
      rw [← Nat.and_one_is_mod, Nat.and_xor_distrib_right, Nat.and_one_is_mod]
      rcases Nat.mod_two_eq_zero_or_one n with h | h <;> rw [h]
      · show 1 = _; omega
      · show 0 = _; omega
    unfold sib
    split <;> omega
  rw [e3, e4]
  have : sib n < 9223372036854775808 := by unfold sib; split <;> omega
  exact IntWalk.i64_in _ (by omega)
end Go.Proofs.YtapdnoellleimaaDoor

namespace Go.Proofs.YtapdnoellleimaaDoor
open Go.RowKit

theorem dig_size (d : List UInt8) (hd : d.length = 32) : (Tryd.prog.info? 89).map (·.size) = some (d.map bv).toArray.size := by
  rw [List.size_toArray, List.length_map, hd]
  kernel_rfl
theorem below_cells {w0 w : World} {B g : Nat} (h : Below B w0 w) (hg : B ≤ g) (hB : B ≤ w.heap.size) (o : Nat) (vs : List Value) : Below B w0 (w.setCells g o vs) := h.trans (below_only (only_cells vs o w) hg hB)
def zerosD (n : Nat) : List Value := List.replicate n (.int .u8 0)
theorem made_same (K n : Nat) (z : Value) : (madeCells (List.replicate (K + 1) z).toArray n).toList = List.replicate n z := by
  apply List.ext_getElem?
  intro j
  by_cases hj : j < n
  · have h := Nat.mod_lt j (Nat.succ_pos K)
    simp [madeCells, hj, h]
  · simp [madeCells, hj]
theorem made_zeros (n : Nat) : madeCells (List.replicate 32 (Value.int .u8 0)).toArray n = (zerosD n).toArray := by
  apply Array.ext'
  rw [made_same 31 n (.int .u8 0)]
  rfl
theorem Box.cells_dig {w : World} {g : Nat} {t : TypeId} {cs : Array Value} (h : Box w g t cs) (hs : cs.size = 32) {d : List UInt8} (hd : d.length = 32) : Box (w.setCells g 0 (d.map bv)) g t (d.map bv).toArray :=
  h.cells_all (d.map bv).toArray (by rw [List.size_toArray, List.length_map, hd, hs])
/-- A digest is answered. -/
theorem ret_dig {fn : Func} {p : Tmp} (hf : fn.results = #[.cell p 89]) {a : Act} {w : World} {g : Nat} (hp : a.tmps.getD p undef = .pointer (some ⟨g, 0, none⟩)) (hdf : a.defers = []) {t : TypeId} {d : List UInt8} (hb : Box w g t (d.map bv).toArray) (hd : d.length = 32)
    {R : Ending → World → Prop} (hR : R (.returned (.agg (d.map bv).toArray)) w) : bodyPost Tryd.prog fn R .ret a w :=
  bodyPost_ret (results_cell_row hf _ w g t _ (0, 0) _ hp hb Tryd.underlying89 rfl (dig_size d hd)) hdf hR
def lenOfV : Value → Nat
  | .slice _ n _ => n
  | _ => 0
/-- What the walk of Root carries of memory. -/
structure RtW (w0 w : World) : Prop where
  out : Box w w0.heap.size 89 (zerosD 32).toArray
  far : Below w0.heap.size w0 w
theorem RtW.call {w0 w w' : World} (h : RtW w0 w) (hb : Below w.heap.size w w') : RtW w0 w' := ⟨h.out.below hb h.out.lt, h.far.trans (hb.mono h.far.size)⟩
theorem own_slice_s {w : World} {base n s : Nat} {e : TypeId} {v : Value} {xs : List Value} (h : w.ownsRow base e s v n xs) : ∃ A c, v = .slice A n c := by
  rcases h.2 with ⟨h1, h2⟩ | ⟨g, cap, cur, h1, _⟩
  · exact ⟨none, 0, by rw [h1, h2]⟩
  · exact ⟨_, _, h1⟩
/-- What the walk of Path carries of memory. -/
structure PaW (w0 : World) (v : Value) (ps : List (List UInt8)) (w : World) : Prop where
  own : w.ownsRow w0.heap.size 89 32 v ps.length (ps.flatten.map bv)
  all : AllD ps
  far : Below w0.heap.size w0 w
theorem PaW.call {w0 w w' : World} {v : Value} {ps : List (List UInt8)} (h : PaW w0 v ps w) (hb : Below w.heap.size w w') : PaW w0 v ps w' :=
  ⟨World.ownsRow.kept h.own (only_below hb none) (by cases v.ownBlock <;> simp), h.all, h.far.trans (hb.mono h.far.size)⟩
theorem PaW.drew {w0 w : World} {v : Value} {ps : List (List UInt8)} (h : PaW w0 v ps w) : PaW w0 v ps w.drew := ⟨h.own, h.all, h.far.drew⟩
end Go.Proofs.YtapdnoellleimaaDoor

namespace Go.Proofs.YtapdnoellleimaaDoor
open Go.RowKit

theorem fold_mid : ∀ (l : List Value) (k off : Nat) (pre mid post : List Value), pre.length = off + k → mid.length = l.length →
    (l.zipIdx k).foldl (fun (cs : Array Value) (x : Value × Nat) => cs.setIfInBounds (off + x.2) x.1) (pre ++ (mid ++ post)).toArray = (pre ++ (l ++ post)).toArray
  | [], k, off, pre, mid, post, _, hm => by
    rw [List.eq_nil_of_length_eq_zero hm]
    rfl
  | v :: l, k, off, pre, [], post, _, hm => by simp at hm
  | v :: l, k, off, pre, m :: mid, post, hp, hm => by
    rw [List.zipIdx_cons, List.foldl_cons]
    have e : (pre ++ (m :: mid ++ post)).toArray.setIfInBounds (off + k) v = ((pre ++ [v]) ++ (mid ++ post)).toArray := by
      apply Array.ext'
      rw [Array.toList_setIfInBounds]
      show (pre ++ m :: (mid ++ post)).set (off + k) v = _
      rw [← hp, List.set_append_right _ _ (Nat.le_refl _), Nat.sub_self, List.set_cons_zero]
      simp
    show (l.zipIdx (k + 1)).foldl _ ((pre ++ (m :: mid ++ post)).toArray.setIfInBounds (off + k) v) = _
    rw [e, fold_mid l (k + 1) off (pre ++ [v]) mid post (by rw [List.length_append, List.length_singleton]; omega) (by simpa using hm)]
    simp

def partsFrom : Nat → List (List UInt8) → List (Nat × Value)
  | _, [] => []
  | k, d :: r => (k, .agg (d.map bv).toArray) :: partsFrom (k + 1) r
theorem fill_digs : ∀ (r : List (List UInt8)) (k : Nat) (pre : List Value), AllD r → pre.length = k * 32 →
    Instr.fill (fun i => some (i * 32, 32)) (pre ++ zerosD (r.length * 32)).toArray (partsFrom k r) = some (pre ++ r.flatten.map bv).toArray
  | [], k, pre, _, _ => rfl
  | d :: r, k, pre, h, hp => by
    have hd := h d (List.mem_cons_self ..)
    have e : zerosD ((d :: r).length * 32) = zerosD 32 ++ zerosD (r.length * 32) := by
      unfold zerosD
      rw [List.replicate_append_replicate, List.length_cons]
      congr 1
      omega
    have hz : (zerosD 32).length = 32 := rfl
    have hz2 : (zerosD (r.length * 32)).length = r.length * 32 := by unfold zerosD; exact List.length_replicate
    rw [e]
    unfold partsFrom Instr.fill
    have hsz : (Value.agg (d.map bv).toArray).cells.size = 32 := by
      show (d.map bv).toArray.size = 32
      rw [List.size_toArray, List.length_map, hd]
    have hf : (Value.agg (d.map bv).toArray).cells.zipIdx.foldl (fun (cs : Array Value) (x : Value × Nat) => cs.setIfInBounds (k * 32 + x.2) x.1) (pre ++ (zerosD 32 ++ zerosD (r.length * 32))).toArray = ((pre ++ d.map bv) ++ zerosD (r.length * 32)).toArray := by
      show (d.map bv).toArray.zipIdx.foldl _ _ = _
      rw [← Array.foldl_toList, Array.toList_zipIdx, List.toList_toArray, fold_mid (d.map bv) 0 (k * 32) pre (zerosD 32) _ (by rw [hp, Nat.add_zero]) (by rw [List.length_map, hd, hz]), List.append_assoc]
    simp only [hsz]
    rw [if_neg (by simp [hz, hz2, hp])]
    refine (congrArg (fun c => Instr.fill _ c _) hf).trans ?_
    rw [fill_digs r (k + 1) (pre ++ d.map bv) h.tail (by rw [List.length_append, List.length_map, hd, hp]; omega), List.flatten_cons, List.map_append, List.append_assoc]

end Go.Proofs.YtapdnoellleimaaDoor

namespace Go.Proofs.YtapdnoellleimaaDoor
open Go.RowKit

theorem digs_one (w : World) {d : List UInt8} (hd : d.length = 32) : Digs (w.alloc (.cells (d.map bv).toArray 89)) (w.alloc (.cells (d.map bv).toArray 89)).heap.size (some ⟨w.heap.size, 0, none⟩) [d] := by
  have hX : Box (w.alloc (.cells (d.map bv).toArray 89)) w.heap.size 89 (d.map bv).toArray := Box.made _ _ _
  exact ⟨AllD.one hd, by simpa using Sees.of_box hX hX.lt⟩
theorem own_none (w : World) {base : Nat} (hb : base ≤ w.heap.size) : (w.alloc (.cells #[] 89)).ownsRow base 89 32 (.slice (some ⟨w.heap.size, 0, none⟩) 0 0) 0 ([] : List Value) :=
  World.ownsRow_lit (base := base) (size := 32) w (e := 89) #[] 0 hb (by simp [maxLen]) (by simp)
abbrev zs32 : Array Value := (List.replicate 32 (Value.int .u8 0)).toArray
theorem dig_same (d : List UInt8) (hd : d.length = 32) : (d.map bv).toArray.size = zs32.size := by
  rw [List.size_toArray, List.length_map, hd]
  rfl
theorem Box.range {w : World} {g : Nat} {t : TypeId} {cs : List Value} (h : Box w g t cs.toArray) : w.rangeAt g 0 cs := fun j v hv => by
  rw [Nat.zero_add, h.cell, List.getElem?_toArray]
  exact hv
theorem Box.range_mid {w : World} {g o : Nat} {t : TypeId} {pre mid post : List Value} (h : Box w g t (pre ++ (mid ++ post)).toArray) (ho : pre.length = o) : w.rangeAt g o mid := by
  intro j v hv
  have hj := (List.getElem?_eq_some_iff.1 hv).1
  rw [h.cell, List.getElem?_toArray, List.getElem?_append_right (by omega), List.getElem?_append_left (by omega), ← ho, Nat.add_sub_cancel_left]
  exact hv
theorem dig_list (d : List UInt8) (hd : d.length = 32) : (Tryd.prog.info? 89).map (·.size) = some (d.map bv).length := by
  rw [List.length_map, hd]
  kernel_rfl
theorem digs_made (w : World) {ds : List (List UInt8)} (h : AllD ds) : Digs (w.alloc (.cells (ds.flatten.map bv).toArray 89)) (w.alloc (.cells (ds.flatten.map bv).toArray 89)).heap.size (some ⟨w.heap.size, 0, none⟩) ds := by
  have hX : Box (w.alloc (.cells (ds.flatten.map bv).toArray 89)) w.heap.size 89 (ds.flatten.map bv).toArray := Box.made _ _ _
  exact ⟨h, by simpa using Sees.of_box hX hX.lt⟩
theorem sees_const (w : World) (x : UInt8) : Sees (w.alloc (.cells #[bv x] 5 (1, 2))) (w.alloc (.cells #[bv x] 5 (1, 2))).heap.size (some ⟨w.heap.size, 0, none⟩) (([x] : List UInt8).map bv) := by
  refine .inr ⟨w.heap.size, 0, rfl, by simp, fun j u hu => ?_⟩
  rw [Nat.zero_add, World.cell?_alloc_mark, List.getElem?_toArray]
  exact hu
end Go.Proofs.YtapdnoellleimaaDoor

namespace Go.Proofs.YtapdnoellleimaaDoor
open Go.RowKit Go.Sort

/-- A load that answers in every world that has only grown. -/
theorem Box.load_grown {w : World} {g : Nat} {t : TypeId} {d : List UInt8} (h : Box w g t (d.map bv).toArray) (hd : d.length = 32) (k : Nat) (os : Array Obj) : (ldDigest (.pointer (some ⟨g, 0, none⟩))).run Tryd.prog (grow (redrawn w k) os) = .ok (.agg (d.map bv).toArray) (grow (redrawn w k) os) :=
  (h.below (below_regrown w k os) h.lt).load_digest hd
theorem Digs.load_grown {w : World} {g o : Nat} {ds : List (List UInt8)} (h : Digs w w.heap.size (some ⟨g, o, none⟩) ds) {j : Nat} (hj : j < ds.length) (k : Nat) (os : Array Obj) : (ldDigest (.pointer (some ⟨g, o + j * 32, none⟩))).run Tryd.prog (grow (redrawn w k) os) = .ok (.agg ((ds.getD j []).map bv).toArray) (grow (redrawn w k) os) :=
  (h.far (below_regrown w k os)).load hj
end Go.Proofs.YtapdnoellleimaaDoor

namespace Go.Proofs.YtapdnoellleimaaDoor
open Go.RowKit

attribute [local go_sem ↓] ldDigest_def stDigest_def

theorem conv_str (l : List UInt8) (w : World) : ∃ cap w', (convert 9 22 (str l)).run Tryd.prog w = .ok (.slice (some ⟨w.heap.size, 0, none⟩) l.length cap) w' ∧ Sees w' w'.heap.size (some ⟨w.heap.size, 0, none⟩) (l.map bv) ∧ Below w.heap.size w w' := by
  have hr := Lib.run_convert_string_bytes (P := Tryd.prog) w 9 22 5 ⟨l.toArray⟩ Tryd.underlying9 Tryd.underlying22 Tryd.underlying5
  have hsz := Lib.bytesWorld_size w 5 ⟨l.toArray⟩
  refine ⟨_, _, hr, .inr ⟨w.heap.size, 0, rfl, by rw [hsz]; omega, fun j u hu => ?_⟩, ⟨rfl, rfl, rfl, by rw [hsz]; omega, fun b hb => Lib.bytesWorld_at_old w 5 ⟨l.toArray⟩ b hb⟩⟩
  have hj : j < l.length := by
    have := (List.getElem?_eq_some_iff.1 hu).1
    simpa using this
  rw [Nat.zero_add, Lib.bytesWorld_cell w 5 ⟨l.toArray⟩ j (by show j < l.toArray.size; simpa using hj)]
  rw [List.getElem?_map, List.getElem?_eq_getElem hj] at hu
  simp only [Option.map_some, Option.some.injEq] at hu
  rw [← hu]
  simp [bv, hj]
set_option maxRecDepth 100000 in
set_option maxHeartbeats 1000000 in
theorem text_any (l : List UInt8) (hl : l.length ≤ 1099511627776) (w : World) :
    Calls Tryd.prog 50 #[str l] w fun e w' => e = .returned (.agg ((shaOf l).map bv).toArray) ∧ Below w.heap.size w w' := by
  have hF0 : Below w.heap.size w (w.alloc (.cells (zerosD 32).toArray 89)) := (Below.refl _ _).alloc (Nat.le_refl _) _
  have HW0 : Hid (RtW w (w.alloc (.cells (zerosD 32).toArray 89))) := ⟨Box.made w _ _, hF0⟩
  obtain ⟨cap, w2, hcv, hs2, hb2⟩ := conv_str l (w.alloc (.cells (zerosD 32).toArray 89))
  have HRF := Lib.hid (ref_any l _ cap w2 hs2 hl)
  go_enter Tryd.func50, Tryd.ntmps50
  go_upto_region 1 with fail
  change Code.wp _ _ _ _ (w.alloc (.cells (zerosD 32).toArray 89))
  generalize w.alloc (.cells (zerosD 32).toArray 89) = w1 at *
  have hdl : (shaOf l).length = 32 := rfl
  generalize hd : shaOf l = d at *
  have HDE := Lib.hid hd
  have HB2 := Lib.hid hb2
  clear hd hs2 hb2 hF0
  go_wp2_with (go_at_call 61; refine (HRF.out).mono ?_; rintro e w3 ⟨rfl, hb3⟩; have HW3 := Lib.hid (HW0.out.call (HB2.out.trans (hb3.mono HB2.out.size))); clear hb3; have hst := HW3.out.out.store_digest rfl d hdl)
  exact ret_dig rfl rfl rfl (HW3.out.out.cells_dig rfl hdl) hdl ⟨by rw [HDE.out], below_cells HW3.out.far (Nat.le_refl _) HW3.out.far.size _ _⟩
theorem bytes_cat (a b : List UInt8) : (⟨a.toArray⟩ : ByteArray) ++ ⟨b.toArray⟩ = ⟨(a ++ b).toArray⟩ := by
  apply ByteArray.ext
  simp
end Go.Proofs.YtapdnoellleimaaDoor

namespace Go.Proofs.YtapdnoellleimaaDoor
open Go.RowKit

attribute [local go_sem ↓] ldDigest_def stDigest_def

theorem digs_loads {w : World} {g o : Nat} {ds : List (List UInt8)} (h : Digs w w.heap.size (some ⟨g, o, none⟩) ds) {k : Nat} (hk : k < ds.length) (n : Nat) : (ldDigest (.pointer (some ⟨g, o + k * 32, none⟩))).run Tryd.prog (w.drewN n) = .ok (.agg ((ds.getD k []).map bv).toArray) (w.drewN n) :=
  Digs.load (B := w.heap.size) (w := w.drewN n) (h.keep (fun _ _ => by simp)) hk
theorem take_eq_step {xs ys : List (List UInt8)} {k : Nat} (hl : xs.length = ys.length) (hk : k < xs.length) (h : xs.take k = ys.take k) (he : xs.getD k [] = ys.getD k []) : xs.take (k + 1) = ys.take (k + 1) := by
  have hk' : k < ys.length := by omega
  rw [List.getD_eq_getElem?_getD, List.getD_eq_getElem?_getD, List.getElem?_eq_getElem hk, List.getElem?_eq_getElem hk'] at he
  rw [List.take_succ_eq_append_getElem hk, List.take_succ_eq_append_getElem hk', h]
  have he' : xs[k] = ys[k] := he
  rw [he']

end Go.Proofs.YtapdnoellleimaaDoor
