/-
  A disk on plain lists: its files, what each call does.
  A disk in memory: a map of files, each a block of its own over a row of bytes of its own.
  The calls of a disk: its small ones.
  A file that loses what waits; its bytes cloned; a name looked up.
-/
import Derived.WalkKit
import Derived.Test.YtapdnoellleimaaDoorVoMap
import Derived.Test.YtapdnoellleimaaDoorNB
import Derived.Test.YtapdnoellleimaaDoorTG
import Derived.Maps.AppendAt
import Derived.Test.YtapdnoellleimaaDoorSD
import Derived.BigQuiet
namespace Go.Proofs.YtapdnoellleimaaDoor

/-- A file: its name, its bytes, how many are safe. -/
structure FX where
  name : List UInt8
  data : List UInt8
  safe : Nat
structure DX where
  fs : List FX
  down : Bool
  acts : Int
  fuse : Int
  keep : Int
def lookF (fs : List FX) (s : List UInt8) : Option FX := fs.find? fun f => f.name = s
def hasF (fs : List FX) (s : List UInt8) : Bool := fs.any fun f => f.name = s
def openF (fs : List FX) (s : List UInt8) : List FX := if hasF fs s then fs else fs ++ [⟨s, [], 0⟩]
def updF (fs : List FX) (s : List UInt8) (g : FX → FX) : List FX := fs.map fun f => if f.name = s then g f else f
def putF (fs : List FX) (s : List UInt8) (g : FX → FX) : List FX := updF (openF fs s) s g
def totF (fs : List FX) : Nat := (fs.map fun f => f.data.length).sum
def sizeF (fs : List FX) (s : List UInt8) : Nat := match lookF fs s with
  | some f => f.data.length
  | none => 0
/-- How many bytes are there behind a loss of power. -/
def keptF (k : Int) (f : FX) : Nat := f.safe + (min (max 0 k) ((f.data.length - f.safe : Nat) : Int)).toNat
def loseF (k : Int) (f : FX) : FX := ⟨f.name, f.data.take (keptF k f), keptF k f⟩
def DX.off (X : DX) (k : Int) : DX := if X.down then X else { X with down := true, fuse := 0, fs := X.fs.map (loseF k) }
def DX.on (X : DX) : DX := { X with down := false }
def DX.arm (X : DX) (n k : Int) : DX := { X with fuse := max 0 n, keep := k }
def DX.tick (X : DX) : DX := { X with acts := X.acts + 1, fuse := if X.fuse = 0 then 0 else X.fuse - 1 }
def DX.burns (X : DX) : Bool := decide (X.fuse = 1)
def DX.takes (X : DX) (more : Int) : Int := if X.down then 21 else if 4194304 - (totF X.fs : Int) < more then 20 else 0
def DX.put (X : DX) (s : List UInt8) (g : FX → FX) : DX := { X with fs := putF X.fs s g }
def DX.append (X : DX) (s l : List UInt8) : Int × DX :=
  if X.takes l.length ≠ 0 then (X.takes l.length, X)
  else if X.burns then (21, ((X.put s fun f => ⟨f.name, f.data ++ l, f.safe⟩).tick).off X.keep)
  else (0, (X.put s fun f => ⟨f.name, f.data ++ l, f.safe⟩).tick)
def DX.sync (X : DX) (s : List UInt8) : Int × DX :=
  if X.takes 0 ≠ 0 then (X.takes 0, X)
  else if X.burns then (21, X.tick.off X.keep)
  else (0, X.tick.put s fun f => ⟨f.name, f.data, f.data.length⟩)
def DX.install (X : DX) (s l : List UInt8) : Int × DX :=
  if X.takes (l.length - sizeF X.fs s) ≠ 0 then (X.takes (l.length - sizeF X.fs s), X)
  else if X.burns then (21, X.tick.off X.keep)
  else (0, X.tick.put s fun _ => ⟨s, l, l.length⟩)
def DX.read (X : DX) (s : List UInt8) : List UInt8 × Int :=
  if X.down then ([], 21) else match lookF X.fs s with
  | some f => (f.data, 0)
  | none => ([], 7)
structure DX.Few (X : DX) : Prop where
  acts : 0 ≤ X.acts ∧ X.acts < 1000000
  fs : X.fs.length < 1000000
def newX : DX := ⟨[], false, 0, 0, 0⟩

set_option maxRecDepth 100000 in
theorem keptF_le {k : Int} {f : FX} (h : f.safe ≤ f.data.length) : f.safe ≤ keptF k f ∧ keptF k f ≤ f.data.length := by
  unfold keptF
  omega
set_option maxRecDepth 100000 in
theorem hasF_iff {fs : List FX} {s : List UInt8} : hasF fs s = true ↔ ∃ f ∈ fs, f.name = s := by
  unfold hasF
  rw [List.any_eq_true]
  simp
set_option maxRecDepth 100000 in
theorem hasF_false {fs : List FX} {s : List UInt8} : hasF fs s = false ↔ ∀ f ∈ fs, f.name ≠ s := by
  unfold hasF
  rw [List.any_eq_false]
  simp
set_option maxRecDepth 100000 in
theorem lookF_some {fs : List FX} {s : List UInt8} {f : FX} (h : lookF fs s = some f) : f ∈ fs ∧ f.name = s := by
  unfold lookF at h
  have h1 := List.find?_some h
  exact ⟨List.mem_of_find?_eq_some h, by simpa using h1⟩
set_option maxRecDepth 100000 in
theorem lookF_none {fs : List FX} {s : List UInt8} (h : lookF fs s = none) : ∀ f ∈ fs, f.name ≠ s := by
  unfold lookF at h
  rw [List.find?_eq_none] at h
  simpa using h
set_option maxRecDepth 100000 in
theorem lookF_has {fs : List FX} {s : List UInt8} : hasF fs s = (lookF fs s).isSome := by
  cases e : lookF fs s with
  | some f => exact hasF_iff.2 ⟨f, lookF_some e⟩
  | none => exact hasF_false.2 (lookF_none e)
set_option maxRecDepth 100000 in
theorem totF_app (a b : List FX) : totF (a ++ b) = totF a + totF b := by
  unfold totF
  rw [List.map_append, List.sum_append]
set_option maxRecDepth 100000 in
theorem totF_open (fs : List FX) (s : List UInt8) : totF (openF fs s) = totF fs := by
  unfold openF
  split
  · rfl
  · rw [totF_app]; rfl
set_option maxRecDepth 100000 in
/-- One file of a list with names of its own is another one. -/
theorem totF_upd {fs : List FX} (hn : (fs.map FX.name).Nodup) {f : FX} (hf : f ∈ fs) (g : FX → FX) : totF (updF fs f.name g) + f.data.length = totF fs + (g f).data.length := by
  induction fs with
  | nil => cases hf
  | cons a r ih =>
    rw [List.map_cons, List.nodup_cons] at hn
    have hc : ∀ (x : FX) (l : List FX), totF (x :: l) = x.data.length + totF l := fun x l => by unfold totF; rw [List.map_cons, List.sum_cons]
    have hu : updF (a :: r) f.name g = (if a.name = f.name then g a else a) :: updF r f.name g := rfl
    rw [hu, hc, hc]
    rcases List.mem_cons.1 hf with rfl | hf
    · have hr : updF r f.name g = r := by
        unfold updF
        rw [show r = r.map id from (List.map_id r).symm]
        rw [List.map_map]
        apply List.map_congr_left
        intro x hx
        show (if x.name = f.name then g x else x) = x
        rw [if_neg (fun e => hn.1 (by rw [← e]; exact List.mem_map.2 ⟨x, hx, rfl⟩))]
      rw [if_pos rfl, hr]
      omega
    · have hne : a.name ≠ f.name := fun e => hn.1 (by rw [e]; exact List.mem_map.2 ⟨f, hf, rfl⟩)
      rw [if_neg hne]
      have := ih hn.2 hf
      omega
end Go.Proofs.YtapdnoellleimaaDoor

namespace Go.Proofs.YtapdnoellleimaaDoor
open Go.RowKit Go.Maps Go.Sort

/-- Bytes as elements of a row. -/
noncomputable def DB : EK UInt8 where
  e := 5
  sl := 22
  k := 1
  bys := 1
  z := .int .u8 0
  enc := fun b => [bv b]
  hk := by decide
  und := Tryd.underlying22
  els := by kernel_rfl
  info := by kernel_rfl
  hzs := rfl
  zone := by
    intro v hv
    simp only [Value.cells, List.mem_cons, List.not_mem_nil, or_false] at hv
    rcases hv with rfl
    rfl
  len := fun _ => rfl
  one := by
    intro x v hv
    simp only [List.mem_cons, List.not_mem_nil, or_false] at hv
    rcases hv with rfl
    rfl
  hby := by decide
set_option maxRecDepth 100000 in
theorem DB_flat (xs : List UInt8) : DB.flat xs = xs.map bv := by
  show xs.flatMap (fun s => [bv s]) = _
  induction xs with
  | nil => rfl
  | cons x r ih => rw [List.flatMap_cons, ih]; rfl
set_option maxRecDepth 100000 in
theorem DB_see {w : World} {B : Nat} {A : Option Addr} {xs : List UInt8} (h : Sees w B A (xs.map bv)) : DB.See w B A xs := by
  show Sees w B A (DB.flat xs)
  rw [DB_flat]
  exact h
set_option maxRecDepth 100000 in
theorem DB_sees {w : World} {B : Nat} {A : Option Addr} {xs : List UInt8} (h : DB.See w B A xs) : Sees w B A (xs.map bv) := by
  have h2 : Sees w B A (DB.flat xs) := h
  rw [DB_flat] at h2
  exact h2
set_option maxRecDepth 100000 in
theorem ownBlock_slice (A : Option Addr) (n c : Nat) : (Value.slice A n c).ownBlock = A.map Addr.block := by cases A <;> rfl

set_option maxRecDepth 100000 in
/-- append of bytes that are seen onto bytes that are owned, and where they lie then. -/
theorem dk_append {w : World} {base : Nat} {A : Option Addr} {c : Nat} {xs : List UInt8} (hown : DB.Own w base (.slice A xs.length c) xs) {A' : Option Addr} {m c' : Nat} {es : List UInt8} (hm : m = es.length) (he : Sees w w.heap.size A' (es.map bv))
    (hl : xs.length + m ≤ 70368744177664) (hbase : base ≤ w.heap.size) :
    ∃ A2 c2 w', (apAll #[22, 22] 22 #[.slice A xs.length c, .slice A' m c']).run Tryd.prog w = .ok (.slice A2 (xs ++ es).length c2) w' ∧ DB.Own w' base (.slice A2 (xs ++ es).length c2) (xs ++ es) ∧
      w.grownBy w' (A.map Addr.block) ∧ (A2.map Addr.block = A.map Addr.block ∨ A2.map Addr.block = some w.heap.size) := by
  obtain ⟨i0, hi0, hz0, hz1, hz2⟩ := info_parts DB.info
  have hes := DB_see he
  have hfl := DB.flat_len es
  subst hm
  cases A' with
  | some ad =>
    obtain ⟨v', w', hr, ho, hg, _, hb⟩ := run_append_own_at (P := Tryd.prog) (w := w) base DB.sl DB.sl DB.e i0 _ DB.k DB.bys DB.und hi0 hz0 hz1 hz2 DB.hzs DB.hk (.slice A xs.length c) xs.length _ hown ad es.length c' (DB.flat es) hfl hes.add (DB.flat_one es) (by unfold maxLen; omega) (by show (_ + _) * 1 ≤ _; omega) hbase
    have ho' : DB.Own w' base v' (xs ++ es) := by
      show w'.ownsRow base DB.e DB.k v' (xs ++ es).length (DB.flat (xs ++ es))
      rw [DB.flat_app, List.length_append]
      exact ho
    obtain ⟨A2, c2, rfl⟩ := ho'.slice
    rw [ownBlock_slice, ownBlock_slice] at hb
    rw [ownBlock_slice] at hg
    exact ⟨A2, c2, w', hr, ho', hg, hb⟩
  | none =>
    have hn : es = [] := EK.See.nil hes
    subst hn
    obtain ⟨v', w', hr, ho, hg⟩ := DB.append (A := none) (m := 0) (c := c') (es := []) hown rfl hes (by omega) (by show (_ + _) * 1 ≤ _; omega) hbase
    have hu := DB.und
    have hr2 : (apAll #[22, 22] 22 #[.slice A xs.length c, .slice none 0 c']).run Tryd.prog w = .ok (.slice A xs.length c) w := by
      show (Builtin.append_ _ _ _).run _ _ = _
      have hi1 : Tryd.prog.info? 5 = some i0 := hi0
      have hu1 : Tryd.prog.underlying 22 = some (.slice 5) := hu
      rcases hown.2 with ⟨h1, h0⟩ | ⟨g, cap, cur, h1, _, _, hnc, _⟩
      · injection h1 with e1 e2 e3
        subst e1; subst e3
        rw [h0]
        simp [Builtin.append_, run_underlying hu1, sizeOf, typeInfo, hi1, Builtin.lenOf, Builtin.firstCells]
      · injection h1 with e1 e2 e3
        subst e1; subst e3
        simp [Builtin.append_, run_underlying hu1, sizeOf, typeInfo, hi1, Builtin.lenOf, Builtin.firstCells, hnc, storeCells]
    rw [List.append_nil]
    exact ⟨A, c, w, hr2, hown, only_refl _ _, .inl rfl⟩

set_option maxRecDepth 100000 in
/-- A row's beginning. -/
theorem dk_cut {w : World} {base : Nat} {A : Option Addr} {c : Nat} {xs : List UInt8} (hown : DB.Own w base (.slice A xs.length c) xs) {k : Nat} (hk : k ≤ xs.length) : DB.Own w base (.slice A (xs.take k).length c) (xs.take k) := by
  have hl : (xs.take k).length = k := by rw [List.length_take]; omega
  rw [hl]
  have hown' : w.ownsRow base 5 1 (.slice A xs.length c) xs.length (DB.flat xs) := hown
  show w.ownsRow base 5 1 _ (xs.take k).length (DB.flat (xs.take k))
  rw [hl]
  rw [DB_flat] at hown' ⊢
  rcases hown'.2 with ⟨h1, h0⟩ | ⟨g, cap, cur, h1, hb, hh, hnc, hcm, hsz, htk⟩
  · injection h1 with e1 e2 e3
    subst e1; subst e3
    obtain rfl : k = 0 := by omega
    exact ⟨by simp, .inl ⟨rfl, rfl⟩⟩
  · injection h1 with e1 e2 e3
    subst e1; subst e3
    refine ⟨by simp; omega, .inr ⟨g, c, cur, rfl, hb, hh, by omega, hcm, hsz, ?_⟩⟩
    rw [Nat.mul_one] at htk ⊢
    rw [List.map_take, ← htk, List.take_take, Nat.min_eq_left hk]

/-! ### Names as keys -/
abbrev SX := {l : List UInt8 // l.length ≤ maxLen}
noncomputable def sKey : MKey SX where
  t := 9
  enc := fun x => str x.1
  lit := fun x => .string x.1
  keyed := string_keyed Tryd.underlying9
  of := fun x => by
    have h := Go.WideMaps.keyOf_string_mk (P := Tryd.prog) Tryd.underlying9 (s := ⟨x.1.toArray⟩) (by simpa [ByteArray.size] using x.2)
    simpa using h
  inv := fun key kl h => by
    obtain ⟨x, rfl, _, hl⟩ := Maps.keyOf_str Tryd.underlying9 h
    exact ⟨⟨x, hl⟩, rfl⟩
  encinj := fun x y h => by
    simp only [Value.string.injEq, ByteArray.mk.injEq] at h
    exact Subtype.ext (by simpa using h)
def sk (l : List UInt8) : SX := if h : l.length ≤ maxLen then ⟨l, h⟩ else ⟨[], by simp⟩
set_option maxRecDepth 100000 in
theorem sk_val {l : List UInt8} (h : l.length ≤ maxLen) : (sk l).1 = l := by
  unfold sk
  rw [dif_pos h]
set_option maxRecDepth 100000 in
theorem sk_enc {l : List UInt8} (h : l.length ≤ maxLen) : sKey.enc (sk l) = str l := by
  show str (sk l).1 = _
  rw [sk_val h]
set_option maxRecDepth 100000 in
theorem sk_inj {a b : List UInt8} (ha : a.length ≤ maxLen) (hb : b.length ≤ maxLen) (h : sk a = sk b) : a = b := by
  rw [← sk_val ha, ← sk_val hb, h]

/-! ### Files in memory -/
structure FM where
  x : FX
  fb : Nat
  A : Option Addr
  c : Nat
abbrev FM.blk (m : FM) : Option Nat := m.A.map Addr.block
def FM.ent (m : FM) : SX × Value := (sk m.x.name, .pointer (some ⟨m.fb, 0, none⟩))
abbrev FileBox (w : World) (m : FM) : Prop := Box w m.fb 73 #[.slice m.A m.x.data.length m.c, .int .i64 (m.x.safe : Int)]
structure FileW (w : World) (base : Nat) (m : FM) : Prop where
  box : FileBox w m
  own : DB.Own w base (.slice m.A m.x.data.length m.c) m.x.data
  safe : m.x.safe ≤ m.x.data.length
  low : base ≤ m.fb
  name : m.x.name.length ≤ maxLen
set_option maxRecDepth 100000 in
theorem FileW.aside {w w' : World} {base : Nat} {m : FM} (h : FileW w base m) {row : Option Nat} (hg : w.grownBy w' row) (h1 : some m.fb ≠ row) (h2 : m.blk = none ∨ m.blk ≠ row) : FileW w' base m :=
  ⟨Box.grown h.box hg h1, World.ownsRow.kept h.own hg (by rw [ownBlock_slice]; exact h2), h.safe, h.low, h.name⟩
set_option maxRecDepth 100000 in
theorem FileW.call {w w' : World} {base : Nat} {m : FM} (h : FileW w base m) (hb : Below w.heap.size w w') : FileW w' base m :=
  h.aside (only_below hb none) (by simp) (by cases m.blk <;> simp)
set_option maxRecDepth 100000 in
theorem FileW.blk_lt {w : World} {base : Nat} {m : FM} (h : FileW w base m) : ∀ g, m.blk = some g → base ≤ g ∧ ∃ cs, Box w g 5 cs := by
  intro g hg
  have h' : w.ownsRow base 5 1 (.slice m.A m.x.data.length m.c) m.x.data.length (DB.flat m.x.data) := h.own
  rcases h'.2 with ⟨e, _⟩ | ⟨g', cap, cur, e, hb, hh, _⟩
  · injection e with e1
    rw [FM.blk, e1] at hg
    cases hg
  · injection e with e1
    rw [FM.blk, e1] at hg
    injection hg with hg
    subst hg
    exact ⟨hb, cur, hh⟩
def FM.Apart (a b : FM) : Prop := a.fb ≠ b.fb ∧ ∀ g, a.blk = some g → b.blk ≠ some g
set_option maxRecDepth 100000 in
theorem FM.Apart.symm {a b : FM} (h : a.Apart b) : b.Apart a := ⟨fun e => h.1 e.symm, fun g hb ha => h.2 g ha hb⟩
set_option maxRecDepth 100000 in
theorem FM.Apart.ne {a b : FM} (h : a.Apart b) : a.blk = none ∨ a.blk ≠ b.blk := by
  cases e : a.blk with
  | none => exact .inl rfl
  | some g => exact .inr (fun e2 => h.2 g e e2.symm)
set_option maxRecDepth 100000 in
theorem apart_of {ms : List FM} (hp : ms.Pairwise FM.Apart) : ∀ a ∈ ms, ∀ b ∈ ms, a ≠ b → a.Apart b := by
  induction ms with
  | nil => intro a ha; cases ha
  | cons x r ih =>
    rw [List.pairwise_cons] at hp
    intro a ha b hb hne
    rcases List.mem_cons.1 ha with e1 | ha'
    · rcases List.mem_cons.1 hb with e2 | hb'
      · exact absurd (e1.trans e2.symm) hne
      · rw [e1]; exact hp.1 b hb'
    · rcases List.mem_cons.1 hb with e2 | hb'
      · rw [e2]; exact (hp.1 a ha').symm
      · exact ih hp.2 a ha' b hb' hne

structure DkFs (w : World) (base mb : Nat) (ms : List FM) : Prop where
  map : MapIs sKey w mb (ms.map FM.ent)
  files : ∀ m ∈ ms, FileW w base m
  apart : ms.Pairwise FM.Apart
  low : base ≤ mb
section
variable {w w' : World} {base mb : Nat} {ms : List FM}
set_option maxRecDepth 100000 in
theorem DkFs.aside (h : DkFs w base mb ms) {row : Option Nat} (hg : w.grownBy w' row) (h1 : some mb ≠ row) (h2 : ∀ m ∈ ms, some m.fb ≠ row ∧ (m.blk = none ∨ m.blk ≠ row)) : DkFs w' base mb ms :=
  ⟨h.map.grown hg h1, fun m hm => (h.files m hm).aside hg (h2 m hm).1 (h2 m hm).2, h.apart, h.low⟩
set_option maxRecDepth 100000 in
theorem DkFs.call (h : DkFs w base mb ms) (hb : Below w.heap.size w w') : DkFs w' base mb ms :=
  h.aside (only_below hb none) (by simp) (fun m _ => ⟨by simp, by cases m.blk <;> simp⟩)
set_option maxRecDepth 100000 in
/-- A block of another type has turned. -/
theorem DkFs.box (h : DkFs w base mb ms) {g : Nat} {t : TypeId} {cs : Array Value} (hb : Box w g t cs) (h1 : t ≠ 73) (h2 : t ≠ 5) (hg : w.grownBy w' (some g)) : DkFs w' base mb ms :=
  h.aside hg (fun e => h.map.ne hb (by injection e with e; exact e.symm)) (fun m hm => ⟨fun e => Box.apart (h.files m hm).box hb (fun e => h1 e.symm) (by injection e), by
    cases e : m.blk with
    | none => exact .inl rfl
    | some g' =>
      obtain ⟨_, cs', hb'⟩ := (h.files m hm).blk_lt g' e
      exact .inr (fun e2 => Box.apart hb' hb (fun e => h2 e.symm) (by injection e2))⟩)
set_option maxRecDepth 100000 in
theorem DkFs.names (h : DkFs w base mb ms) : (ms.map fun m => m.x.name).Nodup := by
  have h1 := h.map.keys
  unfold List.Nodup at h1 ⊢
  rw [List.map_map, List.pairwise_map] at h1
  rw [List.pairwise_map]
  exact h1.imp fun hne e => hne (by show sk _ = sk _; rw [e])
set_option maxRecDepth 100000 in
theorem DkFs.names' (h : DkFs w base mb ms) : ((ms.map FM.x).map FX.name).Nodup := by
  rw [List.map_map]
  exact h.names
set_option maxRecDepth 100000 in
theorem DkFs.uniq (h : DkFs w base mb ms) {a b : FM} (ha : a ∈ ms) (hb : b ∈ ms) (e : a.x.name = b.x.name) : a = b := by
  have hn := h.names
  unfold List.Nodup at hn
  rw [List.pairwise_map] at hn
  have h1 := hn
  clear hn h
  induction ms with
  | nil => cases ha
  | cons x r ih =>
    rw [List.pairwise_cons] at h1
    rcases List.mem_cons.1 ha with e1 | ha'
    · rcases List.mem_cons.1 hb with e2 | hb'
      · exact e1.trans e2.symm
      · exact absurd (by rw [← e1]; exact e) (h1.1 b hb')
    · rcases List.mem_cons.1 hb with e2 | hb'
      · exact absurd (by rw [← e2]; exact e.symm) (h1.1 a ha')
      · exact ih ha' hb' h1.2
set_option maxRecDepth 100000 in
/-- A name is looked for. -/
theorem DkFs.find (h : DkFs w base mb ms) (s : List UInt8) (hs : s.length ≤ maxLen) :
    (∃ m ∈ ms, m.x.name = s ∧ lookL (ms.map FM.ent) (sk s) = some (.pointer (some ⟨m.fb, 0, none⟩)) ∧ lookF (ms.map FM.x) s = some m.x) ∨
    (lookL (ms.map FM.ent) (sk s) = none ∧ (∀ m ∈ ms, m.x.name ≠ s) ∧ lookF (ms.map FM.x) s = none) := by
  cases e : lookL (ms.map FM.ent) (sk s) with
  | some v =>
    obtain ⟨m, hm, he⟩ := List.mem_map.1 (lookL_mem e)
    unfold FM.ent at he
    simp only [Prod.mk.injEq] at he
    have hn : m.x.name = s := sk_inj (h.files m hm).name hs he.1
    refine .inl ⟨m, hm, hn, by rw [← he.2], ?_⟩
    cases e2 : lookF (ms.map FM.x) s with
    | some f =>
      obtain ⟨h1, h2⟩ := lookF_some e2
      obtain ⟨m2, hm2, rfl⟩ := List.mem_map.1 h1
      rw [h.uniq hm2 hm (h2.trans hn.symm)]
    | none => exact absurd hn (lookF_none e2 _ (List.mem_map.2 ⟨m, hm, rfl⟩))
  | none =>
    have h1 : ∀ m ∈ ms, m.x.name ≠ s := fun m hm e2 => lookL_none e _ (List.mem_map.2 ⟨m, hm, rfl⟩) (by show sk _ = _; rw [e2])
    refine .inr ⟨rfl, h1, ?_⟩
    cases e2 : lookF (ms.map FM.x) s with
    | some f =>
      obtain ⟨h3, h4⟩ := lookF_some e2
      obtain ⟨m2, hm2, rfl⟩ := List.mem_map.1 h3
      exact absurd h4 (h1 m2 hm2)
    | none => rfl

/-! ### One file is another one -/
def repM (ms : List FM) (m' : FM) : List FM := ms.map fun k => if k.x.name = m'.x.name then m' else k
set_option maxRecDepth 100000 in
theorem repM_x (ms : List FM) (m' : FM) : (repM ms m').map FM.x = updF (ms.map FM.x) m'.x.name fun _ => m'.x := by
  unfold repM updF
  rw [List.map_map, List.map_map]
  apply List.map_congr_left
  intro k _
  simp only [Function.comp]
  split <;> rfl
set_option maxRecDepth 100000 in
theorem mem_repM {m' k : FM} (h : k ∈ repM ms m') : k = m' ∨ (k ∈ ms ∧ k.x.name ≠ m'.x.name) := by
  obtain ⟨a, ha, e⟩ := List.mem_map.1 h
  by_cases hn : a.x.name = m'.x.name
  · rw [if_pos hn] at e
    exact .inl e.symm
  · rw [if_neg hn] at e
    subst e
    exact .inr ⟨ha, hn⟩
set_option maxRecDepth 100000 in
theorem repM_apart (hp : ms.Pairwise FM.Apart) (hn : (ms.map fun m => m.x.name).Nodup) {m' : FM} (h : ∀ k ∈ ms, k.x.name ≠ m'.x.name → m'.Apart k) : (repM ms m').Pairwise FM.Apart := by
  unfold List.Nodup at hn
  rw [List.pairwise_map] at hn
  unfold repM
  rw [List.pairwise_map]
  refine List.Pairwise.imp_of_mem ?_ (hp.and hn)
  intro a b ha hb ⟨h1, h2⟩
  by_cases e1 : a.x.name = m'.x.name
  · have e2 : b.x.name ≠ m'.x.name := fun e2 => h2 (e1.trans e2.symm)
    rw [if_pos e1, if_neg e2]
    exact h b hb e2
  · rw [if_neg e1]
    by_cases e2 : b.x.name = m'.x.name
    · rw [if_pos e2]
      exact (h a ha e1).symm
    · rw [if_neg e2]
      exact h1
set_option maxRecDepth 100000 in
theorem DkFs.own_mb (h : DkFs w base mb ms) {m : FM} (hm : m ∈ ms) : some mb ≠ m.blk := by
  intro e
  obtain ⟨_, cs, hb⟩ := (h.files m hm).blk_lt mb e.symm
  exact h.map.ne hb rfl
set_option maxRecDepth 100000 in
theorem DkFs.fb_blk (h : DkFs w base mb ms) {m k : FM} (hm : m ∈ ms) (hk : k ∈ ms) : some m.fb ≠ k.blk := by
  intro e
  obtain ⟨_, cs, hb⟩ := (h.files k hk).blk_lt m.fb e.symm
  exact Box.apart (h.files m hm).box hb (by decide) rfl
set_option maxRecDepth 100000 in
/-- Its row, then its block, has turned. -/
theorem DkFs.upd (h : DkFs w base mb ms) {m : FM} (hm : m ∈ ms) {w1 w2 : World} (hg1 : w.grownBy w1 m.blk) (hg2 : w1.grownBy w2 (some m.fb)) {m' : FM} (hfb : m'.fb = m.fb) (hnm : m'.x.name = m.x.name) (hF : FileW w2 base m')
    (hblk : m'.blk = m.blk ∨ m'.blk = some w.heap.size) : DkFs w2 base mb (repM ms m') := by
  have hent : (repM ms m').map FM.ent = ms.map FM.ent := by
    unfold repM
    rw [List.map_map]
    apply List.map_congr_left
    intro k hk
    simp only [Function.comp]
    by_cases e : k.x.name = m'.x.name
    · rw [if_pos e]
      have := h.uniq hk hm (e.trans hnm)
      subst this
      unfold FM.ent
      rw [hnm, hfb]
    · rw [if_neg e]
  have hne : ∀ k ∈ ms, k.x.name ≠ m'.x.name → k.Apart m := fun k hk hn => apart_of h.apart k hk m hm (fun e => hn (by rw [e, hnm]))
  refine ⟨?_, ?_, repM_apart h.apart h.names fun k hk hn => ?_, h.low⟩
  · rw [hent]
    refine (h.map.grown hg1 (h.own_mb hm)).grown hg2 ?_
    intro e
    exact h.map.ne (h.files m hm).box (by injection e with e; exact e.symm)
  · intro k hk
    rcases mem_repM hk with rfl | ⟨hk, hn⟩
    · exact hF
    · have ha := hne k hk hn
      have hk1 := (h.files k hk).aside hg1 (h.fb_blk hk hm) ha.ne
      refine hk1.aside hg2 (fun e => ha.1 (by injection e)) ?_
      exact .inr (fun e => h.fb_blk hm hk e.symm)
  · have ha := (hne k hk hn).symm
    refine ⟨by rw [hfb]; exact ha.1, fun g hg e => ?_⟩
    rcases hblk with hb | hb
    · exact ha.2 g (by rw [← hb]; exact hg) e
    · rw [hb] at hg
      injection hg with hg
      obtain ⟨_, cs, hbx⟩ := (h.files k hk).blk_lt g e
      have := hbx.lt
      omega

/-! ### A file is put into the map -/
noncomputable def upDk (m k v : Value) : Sem Unit := Instr.mapUpdate 66 m k v
set_option maxRecDepth 100000 in
theorem upDk_def (m k v : Value) : Instr.mapUpdate 66 m k v = upDk m k v := rfl
noncomputable def lkDk (b : Bool) (m k : Value) : Sem Value := Instr.lookup 66 m k b
set_option maxRecDepth 100000 in
theorem lkDk_def (b : Bool) (m k : Value) : Instr.lookup 66 m k b = lkDk b m k := rfl
def putM (ms : List FM) (m' : FM) : List FM := if ms.any (fun k => decide (k.x.name = m'.x.name)) then repM ms m' else ms ++ [m']
set_option maxRecDepth 100000 in
theorem putM_x (ms : List FM) (m' : FM) : (putM ms m').map FM.x = putF (ms.map FM.x) m'.x.name fun _ => m'.x := by
  have hh : ms.any (fun k => decide (k.x.name = m'.x.name)) = hasF (ms.map FM.x) m'.x.name := by
    unfold hasF
    rw [List.any_map]
    rfl
  unfold putM putF openF
  rw [hh]
  cases e : hasF (ms.map FM.x) m'.x.name with
  | true =>
    rw [if_pos rfl, if_pos rfl]
    exact repM_x ms m'
  | false =>
    rw [if_neg (by simp), if_neg (by simp)]
    have hn := hasF_false.1 e
    unfold updF
    rw [List.map_append, List.map_append]
    congr 1
    · have h1 : (ms.map FM.x).map (fun f => if f.name = m'.x.name then m'.x else f) = (ms.map FM.x).map id := by
        apply List.map_congr_left
        intro f hf
        rw [if_neg (hn f hf)]
        rfl
      rw [List.map_id] at h1
      exact h1.symm
    · simp
set_option maxRecDepth 100000 in
theorem DkFs.put (h : DkFs w base mb ms) {m' : FM} (hF : FileW w base m') (hA : ∀ k ∈ ms, m'.Apart k) (hl : ms.length < 1000000) :
    ∃ w', (upDk (.map (some mb)) (str m'.x.name) (.pointer (some ⟨m'.fb, 0, none⟩))).run Tryd.prog w = .ok () w' ∧ DkFs w' base mb (putM ms m') ∧ w.grownBy w' (some mb) := by
  obtain ⟨w', hr, hm, hg⟩ := h.map.put Tryd.underlying66 (by rw [List.length_map]; unfold maxLen; omega) (sk m'.x.name) (.pointer (some ⟨m'.fb, 0, none⟩))
  rw [sk_enc hF.name] at hr
  have hmap : setL (ms.map FM.ent) (sk m'.x.name) (.pointer (some ⟨m'.fb, 0, none⟩)) = (putM ms m').map FM.ent := by
    unfold putM
    have hin : (sk m'.x.name ∈ (ms.map FM.ent).map Prod.fst) ↔ ms.any (fun k => decide (k.x.name = m'.x.name)) = true := by
      rw [List.any_eq_true, List.map_map, List.mem_map]
      constructor
      · rintro ⟨k, hk, e⟩
        exact ⟨k, hk, by simpa using sk_inj (h.files k hk).name hF.name e⟩
      · rintro ⟨k, hk, e⟩
        exact ⟨k, hk, by
          show sk _ = sk _
          rw [show k.x.name = m'.x.name by simpa using e]⟩
    unfold setL
    by_cases e : ms.any (fun k => decide (k.x.name = m'.x.name)) = true
    · rw [if_pos (hin.2 e), if_pos e]
      unfold repM
      rw [List.map_map, List.map_map]
      apply List.map_congr_left
      intro k hk
      simp only [Function.comp]
      by_cases e2 : k.x.name = m'.x.name
      · rw [if_pos (show k.ent.1 = sk m'.x.name by show sk _ = _; rw [e2]), if_pos e2]
        rfl
      · rw [if_neg (show ¬ k.ent.1 = sk m'.x.name from fun e3 => e2 (sk_inj (h.files k hk).name hF.name e3)), if_neg e2]
    · rw [if_neg (fun e3 => e (hin.1 e3)), if_neg e, List.map_append]
      rfl
  rw [hmap] at hm
  have hk' : ∀ k, FileW w base k → FileW w' base k := fun k hk => hk.aside hg (fun e => h.map.ne hk.box (by injection e)) (by
    cases e : k.blk with
    | none => exact .inl rfl
    | some g =>
      obtain ⟨_, cs, hb⟩ := hk.blk_lt g e
      exact .inr (fun e2 => h.map.ne hb (by injection e2)))
  refine ⟨w', hr, ⟨hm, fun k hk => ?_, ?_, h.low⟩, hg⟩
  · unfold putM at hk
    split at hk
    · rcases mem_repM hk with rfl | ⟨hk, _⟩
      · exact hk' _ hF
      · exact hk' _ (h.files k hk)
    · rcases List.mem_append.1 hk with hk | hk
      · exact hk' _ (h.files k hk)
      · rw [List.mem_singleton.1 hk]
        exact hk' _ hF
  · unfold putM
    split
    · exact repM_apart h.apart h.names fun k hk _ => hA k hk
    · rw [List.pairwise_append]
      refine ⟨h.apart, by simp, fun a ha b hb => ?_⟩
      rw [List.mem_singleton.1 hb]
      exact (hA a ha).symm
end
/-! ### A frame by types -/
/-- What has turned lies from base on, in blocks of disks, of files and of maps (u: of bytes, too). -/
structure Bt (u : Bool) (base : Nat) (w w' : World) : Prop where
  lo : Below base w w'
  kept : ∀ (g : Nat) (t : TypeId) (cs : Array Value) (fr : Nat × Nat), w.heap[g]? = some (.cells cs t fr) → t ≠ 68 → t ≠ 73 → (u = true → t ≠ 5) → w'.heap[g]? = some (.cells cs t fr)
set_option maxRecDepth 100000 in
theorem row_lt {w : World} {g : Nat} {o : Obj} (h : w.heap[g]? = some o) : g < w.heap.size := by
  rcases Nat.lt_or_ge g w.heap.size with h' | h'
  · exact h'
  · rw [Array.getElem?_eq_none h'] at h
    cases h
section
variable {u : Bool} {base : Nat} {w w' w2 : World}
set_option maxRecDepth 100000 in
theorem Bt.refl (u : Bool) (base : Nat) (w : World) : Bt u base w w := ⟨Below.refl _ _, fun _ _ _ _ h _ _ _ => h⟩
set_option maxRecDepth 100000 in
theorem Bt.trans (h : Bt u base w w') (k : Bt u base w' w2) : Bt u base w w2 := ⟨h.lo.trans k.lo, fun g t cs fr hb h1 h2 h3 => k.kept g t cs fr (h.kept g t cs fr hb h1 h2 h3) h1 h2 h3⟩
set_option maxRecDepth 100000 in
theorem Bt.wide (h : Bt false base w w') : Bt u base w w' := ⟨h.lo, fun g t cs fr hb h1 h2 _ => h.kept g t cs fr hb h1 h2 (fun e => by cases e)⟩
set_option maxRecDepth 100000 in
theorem Bt.size (h : Bt u base w w') : w.heap.size ≤ w'.heap.size := h.lo.size
set_option maxRecDepth 100000 in
theorem Bt.box (h : Bt u base w w') {g : Nat} {t : TypeId} {cs : Array Value} (hb : Box w g t cs) (h1 : t ≠ 68) (h2 : t ≠ 73) (h3 : u = true → t ≠ 5) : Box w' g t cs := h.kept g t cs _ hb h1 h2 h3
set_option maxRecDepth 100000 in
theorem bt_call (h : Below w.heap.size w w') (hs : base ≤ w.heap.size) : Bt u base w w' := ⟨h.mono hs, fun g _ _ _ hb _ _ _ => (h.block g (row_lt hb)).trans hb⟩
set_option maxRecDepth 100000 in
theorem bt_box {g : Nat} {t : TypeId} {cs : Array Value} (hb : Box w g t cs) (ht : t = 68 ∨ t = 73) (hg : w.grownBy w' (some g)) (hB : base ≤ g) : Bt u base w w' :=
  ⟨below_only hg hB (by have := hb.lt; omega), fun g' t' cs' fr hb' h1 h2 _ => (hg.block g' (row_lt hb') (fun e => by
    injection e with e
    have hb2 : w.heap[g]? = some (.cells cs t (0, 0)) := hb
    rw [e, hb2] at hb'
    injection hb' with hb'
    injection hb' with _ e2 _
    rcases ht with ht | ht
    · exact h1 (e2.symm.trans ht)
    · exact h2 (e2.symm.trans ht))).trans hb'⟩
set_option maxRecDepth 100000 in
theorem bt_own {A : Option Addr} {n c : Nat} {xs : List Value} (h : w.ownsRow base 5 1 (.slice A n c) n xs) (hg : w.grownBy w' (Value.slice A n c).ownBlock) (hs : base ≤ w.heap.size) : Bt true base w w' :=
  ⟨below_own h hg hs, fun g t cs fr hb _ _ h3 => (hg.block g (row_lt hb) (fun e => by
    rcases h.2 with ⟨h1, _⟩ | ⟨g', cap, cur, h1, _, hh, _⟩
    · rw [h1] at e
      cases e
    · rw [h1] at e
      injection e with e
      rw [show g = g' from e, hh] at hb
      injection hb with hb
      injection hb with _ e2 _
      exact h3 rfl e2.symm)).trans hb⟩
set_option maxRecDepth 100000 in
theorem Bt.fresh (h : Bt u base w w') {g : Nat} (hg : w'.grownBy w2 (some g)) (h1 : w.heap.size ≤ g) (hs : base ≤ w.heap.size) : Bt u base w w2 :=
  ⟨h.lo.trans (below_only hg (by omega) (Nat.le_trans hs h.size)), fun g' t cs fr hb h2 h3 h4 => by
    have hk := h.kept g' t cs fr hb h2 h3 h4
    exact (hg.block g' (row_lt hk) (fun e => by injection e with e; have := row_lt hb; omega)).trans hk⟩
set_option maxRecDepth 100000 in
theorem bt_map {κ : Type} {K : MKey κ} {mb : Nat} {es : List (κ × Value)} (hm : MapIs K w mb es) (hg : w.grownBy w' (some mb)) (hB : base ≤ mb) : Bt u base w w' :=
  ⟨below_only hg hB (by have := hm.lt; omega), fun g _ _ _ hb _ _ _ => (hg.block g (row_lt hb) (fun e => by
    obtain ⟨D, n, ⟨es', clock, h2, _⟩, _⟩ := hm.own
    injection e with e
    rw [e, h2] at hb
    cases hb)).trans hb⟩
end
end Go.Proofs.YtapdnoellleimaaDoor

namespace Go.Proofs.YtapdnoellleimaaDoor
open Go.RowKit Go.Maps Go.Sort

abbrev diskV (mb : Nat) (u : Int) (d : Bool) (a f k : Int) : Array Value := #[.map (some mb), .int .i64 u, .bool d, .int .i64 a, .int .i64 f, .int .i64 k]

set_option maxRecDepth 100000 in
theorem takes_any (p mb : Nat) (u : Int) (d : Bool) (a f k more : Int) (hu : 0 ≤ u ∧ u ≤ 4194304) (w : World) (hb : Box w p 68 (diskV mb u d a f k)) :
    Calls Tryd.prog 33 #[.pointer (some ⟨p, 0, none⟩), .int .i64 more] w fun e w' => e = .returned (.int .i64 (if d then 21 else if 4194304 - u < more then 20 else 0)) ∧ w' = w := by
  have c1 : w.cell? ⟨p, 1, none⟩ = some (.int .i64 u) := hb.cell 1
  have c2 : w.cell? ⟨p, 2, none⟩ = some (.bool d) := hb.cell 2
  obtain ⟨r, hr⟩ : ∃ r : Int, r = if d then 21 else if 4194304 - u < more then 20 else 0 := ⟨_, rfl⟩
  rw [← hr]
  have HR := Lib.hid hr
  clear hb hr
  cases d <;> by_cases h2 : 4194304 - u < more
  all_goals
    go_enter Tryd.func33, Tryd.ntmps33
    go_wp2
    go_ret
    have hr := HR.out
    refine ⟨?_, rfl⟩
    rw [hr]
    simp [h2]

set_option maxRecDepth 100000 in
theorem burns_any (p mb : Nat) (u : Int) (d : Bool) (a f k : Int) (ha : 0 ≤ a ∧ a < 1000000) (hf : 0 ≤ f ∧ f < 9223372036854775808) (w : World) (hb : Box w p 68 (diskV mb u d a f k)) :
    Calls Tryd.prog 35 #[.pointer (some ⟨p, 0, none⟩)] w fun e w' => e = .returned (.bool (decide (f = 1))) ∧ Box w' p 68 (diskV mb u d (a + 1) (if f = 0 then 0 else f - 1) k) ∧ w.grownBy w' (some p) := by
  have c3 : w.cell? ⟨p, 3, none⟩ = some (.int .i64 a) := hb.cell 3
  have c4 : w.cell? ⟨p, 4, none⟩ = some (.int .i64 f) := hb.cell 4
  have f3 := hb.free 3
  have f4 := hb.free 4
  have HB := Lib.hid hb
  clear hb
  have HP : Hid (Box (w.setCell ⟨p, 3, none⟩ (.int .i64 (a + 1))) p 68 (diskV mb u d (a + 1) f k)) := Lib.hid (HB.out.put 3 _)
  have HQ : Hid (Box ((w.setCell ⟨p, 3, none⟩ (.int .i64 (a + 1))).setCell ⟨p, 4, none⟩ (.int .i64 (f - 1))) p 68 (diskV mb u d (a + 1) (f - 1) k)) := Lib.hid (HP.out.put 4 _)
  have HG : Hid (w.grownBy (w.setCell ⟨p, 3, none⟩ (.int .i64 (a + 1))) (some p)) := Lib.hid (only_put (only_refl _ _) 3 _)
  have HH : Hid (w.grownBy ((w.setCell ⟨p, 3, none⟩ (.int .i64 (a + 1))).setCell ⟨p, 4, none⟩ (.int .i64 (f - 1))) (some p)) := Lib.hid (only_put HG.out 4 _)
  obtain ⟨r, hr⟩ : ∃ r : Bool, r = decide (f = 1) := ⟨_, rfl⟩
  obtain ⟨q, hq⟩ : ∃ q : Int, q = if f = 0 then 0 else f - 1 := ⟨_, rfl⟩
  rw [← hr, ← hq]
  have HR := Lib.hid hr
  have HQQ := Lib.hid hq
  clear hr hq
  by_cases h0 : f = 0
  · subst h0
    go_enter Tryd.func35, Tryd.ntmps35
    go_wp2
    go_ret
    refine ⟨by rw [HR.out]; rfl, ?_, HG.out⟩
    rw [HQQ.out]
    exact HP.out
  · by_cases h1 : f = 1
    · subst h1
      go_enter Tryd.func35, Tryd.ntmps35
      go_wp2
      go_ret
      refine ⟨by rw [HR.out]; rfl, ?_, HH.out⟩
      rw [HQQ.out]
      exact HQ.out
    · have h2 : f - 1 ≠ 0 := by omega
      go_enter Tryd.func35, Tryd.ntmps35
      go_wp2
      go_ret
      refine ⟨by rw [HR.out, decide_eq_false h1]; show Ending.returned (.bool (f - 1 == 0)) = _; rw [beq_false_of_ne h2], ?_, HH.out⟩
      rw [HQQ.out, if_neg h0]
      exact HQ.out

/-! ### New, On, Arm, Acts -/
structure DkW (w : World) (base p mb : Nat) (ms : List FM) (X : DX) : Prop where
  box : Box w p 68 (diskV mb (totF X.fs : Int) X.down X.acts X.fuse X.keep)
  fs : DkFs w base mb ms
  eq : X.fs = ms.map FM.x
  tot : totF X.fs ≤ 4194304
  fuse : 0 ≤ X.fuse ∧ X.fuse < 9223372036854775808
  keep : -9223372036854775808 ≤ X.keep ∧ X.keep < 9223372036854775808
  low : base ≤ p
/-- A disk in memory: its blocks lie from base on. -/
def DkIs (w : World) (base p : Nat) (X : DX) : Prop := ∃ mb ms, DkW w base p mb ms X
set_option maxRecDepth 100000 in
theorem DkW.call {w w' : World} {base p mb : Nat} {ms : List FM} {X : DX} (h : DkW w base p mb ms X) (hb : Below w.heap.size w w') : DkW w' base p mb ms X :=
  ⟨h.box.below hb h.box.lt, h.fs.call hb, h.eq, h.tot, h.fuse, h.keep, h.low⟩
set_option maxRecDepth 100000 in
theorem DkIs.call {w w' : World} {base p : Nat} {X : DX} (h : DkIs w base p X) (hb : Below w.heap.size w w') : DkIs w' base p X := by
  obtain ⟨mb, ms, h⟩ := h
  exact ⟨mb, ms, h.call hb⟩
set_option maxRecDepth 100000 in
theorem dknew_any (w : World) : Calls Tryd.prog 10 #[] w fun e w' => ∃ p, e = .returned (.pointer (some ⟨p, 0, none⟩)) ∧ DkIs w' w.heap.size p newX ∧ Below w.heap.size w w' := by
  have hmm := @run_makeMap Tryd.prog
  have HF : Hid (Below w.heap.size w ((w.alloc (.map #[] 0)).alloc (.cells (diskV w.heap.size 0 false 0 0 0) 68))) := ((Below.refl _ _).alloc (Nat.le_refl _) _).alloc (by simp) _
  have HB : Hid (Box ((w.alloc (.map #[] 0)).alloc (.cells (diskV w.heap.size 0 false 0 0 0) 68)) (w.heap.size + 1) 68 (diskV w.heap.size 0 false 0 0 0)) := Box.made_at (by simp) _ _
  have HM : Hid (MapIs sKey ((w.alloc (.map #[] 0)).alloc (.cells (diskV w.heap.size 0 false 0 0 0) 68)) w.heap.size []) := (MapIs.made sKey w).call ((Below.refl _ _).alloc (Nat.le_refl _) _)
  go_enter Tryd.func10, Tryd.ntmps10
  go_wp2
  go_ret
  exact ⟨w.heap.size + 1, by simp, ⟨w.heap.size, [], HB.out, ⟨HM.out, fun m hm => (by cases hm), List.Pairwise.nil, Nat.le_refl _⟩, rfl, by decide, by decide, by decide, by omega⟩, HF.out⟩
set_option maxRecDepth 100000 in
theorem DkW.grown {w w' : World} {base p mb : Nat} {ms : List FM} {X Y : DX} (h : DkW w base p mb ms X) (hg : w.grownBy w' (some p)) (hb : Box w' p 68 (diskV mb (totF Y.fs : Int) Y.down Y.acts Y.fuse Y.keep)) (he : Y.fs = X.fs)
    (hf : 0 ≤ Y.fuse ∧ Y.fuse < 9223372036854775808) (hk : -9223372036854775808 ≤ Y.keep ∧ Y.keep < 9223372036854775808) : DkW w' base p mb ms Y :=
  ⟨hb, h.fs.box h.box (by decide) (by decide) hg, he.trans h.eq, by rw [he]; exact h.tot, hf, hk, h.low⟩
set_option maxRecDepth 100000 in
theorem dkon_bt (base p : Nat) (X : DX) (w : World) (h : DkIs w base p X) : Calls Tryd.prog 25 #[.pointer (some ⟨p, 0, none⟩)] w fun e w' => e = .returned (.tuple #[]) ∧ DkIs w' base p X.on ∧ Bt false base w w' := by
  obtain ⟨mb, ms, h⟩ := h
  have f2 := h.box.free 2
  have c2 : w.cell? ⟨p, 2, none⟩ = some (.bool X.down) := h.box.cell 2
  have HP : Hid (DkW (w.setCell ⟨p, 2, none⟩ (.bool false)) base p mb ms X.on) := Lib.hid (h.grown (only_put (only_refl _ _) 2 _) (h.box.put 2 _) rfl h.fuse h.keep)
  have HF : Hid (Bt false base w (w.setCell ⟨p, 2, none⟩ (.bool false))) := Lib.hid (bt_box h.box (.inl rfl) (only_put (only_refl _ _) 2 _) h.low)
  clear h
  go_enter Tryd.func25, Tryd.ntmps25
  go_wp2
  all_goals first | go_end0 | go_ret
  exact ⟨rfl, ⟨mb, ms, HP.out⟩, HF.out⟩
set_option maxRecDepth 100000 in
theorem dkon_any (base p : Nat) (X : DX) (w : World) (h : DkIs w base p X) : Calls Tryd.prog 25 #[.pointer (some ⟨p, 0, none⟩)] w fun e w' => e = .returned (.tuple #[]) ∧ DkIs w' base p X.on ∧ Below base w w' :=
  (dkon_bt base p X w h).mono fun _ _ ⟨h1, h2, h3⟩ => ⟨h1, h2, h3.lo⟩
set_option maxRecDepth 100000 in
theorem dkarm_bt (base p : Nat) (X : DX) (n k : Int) (hn : -9223372036854775808 ≤ n ∧ n < 9223372036854775808) (hk : -9223372036854775808 ≤ k ∧ k < 9223372036854775808) (w : World) (h : DkIs w base p X) :
    Calls Tryd.prog 26 #[.pointer (some ⟨p, 0, none⟩), .int .i64 n, .int .i64 k] w fun e w' => e = .returned (.tuple #[]) ∧ DkIs w' base p (X.arm n k) ∧ Bt false base w w' := by
  obtain ⟨mb, ms, h⟩ := h
  have f4 := h.box.free 4
  have f5 := h.box.free 5
  have c4 : w.cell? ⟨p, 4, none⟩ = some (.int .i64 X.fuse) := h.box.cell 4
  have c5 : w.cell? ⟨p, 5, none⟩ = some (.int .i64 X.keep) := h.box.cell 5
  have hg := only_put (only_put (only_refl w (some p)) 4 (.int .i64 (max 0 n))) 5 (.int .i64 k)
  have HP : Hid (DkW ((w.setCell ⟨p, 4, none⟩ (.int .i64 (max 0 n))).setCell ⟨p, 5, none⟩ (.int .i64 k)) base p mb ms (X.arm n k)) := Lib.hid (h.grown hg ((h.box.put 4 _).put 5 _) rfl (by show 0 ≤ max 0 n ∧ max 0 n < _; omega) hk)
  have HF : Hid (Bt false base w ((w.setCell ⟨p, 4, none⟩ (.int .i64 (max 0 n))).setCell ⟨p, 5, none⟩ (.int .i64 k))) := Lib.hid (bt_box h.box (.inl rfl) hg h.low)
  clear h hg
  by_cases h0 : ¬ n ≤ 0
  · have e : max 0 n = n := by omega
    rw [e] at HP HF
    go_enter Tryd.func26, Tryd.ntmps26
    go_wp2
    all_goals first | go_end0 | go_ret
    exact ⟨rfl, ⟨mb, ms, HP.out⟩, HF.out⟩
  · have e : max 0 n = 0 := by omega
    rw [e] at HP HF
    go_enter Tryd.func26, Tryd.ntmps26
    go_wp2
    all_goals first | go_end0 | go_ret
    exact ⟨rfl, ⟨mb, ms, HP.out⟩, HF.out⟩
set_option maxRecDepth 100000 in
theorem dkarm_any (base p : Nat) (X : DX) (n k : Int) (hn : -9223372036854775808 ≤ n ∧ n < 9223372036854775808) (hk : -9223372036854775808 ≤ k ∧ k < 9223372036854775808) (w : World) (h : DkIs w base p X) :
    Calls Tryd.prog 26 #[.pointer (some ⟨p, 0, none⟩), .int .i64 n, .int .i64 k] w fun e w' => e = .returned (.tuple #[]) ∧ DkIs w' base p (X.arm n k) ∧ Below base w w' :=
  (dkarm_bt base p X n k hn hk w h).mono fun _ _ ⟨h1, h2, h3⟩ => ⟨h1, h2, h3.lo⟩
set_option maxRecDepth 100000 in
theorem dkacts_any (base p : Nat) (X : DX) (w : World) (h : DkIs w base p X) : Calls Tryd.prog 30 #[.pointer (some ⟨p, 0, none⟩)] w fun e w' => e = .returned (.int .i64 X.acts) ∧ w' = w := by
  obtain ⟨mb, ms, h⟩ := h
  have c3 : w.cell? ⟨p, 3, none⟩ = some (.int .i64 X.acts) := h.box.cell 3
  clear h
  go_enter Tryd.func30, Tryd.ntmps30
  go_wp2
  go_ret
  exact ⟨rfl, rfl⟩
end Go.Proofs.YtapdnoellleimaaDoor

namespace Go.Proofs.YtapdnoellleimaaDoor
open Go.RowKit Go.Maps Go.Sort

set_option maxRecDepth 100000 in
theorem List.le_sum_of_mem' {l : List Nat} {n : Nat} (h : n ∈ l) : n ≤ l.sum := by
  induction l with
  | nil => cases h
  | cons a r ih =>
    rw [List.sum_cons]
    rcases List.mem_cons.1 h with rfl | h
    · omega
    · have := ih h
      omega

/-! ### slices.Clone -/
section
attribute [local go_sem ↓] bsT_def apAll_def
set_option maxRecDepth 100000 in
theorem dk_clone (xs : List UInt8) (A : Option Addr) (c : Nat) (hn : xs.length ≤ 70368744177664) (w : World) (hS : Sees w w.heap.size A (xs.map bv)) :
    Calls Tryd.prog 47 #[.slice A xs.length c] w fun e w' => ∃ A' c', e = .returned (.slice A' xs.length c') ∧ DB.Own w' w.heap.size (.slice A' xs.length c') xs ∧ Below w.heap.size w w' := by
  cases A with
  | none =>
    have hxs : xs = [] := EK.See.nil (DB_see hS)
    subst hxs
    have hq : ∀ w, (binOp .eql 22 (.slice none 0 c) (.slice none 0 0)).run Tryd.prog w = .ok (.bool true) w := fun w => Lib.run_eql_slice_nil w _ 5 none 0 c 0 0 Tryd.underlying22
    go_enter Tryd.func47, Tryd.ntmps47
    go_wp2
    go_ret
    exact ⟨none, 0, rfl, EK.own_nil _ _ _, Below.refl _ _⟩
  | some ad =>
    obtain ⟨w1, hw1⟩ : ∃ w1, w1 = w.alloc (.cells #[] 5) := ⟨_, rfl⟩
    have hF1 : Below w.heap.size w w1 := by
      rw [hw1]
      exact (Below.refl _ _).alloc (Nat.le_refl _) _
    have hb0 : (bsT 22 0 #[]).run Tryd.prog w = .ok (.slice (some ⟨w.heap.size, 0, none⟩) 0 0) w1 := by
      rw [hw1]
      exact DB.build0 w
    have ho1 : DB.Own w1 w.heap.size (.slice (some ⟨w.heap.size, 0, none⟩) 0 0) [] := by
      rw [hw1]
      exact DB.own0 w (Nat.le_refl _)
    obtain ⟨v2, w2, hap0, ho2, hg2⟩ := DB.append ho1 (A := some ad) (m := xs.length) (c := c) (es := xs) rfl (EK.See.far (DB_see hS) hF1) (by simp; omega) (by show (0 + _) * 1 ≤ _; omega) hF1.size
    obtain ⟨A2, c2, rfl⟩ := ho2.slice
    have hap : (apAll #[22, 22] 22 #[.slice (some ⟨w.heap.size, 0, none⟩) 0 0, .slice (some ad) xs.length c]).run Tryd.prog w1 = .ok (.slice A2 xs.length c2) w2 := hap0
    have HO : Hid (DB.Own w2 w.heap.size (.slice A2 xs.length c2) xs) := Lib.hid ho2
    have HF : Hid (Below w.heap.size w w2) := Lib.hid (hF1.trans (below_own ho1 hg2 hF1.size))
    have hq : ∀ w, (binOp .eql 22 (.slice (some ad) xs.length c) (.slice none 0 0)).run Tryd.prog w = .ok (.bool false) w := fun w => Lib.run_eql_slice_nil w _ 5 (some ad) _ c 0 0 Tryd.underlying22
    clear hS hw1 hF1 ho1 ho2 hg2 hn hap0
    go_enter Tryd.func47, Tryd.ntmps47
    go_wp2
    go_ret
    exact ⟨A2, c2, rfl, HO.out, HF.out⟩
end

/-! ### (*file).lose -/
set_option maxRecDepth 100000 in
theorem lose_any (base : Nat) (m : FM) (k : Int) (hk : -9223372036854775808 ≤ k ∧ k < 9223372036854775808) (hl : m.x.data.length ≤ 4194304) (w : World) (hF : FileW w base m) :
    Calls Tryd.prog 46 #[.pointer (some ⟨m.fb, 0, none⟩), .int .i64 k] w fun e w' => e = .returned (.int .i64 ((m.x.data.length : Int) - (keptF k m.x : Int))) ∧ FileW w' base ⟨loseF k m.x, m.fb, m.A, m.c⟩ ∧ w.grownBy w' (some m.fb) := by
  obtain ⟨⟨nm, xs, s⟩, fb, A, c⟩ := m
  obtain ⟨hbox, hown, hsafe, hlow, hname⟩ := hF
  simp only at hl hbox hown hsafe hlow hname ⊢
  have hkl := keptF_le (k := k) (f := ⟨nm, xs, s⟩) hsafe
  simp only at hkl
  obtain ⟨K, hK⟩ : ∃ K, K = keptF k ⟨nm, xs, s⟩ := ⟨_, rfl⟩
  rw [show loseF k ⟨nm, xs, s⟩ = ⟨nm, xs.take K, K⟩ from by rw [hK]; rfl]
  rw [← hK] at hkl ⊢
  obtain ⟨n, hn⟩ : ∃ n, n = xs.length := ⟨_, rfl⟩
  have c0 : w.cell? ⟨fb, 0, none⟩ = some (.slice A n c) := by rw [hn]; exact hbox.cell 0
  have c1 : w.cell? ⟨fb, 1, none⟩ = some (.int .i64 (s : Int)) := hbox.cell 1
  have f0 := hbox.free 0
  have f1 := hbox.free 1
  have hnc : n ≤ c := by rw [hn]; exact hown.bounds.2.1
  have HW : Hid (∀ w', w.grownBy w' (some fb) → Box w' fb 73 #[.slice A K c, .int .i64 (K : Int)] → FileW w' base ⟨⟨nm, xs.take K, K⟩, fb, A, c⟩) := Lib.hid (fun w' hg hb => by
    have hlk : (xs.take K).length = K := by rw [List.length_take]; omega
    have hcut := dk_cut hown (k := K) (by omega)
    refine ⟨?_, own_box hcut hbox (by decide) hg, by simp only; omega, hlow, hname⟩
    show Box w' fb 73 #[.slice A (xs.take K).length c, .int .i64 (K : Int)]
    rw [hlk]
    exact hb)
  have HB := Lib.hid hbox
  rw [← hn] at hl hsafe hkl ⊢
  have hcase : (k ≤ 0 ∧ K = s) ∨ (0 < k ∧ k ≤ (n : Int) - s ∧ (K : Int) = s + k) ∨ ((n : Int) - s < k ∧ 0 < k ∧ K = n) := by
    rw [hK]
    unfold keptF
    simp only [← hn]
    omega
  clear hown hbox hlow hname hK hn
  have HE : Hid (∀ (q : Nat) (v : Value) (K1 : Nat) (K2 : Int), v = .int .i64 ((n : Int) - K) → K1 = K → K2 = (K : Int) → Ending.returned v = Ending.returned (.int .i64 ((n : Int) - K)) ∧ FileW (((w.drewN q).setCell ⟨fb, 0, none⟩ (.slice A K1 c)).setCell ⟨fb, 1, none⟩ (.int .i64 K2)) base ⟨⟨nm, xs.take K, K⟩, fb, A, c⟩ ∧ w.grownBy (((w.drewN q).setCell ⟨fb, 0, none⟩ (.slice A K1 c)).setCell ⟨fb, 1, none⟩ (.int .i64 K2)) (some fb)) := Lib.hid (by
    rintro q v K1 K2 rfl rfl rfl
    have hq : w.grownBy (w.drewN q) (some fb) := ⟨rfl, rfl, rfl, Nat.le_refl _, fun _ _ _ => rfl⟩
    have hg : ∀ u v, w.grownBy (((w.drewN q).setCell ⟨fb, 0, none⟩ u).setCell ⟨fb, 1, none⟩ v) (some fb) := fun u v => only_put (only_put hq 0 u) 1 v
    have hb0 : Box (w.drewN q) fb 73 #[.slice A xs.length c, .int .i64 (s : Int)] := HB.out
    exact ⟨rfl, HW.out _ (hg _ _) ((hb0.put 0 _).put 1 _), hg _ _⟩)
  clear HB HW
  rcases hcase with ⟨h1, h2⟩ | ⟨h1, h2, h3⟩ | ⟨h1, h2, h3⟩
  · have H2 := Lib.hid h2; have HKL := Lib.hid hkl; clear h2 hkl
    go_enter Tryd.func46, Tryd.ntmps46
    go_upto_region 1 with fail
    go_quiet (fail)
    go_upto_region 3 with fail
    go_region
    go_wp2
    go_ret
    have h2 := H2.out; have hkl := HKL.out
    refine HE.out _ _ _ _ ?_ ?_ ?_
    · show Value.int .i64 _ = Value.int .i64 _
      congr 1
      omega
    · omega
    · omega
  · have H3 := Lib.hid h3; have HKL := Lib.hid hkl; clear h3 hkl
    go_enter Tryd.func46, Tryd.ntmps46
    go_upto_region 1 with fail
    go_quiet (fail)
    go_upto_region 3 with fail
    go_region
    go_wp2
    go_ret
    have h3 := H3.out; have hkl := HKL.out
    refine HE.out _ _ _ _ ?_ ?_ ?_
    · show Value.int .i64 _ = Value.int .i64 _
      congr 1
      omega
    · omega
    · omega
  · have H3 := Lib.hid h3; have HKL := Lib.hid hkl; clear h3 hkl
    go_enter Tryd.func46, Tryd.ntmps46
    go_upto_region 1 with fail
    go_quiet (fail)
    go_upto_region 3 with fail
    go_region
    go_wp2
    go_ret
    have h3 := H3.out; have hkl := HKL.out
    refine HE.out _ _ _ _ ?_ ?_ ?_
    · show Value.int .i64 _ = Value.int .i64 _
      congr 1
      omega
    · omega
    · omega

/-! ### A name looked up -/
set_option maxRecDepth 100000 in
theorem DkFs.look {w : World} {base mb : Nat} {ms : List FM} (h : DkFs w base mb ms) (s : List UInt8) (hs : s.length ≤ maxLen) :
    (∃ m ∈ ms, m.x.name = s ∧ lookF (ms.map FM.x) s = some m.x ∧ (lkDk false (.map (some mb)) (str s)).run Tryd.prog w = .ok (.pointer (some ⟨m.fb, 0, none⟩)) w ∧ (lkDk true (.map (some mb)) (str s)).run Tryd.prog w = .ok (.tuple #[.pointer (some ⟨m.fb, 0, none⟩), .bool true]) w) ∨
    ((∀ m ∈ ms, m.x.name ≠ s) ∧ lookF (ms.map FM.x) s = none ∧ (lkDk false (.map (some mb)) (str s)).run Tryd.prog w = .ok (.pointer none) w ∧ (lkDk true (.map (some mb)) (str s)).run Tryd.prog w = .ok (.tuple #[.pointer none, .bool false]) w) := by
  have hz : (zeroValue 70).run Tryd.prog w = .ok (.pointer none) w := by kernel_rfl
  have h1 := h.map.look Tryd.underlying66 hz (sk s)
  have h2 := h.map.look_ok Tryd.underlying66 hz (sk s)
  rw [sk_enc hs] at h1 h2
  rcases h.find s hs with ⟨m, hm, hn, hl, hx⟩ | ⟨hl, hn, hx⟩
  · rw [hl] at h1 h2
    exact .inl ⟨m, hm, hn, hx, h1, h2⟩
  · rw [hl] at h1 h2
    exact .inr ⟨hn, hx, h1, h2⟩
attribute [local go_sem ↓] lkDk_def upDk_def
set_option maxRecDepth 100000 in
theorem dksize_any (base p mb : Nat) (ms : List FM) (X : DX) (s : List UInt8) (hs : s.length ≤ maxLen) (w : World) (h : DkW w base p mb ms X) :
    Calls Tryd.prog 59 #[.pointer (some ⟨p, 0, none⟩), str s] w fun e w' => e = .returned (.int .i64 (sizeF X.fs s : Int)) ∧ w' = w := by
  have c0 : w.cell? ⟨p, 0, none⟩ = some (.map (some mb)) := h.box.cell 0
  rcases h.fs.look s hs with ⟨m, hm, hn, hx, hl, _⟩ | ⟨hn, hx, hl, _⟩
  · have hF := h.fs.files m hm
    have k0 : w.cell? ⟨m.fb, 0, none⟩ = some (.slice m.A m.x.data.length m.c) := hF.box.cell 0
    have he : sizeF X.fs s = m.x.data.length := by
      unfold sizeF
      rw [h.eq, hx]
    rw [he]
    clear h hF hx hn hm he
    go_enter Tryd.func59, Tryd.ntmps59
    go_wp2
    go_ret
    exact ⟨rfl, rfl⟩
  · have he : sizeF X.fs s = 0 := by
      unfold sizeF
      rw [h.eq, hx]
    rw [he]
    clear h hx hn he
    go_enter Tryd.func59, Tryd.ntmps59
    go_wp2
    go_ret
    exact ⟨rfl, rfl⟩
set_option maxRecDepth 100000 in
theorem dkread_any (base p : Nat) (X : DX) (s : List UInt8) (hs : s.length ≤ maxLen) (w : World) (h : DkIs w base p X) :
    Calls Tryd.prog 28 #[.pointer (some ⟨p, 0, none⟩), str s] w fun e w' => ∃ A c, e = .returned (.tuple #[.slice A (X.read s).1.length c, .int .i64 (X.read s).2]) ∧ DB.Own w' w.heap.size (.slice A (X.read s).1.length c) (X.read s).1 ∧ Below w.heap.size w w' := by
  obtain ⟨mb, ms, h⟩ := h
  have c0 : w.cell? ⟨p, 0, none⟩ = some (.map (some mb)) := h.box.cell 0
  have c2 : w.cell? ⟨p, 2, none⟩ = some (.bool X.down) := h.box.cell 2
  cases hd : X.down with
  | true =>
    rw [hd] at c2
    have he : X.read s = ([], 21) := by
      unfold DX.read
      rw [hd]
      rfl
    rw [he]
    clear h he hd
    go_enter Tryd.func28, Tryd.ntmps28
    go_wp2
    go_ret2
    exact ⟨none, 0, rfl, EK.own_nil _ _ _, Below.refl _ _⟩
  | false =>
    rw [hd] at c2
    rcases h.fs.look s hs with ⟨m, hm, hn, hx, _, hl⟩ | ⟨hn, hx, _, hl⟩
    · have hF := h.fs.files m hm
      have k0 : w.cell? ⟨m.fb, 0, none⟩ = some (.slice m.A m.x.data.length m.c) := hF.box.cell 0
      have he : X.read s = (m.x.data, 0) := by
        unfold DX.read
        rw [hd, h.eq, hx]
        rfl
      have hlen : m.x.data.length ≤ 4194304 := by
        have h1 := h.tot
        have h2 := h.eq
        have h3 : m.x.data.length ≤ totF X.fs := by
          rw [h2]
          exact List.le_sum_of_mem' (List.mem_map.2 ⟨m.x, List.mem_map.2 ⟨m, hm, rfl⟩, rfl⟩)
        omega
      have HC := Lib.hid (dk_clone m.x.data m.A m.c (by omega) w (DB_sees hF.own.see))
      rw [he]
      clear h hF hx hn hm he hlen hd
      go_enter Tryd.func28, Tryd.ntmps28
      go_wp2_with (go_at_call 47; (with_reducible refine (HC.out).mono ?_); rintro e w1 ⟨A1, c1, rfl, ho1, hb1⟩; have HO1 := Lib.hid ho1; have HB1 := Lib.hid hb1; clear ho1 hb1)
      go_ret2
      exact ⟨A1, c1, rfl, HO1.out, HB1.out⟩
    · have he : X.read s = ([], 7) := by
        unfold DX.read
        rw [hd, h.eq, hx]
        rfl
      rw [he]
      clear h hx hn he hd
      go_enter Tryd.func28, Tryd.ntmps28
      go_wp2
      go_ret2
      exact ⟨none, 0, rfl, EK.own_nil _ _ _, Below.refl _ _⟩
end Go.Proofs.YtapdnoellleimaaDoor
