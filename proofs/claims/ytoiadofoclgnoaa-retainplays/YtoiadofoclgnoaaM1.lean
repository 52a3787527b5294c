/- What a store of blocks holds, in plain mathematics (stage 9). -/
import Derived.Test.YtoiadofoclgnoaaU1
namespace Go.Proofs.Ytoiadofoclgnoaa
open Go.RowKit
open Pdu
/-- What a store holds: a block's size, the blocks, how many writes were done, whether it is dead, what is lft of a cut, how many bytes of the torn one are written. -/
structure SS where
  sz : Nat
  rows : List (List Nat)
  n : Nat
  dead : Bool
  lft : Int
  pre : Int
structure SS.Ok (s : SS) : Prop where
  lo : 16 ≤ s.sz
  hi : s.sz ≤ 4096
  nlo : 1 ≤ s.rows.length
  nhi : s.rows.length ≤ 64
  len : ∀ r ∈ s.rows, r.length = s.sz
  byt : ∀ r ∈ s.rows, Bytes r
  mx : s.lft ≤ 9223372036854775807
def clip (sz : Nat) (p : Int) : Nat := min p.toNat sz
theorem clip_le (sz : Nat) (p : Int) : clip sz p ≤ sz := Nat.min_le_right _ _
theorem clip_clip (sz : Nat) (p : Int) : clip sz (clip sz p : Int) = clip sz p := by
  unfold clip
  omega
/-- Why block i can't be come at. -/
def SS.err (s : SS) (i : Int) : Nat := if s.dead = true then 82 else if i < 0 ∨ (s.rows.length : Int) ≤ i then 80 else 0
def SS.row (s : SS) (i : Int) : List Nat := s.rows.getD i.toNat []
/-- Is it a write? -/
def SS.errW (s : SS) (i : Int) (m : Nat) : Nat := if s.err i ≠ 0 then s.err i else if m ≠ s.sz then 81 else if s.lft = 0 then 82 else 0
def SS.torn (s : SS) (i : Int) (bs : List Nat) : SS := { s with rows := s.rows.set i.toNat (bs.take (clip s.sz s.pre) ++ (s.row i).drop (clip s.sz s.pre)), dead := true }
def SS.dn (s : SS) (i : Int) (bs : List Nat) : SS := { s with rows := s.rows.set i.toNat bs, n := s.n + 1, lft := if 0 < s.lft then s.lft - 1 else s.lft }
def SS.wr (s : SS) (i : Int) (bs : List Nat) : SS := if s.err i ≠ 0 ∨ bs.length ≠ s.sz then s else if s.lft = 0 then s.torn i bs else s.dn i bs
/-- One byte unlike by x's bits. -/
def xr (a x : Nat) : Nat := (bits .xor .u8 (a : Int) (x : Int)).toNat
def SS.spl (s : SS) (i at_ : Int) (x : Nat) : SS := if s.err i ≠ 0 ∨ at_ < 0 ∨ (s.sz : Int) ≤ at_ then s else { s with rows := s.rows.set i.toNat ((s.row i).set at_.toNat (xr ((s.row i).getD at_.toNat 0) x)) }
theorem xr_lt (a x : Nat) : xr a x < 256 := by
  unfold xr bits
  have : 0 ≤ IntKind.u8.wrap ((BitVec.ofInt 8 (a : Int) ^^^ BitVec.ofInt 8 (x : Int)).toNat : Int) ∧ IntKind.u8.wrap ((BitVec.ofInt 8 (a : Int) ^^^ BitVec.ofInt 8 (x : Int)).toNat : Int) < 256 := by
    rw [IntKind.wrap_u8]
    omega
  show (IntKind.u8.wrap ((BitVec.ofInt 8 (a : Int) ^^^ BitVec.ofInt 8 (x : Int)).toNat : Int)).toNat < 256
  omega
theorem xr_is (a x : Nat) : bits .xor .u8 (a : Int) (x : Int) = (xr a x : Int) := by
  have h : bits .xor .u8 (a : Int) (x : Int) = IntKind.u8.wrap ((BitVec.ofInt 8 (a : Int) ^^^ BitVec.ofInt 8 (x : Int)).toNat : Int) := rfl
  unfold xr
  rw [h, IntKind.wrap_u8]
  omega
theorem SS.err_cases (s : SS) (i : Int) : (s.dead = true ∧ s.err i = 82) ∨ (s.dead = false ∧ (i < 0 ∨ (s.rows.length : Int) ≤ i) ∧ s.err i = 80) ∨ (s.dead = false ∧ s.err i = 0 ∧ ∃ k : Nat, i = k ∧ k < s.rows.length) := by
  unfold SS.err
  by_cases hd : s.dead = true
  · exact Or.inl ⟨hd, by rw [if_pos hd]⟩
  · have hd' : s.dead = false := by simpa using hd
    by_cases hi : i < 0 ∨ (s.rows.length : Int) ≤ i
    · exact Or.inr (Or.inl ⟨hd', hi, by rw [if_neg hd, if_pos hi]⟩)
    · exact Or.inr (Or.inr ⟨hd', by rw [if_neg hd, if_neg hi], i.toNat, by omega, by omega⟩)
theorem row_mem {rows : List (List Nat)} {k : Nat} (hk : k < rows.length) : rows.getD k [] ∈ rows := by
  rw [List.getD_eq_getElem?_getD, List.getElem?_eq_getElem hk]
  exact List.getElem_mem hk
theorem SS.Ok.set {s : SS} (o : s.Ok) {k : Nat} {r : List Nat} (hl : r.length = s.sz) (hb : Bytes r) : (∀ x ∈ s.rows.set k r, x.length = s.sz) ∧ (∀ x ∈ s.rows.set k r, Bytes x) := by
  constructor
  · intro x hx
    rcases List.mem_or_eq_of_mem_set hx with h | rfl
    · exact o.len x h
    · exact hl
  · intro x hx
    rcases List.mem_or_eq_of_mem_set hx with h | rfl
    · exact o.byt x h
    · exact hb
theorem SS.Ok.upd {s : SS} (o : s.Ok) {k : Nat} {r : List Nat} (hl : r.length = s.sz) (hb : Bytes r) (n : Nat) (d : Bool) (l p : Int) (hm : l ≤ 9223372036854775807) : SS.Ok ⟨s.sz, s.rows.set k r, n, d, l, p⟩ :=
  ⟨o.lo, o.hi, by simpa using o.nlo, by simpa using o.nhi, (o.set hl hb).1, (o.set hl hb).2, hm⟩
theorem SS.Ok.row {s : SS} (o : s.Ok) {k : Nat} (hk : k < s.rows.length) : (s.row k).length = s.sz ∧ Bytes (s.row k) := by
  unfold SS.row
  rw [Int.toNat_natCast]
  exact ⟨o.len _ (row_mem hk), o.byt _ (row_mem hk)⟩
theorem SS.Ok.torn {s : SS} (o : s.Ok) {k : Nat} {bs : List Nat} (hk : k < s.rows.length) (hl : bs.length = s.sz) (hb : Bytes bs) : (s.torn k bs).Ok := by
  refine o.upd ?_ ((hb.take _).app ((o.row hk).2.drop _)) _ _ _ _ o.mx
  rw [List.length_append, List.length_take, List.length_drop, (o.row hk).1, hl]
  have := clip_le s.sz s.pre
  omega
theorem SS.Ok.dn {s : SS} (o : s.Ok) {k : Nat} {bs : List Nat} (hl : bs.length = s.sz) (hb : Bytes bs) : (s.dn k bs).Ok := o.upd hl hb _ _ _ _ (by have := o.mx; split <;> omega)
theorem SS.Ok.wr {s : SS} (o : s.Ok) {i : Int} {bs : List Nat} (hb : Bytes bs) : (s.wr i bs).Ok := by
  unfold SS.wr
  split
  · exact o
  · rename_i h
    rcases s.err_cases i with h1 | h1 | ⟨_, h1, k, rfl, hk⟩
    · exact absurd (Or.inl (by rw [h1.2]; decide)) h
    · exact absurd (Or.inl (by rw [h1.2.2]; decide)) h
    · have hl : bs.length = s.sz := by
        by_cases e : bs.length = s.sz
        · exact e
        · exact absurd (Or.inr e) h
      split
      · exact o.torn hk hl hb
      · exact o.dn hl hb
theorem bytes_set {l : List Nat} (h : Bytes l) (k : Nat) {x : Nat} (hx : x < 256) : Bytes (l.set k x) := fun y hy => by
  rcases List.mem_or_eq_of_mem_set hy with h' | rfl
  · exact h y h'
  · exact hx
theorem SS.Ok.spl {s : SS} (o : s.Ok) {i at_ : Int} {x : Nat} : (s.spl i at_ x).Ok := by
  unfold SS.spl
  split
  · exact o
  · rename_i h
    rcases s.err_cases i with h1 | h1 | ⟨_, h1, k, rfl, hk⟩
    · exact absurd (Or.inl (by rw [h1.2]; decide)) h
    · exact absurd (Or.inl (by rw [h1.2.2]; decide)) h
    · exact o.upd (by rw [List.length_set]; exact (o.row hk).1) (bytes_set (o.row hk).2 _ (xr_lt _ _)) _ _ _ _ o.mx
/- Blocks one behind another. -/
theorem flat_len {rows : List (List Nat)} {sz : Nat} (h : ∀ r ∈ rows, r.length = sz) : rows.flatten.length = rows.length * sz := by
  induction rows with
  | nil => simp
  | cons a r ih =>
    rw [List.flatten_cons, List.length_append, ih (fun x hx => h x (List.mem_cons_of_mem _ hx)), h a (List.mem_cons_self ..), List.length_cons, Nat.succ_mul, Nat.add_comm]
theorem flat_drop {rows : List (List Nat)} {sz : Nat} (h : ∀ r ∈ rows, r.length = sz) (k : Nat) : rows.flatten.drop (k * sz) = (rows.drop k).flatten := by
  induction rows generalizing k with
  | nil => simp
  | cons a r ih =>
    match k with
    | 0 => simp
    | k + 1 =>
      rw [List.flatten_cons, List.drop_succ_cons, ← ih (fun x hx => h x (List.mem_cons_of_mem _ hx)) k, Nat.succ_mul, Nat.add_comm, ← List.drop_drop, List.drop_left' (h a (List.mem_cons_self ..))]
theorem flat_take {rows : List (List Nat)} {sz : Nat} (h : ∀ r ∈ rows, r.length = sz) (k : Nat) : rows.flatten.take (k * sz) = (rows.take k).flatten := by
  induction rows generalizing k with
  | nil => simp
  | cons a r ih =>
    match k with
    | 0 => simp
    | k + 1 =>
      rw [List.flatten_cons, List.take_succ_cons, List.flatten_cons, ← ih (fun x hx => h x (List.mem_cons_of_mem _ hx)) k, Nat.succ_mul, Nat.add_comm, ← h a (List.mem_cons_self ..), List.take_length_add_append]
theorem rows_drop {rows : List (List Nat)} {k : Nat} (hk : k < rows.length) : rows.drop k = rows.getD k [] :: rows.drop (k + 1) := by
  rw [List.drop_eq_getElem_cons hk, List.getD_eq_getElem?_getD, List.getElem?_eq_getElem hk]
  rfl
theorem flat_sub {rows : List (List Nat)} {sz k : Nat} (h : ∀ r ∈ rows, r.length = sz) (hk : k < rows.length) : (rows.flatten.drop (k * sz)).take sz = rows.getD k [] := by
  rw [flat_drop h, rows_drop hk, List.flatten_cons, List.take_left' (h _ (row_mem hk))]
theorem rows_set {rows : List (List Nat)} {k : Nat} {r : List Nat} (hk : k < rows.length) : rows.set k r = rows.take k ++ r :: rows.drop (k + 1) := by
  rw [List.set_eq_take_append_cons_drop, if_pos hk]
theorem flat_splice {rows : List (List Nat)} {sz k : Nat} {bs : List Nat} (h : ∀ r ∈ rows, r.length = sz) (hk : k < rows.length) (hb : bs.length ≤ sz) : splice rows.flatten (k * sz) bs = (rows.set k (bs ++ (rows.getD k []).drop bs.length)).flatten := by
  unfold splice
  rw [rows_set hk, List.flatten_append, List.flatten_cons, flat_take h, ← List.drop_drop, flat_drop h, rows_drop hk, List.flatten_cons, List.drop_append_of_le_length (by rw [h _ (row_mem hk)]; exact hb), List.append_assoc]
theorem flat_set {rows : List (List Nat)} {sz k a x : Nat} (h : ∀ r ∈ rows, r.length = sz) (hk : k < rows.length) (ha : a < sz) : rows.flatten.set (k * sz + a) x = (rows.set k ((rows.getD k []).set a x)).flatten := by
  have hlt : (rows.take k).flatten.length = k * sz := by
    rw [← flat_take h, List.length_take, flat_len h, Nat.min_eq_left (Nat.mul_le_mul_right _ (Nat.le_of_lt hk))]
  have e : rows.flatten = (rows.take k).flatten ++ (rows.getD k [] ++ (rows.drop (k + 1)).flatten) := by
    conv => lhs; rw [← List.take_append_drop k rows, List.flatten_append, rows_drop hk, List.flatten_cons]
  rw [rows_set hk, List.flatten_append, List.flatten_cons]
  conv => lhs; rw [e, List.set_append_right _ _ (by rw [hlt]; omega), hlt, show k * sz + a - k * sz = a by omega, List.set_append_left _ _ (by rw [h _ (row_mem hk)]; exact ha)]
theorem flat_at {rows : List (List Nat)} {sz k a : Nat} (h : ∀ r ∈ rows, r.length = sz) (hk : k < rows.length) (ha : a < sz) : rows.flatten.getD (k * sz + a) 0 = (rows.getD k []).getD a 0 := by
  rw [← flat_sub h hk, List.getD_eq_getElem?_getD, List.getD_eq_getElem?_getD, List.getElem?_take, if_pos ha, List.getElem?_drop]
theorem u8s_splice (l : List Nat) (off : Nat) (bs : List Nat) : splice (u8s l) off (u8s bs) = u8s (splice l off bs) := by
  unfold splice
  simp [u8s]
theorem flat_bytes {rows : List (List Nat)} (h : ∀ r ∈ rows, Bytes r) : Bytes rows.flatten := by
  intro x hx
  obtain ⟨r, hr, hx⟩ := List.mem_flatten.1 hx
  exact h r hr x hx
theorem flat_zeros (n sz : Nat) : (List.replicate n (List.replicate sz 0)).flatten = List.replicate (n * sz) 0 := by
  rw [List.flatten_replicate_replicate]
/-- A new store. -/
def SS.new (n sz : Nat) : SS := ⟨sz, List.replicate n (List.replicate sz 0), 0, false, -1, 0⟩
theorem SS.new_ok {n sz : Nat} (h1 : 16 ≤ sz) (h2 : sz ≤ 4096) (h3 : 1 ≤ n) (h4 : n ≤ 64) : (SS.new n sz).Ok :=
  ⟨h1, h2, by simpa [SS.new] using h3, by simpa [SS.new] using h4, fun r hr => by rw [List.eq_of_mem_replicate hr, List.length_replicate]; rfl, fun r hr x hx => by rw [List.eq_of_mem_replicate hr] at hx; rw [List.eq_of_mem_replicate hx]; decide, by simp [SS.new]⟩
end Go.Proofs.Ytoiadofoclgnoaa
