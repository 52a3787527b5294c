/- What a text's tokens are, in plain mathematics (stage 12). -/
import Derived.Test.YtnponognncdkcaaDoorP2
import Derived.Lib.Index
namespace Go.Proofs.YtnponognncdkcaaDoor
open Go.RowKit
open Adr
namespace Lx
/-- Letters, and the low line. -/
def isL (c : UInt8) : Bool := (decide (97 ≤ c.toNat) && decide (c.toNat ≤ 122)) || (decide (65 ≤ c.toNat) && decide (c.toNat ≤ 90)) || decide (c.toNat = 95)
def inW (c : UInt8) : Bool := isL c || dgt c
def inA (c : UInt8) : Bool := (!decide (c.toNat = 95) && inW c) || decide (c.toNat = 46)
/-- What a digit counts; -1: it is none. -/
def dv (c : UInt8) : Int := if dgt c then (c.toNat : Int) - 48 else if decide (65 ≤ c.toNat) && decide (c.toNat ≤ 70) then (c.toNat : Int) - 55 else -1
/-- A digit of this base. -/
def okd (b : Nat) (c : UInt8) : Bool := decide (0 ≤ dv c) && decide (dv c < b)
/-- Digits with single low lines between them: the number, how many signs; n, z so far, i signs behind. -/
def rdl (b : Nat) : List UInt8 → Nat → Nat → Nat → Nat × Nat
  | [], n, z, _ => (n, z)
  | c :: l, n, z, i => if decide (c.toNat = 95) && (decide (0 < i) && decide (i = z)) then rdl b l n z (i + 1) else if okd b c then rdl b l (min (n * b + (dv c).toNat) 8589934592) (i + 1) (i + 1) else (n, z)
def rd (b : Nat) (l : List UInt8) : Nat × Nat := rdl b l 0 0 0
/-- How many signs ahead are of this sort. -/
def cz (p : UInt8 → Bool) (l : List UInt8) : Nat := (l.takeWhile p).length
/-- The kinds. -/
def kn : Nat → ByteArray
  | 1 => ⟨#[66, 79, 79, 76]⟩
  | 2 => ⟨#[83, 73, 78, 84]⟩
  | 3 => ⟨#[73, 78, 84]⟩
  | 4 => ⟨#[68, 73, 78, 84]⟩
  | 5 => ⟨#[85, 83, 73, 78, 84]⟩
  | 6 => ⟨#[85, 73, 78, 84]⟩
  | 7 => ⟨#[85, 68, 73, 78, 84]⟩
  | 8 => ⟨#[66, 89, 84, 69]⟩
  | 9 => ⟨#[87, 79, 82, 68]⟩
  | 10 => ⟨#[68, 87, 79, 82, 68]⟩
  | 11 => ⟨#[84, 73, 77, 69]⟩
  | _ => ⟨#[]⟩
def klo : Nat → Int
  | 1 => 0
  | 2 => -128
  | 3 => -32768
  | 4 => -2147483648
  | 5 => 0
  | 6 => 0
  | 7 => 0
  | 8 => 0
  | 9 => 0
  | 10 => 0
  | 11 => -2147483648
  | _ => 0
def khi : Nat → Int
  | 1 => 1
  | 2 => 127
  | 3 => 32767
  | 4 => 2147483647
  | 5 => 255
  | 6 => 65535
  | 7 => 4294967295
  | 8 => 255
  | 9 => 65535
  | 10 => 4294967295
  | 11 => 2147483647
  | _ => 0
def isK (l : List UInt8) (k : Nat) : Bool := decide (0 < k) && ((kn k).data.toList == l)
/-- The kind of this name; 0: none. -/
def kf (l : List UInt8) : Nat := ((List.range 12).find? (isK l)).getD 0
/-- Bases, units. -/
def bn : Nat → ByteArray
  | 0 => ⟨#[50, 35]⟩
  | 1 => ⟨#[56, 35]⟩
  | _ => ⟨#[49, 54, 35]⟩
def bo : Nat → Nat
  | 0 => 2
  | 1 => 8
  | _ => 16
def uN : Nat → ByteArray
  | 0 => ⟨#[100]⟩
  | 1 => ⟨#[104]⟩
  | 2 => ⟨#[109]⟩
  | 3 => ⟨#[115]⟩
  | 4 => ⟨#[109, 115]⟩
  | _ => ⟨#[]⟩
def uM : Nat → Nat
  | 0 => 86400000
  | 1 => 3600000
  | 2 => 60000
  | 3 => 1000
  | 4 => 1
  | _ => 0
/-- Which unit stands ahead; 5: none. -/
def un : List UInt8 → Nat
  | 100 :: _ => 0
  | 104 :: _ => 1
  | 109 :: 115 :: _ => 4
  | 109 :: _ => 2
  | 115 :: _ => 3
  | _ => 5
def hp (l p : List UInt8) : Bool := Lib.hasPrefix l p
/-- A number by a base, or without one: what it is, how many signs. -/
def byB (k : Nat) (l : List UInt8) : Nat × Nat := if (rd (bo k) (l.drop (bn k).data.toList.length)).2 = 0 then (0, 0) else ((rd (bo k) (l.drop (bn k).data.toList.length)).1, (bn k).data.toList.length + (rd (bo k) (l.drop (bn k).data.toList.length)).2)
def num (l : List UInt8) : Nat × Nat := if hp l (bn 0).data.toList then byB 0 l else if hp l (bn 1).data.toList then byB 1 l else if hp l (bn 2).data.toList then byB 2 l else rd 10 l
/-- One unit more of a time. -/
def prt (l : List UInt8) (k : Nat) (s : Nat × Nat) : Nat × Nat := if decide (0 < (rd 10 (l.drop s.2)).2) && decide (un (l.drop (s.2 + (rd 10 (l.drop s.2)).2)) = k) then (s.1 + (rd 10 (l.drop s.2)).1 * uM k, s.2 + ((rd 10 (l.drop s.2)).2 + (uN k).size)) else s
/-- What k units make. -/
def spanK (l : List UInt8) : Nat → Nat × Nat
  | 0 => (0, 0)
  | k + 1 => prt l k (spanK l k)
def span (l : List UInt8) : Nat × Nat := spanK l 5
/-- A token: its sort, kind, number, text. -/
structure Tk where
  tok : Nat
  kind : Nat
  n : Int
  text : List UInt8
/-- A token, how many signs it has, the error. -/
structure R where
  t : Tk
  z : Nat
  e : Nat
def nul : Tk := ⟨0, 0, 0, []⟩
def er (e : Nat) : R := ⟨nul, 0, e⟩
def tru (n : Int) : Tk := ⟨3, 1, n, []⟩
def ltR (tok k : Nat) (n : Int) (a z : Nat) : R := if z = 0 then er 120 else if decide (n < klo k) || decide (khi k < n) then er 163 else ⟨⟨tok, k, n, []⟩, a + z, 0⟩
def tyR (l : List UInt8) (a k : Nat) : R :=
  if decide (k = 1) && hp (l.drop a) [84, 82, 85, 69] then ⟨tru 1, a + 4, 0⟩
  else if decide (k = 1) && hp (l.drop a) [70, 65, 76, 83, 69] then ⟨tru 0, a + 5, 0⟩
  else if hp (l.drop a) [45] && decide (klo k < 0) then ltR 3 k (-((rd 10 ((l.drop a).drop 1)).1 : Int)) (a + 1) (rd 10 ((l.drop a).drop 1)).2
  else ltR 3 k (num (l.drop a)).1 a (num (l.drop a)).2
def tmR (l : List UInt8) (a : Nat) : R :=
  if hp (l.drop a) [45] then ltR 4 11 (-((span ((l.drop a).drop 1)).1 : Int)) (a + 1) (span ((l.drop a).drop 1)).2
  else ltR 4 11 (span (l.drop a)).1 a (span (l.drop a)).2
def words : List (List UInt8) := [[80, 82, 79, 71, 82, 65, 77], [69, 78, 68, 95, 80, 82, 79, 71, 82, 65, 77], [86, 65, 82], [82, 69, 84, 65, 73, 78], [69, 78, 68, 95, 86, 65, 82], [84, 89, 80, 69], [69, 78, 68, 95, 84, 89, 80, 69], [83, 84, 82, 85, 67, 84], [69, 78, 68, 95, 83, 84, 82, 85, 67, 84], [65, 82, 82, 65, 89], [79, 70], [65, 84], [73, 70], [84, 72, 69, 78], [69, 76, 83, 73, 70], [69, 76, 83, 69], [69, 78, 68, 95, 73, 70], [67, 65, 83, 69], [69, 78, 68, 95, 67, 65, 83, 69], [70, 79, 82], [84, 79], [66, 89], [68, 79], [69, 78, 68, 95, 70, 79, 82], [87, 72, 73, 76, 69], [69, 78, 68, 95, 87, 72, 73, 76, 69], [82, 69, 80, 69, 65, 84], [85, 78, 84, 73, 76], [69, 78, 68, 95, 82, 69, 80, 69, 65, 84], [69, 88, 73, 84], [82, 69, 84, 85, 82, 78], [65, 78, 68], [79, 82], [88, 79, 82], [78, 79, 84], [77, 79, 68]]
def wrd (l : List UInt8) : Bool := words.contains l || !decide (kf l = 0)
/-- A word, behind which no literal begins. -/
def plainW (w : List UInt8) : R :=
  if w == [84, 82, 85, 69] then ⟨tru 1, w.length, 0⟩
  else if w == [70, 65, 76, 83, 69] then ⟨tru 0, w.length, 0⟩
  else if wrd w then ⟨⟨1, 0, 0, w⟩, w.length, 0⟩
  else if 32 < w.length then er 121
  else ⟨⟨2, 0, 0, w⟩, w.length, 0⟩
def wdR (l : List UInt8) : R :=
  if hp (l.drop (cz inW l)) [35] && (decide (kf (l.take (cz inW l)) = 11) || (l.take (cz inW l) == [84])) then tmR l (cz inW l + 1)
  else if hp (l.drop (cz inW l)) [35] && !decide (kf (l.take (cz inW l)) = 0) then tyR l (cz inW l + 1) (kf (l.take (cz inW l)))
  else plainW (l.take (cz inW l))
def unR (l : List UInt8) : R := if (num l).2 = 0 then er 120 else if 4294967295 < (num l).1 then er 121 else ⟨⟨3, 0, (num l).1, []⟩, (num l).2, 0⟩
def adz (l : List UInt8) : Nat := 1 + cz inA (l.drop 1)
def adR (l : List UInt8) : R := if pe (l.take (adz l)) = 0 then ⟨⟨5, 0, 0, l.take (adz l)⟩, adz l, 0⟩ else er (pe (l.take (adz l)))
def two : List (List UInt8) := [[58, 61], [46, 46], [60, 61], [62, 61], [60, 62], [61, 62]]
def one : List UInt8 := [58, 59, 44, 46, 40, 41, 91, 93, 61, 60, 62, 43, 45, 42, 47]
def sgz (l : List UInt8) : Nat := if decide (1 < l.length) && two.contains (l.take 2) then 2 else if (l.take 1).all one.contains then 1 else 0
def sgR (l : List UInt8) : R := if sgz l = 0 then er 120 else ⟨⟨6, 0, 0, l.take (sgz l)⟩, sgz l, 0⟩
def nx : List UInt8 → R
  | [] => er 120
  | c :: l => if isL c then wdR (c :: l) else if dgt c then unR (c :: l) else if decide (c.toNat = 37) then adR (c :: l) else if decide (c.toNat = 10) then ⟨⟨7, 0, 0, [10]⟩, 1, 0⟩ else sgR (c :: l)
/-- A comment's signs; 0: it isn't ended. -/
def csz (l : List UInt8) : Nat := if Lib.index (l.drop 2) [42, 41] < 0 then 0 else (Lib.index (l.drop 2) [42, 41]).toNat + 4
def blk (c : UInt8) (il : Bool) : Bool := decide (c.toNat = 32) || (decide (c.toNat = 9) || (decide (c.toNat = 13) || (decide (c.toNat = 10) && !il)))
/-- The tokens of a text, behind those so far; or where the first is that can't be, and why. -/
def scn (il : Bool) : Nat → List UInt8 → Nat → List (Tk × Nat) → List (Tk × Nat) × Option (Nat × Nat)
  | 0, _, _, acc => (acc, none)
  | _ + 1, [], _, acc => (acc, none)
  | f + 1, c :: l, a, acc =>
    if blk c il then scn il f l (a + 1) acc
    else if hp (c :: l) [40, 42] then (if csz (c :: l) = 0 then ([], some (a, 120)) else scn il f ((c :: l).drop (csz (c :: l))) (a + csz (c :: l)) acc)
    else if (nx (c :: l)).e = 0 then scn il f ((c :: l).drop (nx (c :: l)).z) (a + (nx (c :: l)).z) (acc ++ [((nx (c :: l)).t, a)])
    else ([], some (a, (nx (c :: l)).e))
/-- What Tokens tells. -/
def toks (l : List UInt8) (il : Bool) : List (Tk × Nat) × Option (Nat × Nat) := if 65536 < l.length then ([], some (65536, 121)) else ((scn il l.length l 0 []).1 ++ [(nul, l.length)], (scn il l.length l 0 []).2)
end Lx
end Go.Proofs.YtnponognncdkcaaDoor
