import PyProof.Rows.All
import Wide.All
import OpenK.AllK
import Wide.FinOn
import HandS.ForMost
import HandS.IsInst
import HandS.Deep
import HandS.Style
import HandS.TupAny
import HandS.SetFor
import HandS.Strs
import HandS.TryOnly
import HandS.Steps
import HandS.SortKw
import KE.KMinKey
import HandS.Zip
import HandS.IterVal
import KE.GoesEnum
import KE.GoesMore
import KE.KDictZip
import HandS.OwnIter
import HandS.DictComp
import HandS.WordsDict
import HandS.FStr
import KE.GoesZip
import PyProof.ReprReads
import PyProof.ReprRoads
import HandS.FStrTup
import KE.KeyNested
import KE.KDictDisplayH
import KE.KDictCopyH
import PySem.Challenge.RW_markpieces_k07_patterns_written
set_option Elab.async false
set_option linter.all false
set_option autoImplicit false
set_option maxRecDepth 100000
set_option maxHeartbeats 4000000
/-! A small reader of the programs at hand: expressions and statements by slots, over a store of lists. -/
namespace MP

/-- a value: lists stand in the store; rol: a list that is only read, not in the store -/
inductive W where
  | non | bl (b : Bool) | int (i : Int) | str (x : List Nat) | tup (xs : List W) | ref (k : Nat) | rol (xs : List W) | fn (x : List Nat) | dic (kvs : List (List Nat × W)) | dref (k : Nat)
  deriving Inhabited

/-- what stands in the store: a list -/
inductive SO where
  | lst (xs : List W) | dct (kvs : List (List Nat × W))
abbrev Sto := List SO
abbrev Env := List (Option W)
abbrev R := Option (W × Sto)

def LIM : Nat := 1000000

def rdL (S : Sto) (k : Nat) : Option (List W) :=
  match S[k]? with
  | some (.lst xs) => some xs
  | _ => none
def rdD (S : Sto) (k : Nat) : Option (List (List Nat × W)) :=
  match S[k]? with
  | some (.dct xs) => some xs
  | _ => none
abbrev rdM (S : Sto) (k : Nat) : Option (List W) := rdL S k
def new (S : Sto) (xs : List W) : R := if xs.length ≤ LIM then some (.ref S.length, S ++ [.lst xs]) else none

/-! ### data, for == -/
inductive D where
  | non | bl (b : Bool) | int (i : Int) | str (x : List Nat) | lst (xs : List D) | tup (xs : List D)
mutual
def D.py : D → PySem.PyData
  | .non => .none
  | .bl b => .bool b
  | .int i => .int i
  | .str x => .str ⟨x.toArray⟩
  | .lst xs => .list (D.pys xs)
  | .tup xs => .tuple (D.pys xs)
def D.pys : List D → List PySem.PyData
  | [] => []
  | d :: ds => D.py d :: D.pys ds
end
/-- what repr tells of data -/
def repL (d : D) : List Nat := d.py.shown.cps.toList
mutual
def repOk : D → Bool
  | .non => true
  | .bl _ => true
  | .int i => decide (i.natAbs.log2 < 1920)
  | .str x => x.all fun c => decide (c < 1114112)
  | .lst _ => false
  | .tup xs => repOks xs
def repOks : List D → Bool
  | [] => true
  | d :: ds => repOk d && repOks ds
end
mutual
/-- no longer than that -/
def repN : D → Nat
  | .non => 5
  | .bl _ => 5
  | .int _ => 1921
  | .str x => 10 * x.length + 2
  | .lst _ => 0
  | .tup xs => 3 + repNs xs
def repNs : List D → Nat
  | [] => 0
  | d :: ds => repN d + 2 + repNs ds
end
def dats (f : W → Option D) : List W → Option (List D)
  | [] => some []
  | x :: r => match f x, dats f r with
    | some d, some ds => some (d :: ds)
    | _, _ => none
def dat (S : Sto) : Nat → W → Option D
  | _, .non => some .non
  | _, .bl b => some (.bl b)
  | _, .int i => some (.int i)
  | _, .str x => if x.all (fun c => decide (c < 1114112)) then some (.str x) else none
  | 0, _ => none
  | n + 1, .tup xs => (dats (dat S n) xs).map .tup
  | n + 1, .ref k => match rdL S k with
    | some xs => (dats (dat S n) xs).map .lst
    | none => none
  | _ + 1, .rol _ => none
  | _ + 1, .fn _ => none
  | _ + 1, .dic _ => none
  | _ + 1, .dref _ => none
mutual
def D.eqv : D → D → Bool
  | .non, .non => true
  | .bl a, .bl b => a == b
  | .bl a, .int j => (if a then 1 else 0) == j
  | .int i, .bl b => i == (if b then 1 else 0)
  | .int i, .int j => i == j
  | .str x, .str y => x == y
  | .lst xs, .lst ys => D.eqvs xs ys
  | .tup xs, .tup ys => D.eqvs xs ys
  | _, _ => false
def D.eqvs : List D → List D → Bool
  | [], [] => true
  | x :: xs, y :: ys => D.eqv x y && D.eqvs xs ys
  | _, _ => false
end
def eqW (S : Sto) : W → W → Option Bool
  | .int i, .int j => some (decide (i = j))
  | .str x, .str y => some (decide (x = y))
  | .bl x, .bl y => some (decide (x = y))
  | .non, .non => some true
  | .non, .int _ => some false
  | .non, .bl _ => some false
  | .non, .str _ => some false
  | .int _, .non => some false
  | .bl _, .non => some false
  | .str _, .non => some false
  | .int _, .str _ => some false
  | .str _, .int _ => some false
  | .bl _, .str _ => some false
  | .str _, .bl _ => some false
  | x, y => match dat S 60 x, dat S 60 y with
    | some d, some e => some (D.eqv d e)
    | _, _ => none

/-! ### operators -/
inductive BO where | add | sub | mul | fdiv | mod | pow
def opB : BO → W → W → Sto → R
  | .add, .int i, .int j, S => some (.int (i + j), S)
  | .add, .str x, .str y, S => if x.length + y.length ≤ LIM then some (.str (x ++ y), S) else none
  | .add, .tup x, .tup y, S => if x.length + y.length ≤ LIM then some (.tup (x ++ y), S) else none
  | .add, .ref a, .ref b, S => match rdM S a, rdM S b with
    | some x, some y => new S (x ++ y)
    | _, _ => none
  | .sub, .int i, .int j, S => some (.int (i - j), S)
  | .mul, .int i, .int j, S => if (-(2 ^ 64) < i ∧ i < 2 ^ 64) ∨ (-(2 ^ 64) < j ∧ j < 2 ^ 64) then some (.int (i * j), S) else none
  | .mul, .str x, .int j, S => if j ≤ 1000000 ∧ -1000000 ≤ j ∧ x.length * j.toNat ≤ LIM then some (.str (List.replicate j.toNat x).flatten, S) else none
  | .mul, .ref a, .int j, S => match rdM S a with
    | some x => if j ≤ 1000000 ∧ -1000000 ≤ j ∧ x.length * j.toNat ≤ LIM then new S (List.replicate j.toNat x).flatten else none
    | none => none
  | .fdiv, .int i, .int j, S => if 0 < j ∧ j < 1073741824 then some (.int (i / j), S) else none
  | .mod, .int i, .int j, S => if 0 < j then some (.int (i % j), S) else none
  | .pow, .int i, .int j, S => if 0 ≤ j ∧ j ≤ 1000000 ∧ i.natAbs < 2 ^ 64 then some (.int (i ^ j.toNat), S) else none
  | _, _, _, _ => none

inductive CO where | eq | ne | lt | le | gt | ge | isIn | notIn
def inW (S : Sto) (x : W) : W → Option Bool
  | .str z => match x with
    | .str [c] => some (decide (c ∈ z))
    | _ => none
  | .ref k => match dat S 60 x, rdL S k with
    | some d, some ys => match dats (dat S 59) ys with
      | some ds => some (ds.any fun z => D.eqv z d)
      | none => none
    | _, _ => none
  | .tup ys => match dat S 60 x, dats (dat S 59) ys with
    | some d, some ds => some (ds.any fun z => D.eqv z d)
    | _, _ => none
  | _ => none
def opC (o : CO) (x y : W) (S : Sto) : Option Bool :=
  match o with
  | .eq => eqW S x y
  | .ne => (eqW S x y).map (!·)
  | .isIn => inW S x y
  | .notIn => (inW S x y).map (!·)
  | .lt => match x, y with
    | .int i, .int j => some (decide (i < j))
    | .str i, .str j => some (decide (i < j))
    | _, _ => none
  | .le => match x, y with
    | .int i, .int j => some (decide (i ≤ j))
    | .str i, .str j => some (!decide (j < i))
    | _, _ => none
  | .gt => match x, y with
    | .int i, .int j => some (decide (j < i))
    | _, _ => none
  | .ge => match x, y with
    | .int i, .int j => some (decide (j ≤ i))
    | _, _ => none

/-- the place that an index of any sign means -/
def ixN (n : Nat) (i : Int) : Option Nat := if 0 ≤ i then (if i < n then some i.toNat else none) else if -(n : Int) ≤ i then some (i + n).toNat else none
def atI {α : Type} (xs : List α) (i : Int) : Option α := (ixN xs.length i).bind fun j => xs[j]?
def opIx (x y : W) (S : Sto) : R :=
  match x, y with
  | .str z, .int i => if z.length ≤ LIM then (atI z i).map fun c => (.str [c], S) else none
  | .tup z, .int i => (atI z i).map fun c => (c, S)
  | .ref k, .int i => match rdL S k with
    | some z => (atI z i).map fun c => (c, S)
    | none => none
  | _, _ => none
/-- a slice's bound as a place among n (d where it is left out) -/
def sIx (n d : Nat) : Option Int → Nat
  | none => d
  | some v => if v < 0 then (v + (n : Int)).toNat else min v.toNat n
def cut {α : Type} (xs : List α) (lo hi : Option Int) : List α := (xs.drop (sIx xs.length 0 lo)).take (sIx xs.length xs.length hi - sIx xs.length 0 lo)
def opSl (x : W) (lo hi : Option Int) (S : Sto) : R :=
  match x with
  | .str z => if z.length ≤ LIM then some (.str (cut z lo hi), S) else none
  | .tup z => some (.tup (cut z lo hi), S)
  | .ref k => match rdL S k with
    | some z => new S (cut z lo hi)
    | none => none
  | .rol z => new S (cut z lo hi)
  | _ => none

/-! ### texts rising, each once -/
def insU (x : List Nat) : List (List Nat) → List (List Nat)
  | [] => [x]
  | y :: r => if x < y then x :: y :: r else if y < x then y :: insU x r else y :: r
def sortU (ys : List (List Nat)) : List (List Nat) := ys.foldr insU []
/-! ### built-in functions of values -/
inductive BI where
  | len | abs | tuple | list | all | any | int | isi (t : Nat) | isN | notN | neg | rev | join | tru | sset | maxd | max2 | min2 | sum | maxl | minl | fcat | dget (t : List (List Nat × W)) | popl | popi | zip | iadd | isub | rem | isTr (b : Bool) | enum | revt | dgt | dnew | dlen | repr | dlit (t : List (List (Option Int) × List Nat))
def bls : List W → Option (List Bool)
  | [] => some []
  | .bl b :: r => (bls r).map (b :: ·)
  | _ => none
def keyW : List W → Option (List (Option Int))
  | [] => some []
  | .int i :: r => (keyW r).map (some i :: ·)
  | .non :: r => (keyW r).map (none :: ·)
  | _ => none
def txts : List W → Option (List (List Nat))
  | [] => some []
  | .str b :: r => (txts r).map (b :: ·)
  | _ => none
def intsW : List W → Option (List Int)
  | [] => some []
  | .int b :: r => (intsW r).map (b :: ·)
  | _ => none
def maxI : List Int → Int
  | [] => 0
  | [x] => x
  | x :: y :: r => if maxI (y :: r) ≤ x then x else maxI (y :: r)
def minI : List Int → Int
  | [] => 0
  | [x] => x
  | x :: y :: r => if x ≤ minI (y :: r) then x else minI (y :: r)
def zipT : List W → List W → List W
  | x :: a, y :: b => .tup [x, y] :: zipT a b
  | _, _ => []
def sgns (x : List Nat) : List W := x.map fun c => .str [c]
def enumT : Nat → List W → List W
  | _, [] => []
  | n, x :: a => .tup [.int n, x] :: enumT (n + 1) a
def isTrW (b : Bool) : W → Bool
  | .bl c => b == c
  | _ => false
def seqW (S : Sto) : W → Option (List W)
  | .ref k => rdL S k
  | .tup z => some z
  | _ => none
def atT (t : List (List Nat × W)) (x : List Nat) : W :=
  match t with
  | [] => .non
  | (y, w) :: r => if x = y then w else atT r x
/-- the types by numbers: str 0, int 1, bool 2, tuple 3, list 4 -/
def isT (t : Nat) : W → Bool
  | .non => false
  | .bl _ => t == 2 || t == 1
  | .int _ => t == 1
  | .str _ => t == 0
  | .tup _ => t == 3
  | .ref _ => t == 4
  | .rol _ => t == 4
  | .fn _ => false
  | .dic _ => false
  | .dref _ => false
def isFn : W → Bool
  | .fn _ => true
  | .non => false
  | .bl _ => false
  | .int _ => false
  | .str _ => false
  | .tup _ => false
  | .ref _ => false
  | .rol _ => false
  | .dic _ => false
  | .dref _ => true
def joinL (sep : List Nat) : List (List Nat) → List Nat
  | [] => []
  | [x] => x
  | x :: r => x ++ sep ++ joinL sep r
def lens : List (List Nat) → Nat
  | [] => 0
  | x :: r => x.length + lens r
def isNon : W → Bool
  | .non => true
  | _ => false
def opI : BI → List W → Sto → R
  | .len, [.str z], S => if z.length ≤ LIM then some (.int z.length, S) else none
  | .len, [.tup z], S => some (.int z.length, S)
  | .len, [.rol z], S => some (.int z.length, S)
  | .len, [.ref k], S => (rdL S k).map fun z => (.int z.length, S)
  | .abs, [.int i], S => some (.int (if i < 0 then -i else i), S)
  | .tuple, [.ref k], S => (rdL S k).map fun z => (.tup z, S)
  | .tuple, [.tup z], S => some (.tup z, S)
  | .list, [.ref k], S => match rdL S k with
    | some z => new S z
    | none => none
  | .list, [.tup z], S => new S z
  | .all, [.ref k], S => match rdL S k with
    | some z => (bls z).map fun bs => (.bl (bs.all id), S)
    | none => none
  | .any, [.ref k], S => match rdL S k with
    | some z => (bls z).map fun bs => (.bl (bs.any id), S)
    | none => none
  | .int, [.int i], S => some (.int i, S)
  | .int, [.bl b], S => some (.int (if b then 1 else 0), S)
  | .isi _, [.fn _], _ => none
  | .isi _, [.dref _], _ => none
  | .isi t, [x], S => some (.bl (isT t x), S)
  | .isN, [x], S => some (.bl (isNon x), S)
  | .notN, [x], S => some (.bl (!isNon x), S)
  | .neg, [.int i], S => some (.int (-i), S)
  | .rev, [.ref k], S => match rdL S k with
    | some z => new S z.reverse
    | none => none
  | .tru, [.non], S => some (.bl false, S)
  | .tru, [.bl b], S => some (.bl b, S)
  | .tru, [.int i], S => some (.bl (i != 0), S)
  | .tru, [.str z], S => if z.length ≤ LIM then some (.bl (!z.isEmpty), S) else none
  | .tru, [.tup z], S => some (.bl (!z.isEmpty), S)
  | .tru, [.ref k], S => (rdL S k).map fun z => (.bl (!z.isEmpty), S)
  | .sset, [.ref k], S => match rdL S k with
    | some z => match txts z with
      | some ys => if ys.length ≤ 60 then new S ((sortU ys).map .str) else none
      | none => none
    | none => none
  | .maxd, [.ref k, .int d], S => match rdL S k with
    | some z => (intsW z).map fun ns => (.int (if ns.isEmpty then d else maxI ns), S)
    | none => none
  | .max2, [.int i, .int j], S => some (.int (if j > i then j else i), S)
  | .min2, [.int i, .int j], S => some (.int (if j < i then j else i), S)
  | .sum, [.ref k], S => match rdL S k with
    | some z => (intsW z).map fun ns => (.int ns.sum, S)
    | none => none
  | .maxl, [.ref k], S => match rdL S k with
    | some z => match intsW z with
      | some ns => if ns.isEmpty then none else some (.int (maxI ns), S)
      | none => none
    | none => none
  | .minl, [.ref k], S => match rdL S k with
    | some z => match intsW z with
      | some ns => if ns.isEmpty then none else some (.int (minI ns), S)
      | none => none
    | none => none
  | .fcat, ws, S => match txts ws with
    | some ys => if lens ys ≤ LIM then some (.str ys.flatten, S) else none
    | none => none
  | .dget t, [.str x], S => some (atT t x, S)
  | .popl, [.ref k], S => match rdL S k with
    | some z => match z.getLast? with
      | some y => some (y, S.set k (.lst z.dropLast))
      | none => none
    | none => none
  | .popi, [.ref k, .int i], S => match rdL S k with
    | some z => match ixN z.length i with
      | some n => match z[n]? with
        | some y => if z.length ≤ LIM then some (y, S.set k (.lst (z.eraseIdx n))) else none
        | none => none
      | none => none
    | none => none
  | .rem, [.ref k, .str x], S => match rdL S k with
    | some z => match txts z with
      | some ys => if x ∈ ys then some (.non, S.set k (.lst ((ys.erase x).map .str))) else none
      | none => none
    | none => none
  | .isTr b, [x], S => some (.bl (isTrW b x), S)
  | .revt, [.tup z], S => some (.tup z.reverse, S)
  | .dgt, [.dic kvs, .str x], S => some (atT kvs x, S)
  | .dlit t, [.tup ws], S => match keyW ws with
    | some k => match t.find? fun p => decide (p.1 = k) with
      | some p => some (.str p.2, S)
      | none => none
    | none => none
  | .repr, [.tup ws], S => match dat S 60 (.tup ws) with
    | some d => if repOk d = true ∧ repN d ≤ LIM then some (.str (repL d), S) else none
    | none => none
  | .dnew, [], S => some (.dref S.length, S ++ [.dct []])
  | .dlen, [.dref k], S => (rdD S k).map fun z => (.int z.length, S)
  | .enum, [a], S => match seqW S a with
    | some x => new S (enumT 0 x)
    | _ => none
  | .iadd, [.int i, .int j], S => some (.int (i + j), S)
  | .iadd, [.str x, .str y], S => if x.length + y.length ≤ LIM then some (.str (x ++ y), S) else none
  | .isub, [.int i, .int j], S => some (.int (i - j), S)
  | .zip, [.tup x, .tup y], S => new S (zipT x y)
  | .join, [.str sep, .ref k], S => match rdL S k with
    | some z => match txts z with
      | some ys => if lens ys + ys.length * sep.length ≤ LIM then some (.str (joinL sep ys), S) else none
      | none => none
    | none => none
  | _, _, _ => none

/-! ### what is walked -/
inductive Src where
  | seq (w : W) | rng (lo : Int) (n : Nat)
def Src.len (S : Sto) : Src → Option Nat
  | .rng _ n => some n
  | .seq (.tup xs) => some xs.length
  | .seq (.str xs) => some xs.length
  | .seq (.ref k) => (rdL S k).map List.length
  | .seq _ => none
def Src.item (S : Sto) (i : Nat) : Src → Option W
  | .rng lo n => if i < n then some (.int (lo + i)) else none
  | .seq (.tup xs) => xs[i]?
  | .seq (.str xs) => xs[i]?.map fun c => .str [c]
  | .seq (.ref k) => (rdL S k).bind (·[i]?)
  | .seq _ => none

/-! ### expressions -/
mutual
inductive CE where
  | var (i : Nat)
  | c (w : W)
  | bin (o : BO) (a b : CE)
  | cmp (o : CO) (a b : CE)
  | chain (o o' : CO) (a b d : CE)
  | and (a b : CE)
  | or (a b : CE)
  | not (a : CE)
  | ite (t a b : CE)
  | tup (es : CEs)
  | lst (es : CEs)
  | ix (a b : CE)
  | sl (a : CE) (l h : CP)
  | call (f : Nat) (es : CEs)
  | callv (f : Nat) (x : List Nat) (j : Nat) (es : CEs)
  | bi (f : BI) (es : CEs)
  | comp (vs : List Nat) (tg : List Nat) (s : CI) (t : CE) (e : CE)
  | dcomp (vs : List Nat) (tg : List Nat) (s : CI) (t : CE) (k e : CE)
inductive CEs where
  | nil | cons (e : CE) (es : CEs)
inductive CP where
  | no | yes (e : CE)
inductive CI where
  | val (e : CE) | rng1 (e : CE) | rng2 (a b : CE) | enum (e : CE) | zip (a b : CE)
end

def wipe (env : Env) : List Nat → Env
  | [] => env
  | i :: r => (wipe env r).set i none
def bindL (env : Env) : List Nat → List W → Option Env
  | [], [] => some env
  | i :: is, x :: xs => bindL (env.set i (some x)) is xs
  | _, _ => none
def bindT (S : Sto) (env : Env) : List Nat → W → Option Env
  | [i], w => some (env.set i (some w))
  | i :: j :: r, .tup xs => bindL env (i :: j :: r) xs
  | i :: j :: r, .ref k => match rdL S k with
    | some xs => bindL env (i :: j :: r) xs
    | none => none
  | _, _ => none
/-- the turns of a comprehension: the turn's own answer is none (left out) or a value -/
def compGo (turn : Nat → Sto → Option (Option W × Sto)) : Nat → Nat → List W → Sto → Option (List W × Sto)
  | _, 0, acc, S => some (acc, S)
  | i, m + 1, acc, S => match turn i S with
    | some (some w, S') => if acc.length < LIM then compGo turn (i + 1) m (acc ++ [w]) S' else none
    | some (none, S') => compGo turn (i + 1) m acc S'
    | none => none

/-- in its place, or at the end -/
def putD (kvs : List (List Nat × W)) (x : List Nat) (w : W) : List (List Nat × W) :=
  if (kvs.any fun p => decide (p.1 = x)) = true then kvs.map (fun p => if p.1 = x then (p.1, w) else p) else kvs ++ [(x, w)]
/-- the turns of a dict's comprehension -/
def dictGo (turn : Nat → Sto → Option (Option (W × W) × Sto)) : Nat → Nat → List (List Nat × W) → Sto → Option (List (List Nat × W) × Sto)
  | _, 0, acc, S => some (acc, S)
  | i, m + 1, acc, S => match turn i S with
    | some (some (.str x, w), S') => if acc.length < LIM then dictGo turn (i + 1) m (putD acc x w) S' else none
    | some (none, S') => dictGo turn (i + 1) m acc S'
    | _ => none

abbrev Fns := Nat → List W → Sto → R
def rngOk (j : Int) : Bool := decide (-(2 ^ 62) ≤ j ∧ j < 2 ^ 62)
mutual
def ev (Φ : Fns) : CE → Env → Sto → R
  | .var i, env, S => match env[i]? with
    | some (some w) => some (w, S)
    | _ => none
  | .c w, _, S => some (w, S)
  | .bin o a b, env, S => match ev Φ a env S with
    | some (x, S1) => match ev Φ b env S1 with
      | some (y, S2) => opB o x y S2
      | none => none
    | none => none
  | .cmp o a b, env, S => match ev Φ a env S with
    | some (x, S1) => match ev Φ b env S1 with
      | some (y, S2) => (opC o x y S2).map fun k => (.bl k, S2)
      | none => none
    | none => none
  | .chain o o' a b d, env, S => match ev Φ a env S with
    | some (x, S1) => match ev Φ b env S1 with
      | some (y, S2) => match opC o x y S2 with
        | some true => match ev Φ d env S2 with
          | some (z, S3) => (opC o' y z S3).map fun k => (.bl k, S3)
          | none => none
        | some false => some (.bl false, S2)
        | none => none
      | none => none
    | none => none
  | .and a b, env, S => match ev Φ a env S with
    | some (.bl true, S1) => ev Φ b env S1
    | some (.bl false, S1) => some (.bl false, S1)
    | _ => none
  | .or a b, env, S => match ev Φ a env S with
    | some (.bl true, S1) => some (.bl true, S1)
    | some (.bl false, S1) => ev Φ b env S1
    | _ => none
  | .not a, env, S => match ev Φ a env S with
    | some (.bl k, S1) => some (.bl (!k), S1)
    | _ => none
  | .ite t a b, env, S => match ev Φ t env S with
    | some (.bl true, S1) => ev Φ a env S1
    | some (.bl false, S1) => ev Φ b env S1
    | _ => none
  | .tup es, env, S => match evs Φ es env S with
    | some (xs, S1) => if xs.length ≤ LIM then some (.tup xs, S1) else none
    | none => none
  | .lst es, env, S => match evs Φ es env S with
    | some (xs, S1) => new S1 xs
    | none => none
  | .ix a b, env, S => match ev Φ a env S with
    | some (x, S1) => match ev Φ b env S1 with
      | some (y, S2) => opIx x y S2
      | none => none
    | none => none
  | .sl a l h, env, S => match ev Φ a env S with
    | some (x, S1) => match evp Φ l env S1 with
      | some (y, S2) => match evp Φ h env S2 with
        | some (z, S3) => opSl x y z S3
        | none => none
      | none => none
    | none => none
  | .call f es, env, S => match evs Φ es env S with
    | some (xs, S1) => Φ f xs S1
    | none => none
  | .callv f x j es, env, S => match env[j]? with
    | some (some (.fn y)) => if y = x then (match evs Φ es env S with
      | some (xs, S1) => Φ f xs S1
      | none => none) else none
    | _ => none
  | .bi f es, env, S => match evs Φ es env S with
    | some (xs, S1) => opI f xs S1
    | none => none
  | .comp vs tg s t e, env, S => match evi Φ s env S with
    | some (J, S1) => match J.len S1 with
      | some n => match compGo (fun i S' => match J.item S' i with
          | some x => match bindT S' (wipe env vs) tg x with
            | some env' => match ev Φ t env' S' with
              | some (.bl true, S2) => match ev Φ e env' S2 with
                | some (w, S3) => some (some w, S3)
                | none => none
              | some (.bl false, S2) => some (none, S2)
              | _ => none
            | none => none
          | none => none) 0 n [] S1 with
        | some (acc, S4) => match J.len S4 with
          | some n' => if n' ≤ n then new S4 acc else none
          | none => none
        | none => none
      | none => none
    | none => none
  | .dcomp vs tg s t k e, env, S => match evi Φ s env S with
    | some (J, S1) => match J.len S1 with
      | some n => match dictGo (fun i S' => match J.item S' i with
          | some x => match bindT S' (wipe env vs) tg x with
            | some env' => match ev Φ t env' S' with
              | some (.bl true, S2) => match ev Φ k env' S2 with
                | some (u, S3) => match ev Φ e env' S3 with
                  | some (w, S4) => some (some (u, w), S4)
                  | none => none
                | none => none
              | some (.bl false, S2) => some (none, S2)
              | _ => none
            | none => none
          | none => none) 0 n [] S1 with
        | some (acc, S4) => match J.len S4 with
          | some n' => if n' ≤ n then some (.dic acc, S4) else none
          | none => none
        | none => none
      | none => none
    | none => none
def evs (Φ : Fns) : CEs → Env → Sto → Option (List W × Sto)
  | .nil, _, S => some ([], S)
  | .cons e es, env, S => match ev Φ e env S with
    | some (x, S1) => match evs Φ es env S1 with
      | some (xs, S2) => some (x :: xs, S2)
      | none => none
    | none => none
def evp (Φ : Fns) : CP → Env → Sto → Option (Option Int × Sto)
  | .no, _, S => some (none, S)
  | .yes e, env, S => match ev Φ e env S with
    | some (.int i, S1) => some (some i, S1)
    | _ => none
def evi (Φ : Fns) : CI → Env → Sto → Option (Src × Sto)
  | .val e, env, S => match ev Φ e env S with
    | some (x, S1) => some (.seq x, S1)
    | none => none
  | .rng1 e, env, S => match ev Φ e env S with
    | some (.int j, S1) => if rngOk j then some (.rng 0 j.toNat, S1) else none
    | _ => none
  | .rng2 a b, env, S => match ev Φ a env S with
    | some (.int i, S1) => match ev Φ b env S1 with
      | some (.int j, S2) => if rngOk i && rngOk j then some (.rng i (j - i).toNat, S2) else none
      | _ => none
    | _ => none
  | .enum e, env, S => match ev Φ e env S with
    | some (.tup z, S1) => some (.seq (.tup (enumT 0 z)), S1)
    | _ => none
  | .zip a b, env, S => match ev Φ a env S with
    | some (.tup x, S1) => match ev Φ b env S1 with
      | some (.tup y, S2) => some (.seq (.tup (zipT x y)), S2)
      | _ => none
    | some (.str x, S1) => match ev Φ b env S1 with
      | some (.str y, S2) => some (.seq (.tup (zipT (sgns x) (sgns y))), S2)
      | _ => none
    | _ => none
end

/-! ### statements -/
inductive Fl where
  | nx (env : Env) (S : Sto) | rt (w : W) (S : Sto) | bk (env : Env) (S : Sto) | ct (env : Env) (S : Sto)
mutual
inductive CS where
  | set (tg : List Nat) (e : CE)
  | ret (e : CE)
  | expr (e : CE)
  | ifs (t : CE) (a b : CSs)
  | for_ (tg : List Nat) (s : CI) (b : CSs)
  | whl (n : Nat) (t : CE) (b : CSs)
  | setix (o i e : CE)
  | app (o e : CE)
  | ext (o e : CE)
  | ins (o i e : CE)
  | dset (o i e : CE)
  | pass | brk | cont | never
inductive CSs where
  | nil | cons (s : CS) (ss : CSs)
end
def forGo (turn : Nat → Env → Sto → Option Fl) : Nat → Nat → Env → Sto → Option Fl
  | _, 0, env, S => some (.nx env S)
  | i, m + 1, env, S => match turn i env S with
    | some (.nx env' S') => forGo turn (i + 1) m env' S'
    | some (.ct env' S') => forGo turn (i + 1) m env' S'
    | some (.bk env' S') => some (.bk env' S')
    | some (.rt w S') => some (.rt w S')
    | none => none
def whlGo (test : Env → Sto → R) (turn : Env → Sto → Option Fl) : Nat → Env → Sto → Option Fl
  | 0, _, _ => none
  | m + 1, env, S => match test env S with
    | some (.bl true, S1) => match turn env S1 with
      | some (.nx env' S') => whlGo test turn m env' S'
      | some (.ct env' S') => whlGo test turn m env' S'
      | some (.bk env' S') => some (.nx env' S')
      | some (.rt w S') => some (.rt w S')
      | none => none
    | some (.bl false, S1) => some (.nx env S1)
    | _ => none
mutual
def ex (Φ : Fns) : CS → Env → Sto → Option Fl
  | .set tg e, env, S => match ev Φ e env S with
    | some (w, S1) => (bindT S1 env tg w).map fun env' => .nx env' S1
    | none => none
  | .ret e, env, S => match ev Φ e env S with
    | some (w, S1) => some (.rt w S1)
    | none => none
  | .expr e, env, S => match ev Φ e env S with
    | some (_, S1) => some (.nx env S1)
    | none => none
  | .ifs t a b, env, S => match ev Φ t env S with
    | some (.bl true, S1) => exs Φ a env S1
    | some (.bl false, S1) => exs Φ b env S1
    | _ => none
  | .for_ tg s b, env, S => match evi Φ s env S with
    | some (J, S1) => match J.len S1 with
      | some n => match forGo (fun i env' S' => match J.item S' i with
          | some x => match bindT S' env' tg x with
            | some env2 => exs Φ b env2 S'
            | none => none
          | none => none) 0 n env S1 with
        | some (.nx env' S4) => match J.len S4 with
          | some n' => if n' ≤ n then some (.nx env' S4) else none
          | none => none
        | some (.bk env' S4) => some (.nx env' S4)
        | r => r
      | none => none
    | none => none
  | .whl n t b, env, S => whlGo (ev Φ t) (exs Φ b) n env S
  | .setix o i e, env, S => match ev Φ e env S with
    | some (w, S1) => match ev Φ o env S1 with
      | some (.ref k, S2) => match ev Φ i env S2 with
        | some (.int j, S3) => match rdM S3 k with
          | some xs => match ixN xs.length j with
            | some n => some (.nx env (S3.set k (.lst (xs.set n w))))
            | none => none
          | none => none
        | _ => none
      | _ => none
    | none => none
  | .app o e, env, S => match ev Φ o env S with
    | some (.ref k, S1) => match ev Φ e env S1 with
      | some (w, S2) => match rdM S2 k with
        | some xs => if xs.length < LIM then some (.nx env (S2.set k (.lst (xs ++ [w])))) else none
        | none => none
      | none => none
    | _ => none
  | .ext o e, env, S => match ev Φ o env S with
    | some (.ref k, S1) => match ev Φ e env S1 with
      | some (y, S2) => match rdM S2 k, seqW S2 y with
        | some xs, some ys => if xs.length + ys.length ≤ LIM then some (.nx env (S2.set k (.lst (xs ++ ys)))) else none
        | _, _ => none
      | _ => none
    | _ => none
  | .ins _ _ _, _, _ => none
  | .dset o i e, env, S => match ev Φ e env S with
    | some (w, S1) => match ev Φ o env S1 with
      | some (.dref k, S2) => match ev Φ i env S2 with
        | some (.str x, S3) => match rdD S3 k with
          | some kvs => if kvs.length < LIM then some (.nx env (S3.set k (.dct (putD kvs x w)))) else none
          | none => none
        | _ => none
      | _ => none
    | none => none
  | .pass, env, S => some (.nx env S)
  | .brk, env, S => some (.bk env S)
  | .cont, env, S => some (.ct env S)
  | .never, _, _ => none
def exs (Φ : Fns) : CSs → Env → Sto → Option Fl
  | .nil, env, S => some (.nx env S)
  | .cons s ss, env, S => match ex Φ s env S with
    | some (.nx env' S') => exs Φ ss env' S'
    | r => r
end

/-! ### turns by name -/
def turnC (Φ : Fns) (vs ts : List Nat) (t e : CE) (env : Env) (J : Src) (i : Nat) (S' : Sto) : Option (Option W × Sto) := match J.item S' i with
  | some x => match bindT S' (wipe env vs) ts x with
    | some env' => match ev Φ t env' S' with
      | some (.bl true, S2) => match ev Φ e env' S2 with
        | some (w, S3) => some (some w, S3)
        | none => none
      | some (.bl false, S2) => some (none, S2)
      | _ => none
    | none => none
  | none => none
def turnD (Φ : Fns) (vs ts : List Nat) (t k e : CE) (env : Env) (J : Src) (i : Nat) (S' : Sto) : Option (Option (W × W) × Sto) := match J.item S' i with
  | some x => match bindT S' (wipe env vs) ts x with
    | some env' => match ev Φ t env' S' with
      | some (.bl true, S2) => match ev Φ k env' S2 with
        | some (u, S3) => match ev Φ e env' S3 with
          | some (w, S4) => some (some (u, w), S4)
          | none => none
        | none => none
      | some (.bl false, S2) => some (none, S2)
      | _ => none
    | none => none
  | none => none
def turnF (Φ : Fns) (ts : List Nat) (b : CSs) (J : Src) (i : Nat) (env' : Env) (S' : Sto) : Option Fl := match J.item S' i with
  | some x => match bindT S' env' ts x with
    | some env2 => exs Φ b env2 S'
    | none => none
  | none => none
theorem ev_comp_eq (Φ : Fns) (vs ts : List Nat) (s : CI) (t e : CE) (env : Env) (S : Sto) : ev Φ (.comp vs ts s t e) env S = (match evi Φ s env S with
    | some (J, S1) => match J.len S1 with
      | some n => match compGo (turnC Φ vs ts t e env J) 0 n [] S1 with
        | some (acc, S4) => match J.len S4 with
          | some n' => if n' ≤ n then new S4 acc else none
          | none => none
        | none => none
      | none => none
    | none => none) := by
  simp only [ev]
  rfl
theorem ev_dcomp_eq (Φ : Fns) (vs ts : List Nat) (s : CI) (t k e : CE) (env : Env) (S : Sto) : ev Φ (.dcomp vs ts s t k e) env S = (match evi Φ s env S with
    | some (J, S1) => match J.len S1 with
      | some n => match dictGo (turnD Φ vs ts t k e env J) 0 n [] S1 with
        | some (acc, S4) => match J.len S4 with
          | some n' => if n' ≤ n then some (.dic acc, S4) else none
          | none => none
        | none => none
      | none => none
    | none => none) := by
  simp only [ev]
  rfl
theorem ex_for_eq (Φ : Fns) (ts : List Nat) (s : CI) (b : CSs) (env : Env) (S : Sto) : ex Φ (.for_ ts s b) env S = (match evi Φ s env S with
    | some (J, S1) => match J.len S1 with
      | some n => match forGo (turnF Φ ts b J) 0 n env S1 with
        | some (.nx env' S4) => match J.len S4 with
          | some n' => if n' ≤ n then some (.nx env' S4) else none
          | none => none
        | some (.bk env' S4) => some (.nx env' S4)
        | r => r
      | none => none
    | none => none) := by
  simp only [ex]
  rfl
/-! ### a program: defs by numbers: how many parameters, how many slots, the body -/
structure Def where
  ar : Nat
  sl : Nat
  body : CSs
def start (n : Nat) (ws : List W) : Env := ws.map some ++ List.replicate (n - ws.length) none
def fin : Option Fl → R
  | some (.rt w S) => some (w, S)
  | some (.nx _ S) => some (.non, S)
  | _ => none
def callF (ds : Nat → Option Def) : Nat → Fns
  | 0 => fun _ _ _ => none
  | k + 1 => fun f ws S => match ds f with
    | some d => if ws.length = d.ar then fin (exs (callF ds k) d.body (start d.sl ws) S) else none
    | none => none
end MP
namespace MP
open PySem PySem.Spec PyProof.Rows L2
abbrev Fg := PySem.W.Frag

/-- a list that is only read: frozen, or the module's -/
def FzL (K : Fg) (H : Hp) (a : Addr) (xs : List V) : Prop := (∃ o, H a = some (.frz o (.lst xs))) ∨ ∃ (o : Obj) (its : Array Value) (n : Nat), K.lookup a = some o ∧ o.cls = .type "list" ∧ o.dict = none ∧ o.data = .seq its n ∧ its.size ≤ sizeLine ∧ Vals xs its.toList
theorem FzL.sq {K : Fg} {H : Hp} {a : Addr} {xs : List V} (h : FzL K H a xs) : SqL K H a xs := by
  rcases h with ⟨o, h⟩ | h
  · exact .inl (.inr ⟨o, h⟩)
  · exact .inr h
/-! ### values and what stands for them -/
mutual
inductive VW (K : Fg) (μ : List Addr) (H : Hp) : V → W → Prop
  | non : VW K μ H .non .non
  | bl (b : Bool) : VW K μ H (.bl b) (.bl b)
  | int (i : Int) : VW K μ H (.int i) (.int i)
  | str (x : Str) (l : List Nat) (e : x.cps.toList = l) : VW K μ H (.str x) (.str l)
  | tup {a : Addr} {xs : List V} {ws : List W} : SqT K H a xs → VWs K μ H xs ws → VW K μ H (.ref a) (.tup ws)
  | ref {a : Addr} {k : Nat} : μ[k]? = some a → (∃ vs, H a = some (.lst vs)) → VW K μ H (.ref a) (.ref k)
  | dref {a : Addr} {k : Nat} : μ[k]? = some a → (∃ ks, H a = some (.dK ks)) → VW K μ H (.ref a) (.dref k)
  | rol {a : Addr} {xs : List V} {ws : List W} : FzL K H a xs → VWs K μ H xs ws → VW K μ H (.ref a) (.rol ws)
  | fn {a : Addr} (x : Str) (l : List Nat) (e : x.cps.toList = l) : PySem.W.nsIn K mainGlobals x = some (some (.ref a)) → VW K μ H (.ref a) (.fn l)
  | dic {a : Addr} {o : Obj} {ks : List (Key × V)} {ws : List (List Nat × W)} : H a = some (.frz o (.dK ks)) → VWd K μ H ks ws → VW K μ H (.ref a) (.dic ws)
inductive VWs (K : Fg) (μ : List Addr) (H : Hp) : List V → List W → Prop
  | nil : VWs K μ H [] []
  | cons {v : V} {vs : List V} {w : W} {ws : List W} : VW K μ H v w → VWs K μ H vs ws → VWs K μ H (v :: vs) (w :: ws)
inductive VWd (K : Fg) (μ : List Addr) (H : Hp) : List (Key × V) → List (List Nat × W) → Prop
  | nil : VWd K μ H [] []
  | cons {x : Str} {l : List Nat} {v : V} {ks : List (Key × V)} {w : W} {ws : List (List Nat × W)} : x.cps.toList = l → VW K μ H v w → VWd K μ H ks ws → VWd K μ H ((.inr x, v) :: ks) ((l, w) :: ws)
end
/-- what comes later: the store's places and the tuples stay; and all that is tracked outside the store -/
structure Ey (K : Fg) (μ : List Addr) (H : Hp) (μ' : List Addr) (H' : Hp) : Prop where
  pre : ∀ (k : Nat) (a : Addr), μ[k]? = some a → μ'[k]? = some a
  tup : ∀ a xs, SqT K H a xs → SqT K H' a xs
  fz : ∀ a xs, FzL K H a xs → FzL K H' a xs
  dk : ∀ a o ks, H a = some (.frz o (.dK ks)) → H' a = some (.frz o (.dK ks))
  kl : ∀ (k : Nat) (a : Addr), μ[k]? = some a → (∃ vs, H a = some (.lst vs)) → ∃ vs, H' a = some (.lst vs)
  kd : ∀ (k : Nat) (a : Addr), μ[k]? = some a → (∃ ks, H a = some (.dK ks)) → ∃ ks, H' a = some (.dK ks)
structure Ex (K : Fg) (μ : List Addr) (H : Hp) (μ' : List Addr) (H' : Hp) : Prop extends Ey K μ H μ' H' where
  fr : ∀ a o, H a = some o → (∀ k : Nat, μ[k]? ≠ some a) → H' a = some o ∧ ∀ k : Nat, μ'[k]? ≠ some a
section
variable {K : Fg} {μ μ1 μ2 : List Addr} {H H1 H2 : Hp}
theorem Ex.refl : Ex K μ H μ H := ⟨⟨fun _ _ h => h, fun _ _ h => h, fun _ _ h => h, fun _ _ _ h => h, fun _ _ _ h => h, fun _ _ _ h => h⟩, fun _ _ h q => ⟨h, q⟩⟩
theorem Ex.trans (a : Ex K μ H μ1 H1) (b : Ex K μ1 H1 μ2 H2) : Ex K μ H μ2 H2 := ⟨⟨fun k x h => b.pre k x (a.pre k x h), fun k x h => b.tup k x (a.tup k x h), fun k x h => b.fz k x (a.fz k x h), fun k o x h => b.dk k o x (a.dk k o x h), fun k x h q => b.kl k x (a.pre k x h) (a.kl k x h q), fun k x h q => b.kd k x (a.pre k x h) (a.kd k x h q)⟩, fun c o h q => b.fr c o (a.fr c o h q).1 (a.fr c o h q).2⟩
mutual
theorem VW.monoY (e : Ey K μ H μ1 H1) : ∀ {v : V} {w : W}, VW K μ H v w → VW K μ1 H1 v w
  | _, _, .non => .non
  | _, _, .bl b => .bl b
  | _, _, .int i => .int i
  | _, _, .str x l q => .str x l q
  | _, _, .tup s h => .tup (e.tup _ _ s) (VWs.monoY e h)
  | _, _, .ref h q => .ref (e.pre _ _ h) (e.kl _ _ h q)
  | _, _, .dref h q => .dref (e.pre _ _ h) (e.kd _ _ h q)
  | _, _, .rol s h => .rol (e.fz _ _ s) (VWs.monoY e h)
  | _, _, .fn x l q h => .fn x l q h
  | _, _, .dic s h => .dic (e.dk _ _ _ s) (VWd.monoY e h)
theorem VWs.monoY (e : Ey K μ H μ1 H1) : ∀ {v : List V} {w : List W}, VWs K μ H v w → VWs K μ1 H1 v w
  | _, _, .nil => .nil
  | _, _, .cons h t => .cons (VW.monoY e h) (VWs.monoY e t)
theorem VWd.monoY (e : Ey K μ H μ1 H1) : ∀ {v : List (Key × V)} {w : List (List Nat × W)}, VWd K μ H v w → VWd K μ1 H1 v w
  | _, _, .nil => .nil
  | _, _, .cons q h t => .cons q (VW.monoY e h) (VWd.monoY e t)
end
theorem VWd.mono (e : Ex K μ H μ1 H1) {v : List (Key × V)} {w : List (List Nat × W)} (h : VWd K μ H v w) : VWd K μ1 H1 v w := h.monoY e.toEy
theorem VW.mono (e : Ex K μ H μ1 H1) {v : V} {w : W} (h : VW K μ H v w) : VW K μ1 H1 v w := h.monoY e.toEy
theorem VWs.mono (e : Ex K μ H μ1 H1) {v : List V} {w : List W} (h : VWs K μ H v w) : VWs K μ1 H1 v w := h.monoY e.toEy
theorem VWs.length : ∀ {v : List V} {w : List W}, VWs K μ H v w → v.length = w.length
  | _, _, .nil => rfl
  | _, _, .cons _ t => congrArg (· + 1) (VWs.length t)
theorem VWs.get : ∀ {v : List V} {w : List W} {i : Nat} {x : W}, VWs K μ H v w → w[i]? = some x → ∃ y, v[i]? = some y ∧ VW K μ H y x
  | _, _, _, _, .nil, e => by simp at e
  | _, _, 0, _, .cons h _, e => by simp at e; subst e; exact ⟨_, rfl, h⟩
  | _, _, i + 1, x, .cons _ t, e => by
    obtain ⟨y, h1, h2⟩ := VWs.get (i := i) (x := x) t (by simpa using e)
    exact ⟨y, by simpa using h1, h2⟩
theorem VWs.get' : ∀ {v : List V} {w : List W} {i : Nat} {y : V}, VWs K μ H v w → v[i]? = some y → ∃ x, w[i]? = some x ∧ VW K μ H y x
  | _, _, _, _, .nil, e => by simp at e
  | _, _, 0, _, .cons h _, e => by simp at e; subst e; exact ⟨_, rfl, h⟩
  | _, _, i + 1, x, .cons _ t, e => by
    obtain ⟨y, h1, h2⟩ := VWs.get' (i := i) (y := x) t (by simpa using e)
    exact ⟨y, by simpa using h1, h2⟩
theorem VWs.append : ∀ {v v' : List V} {w w' : List W}, VWs K μ H v w → VWs K μ H v' w' → VWs K μ H (v ++ v') (w ++ w')
  | _, _, _, _, .nil, s => s
  | _, _, _, _, .cons r t, s => .cons r (VWs.append t s)
theorem VWs.drop : ∀ {v : List V} {w : List W} (n : Nat), VWs K μ H v w → VWs K μ H (v.drop n) (w.drop n)
  | _, _, 0, r => r
  | _, _, _ + 1, .nil => .nil
  | _, _, n + 1, .cons _ t => VWs.drop n t
theorem VWs.take : ∀ {v : List V} {w : List W} (n : Nat), VWs K μ H v w → VWs K μ H (v.take n) (w.take n)
  | _, _, 0, _ => .nil
  | _, _, _ + 1, .nil => .nil
  | _, _, n + 1, .cons r t => .cons r (VWs.take n t)
theorem VWs.set {x : V} {y : W} (r : VW K μ H x y) : ∀ {v : List V} {w : List W} (n : Nat), VWs K μ H v w → VWs K μ H (v.set n x) (w.set n y)
  | _, _, _, .nil => .nil
  | _, _, 0, .cons _ t => .cons r t
  | _, _, n + 1, .cons q t => .cons q (VWs.set r n t)
theorem VWs.erase : ∀ {v : List V} {w : List W} (n : Nat), VWs K μ H v w → VWs K μ H (v.eraseIdx n) (w.eraseIdx n)
  | _, _, _, .nil => .nil
  | _, _, 0, .cons _ t => t
  | _, _, n + 1, .cons q t => .cons q (VWs.erase n t)
theorem VWs.reverse : ∀ {v : List V} {w : List W}, VWs K μ H v w → VWs K μ H v.reverse w.reverse
  | _, _, .nil => .nil
  | _, _, .cons r t => by
    rw [List.reverse_cons, List.reverse_cons]
    exact VWs.append (VWs.reverse t) (.cons r .nil)
theorem VWs.rep {v : List V} {w : List W} (h : VWs K μ H v w) : ∀ k : Nat, VWs K μ H (List.replicate k v).flatten (List.replicate k w).flatten
  | 0 => .nil
  | k + 1 => by
    rw [List.replicate_succ, List.replicate_succ, List.flatten_cons, List.flatten_cons]
    exact VWs.append h (VWs.rep h k)
theorem VWs.snoc {v : List V} {w : List W} {x : V} {y : W} (h : VWs K μ H v w) (r : VW K μ H x y) : VWs K μ H (v ++ [x]) (w ++ [y]) := VWs.append h (.cons r .nil)
end

/-! ### the store -/
def SOk (K : Fg) (μ : List Addr) (H : Hp) (a : Addr) : SO → Prop
  | .lst ws => ∃ vs, H a = some (.lst vs) ∧ VWs K μ H vs ws
  | .dct ws => ∃ ks, H a = some (.dK ks) ∧ VWd K μ H ks ws
structure SR (K : Fg) (μ : List Addr) (H : Hp) (S : Sto) : Prop where
  len : μ.length = S.length
  nd : ∀ (i j : Nat) (a : Addr), μ[i]? = some a → μ[j]? = some a → i = j
  at_ : ∀ (k : Nat) (a : Addr) (o : SO), μ[k]? = some a → S[k]? = some o → SOk K μ H a o
section
variable {K : Fg} {μ : List Addr} {H : Hp} {S : Sto}
theorem SR.there (s : SR K μ H S) {k : Nat} {o : SO} (h : S[k]? = some o) : ∃ a, μ[k]? = some a := by
  have h1 : k < S.length := (List.getElem?_eq_some_iff.mp h).1
  have h2 : k < μ.length := by rw [s.len]; exact h1
  exact ⟨μ[k], List.getElem?_eq_getElem h2⟩
theorem SR.back (s : SR K μ H S) {k : Nat} {a : Addr} (h : μ[k]? = some a) : ∃ o, S[k]? = some o := by
  have h1 : k < μ.length := (List.getElem?_eq_some_iff.mp h).1
  have h2 : k < S.length := by rw [← s.len]; exact h1
  exact ⟨S[k], List.getElem?_eq_getElem h2⟩
theorem SR.trk (s : SR K μ H S) {k : Nat} {a : Addr} (h : μ[k]? = some a) : ∃ o, H a = some o ∧ (∀ xs, o ≠ .tup xs) ∧ ∀ ob u, o ≠ .frz ob u := by
  obtain ⟨o, h1⟩ := s.back h
  have q := s.at_ k a o h h1
  cases o with
  | lst ws => obtain ⟨vs, e, _⟩ := q; exact ⟨_, e, fun _ z => (nomatch z), fun _ _ z => (nomatch z)⟩
  | dct ws => obtain ⟨vs, e, _⟩ := q; exact ⟨_, e, fun _ z => (nomatch z), fun _ _ z => (nomatch z)⟩
/-- a list that is read -/
theorem SR.rd (s : SR K μ H S) {k : Nat} {a : Addr} {ws : List W} (h : μ[k]? = some a) (r : rdL S k = some ws) : ∃ vs, SqL K H a vs ∧ VWs K μ H vs ws := by
  obtain ⟨o, h1⟩ := s.back h
  have q := s.at_ k a o h h1
  unfold rdL at r
  rw [h1] at r
  cases o with
  | lst ws' =>
    obtain ⟨vs, e, hv⟩ := q
    cases r
    exact ⟨vs, .inl (.inl e), hv⟩
  | dct ws' => cases r
/-- a list that may be written -/
theorem SR.rm (s : SR K μ H S) {k : Nat} {a : Addr} {ws : List W} (h : μ[k]? = some a) (r : rdM S k = some ws) : S[k]? = some (.lst ws) ∧ ∃ vs, H a = some (.lst vs) ∧ VWs K μ H vs ws := by
  obtain ⟨o, h1⟩ := s.back h
  have q := s.at_ k a o h h1
  unfold rdM rdL at r
  rw [h1] at r
  cases o with
  | lst ws' =>
    cases r
    exact ⟨h1, q⟩
  | dct ws' => cases r
theorem sqT_upd {a p : Addr} {xs : List V} {o : HO} (h : SqT K H a xs) (hp : ∀ u, H p = some u → (∀ xs, u ≠ .tup xs) ∧ ∀ ob z, u ≠ .frz ob z) : SqT K (upd H p o) a xs := by
  rcases h with (h | ⟨ob, h⟩) | h
  · have ne : a ≠ p := fun e => by
      subst e
      exact (hp _ h).1 _ rfl
    exact .inl (.inl (by rw [upd_ne ne]; exact h))
  · have ne : a ≠ p := fun e => by
      subst e
      exact (hp _ h).2 _ _ rfl
    exact .inl (.inr ⟨ob, by rw [upd_ne ne]; exact h⟩)
  · exact .inr h
theorem fz_upd {a p : Addr} {xs : List V} {o : HO} (h : FzL K H a xs) (hp : ∀ u, H p = some u → (∀ xs, u ≠ .tup xs) ∧ ∀ ob z, u ≠ .frz ob z) : FzL K (upd H p o) a xs := by
  rcases h with ⟨ob, h⟩ | h
  · have ne : a ≠ p := fun e => by
      subst e
      exact (hp _ h).2 _ _ rfl
    exact .inl ⟨ob, by rw [upd_ne ne]; exact h⟩
  · exact .inr h
theorem dk_upd {a p : Addr} {ob : Obj} {ks : List (Key × V)} {o : HO} (h : H a = some (.frz ob (.dK ks))) (hp : ∀ u, H p = some u → ∀ ob z, u ≠ .frz ob z) : upd H p o a = some (.frz ob (.dK ks)) := by
  have ne : a ≠ p := fun e => by
    subst e
    exact hp _ h _ _ rfl
  rw [upd_ne ne]; exact h
theorem ey_upd {p : Addr} {o : HO} (hp : ∀ u, H p = some u → (∀ xs, u ≠ .tup xs) ∧ ∀ ob z, u ≠ .frz ob z) (hk : ∀ k : Nat, μ[k]? = some p → ((∃ vs, H p = some (.lst vs)) → ∃ vs, o = .lst vs) ∧ ((∃ ks, H p = some (.dK ks)) → ∃ ks, o = .dK ks)) : Ey K μ H μ (upd H p o) := by
  refine ⟨fun _ _ h => h, fun _ _ h => sqT_upd h hp, fun _ _ h => fz_upd h hp, fun _ _ _ h => dk_upd h fun u e => (hp u e).2, fun k a h q => ?_, fun k a h q => ?_⟩
  · by_cases e : a = p
    · subst e
      obtain ⟨vs, rfl⟩ := (hk k h).1 q
      exact ⟨vs, upd_same⟩
    · rw [upd_ne e]; exact q
  · by_cases e : a = p
    · subst e
      obtain ⟨vs, rfl⟩ := (hk k h).2 q
      exact ⟨vs, upd_same⟩
    · rw [upd_ne e]; exact q
theorem ex_fresh {p : Addr} {o : HO} (hp : H p = none) : Ex K μ H μ (upd H p o) := ⟨ey_upd (fun u e => by rw [hp] at e; cases e) (fun _ _ => ⟨fun ⟨_, e⟩ => (by rw [hp] at e; cases e), fun ⟨_, e⟩ => (by rw [hp] at e; cases e)⟩), fun a u h q => ⟨by rw [upd_ne (ne_of_none h hp)]; exact h, q⟩⟩
/-- something new that the store does not hold -/
theorem SR.fresh (s : SR K μ H S) {p : Addr} {o : HO} (hp : H p = none) : SR K μ (upd H p o) S := by
  refine ⟨s.len, s.nd, fun k a so h1 h2 => ?_⟩
  have q := s.at_ k a so h1 h2
  have ne : a ≠ p := fun e => by
    obtain ⟨u, hu, _⟩ := s.trk h1
    rw [e, hp] at hu
    cases hu
  cases so with
  | lst ws => obtain ⟨vs, e, hv⟩ := q; exact ⟨vs, by rw [upd_ne ne]; exact e, hv.mono (ex_fresh hp)⟩
  | dct ws => obtain ⟨vs, e, hv⟩ := q; exact ⟨vs, by rw [upd_ne ne]; exact e, hv.mono (ex_fresh hp)⟩
theorem ey_snoc {p : Addr} : Ey K μ H (μ ++ [p]) H := ⟨fun k a h => by
    rw [List.getElem?_append_left (List.getElem?_eq_some_iff.mp h).1]
    exact h, fun _ _ h => h, fun _ _ h => h, fun _ _ _ h => h, fun _ _ _ h => h, fun _ _ _ h => h⟩
theorem snoc_cases {p : Addr} (i : Nat) (a : Addr) (h : (μ ++ [p])[i]? = some a) : (μ[i]? = some a ∧ i < μ.length) ∨ (i = μ.length ∧ a = p) := by
  by_cases hi : i < μ.length
  · rw [List.getElem?_append_left hi] at h
    exact .inl ⟨h, hi⟩
  · have h3 := (List.getElem?_eq_some_iff.mp h).1
    rw [List.length_append, List.length_singleton] at h3
    have e : i = μ.length := by omega
    subst e
    rw [List.getElem?_append_right (Nat.le_refl _), Nat.sub_self] at h
    exact .inr ⟨rfl, (Option.some.inj h).symm⟩
/-- from ahead of p's making: p comes into the store -/
theorem Ex.snoc {μ1 : List Addr} {H1 : Hp} {p : Addr} (e : Ex K μ1 H1 μ H) (hp : H1 p = none) : Ex K μ1 H1 (μ ++ [p]) H := ⟨⟨fun k a h => ey_snoc (K := K) (H := H) |>.pre k a (e.pre k a h), e.tup, e.fz, e.dk, e.kl, e.kd⟩, fun a o h q => ⟨(e.fr a o h q).1, fun k z => by
  rcases snoc_cases k a z with ⟨z1, _⟩ | ⟨_, z1⟩
  · exact (e.fr a o h q).2 k z1
  · subst z1
    rw [hp] at h
    cases h⟩⟩
/-- from ahead of p's making: p is changed -/
theorem Ex.mut {μ1 : List Addr} {H1 : Hp} {p : Addr} {o : HO} (e : Ex K μ1 H1 μ H) (hp : H1 p = none) : Ex K μ1 H1 μ (upd H p o) := ⟨⟨e.pre, fun a xs h => by
  rcases h with (h | ⟨ob, h⟩) | h
  · have q := e.tup a xs (.inl (.inl h))
    rcases q with (q | ⟨ob, q⟩) | q
    · exact .inl (.inl (by rw [upd_ne (ne_of_none h hp)]; exact q))
    · exact .inl (.inr ⟨ob, by rw [upd_ne (ne_of_none h hp)]; exact q⟩)
    · exact .inr q
  · have q := e.tup a xs (.inl (.inr ⟨ob, h⟩))
    rcases q with (q | ⟨ob, q⟩) | q
    · exact .inl (.inl (by rw [upd_ne (ne_of_none h hp)]; exact q))
    · exact .inl (.inr ⟨ob, by rw [upd_ne (ne_of_none h hp)]; exact q⟩)
    · exact .inr q
  · exact .inr h, fun a xs h => by
  rcases h with ⟨ob, h⟩ | h
  · have q := e.fz a xs (.inl ⟨ob, h⟩)
    rcases q with ⟨ob, q⟩ | q
    · exact .inl ⟨ob, by rw [upd_ne (ne_of_none h hp)]; exact q⟩
    · exact .inr q
  · exact .inr h, fun a o' ks h => by rw [upd_ne (ne_of_none h hp)]; exact e.dk a o' ks h, fun k a h q => by
  have ne : a ≠ p := let ⟨_, x⟩ := q; ne_of_none x hp
  rw [upd_ne ne]; exact e.kl k a h q, fun k a h q => by
  have ne : a ≠ p := let ⟨_, x⟩ := q; ne_of_none x hp
  rw [upd_ne ne]; exact e.kd k a h q⟩, fun a u h q => ⟨by rw [upd_ne (ne_of_none h hp)]; exact (e.fr a u h q).1, (e.fr a u h q).2⟩⟩
theorem ex_new {p : Addr} {o : HO} (hp : H p = none) : Ex K μ H (μ ++ [p]) (upd H p o) := (ex_fresh hp).snoc hp
/-- a new list of the store -/
theorem SR.new (s : SR K μ H S) {p : Addr} {vs : List V} {ws : List W} (hp : H p = none) (hv : VWs K μ H vs ws) : SR K (μ ++ [p]) (upd H p (.lst vs)) (S ++ [.lst ws]) := by
  have s2 := s.fresh (o := .lst vs) hp
  have e2 : Ey K μ (upd H p (.lst vs)) (μ ++ [p]) (upd H p (.lst vs)) := ey_snoc
  have np : ∀ i : Nat, μ[i]? ≠ some p := fun i h => by
    obtain ⟨u, hu, _⟩ := s.trk h
    rw [hp] at hu
    cases hu
  refine ⟨by rw [List.length_append, List.length_append, s.len]; rfl, fun i j a hi hj => ?_, fun k a so h1 h2 => ?_⟩
  · rcases snoc_cases i a hi with ⟨h1, l1⟩ | ⟨h1, l1⟩
    · rcases snoc_cases j a hj with ⟨h2, l2⟩ | ⟨h2, l2⟩
      · exact s.nd i j a h1 h2
      · rw [l2] at h1; exact absurd h1 (np i)
    · rcases snoc_cases j a hj with ⟨h2, l2⟩ | ⟨h2, l2⟩
      · rw [l1] at h2; exact absurd h2 (np j)
      · omega
  · rcases snoc_cases k a h1 with ⟨h3, l3⟩ | ⟨h3, l3⟩
    · rw [List.getElem?_append_left (by rw [← s.len]; exact l3)] at h2
      have q := s2.at_ k a so h3 h2
      cases so with
      | lst ws => obtain ⟨vs, e, hv⟩ := q; exact ⟨vs, e, hv.monoY e2⟩
      | dct ws => obtain ⟨vs, e, hv⟩ := q; exact ⟨vs, e, hv.monoY e2⟩
    · subst h3
      subst l3
      rw [s.len, List.getElem?_append_right (Nat.le_refl _), Nat.sub_self] at h2
      cases h2
      exact ⟨vs, upd_same, (hv.mono (ex_fresh hp)).monoY e2⟩
theorem SR.newRef (s : SR K μ H S) {p : Addr} (hp : ∃ vs, H p = some (.lst vs)) : VW K (μ ++ [p]) H (.ref p) (.ref S.length) := .ref (by
  rw [← s.len, List.getElem?_append_right (Nat.le_refl _), Nat.sub_self]
  rfl) hp
/-- a list of the store is written -/
theorem SR.write (s : SR K μ H S) {k : Nat} {a : Addr} {vs : List V} {ws ws0 : List W} (hk : μ[k]? = some a) (h0 : S[k]? = some (.lst ws0)) (hv : VWs K μ H vs ws) : SR K μ (upd H a (.lst vs)) (S.set k (.lst ws)) ∧ Ex K μ H μ (upd H a (.lst vs)) := by
  have ee : Ex K μ H μ (upd H a (.lst vs)) := ⟨ey_upd (fun u e => by
    obtain ⟨u', e', h1, h2⟩ := s.trk hk
    rw [e] at e'
    cases e'
    exact ⟨h1, h2⟩) (fun _ _ => ⟨fun _ => ⟨_, rfl⟩, fun ⟨_, e⟩ => by
      obtain ⟨_, e', _⟩ := s.at_ k a _ hk h0
      rw [e] at e'
      cases e'⟩), fun b u h q => ⟨by
      have ne : b ≠ a := fun z => by
        subst z
        exact q k hk
      rw [upd_ne ne]
      exact h, q⟩⟩
  refine ⟨⟨by rw [List.length_set]; exact s.len, s.nd, fun j b so h1 h2 => ?_⟩, ee⟩
  by_cases e : j = k
  · subst e
    rw [hk] at h1
    cases h1
    rw [List.getElem?_set_self (List.getElem?_eq_some_iff.mp h0).1] at h2
    cases h2
    exact ⟨vs, upd_same, hv.mono ee⟩
  · rw [List.getElem?_set_ne (Ne.symm e)] at h2
    have ne : b ≠ a := fun q => by
      subst q
      exact e (s.nd j k b h1 hk)
    have q := s.at_ j b so h1 h2
    cases so with
    | lst ws => obtain ⟨vs', e', hv'⟩ := q; exact ⟨vs', by rw [upd_ne ne]; exact e', hv'.mono ee⟩
    | dct ws => obtain ⟨vs', e', hv'⟩ := q; exact ⟨vs', by rw [upd_ne ne]; exact e', hv'.mono ee⟩
/-- a list outside the store is changed -/
theorem SR.other (s : SR K μ H S) {p : Addr} {xs ys : List V} (hp : H p = some (.lst xs)) (hn : ∀ k : Nat, μ[k]? ≠ some p) : SR K μ (upd H p (.lst ys)) S ∧ Ey K μ H μ (upd H p (.lst ys)) := by
  have ee : Ey K μ H μ (upd H p (.lst ys)) := ey_upd (fun u e => by
    rw [hp] at e
    cases e
    exact ⟨fun _ z => (nomatch z), fun _ _ z => (nomatch z)⟩) fun k h => absurd h (hn k)
  refine ⟨⟨s.len, s.nd, fun k a so h1 h2 => ?_⟩, ee⟩
  have q := s.at_ k a so h1 h2
  have ne : a ≠ p := fun e => by
    subst e
    exact hn k h1
  cases so with
  | lst ws => obtain ⟨vs, e, hv⟩ := q; exact ⟨vs, by rw [upd_ne ne]; exact e, hv.monoY ee⟩
  | dct ws => obtain ⟨vs, e, hv⟩ := q; exact ⟨vs, by rw [upd_ne ne]; exact e, hv.monoY ee⟩
/-- a list outside the store comes into it -/
theorem SR.adopt (s : SR K μ H S) {p : Addr} {vs : List V} {ws : List W} (hp : H p = some (.lst vs)) (hn : ∀ k : Nat, μ[k]? ≠ some p) (hv : VWs K μ H vs ws) : SR K (μ ++ [p]) H (S ++ [.lst ws]) := by
  have e2 : Ey K μ H (μ ++ [p]) H := ey_snoc
  refine ⟨by rw [List.length_append, List.length_append, s.len]; rfl, fun i j a hi hj => ?_, fun k a so h1 h2 => ?_⟩
  · rcases snoc_cases i a hi with ⟨h1, l1⟩ | ⟨h1, l1⟩
    · rcases snoc_cases j a hj with ⟨h2, l2⟩ | ⟨h2, l2⟩
      · exact s.nd i j a h1 h2
      · rw [l2] at h1; exact absurd h1 (hn i)
    · rcases snoc_cases j a hj with ⟨h2, l2⟩ | ⟨h2, l2⟩
      · rw [l1] at h2; exact absurd h2 (hn j)
      · omega
  · rcases snoc_cases k a h1 with ⟨h3, l3⟩ | ⟨h3, l3⟩
    · rw [List.getElem?_append_left (by rw [← s.len]; exact l3)] at h2
      have q := s.at_ k a so h3 h2
      cases so with
      | lst ws => obtain ⟨vs, e, hv⟩ := q; exact ⟨vs, e, hv.monoY e2⟩
      | dct ws => obtain ⟨vs, e, hv⟩ := q; exact ⟨vs, e, hv.monoY e2⟩
    · subst h3
      subst l3
      rw [s.len, List.getElem?_append_right (Nat.le_refl _), Nat.sub_self] at h2
      cases h2
      exact ⟨vs, hp, hv.monoY e2⟩
/-- a dict that is read -/
theorem SR.rdd (s : SR K μ H S) {k : Nat} {a : Addr} {ws : List (List Nat × W)} (h : μ[k]? = some a) (r : rdD S k = some ws) : S[k]? = some (.dct ws) ∧ ∃ ks, H a = some (.dK ks) ∧ VWd K μ H ks ws := by
  obtain ⟨o, h1⟩ := s.back h
  have q := s.at_ k a o h h1
  unfold rdD at r
  rw [h1] at r
  cases o with
  | lst ws' => cases r
  | dct ws' =>
    cases r
    exact ⟨h1, q⟩
/-- a dict outside the store comes into it -/
theorem SR.adoptD (s : SR K μ H S) {p : Addr} {ks : List (Key × V)} {ws : List (List Nat × W)} (hp : H p = some (.dK ks)) (hn : ∀ k : Nat, μ[k]? ≠ some p) (hv : VWd K μ H ks ws) : SR K (μ ++ [p]) H (S ++ [.dct ws]) := by
  have e2 : Ey K μ H (μ ++ [p]) H := ey_snoc
  refine ⟨by rw [List.length_append, List.length_append, s.len]; rfl, fun i j a hi hj => ?_, fun k a so h1 h2 => ?_⟩
  · rcases snoc_cases i a hi with ⟨h1, l1⟩ | ⟨h1, l1⟩
    · rcases snoc_cases j a hj with ⟨h2, l2⟩ | ⟨h2, l2⟩
      · exact s.nd i j a h1 h2
      · rw [l2] at h1; exact absurd h1 (hn i)
    · rcases snoc_cases j a hj with ⟨h2, l2⟩ | ⟨h2, l2⟩
      · rw [l1] at h2; exact absurd h2 (hn j)
      · omega
  · rcases snoc_cases k a h1 with ⟨h3, l3⟩ | ⟨h3, l3⟩
    · rw [List.getElem?_append_left (by rw [← s.len]; exact l3)] at h2
      have q := s.at_ k a so h3 h2
      cases so with
      | lst ws => obtain ⟨vs, e, hv⟩ := q; exact ⟨vs, e, hv.monoY e2⟩
      | dct ws => obtain ⟨vs, e, hv⟩ := q; exact ⟨vs, e, hv.monoY e2⟩
    · subst h3
      subst l3
      rw [s.len, List.getElem?_append_right (Nat.le_refl _), Nat.sub_self] at h2
      cases h2
      exact ⟨ks, hp, hv.monoY e2⟩
/-- a dict of the store is written -/
theorem SR.writeD (s : SR K μ H S) {k : Nat} {a : Addr} {ks : List (Key × V)} {ws ws0 : List (List Nat × W)} (hk : μ[k]? = some a) (h0 : S[k]? = some (.dct ws0)) (hv : VWd K μ H ks ws) : SR K μ (upd H a (.dK ks)) (S.set k (.dct ws)) ∧ Ex K μ H μ (upd H a (.dK ks)) := by
  have ee : Ex K μ H μ (upd H a (.dK ks)) := ⟨ey_upd (fun u e => by
    obtain ⟨u', e', h1, h2⟩ := s.trk hk
    rw [e] at e'
    cases e'
    exact ⟨h1, h2⟩) (fun _ _ => ⟨fun ⟨_, e⟩ => (by
      obtain ⟨_, e', _⟩ := s.at_ k a _ hk h0
      rw [e] at e'
      cases e'), fun _ => ⟨_, rfl⟩⟩), fun b u h q => ⟨by
      have ne : b ≠ a := fun z => by
        subst z
        exact q k hk
      rw [upd_ne ne]
      exact h, q⟩⟩
  refine ⟨⟨by rw [List.length_set]; exact s.len, s.nd, fun j b so h1 h2 => ?_⟩, ee⟩
  by_cases e : j = k
  · subst e
    rw [hk] at h1
    cases h1
    rw [List.getElem?_set_self (List.getElem?_eq_some_iff.mp h0).1] at h2
    cases h2
    exact ⟨ks, upd_same, hv.mono ee⟩
  · rw [List.getElem?_set_ne (Ne.symm e)] at h2
    have ne : b ≠ a := fun q => by
      subst q
      exact e (s.nd j k b h1 hk)
    have q := s.at_ j b so h1 h2
    cases so with
    | lst ws => obtain ⟨vs', e', hv'⟩ := q; exact ⟨vs', by rw [upd_ne ne]; exact e', hv'.mono ee⟩
    | dct ws => obtain ⟨vs', e', hv'⟩ := q; exact ⟨vs', by rw [upd_ne ne]; exact e', hv'.mono ee⟩
end

/-! ### slots -/
def ER (K : Fg) (μ : List Addr) (H : Hp) (σ : L2.St) (env : Env) : Prop := σ.length = env.length ∧ ∀ (i : Nat) w, env[i]? = some (some w) → ∃ v, σ[i]? = some (some v) ∧ VW K μ H v w
section
variable {K : Fg} {μ μ1 : List Addr} {H H1 : Hp} {σ : L2.St} {env : Env}
theorem ER.monoY (e : Ey K μ H μ1 H1) (h : ER K μ H σ env) : ER K μ1 H1 σ env := ⟨h.1, fun i w q => by
  obtain ⟨v, h1, h2⟩ := h.2 i w q
  exact ⟨v, h1, h2.monoY e⟩⟩
theorem ER.mono (e : Ex K μ H μ1 H1) (h : ER K μ H σ env) : ER K μ1 H1 σ env := h.monoY e.toEy
theorem ER.set (h : ER K μ H σ env) (i : Nat) {v : V} {w : W} (r : VW K μ H v w) : ER K μ H (σ.set i (some v)) (env.set i (some w)) := by
  refine ⟨by rw [List.length_set, List.length_set]; exact h.1, fun j x q => ?_⟩
  by_cases e : i = j
  · subst e
    by_cases hl : i < env.length
    · rw [List.getElem?_set_self hl] at q
      cases q
      rw [List.getElem?_set_self (by rw [h.1]; exact hl)]
      exact ⟨v, rfl, r⟩
    · rw [List.getElem?_eq_none (by rw [List.length_set]; omega)] at q
      cases q
  · rw [List.getElem?_set_ne e] at q
    rw [List.getElem?_set_ne e]
    exact h.2 j x q
theorem ER.clear (h : ER K μ H σ env) (i : Nat) : ER K μ H (σ.set i none) (env.set i none) := by
  refine ⟨by rw [List.length_set, List.length_set]; exact h.1, fun j x q => ?_⟩
  by_cases e : i = j
  · subst e
    by_cases hl : i < env.length
    · rw [List.getElem?_set_self hl] at q
      cases q
    · rw [List.getElem?_eq_none (by rw [List.length_set]; omega)] at q
      cases q
  · rw [List.getElem?_set_ne e] at q
    rw [List.getElem?_set_ne e]
    exact h.2 j x q
theorem ER.wipe (h : ER K μ H σ env) : ∀ vs : List Nat, ER K μ H (L2.wipe σ vs) (MP.wipe env vs)
  | [] => h
  | v :: vs => (ER.wipe h vs).clear v
end
theorem wipe_get (σ : L2.St) : ∀ (vs : List Nat) (j : Nat), (L2.wipe σ vs)[j]? = if j ∈ vs then (σ[j]?).map (fun _ => none) else σ[j]?
  | [], j => by simp [L2.wipe]
  | v :: vs, j => by
    unfold L2.wipe
    by_cases e : v = j
    · subst e
      rw [List.getElem?_set_self', wipe_get σ vs v]
      by_cases h : v ∈ vs
      · simp [h]
        rfl
      · simp [h]
        rfl
    · rw [List.getElem?_set_ne e, wipe_get σ vs j]
      have : j ∈ v :: vs ↔ j ∈ vs := by
        rw [List.mem_cons]
        exact ⟨fun q => q.elim (fun z => absurd z.symm e) id, .inr⟩
      simp only [this]
theorem wipe_same {σ σ' : L2.St} {vs tg : List Nat} (hl : σ'.length = σ.length) (ht : ∀ i ∈ tg, i ∈ vs) (h : ∀ i, i ∉ tg → σ'[i]? = (L2.wipe σ vs)[i]?) : L2.wipe σ' vs = L2.wipe σ vs := by
  apply List.ext_getElem?
  intro j
  rw [wipe_get, wipe_get]
  by_cases e : j ∈ vs
  · rw [if_pos e, if_pos e]
    by_cases q : j < σ.length
    · rw [List.getElem?_eq_getElem q, List.getElem?_eq_getElem (by omega)]
      rfl
    · rw [List.getElem?_eq_none (by omega), List.getElem?_eq_none (by omega)]
  · rw [if_neg e, if_neg e, h j (fun q => e (ht j q)), wipe_get, if_neg e]
end MP
namespace MP
open PySem PySem.Spec PyProof.Rows L2

theorem lim_ok {n : Nat} (h : n ≤ LIM) : n ≤ sizeLine := Nat.le_trans h (by decide)
theorem lim_lt {n : Nat} (h : n < LIM) : n < sizeLine := Nat.lt_of_lt_of_le h (by decide)
theorem str_len {x : Str} {l : List Nat} (e : x.cps.toList = l) : x.length = l.length := by
  rw [← e]
  show x.cps.size = x.cps.toList.length
  simp

/-- what is wanted behind: any later state that stands for it -/
def Aft (K : Fg) (μ : List Addr) (H : Hp) (S' : Sto) (w : W) (Q : VK) : Prop := ∀ v μ' H', Ex K μ H μ' H' → SR K μ' H' S' → VW K μ' H' v w → Q v H'
theorem Aft.mono {K : Fg} {μ μ1 : List Addr} {H H1 : Hp} {S' : Sto} {w : W} {Q : VK} (e : Ex K μ H μ1 H1) (a : Aft K μ H S' w Q) : Aft K μ1 H1 S' w Q := fun v μ' H' e' s r => a v μ' H' (e.trans e') s r
/-- a two-place operation on values is sound -/
def OpS (K : Fg) (f : W → W → Sto → R) (r : R2) : Prop := ∀ μ H S x y w S' vx vy Q, SR K μ H S → VW K μ H vx x → VW K μ H vy y → f x y S = some (w, S') → Aft K μ H S' w Q → r vx vy H Q
section
variable {K : Fg} {μ : List Addr} {H : Hp} {S S' : Sto} {w : W} {Q : VK}
theorem Aft.now (s : SR K μ H S) {v : V} (r : VW K μ H v w) (a : Aft K μ H S w Q) : Q v H := a v μ H .refl s r
/-- a new list -/
theorem Aft.new {vs : List V} {ws : List W} (s : SR K μ H S) (hv : VWs K μ H vs ws) (e : new S ws = some (w, S')) (a : Aft K μ H S' w Q) : vs.length ≤ sizeLine ∧ ∀ p, H p = none → Q (.ref p) (upd H p (.lst vs)) := by
  unfold MP.new at e
  split at e
  · rename_i hl
    cases e
    refine ⟨by rw [hv.length]; exact lim_ok hl, fun p hp => ?_⟩
    exact a _ (μ ++ [p]) _ (ex_new hp) (s.new hp hv) (.ref (by
      rw [← s.len, List.getElem?_append_right (Nat.le_refl _), Nat.sub_self]
      rfl) ⟨_, upd_same⟩)
  · cases e
/-- a new tuple -/
theorem Aft.tup {vs : List V} {ws : List W} (s : SR K μ H S) (hv : VWs K μ H vs ws) (a : Aft K μ H S (.tup ws) Q) : ∀ p, H p = none → Q (.ref p) (upd H p (.tup vs)) := fun p hp =>
  a _ μ _ (ex_fresh hp) (s.fresh hp) (.tup (.inl (.inl upd_same)) (hv.mono (ex_fresh hp)))
end

/-! ### == -/
theorem str_beq (x y : List Nat) : ((⟨x.toArray⟩ : Str) == (⟨y.toArray⟩ : Str)) = (x == y) := by
  by_cases h : x = y
  · subst h
    simp
  · have h2 : ¬ ((⟨x.toArray⟩ : Str) = (⟨y.toArray⟩ : Str)) := fun q => h (by
      injection q with q
      simpa using congrArg Array.toList q)
    rw [beq_eq_false_iff_ne.mpr h, beq_eq_false_iff_ne.mpr h2]
mutual
theorem eqv_py : ∀ d e : D, PyData.eqv d.py e.py = D.eqv d e
  | .non, e => by cases e <;> simp [D.py, D.eqv, PyData.eqv]
  | .bl b, e => by cases e <;> simp [D.py, D.eqv, PyData.eqv]
  | .int i, e => by cases e <;> simp [D.py, D.eqv, PyData.eqv]
  | .str x, e => by cases e <;> simp [D.py, D.eqv, PyData.eqv, str_beq]
  | .lst xs, e => by
    cases e with
    | lst ys => simp only [D.py, D.eqv, PyData.eqv]; exact eqv_pys xs ys
    | _ => simp [D.py, D.eqv, PyData.eqv]
  | .tup xs, e => by
    cases e with
    | tup ys => simp only [D.py, D.eqv, PyData.eqv]; exact eqv_pys xs ys
    | _ => simp [D.py, D.eqv, PyData.eqv]
theorem eqv_pys : ∀ d e : List D, PyData.eqvAll (D.pys d) (D.pys e) = D.eqvs d e
  | [], e => by cases e <;> simp [D.pys, D.eqvs, PyData.eqvAll]
  | d :: ds, e => by
    cases e with
    | nil => simp [D.pys, D.eqvs, PyData.eqvAll]
    | cons e es => simp only [D.pys, D.eqvs, PyData.eqvAll, eqv_py d e, eqv_pys ds es]
end
theorem any_pys (e : D) : ∀ ds : List D, ((D.pys ds).any fun z => PyData.eqv z e.py) = ds.any fun z => D.eqv z e
  | [] => rfl
  | d :: ds => by
    show (PyData.eqv d.py e.py || (D.pys ds).any _) = (D.eqv d e || ds.any _)
    rw [eqv_py, any_pys e ds]
section
variable {K : Fg} {μ : List Addr} {H : Hp} {S : Sto}
theorem str_eta {x : Str} {l : List Nat} (e : x.cps.toList = l) : x = ⟨l.toArray⟩ := by
  subst e
  cases x
  simp
theorem dats_lay {f : W → Option D} {n : Nat} (hf : ∀ w d, f w = some d → d.py.canLay0 = true ∧ d.py.depth ≤ n) : ∀ {ws : List W} {ds : List D}, dats f ws = some ds → PyData.canLayAll0 (D.pys ds) = true ∧ PyData.depthAll (D.pys ds) ≤ n
  | [], ds, h => by
    cases h
    simp [D.pys, PyData.canLayAll0, PyData.depthAll]
  | w :: ws, ds, h => by
    unfold dats at h
    split at h
    · rename_i d ds' h1 h2
      cases h
      obtain ⟨a1, a2⟩ := hf _ _ h1
      obtain ⟨b1, b2⟩ := dats_lay hf h2
      simp only [D.pys, PyData.canLayAll0, PyData.depthAll, a1, b1, Bool.and_self, true_and]
      omega
    · cases h
theorem dat_lay : ∀ (n : Nat) (w : W) (d : D), dat S n w = some d → d.py.canLay0 = true ∧ d.py.depth ≤ n
  | n, .non, d, h => by
    have e : d = .non := by cases n <;> (simp only [dat] at h; cases h; rfl)
    subst e
    simp [D.py, PyData.canLay0, PyData.depth]
  | n, .bl b, d, h => by
    have e : d = .bl b := by cases n <;> (simp only [dat] at h; cases h; rfl)
    subst e
    simp [D.py, PyData.canLay0, PyData.depth]
  | n, .int i, d, h => by
    have e : d = .int i := by cases n <;> (simp only [dat] at h; cases h; rfl)
    subst e
    simp [D.py, PyData.canLay0, PyData.depth]
  | n, .str x, d, h => by
    have e : (x.all fun c => decide (c < 1114112)) = true ∧ d = .str x := by
      cases n <;>
      · simp only [dat] at h
        split at h
        · rename_i hx
          cases h
          exact ⟨hx, rfl⟩
        · cases h
    obtain ⟨hx, e⟩ := e
    subst e
    refine ⟨?_, by simp [D.py, PyData.depth]⟩
    simp only [D.py, PyData.canLay0, PyData.strOk]
    rw [← Array.all_toList]
    simpa using hx
  | 0, .tup xs, d, h => by simp [dat] at h
  | 0, .ref k, d, h => by simp [dat] at h
  | n, .rol xs, d, h => by cases n <;> simp [dat] at h
  | n, .fn xs, d, h => by cases n <;> simp [dat] at h
  | n, .dic xs, d, h => by cases n <;> simp [dat] at h
  | n, .dref xs, d, h => by cases n <;> simp [dat] at h
  | n + 1, .tup xs, d, h => by
    simp only [dat, Option.map_eq_some_iff] at h
    obtain ⟨ds, h1, h2⟩ := h
    subst h2
    obtain ⟨a1, a2⟩ := dats_lay (n := n) (fun w d q => dat_lay n w d q) h1
    simp only [D.py, PyData.canLay0, PyData.depth]
    exact ⟨a1, by omega⟩
  | n + 1, .ref k, d, h => by
    simp only [dat] at h
    split at h
    · rename_i xs _
      simp only [Option.map_eq_some_iff] at h
      obtain ⟨ds, h1, h2⟩ := h
      subst h2
      obtain ⟨a1, a2⟩ := dats_lay (n := n) (fun w d q => dat_lay n w d q) h1
      simp only [D.py, PyData.canLay0, PyData.depth]
      exact ⟨a1, by omega⟩
    · cases h
theorem dat_shaped {n : Nat} {w : W} {d : D} (hn : n ≤ 60) (h : dat S n w = some d) : SeqAt.shaped d.py = true := by
  obtain ⟨h1, h2⟩ := dat_lay n w d h
  unfold SeqAt.shaped
  rw [h1, decide_eq_true (by omega)]
  rfl
theorem dats_dp {f : W → Option D} (hf : ∀ v w d, f w = some d → VW K μ H v w → Dp K H v d.py) : ∀ {vs : List V} {ws : List W} {ds : List D}, dats f ws = some ds → VWs K μ H vs ws → DpAll K H vs (D.pys ds)
  | _, [], ds, h, hv => by
    cases hv
    cases h
    exact .nil
  | _, w :: ws, ds, h, hv => by
    cases hv with
    | cons r t =>
      unfold dats at h
      split at h
      · rename_i d ds' h1 h2
        cases h
        exact .cons (hf _ _ _ h1 r) (dats_dp hf h2 t)
      · cases h
theorem dat_dp (s : SR K μ H S) : ∀ (n : Nat) (v : V) (w : W) (d : D), dat S n w = some d → VW K μ H v w → Dp K H v d.py
  | n, v, .non, d, h, r => by
    have e : d = .non := by cases n <;> (simp only [dat] at h; cases h; rfl)
    subst e
    cases r
    exact .non
  | n, v, .bl b, d, h, r => by
    have e : d = .bl b := by cases n <;> (simp only [dat] at h; cases h; rfl)
    subst e
    cases r
    exact .bl b
  | n, v, .int i, d, h, r => by
    have e : d = .int i := by cases n <;> (simp only [dat] at h; cases h; rfl)
    subst e
    cases r
    exact .int i
  | n, v, .str x, d, h, r => by
    have e : d = .str x := by
      cases n <;>
      · simp only [dat] at h
        split at h
        · cases h
          rfl
        · cases h
    subst e
    cases r with
    | str z _ q =>
      have e2 := str_eta q
      subst e2
      exact .str _
  | 0, v, .tup xs, d, h, r => by simp [dat] at h
  | 0, v, .ref k, d, h, r => by simp [dat] at h
  | n, v, .rol xs, d, h, r => by cases n <;> simp [dat] at h
  | n, v, .fn xs, d, h, r => by cases n <;> simp [dat] at h
  | n, v, .dic xs, d, h, r => by cases n <;> simp [dat] at h
  | n, v, .dref xs, d, h, r => by cases n <;> simp [dat] at h
  | n + 1, v, .tup xs, d, h, r => by
    simp only [dat, Option.map_eq_some_iff] at h
    obtain ⟨ds, h1, h2⟩ := h
    subst h2
    cases r with
    | tup q t => exact .tup q (dats_dp (fun v w d a b => dat_dp s n v w d a b) h1 t)
  | n + 1, v, .ref k, d, h, r => by
    simp only [dat] at h
    split at h
    · rename_i xs hx
      simp only [Option.map_eq_some_iff] at h
      obtain ⟨ds, h1, h2⟩ := h
      subst h2
      cases r with
      | ref hk hkl =>
        obtain ⟨vs, q, t⟩ := s.rd hk hx
        exact .lst q (dats_dp (fun v w d a b => dat_dp s n v w d a b) h1 t)
    · cases h
end
def rEqA (K : Fg) : R2 := fun x y H Q => rEq x y H Q ∨ rEqD K x y H Q
def rNeA (K : Fg) : R2 := fun x y H Q => rNe x y H Q ∨ rNeD K x y H Q
theorem op_eqA {X : Cx} (hu : X.A.units + 64 < cLine) : OpR X (compareOp .Eq) (rEqA X.K) := OpR.or op_eq (op_eqD hu)
theorem op_neA {X : Cx} (hu : X.A.units + 64 < cLine) : OpR X (compareOp .NotEq) (rNeA X.K) := OpR.or op_ne (op_neD hu)
theorem dec_str2 {x y : Str} {l m : List Nat} (e : x.cps.toList = l) (e' : y.cps.toList = m) : decide (V.str x = V.str y) = decide (l = m) := by
  subst e e'
  by_cases h : x = y
  · subst h
    simp
  · have h1 : ¬ V.str x = V.str y := fun q => h (V.str.inj q)
    have h2 : ¬ x.cps.toList = y.cps.toList := fun q => h (by
      cases x
      cases y
      simp only [Str.mk.injEq]
      exact Array.ext' q)
    rw [decide_eq_false h1, decide_eq_false h2]
/-- what the two rules give -/
theorem eqW_ok {K : Fg} {μ : List Addr} {H : Hp} {S : Sto} {x y : W} {vx vy : V} {k : Bool} (s : SR K μ H S) (rx : VW K μ H vx x) (ry : VW K μ H vy y) (h : eqW S x y = some k) :
    (scal vx vy = true ∧ decide (vx = vy) = k) ∨ ∃ d e, Dp K H vx d ∧ Dp K H vy e ∧ SeqAt.shaped d = true ∧ SeqAt.shaped e = true ∧ PyData.eqv d e = k := by
  have gen : (match dat S 60 x, dat S 60 y with | some d, some e => some (D.eqv d e) | _, _ => none) = some k → ∃ d e, Dp K H vx d ∧ Dp K H vy e ∧ SeqAt.shaped d = true ∧ SeqAt.shaped e = true ∧ PyData.eqv d e = k := by
    intro h
    split at h
    · rename_i d e h1 h2
      cases h
      exact ⟨d.py, e.py, dat_dp s 60 _ _ _ h1 rx, dat_dp s 60 _ _ _ h2 ry, dat_shaped (Nat.le_refl _) h1, dat_shaped (Nat.le_refl _) h2, eqv_py d e⟩
    · cases h
  cases x <;> cases y <;> first
    | (right; exact gen h)
    | (cases rx; cases ry; simp only [eqW] at h; cases h; refine .inl ⟨rfl, ?_⟩; simp; done)
    | (cases rx; cases ry; rename_i a b c d; simp only [eqW] at h; cases h; exact .inl ⟨rfl, dec_str2 (by assumption) (by assumption)⟩)
theorem os_eq {K : Fg} : OpS K (fun x y S => (opC .eq x y S).map fun k => (.bl k, S)) (rEqA K) := by
  intro μ H S x y w S' vx vy Q s rx ry h a
  simp only [opC, Option.map_eq_some_iff] at h
  obtain ⟨k, h1, h2⟩ := h
  cases h2
  rcases eqW_ok s rx ry h1 with ⟨q1, q2⟩ | ⟨d, e, q1, q2, q3, q4, q5⟩
  · subst q2
    exact .inl ⟨q1, a.now s (.bl _)⟩
  · subst q5
    exact .inr ⟨d, e, q1, q2, q3, q4, a.now s (.bl _)⟩
theorem os_ne {K : Fg} : OpS K (fun x y S => (opC .ne x y S).map fun k => (.bl k, S)) (rNeA K) := by
  intro μ H S x y w S' vx vy Q s rx ry h a
  simp only [opC, Option.map_eq_some_iff] at h
  obtain ⟨k, ⟨k0, h1, h3⟩, h2⟩ := h
  cases h2
  subst h3
  rcases eqW_ok s rx ry h1 with ⟨q1, q2⟩ | ⟨d, e, q1, q2, q3, q4, q5⟩
  · subst q2
    exact .inl ⟨q1, a.now s (.bl _)⟩
  · subst q5
    exact .inr ⟨d, e, q1, q2, q3, q4, a.now s (.bl _)⟩

/-! ### order, in -/
def rLtA : R2 := fun x y H Q => (rI0 fun i j => .bl (decide (i < j))) x y H Q ∨ ∃ i j, x = .str i ∧ y = .str j ∧ Q (.bl (decide (i.cps.toList < j.cps.toList))) H
theorem op_ltA {X : Cx} : OpR X (compareOp .Lt) rLtA := OpR.or op_lt op_lt_str
theorem os_lt {K : Fg} : OpS K (fun x y S => (opC .lt x y S).map fun k => (.bl k, S)) rLtA := by
  intro μ H S x y w S' vx vy Q s rx ry h a
  simp only [opC, Option.map_eq_some_iff] at h
  obtain ⟨k, h1, h2⟩ := h
  cases h2
  split at h1
  · cases rx
    cases ry
    cases h1
    exact .inl ⟨_, _, rfl, rfl, a.now s (.bl _)⟩
  · cases rx with
    | str x _ e =>
      cases ry with
      | str y _ e' =>
        subst e e'
        cases h1
        exact .inr ⟨_, _, rfl, rfl, a.now s (.bl _)⟩
  · cases h1
def rLeA : R2 := fun x y H Q => (rI0 fun i j => .bl (decide (i ≤ j))) x y H Q ∨ ∃ i j, x = .str i ∧ y = .str j ∧ Q (.bl (!decide (j.cps.toList < i.cps.toList))) H
theorem op_leA {X : Cx} : OpR X (compareOp .LtE) rLeA := OpR.or op_le op_le_str
theorem os_le {K : Fg} : OpS K (fun x y S => (opC .le x y S).map fun k => (.bl k, S)) rLeA := by
  intro μ H S x y w S' vx vy Q s rx ry h a
  simp only [opC, Option.map_eq_some_iff] at h
  obtain ⟨k, h1, h2⟩ := h
  cases h2
  split at h1
  · cases rx
    cases ry
    cases h1
    exact .inl ⟨_, _, rfl, rfl, a.now s (.bl _)⟩
  · cases rx with
    | str x _ e =>
      cases ry with
      | str y _ e' =>
        subst e e'
        cases h1
        exact .inr ⟨_, _, rfl, rfl, a.now s (.bl _)⟩
  · cases h1
theorem os_gt {K : Fg} : OpS K (fun x y S => (opC .gt x y S).map fun k => (.bl k, S)) (rI0 fun i j => .bl (decide (j < i))) := by
  intro μ H S x y w S' vx vy Q s rx ry h a
  simp only [opC, Option.map_eq_some_iff] at h
  obtain ⟨k, h1, h2⟩ := h
  cases h2
  split at h1
  · cases rx
    cases ry
    cases h1
    exact ⟨_, _, rfl, rfl, a.now s (.bl _)⟩
  · cases h1
theorem os_ge {K : Fg} : OpS K (fun x y S => (opC .ge x y S).map fun k => (.bl k, S)) (rI0 fun i j => .bl (decide (j ≤ i))) := by
  intro μ H S x y w S' vx vy Q s rx ry h a
  simp only [opC, Option.map_eq_some_iff] at h
  obtain ⟨k, h1, h2⟩ := h
  cases h2
  split at h1
  · cases rx
    cases ry
    cases h1
    exact ⟨_, _, rfl, rfl, a.now s (.bl _)⟩
  · cases h1
def rInT (K : Fg) : R2 := fun x y H Q => ∃ d ds, Dp K H x d ∧ Dp K H y (.tuple ds) ∧ SeqAt.shaped d = true ∧ SeqAt.shaped (.tuple ds) = true ∧ Q (.bl (ds.any fun z => PyData.eqv z d)) H
def rNotInT (K : Fg) : R2 := fun x y H Q => ∃ d ds, Dp K H x d ∧ Dp K H y (.tuple ds) ∧ SeqAt.shaped d = true ∧ SeqAt.shaped (.tuple ds) = true ∧ Q (.bl (!ds.any fun z => PyData.eqv z d)) H
theorem op_inT {X : Cx} (hu : X.A.units + 65 < cLine) : OpR X (compareOp .In) (rInT X.K) := by
  intro ps st σ J a b v u R I ra rb h
  obtain ⟨d, ds, hd, he, sd, se, q⟩ := h
  obtain ⟨l1, r1⟩ := Dp.reads I d a v hd ra
  obtain ⟨l2, r2⟩ := Dp.reads I (.tuple ds) b u he rb
  exact SeqAt.in_tuple_reads r2 r1 (SeqAt.canLay_of_shaped se) (SeqAt.canLay_of_shaped sd) (room_in_shaped sd hu) ⟨.bl _, J, I, rfl, q⟩
theorem op_notInT {X : Cx} (hu : X.A.units + 65 < cLine) : OpR X (compareOp .NotIn) (rNotInT X.K) := by
  intro ps st σ J a b v u R I ra rb h
  obtain ⟨d, ds, hd, he, sd, se, q⟩ := h
  obtain ⟨l1, r1⟩ := Dp.reads I d a v hd ra
  obtain ⟨l2, r2⟩ := Dp.reads I (.tuple ds) b u he rb
  exact SeqAt.notIn_tuple_reads r2 r1 (SeqAt.canLay_of_shaped se) (SeqAt.canLay_of_shaped sd) (room_in_shaped sd hu) ⟨.bl _, J, I, rfl, q⟩
def rInA (K : Fg) : R2 := fun x y H Q => (∃ (c : Nat) (z : Str), x = .str ⟨#[c]⟩ ∧ y = .str z ∧ Q (.bl (decide (c ∈ z.cps.toList))) H) ∨ rInD K x y H Q ∨ rInT K x y H Q
def rNotInA (K : Fg) : R2 := fun x y H Q => (∃ (c : Nat) (z : Str), x = .str ⟨#[c]⟩ ∧ y = .str z ∧ Q (.bl (!decide (c ∈ z.cps.toList))) H) ∨ rNotInD K x y H Q ∨ rNotInT K x y H Q
theorem op_inA {X : Cx} (hu : X.A.units + 65 < cLine) : OpR X (compareOp .In) (rInA X.K) := OpR.or op_in_sign (OpR.or (op_inD hu) (op_inT hu))
theorem op_notInA {X : Cx} (hu : X.A.units + 65 < cLine) : OpR X (compareOp .NotIn) (rNotInA X.K) := OpR.or op_notIn_sign (OpR.or (op_notInD hu) (op_notInT hu))
theorem inW_ok {K : Fg} {μ : List Addr} {H : Hp} {S : Sto} {x y : W} {vx vy : V} {k : Bool} (s : SR K μ H S) (rx : VW K μ H vx x) (ry : VW K μ H vy y) (h : inW S x y = some k) :
    (∃ (c : Nat) (z : Str), vx = .str ⟨#[c]⟩ ∧ vy = .str z ∧ decide (c ∈ z.cps.toList) = k) ∨
      (∃ d ds, Dp K H vx d ∧ Dp K H vy (.list ds) ∧ SeqAt.shaped d = true ∧ SeqAt.shaped (.list ds) = true ∧ (ds.any fun z => PyData.eqv z d) = k) ∨
      ∃ d ds, Dp K H vx d ∧ Dp K H vy (.tuple ds) ∧ SeqAt.shaped d = true ∧ SeqAt.shaped (.tuple ds) = true ∧ (ds.any fun z => PyData.eqv z d) = k := by
  unfold inW at h
  split at h
  · split at h
    · cases h
      cases ry with
      | str z _ e =>
        cases rx with
        | str q _ e2 =>
          refine .inl ⟨_, z, ?_, rfl, by rw [e]⟩
          rw [str_eta e2]
    · cases h
  · rename_i j
    split at h
    · rename_i d ys h1 h2
      split at h
      · rename_i ds h3
        cases h
        cases ry with
        | ref hk hkl =>
          obtain ⟨vs, q, t⟩ := s.rd hk h2
          have h4 : dat S 60 (.ref j) = some (.lst ds) := by
            simp only [dat, h2, h3]
            rfl
          refine .inr (.inl ⟨d.py, D.pys ds, dat_dp s 60 _ _ _ h1 rx, .lst q (dats_dp (fun v w d a b => dat_dp s 59 v w d a b) h3 t), dat_shaped (Nat.le_refl _) h1, dat_shaped (d := .lst ds) (Nat.le_refl _) h4, any_pys d ds⟩)
      · cases h
    · cases h
  · rename_i ys
    split at h
    · rename_i d ds h1 h3
      cases h
      have h4 : dat S 60 (.tup ys) = some (.tup ds) := by
        simp only [dat, h3]
        rfl
      exact .inr (.inr ⟨d.py, D.pys ds, dat_dp s 60 _ _ _ h1 rx, dat_dp s 60 _ _ _ h4 ry, dat_shaped (Nat.le_refl _) h1, dat_shaped (d := .tup ds) (Nat.le_refl _) h4, any_pys d ds⟩)
    · cases h
  · cases h
theorem os_in {K : Fg} : OpS K (fun x y S => (opC .isIn x y S).map fun k => (.bl k, S)) (rInA K) := by
  intro μ H S x y w S' vx vy Q s rx ry h a
  simp only [opC, Option.map_eq_some_iff] at h
  obtain ⟨k, h1, h2⟩ := h
  cases h2
  rcases inW_ok s rx ry h1 with ⟨c, z, q1, q2, q3⟩ | ⟨d, e, q1, q2, q3, q4, q5⟩ | ⟨d, e, q1, q2, q3, q4, q5⟩
  · subst q3
    exact .inl ⟨c, z, q1, q2, a.now s (.bl _)⟩
  · subst q5
    exact .inr (.inl ⟨d, e, q1, q2, q3, q4, a.now s (.bl _)⟩)
  · subst q5
    exact .inr (.inr ⟨d, e, q1, q2, q3, q4, a.now s (.bl _)⟩)
theorem os_notIn {K : Fg} : OpS K (fun x y S => (opC .notIn x y S).map fun k => (.bl k, S)) (rNotInA K) := by
  intro μ H S x y w S' vx vy Q s rx ry h a
  simp only [opC, Option.map_eq_some_iff] at h
  obtain ⟨k, ⟨k0, h1, h3⟩, h2⟩ := h
  cases h2
  subst h3
  rcases inW_ok s rx ry h1 with ⟨c, z, q1, q2, q3⟩ | ⟨d, e, q1, q2, q3, q4, q5⟩ | ⟨d, e, q1, q2, q3, q4, q5⟩
  · subst q3
    exact .inl ⟨c, z, q1, q2, a.now s (.bl _)⟩
  · subst q5
    exact .inr (.inl ⟨d, e, q1, q2, q3, q4, a.now s (.bl _)⟩)
  · subst q5
    exact .inr (.inr ⟨d, e, q1, q2, q3, q4, a.now s (.bl _)⟩)

/-! ### arithmetic, + and * of sequences -/
def rAddA (K : Fg) : R2 := fun x y H Q => (rI0 fun i j => .int (i + j)) x y H Q ∨ (∃ i j, x = .str i ∧ y = .str j ∧ i.length + j.length ≤ sizeLine ∧ Q (.str (i ++ j)) H) ∨ rCatA K x y H Q ∨ rCat x y H Q
theorem op_addA {X : Cx} : OpR X (binaryOp .Add) (rAddA X.K) := OpR.or op_add (OpR.or op_add_str (OpR.or op_catA op_cat))
theorem os_add {K : Fg} : OpS K (opB .add) (rAddA K) := by
  intro μ H S x y w S' vx vy Q s rx ry h a
  cases x <;> cases y <;> simp only [opB] at h <;> try (cases h; done)
  · cases rx
    cases ry
    cases h
    exact .inl ⟨_, _, rfl, rfl, a.now s (.int _)⟩
  · cases rx with
    | str x _ e =>
      cases ry with
      | str y _ e' =>
        split at h
        · rename_i hl
          cases h
          refine .inr (.inl ⟨x, y, rfl, rfl, ?_, a.now s (.str _ _ ?_)⟩)
          · rw [str_len e, str_len e']
            exact lim_ok hl
          · rw [cps_toList_append, e, e']
        · cases h
  · cases rx with
    | tup q t =>
      cases ry with
      | tup q' t' =>
        split at h
        · rename_i hl
          cases h
          refine .inr (.inr (.inl ⟨_, _, _, _, rfl, rfl, q, q', ?_, fun e => ?_, fun _ e => ?_, fun _ _ => ?_⟩))
          · rw [t.length, t'.length]
            exact lim_ok hl
          · subst e
            cases t
            exact a.now s (.tup q' t')
          · subst e
            cases t'
            rw [List.append_nil] at a
            exact a.now s (.tup q t)
          · exact a.tup s (t.append t')
        · cases h
  · split at h
    · rename_i xs ys h1 h2
      cases rx with
      | ref hk hkl =>
        cases ry with
        | ref hj =>
          obtain ⟨_, vs, q1, t1⟩ := s.rm hk h1
          obtain ⟨_, us, q2, t2⟩ := s.rm hj h2
          obtain ⟨b1, b2⟩ := a.new s (t1.append t2) h
          rw [List.length_append] at b1
          exact .inr (.inr (.inr ⟨_, _, _, _, rfl, rfl, q1, q2, b1, b2⟩))
    · cases h
theorem os_sub {K : Fg} : OpS K (opB .sub) (rI0 fun i j => .int (i - j)) := by
  intro μ H S x y w S' vx vy Q s rx ry h a
  cases x <;> cases y <;> simp only [opB] at h <;> try (cases h; done)
  cases rx
  cases ry
  cases h
  exact ⟨_, _, rfl, rfl, a.now s (.int _)⟩
theorem os_fdiv {K : Fg} : OpS K (opB .fdiv) (rI CDiv fun i j => .int (i / j)) := by
  intro μ H S x y w S' vx vy Q s rx ry h a
  cases x <;> cases y <;> simp only [opB] at h <;> try (cases h; done)
  cases rx
  cases ry
  split at h
  · rename_i hc
    cases h
    exact ⟨_, _, rfl, rfl, hc, a.now s (.int _)⟩
  · cases h
theorem os_mod {K : Fg} : OpS K (opB .mod) (rI (fun _ j => 0 < j) fun i j => .int (i % j)) := by
  intro μ H S x y w S' vx vy Q s rx ry h a
  cases x <;> cases y <;> simp only [opB] at h <;> try (cases h; done)
  cases rx
  cases ry
  split at h
  · rename_i hc
    cases h
    exact ⟨_, _, rfl, rfl, hc, a.now s (.int _)⟩
  · cases h
theorem os_pow {K : Fg} : OpS K (opB .pow) (rI CPow fun i j => .int (i ^ j.toNat)) := by
  intro μ H S x y w S' vx vy Q s rx ry h a
  cases x <;> cases y <;> simp only [opB] at h <;> try (cases h; done)
  cases rx
  cases ry
  split at h
  · rename_i hc
    cases h
    exact ⟨_, _, rfl, rfl, hc, a.now s (.int _)⟩
  · cases h
/-- text * int -/
theorem op_mul_str {X : Cx} : OpR X (binaryOp .Mult) (fun x y H Q => ∃ (i : Str) (j : Int), x = .str i ∧ y = .int j ∧ (j ≤ 1000000 ∧ -1000000 ≤ j ∧ i.length * j.toNat ≤ sizeLine) ∧ ∀ z : Str, z.cps.toList = (List.replicate j.toNat i.cps.toList).flatten → Q (.str z) H) := by
  intro pins s σ H x y v u Q I rx ry h
  obtain ⟨i, j, rfl, rfl, ⟨h1, h2, h3⟩, q⟩ := h
  obtain ⟨t, rfl⟩ := rx
  obtain ⟨t', rfl⟩ := ry
  have big : ∀ (l : List Nat) (n : Nat) (acc : Array Nat) (b : Array Nat), b.toList = l → ((List.replicate n b).foldl (· ++ ·) acc).toList = acc.toList ++ (List.replicate n l).flatten := by
    intro l n
    induction n with
    | zero => intro acc b e; simp
    | succ n ih =>
      intro acc b e
      rw [List.replicate_succ, List.replicate_succ, List.foldl_cons, List.flatten_cons, ih (acc ++ b) b e, Array.toList_append, e, List.append_assoc]
  refine SB.mul (n := j) ⟨?_, fun _ _ => ?_, fun _ _ => ?_⟩ fun t' k => ⟨.str (Txt.mul i j), H, I.tok _, ⟨_, rfl⟩, q _ ?_⟩
  · have e1 : ¬ j < -(2 ^ 63 : Int) := by omega
    have e2 : ¬ j ≥ 2 ^ 63 := by omega
    simp [e1, e2]
    omega
  · rename_i c1 c2
    intro c3
    have e1 : (2 ^ 63 - 1 : Int) / 1000000 ≤ (2 ^ 63 - 1) / j := by
      apply Int.le_ediv_of_mul_le (by omega)
      have : (2 ^ 63 - 1 : Int) / 1000000 = 9223372036854 := by decide
      rw [this]
      omega
    have e2 : i.length * 1 ≤ i.length * j.toNat := Nat.mul_le_mul_left _ (by omega)
    have e3 : (2 ^ 63 - 1 : Int) / 1000000 = 9223372036854 := by decide
    rw [e3] at e1
    have e4 := sizeLine_eq
    omega
  · unfold Builtin.Str.tooLong
    simpa using h3
  · unfold Txt.mul
    split
    · rename_i c
      have : j.toNat = 0 := by omega
      rw [this]
      rfl
    · split
      · rename_i c1 c2
        simp only [Bool.or_eq_true, beq_iff_eq] at c2
        rcases c2 with c2 | c2
        · subst c2
          simp
        · have e : i.cps.toList = [] := by
            have : i.cps.size = 0 := c2
            simpa using this
          rw [e]
          simp
      · rw [big i.cps.toList j.toNat #[] i.cps rfl]
        simp
def rMulA (K : Fg) : R2 := fun x y H Q => (rI CMul fun i j => .int (i * j)) x y H Q ∨ (∃ (i : Str) (j : Int), x = .str i ∧ y = .int j ∧ (j ≤ 1000000 ∧ -1000000 ≤ j ∧ i.length * j.toNat ≤ sizeLine) ∧ ∀ z : Str, z.cps.toList = (List.replicate j.toNat i.cps.toList).flatten → Q (.str z) H) ∨ rRep x y H Q
theorem op_mulA {X : Cx} : OpR X (binaryOp .Mult) (rMulA X.K) := OpR.or op_mul (OpR.or op_mul_str op_rep)
theorem os_mul {K : Fg} : OpS K (opB .mul) (rMulA K) := by
  intro μ H S x y w S' vx vy Q s rx ry h a
  cases x <;> cases y <;> simp only [opB] at h <;> try (cases h; done)
  · cases rx
    cases ry
    split at h
    · rename_i hc
      cases h
      exact .inl ⟨_, _, rfl, rfl, hc, a.now s (.int _)⟩
    · cases h
  · cases rx with
    | str x _ e =>
      cases ry
      split at h
      · rename_i hc
        cases h
        subst e
        refine .inr (.inl ⟨_, _, rfl, rfl, ⟨hc.1, hc.2.1, ?_⟩, fun z hz => a.now s (.str _ _ hz)⟩)
        rw [str_len rfl]
        exact lim_ok hc.2.2
      · cases h
  · cases rx with
    | ref hk hkl =>
      cases ry
      split at h
      · rename_i xs h1
        split at h
        · rename_i hc
          obtain ⟨_, vs, q1, t1⟩ := s.rm hk h1
          obtain ⟨b1, b2⟩ := a.new s (t1.rep _) h
          refine .inr (.inr ⟨_, _, _, rfl, rfl, q1, by omega, by omega, ?_, b2⟩)
          rw [t1.length]
          exact lim_ok hc.2.2
        · cases h
      · cases h
end MP
namespace MP
open PySem PySem.Spec PyProof.Rows L2
theorem atI_eq {α : Type} (xs : List α) (i : Int) : L2.atI xs i = MP.atI xs i := rfl
theorem sIx_eq (n d : Nat) (o : Option Int) : HT.sIx n d o = MP.sIx n d o := by
  cases o with
  | none => rfl
  | some v => rfl
theorem VWs.cutt {K : Fg} {μ : List Addr} {H : Hp} {vs : List V} {ws : List W} (h : VWs K μ H vs ws) (lo hi : Option Int) : VWs K μ H (cutV vs lo hi) (cut ws lo hi) := by
  unfold cutV MP.cut
  rw [sIx_eq, sIx_eq, h.length]
  exact (h.drop _).take _
/-! ### subscripts, slices -/
theorem os_ix {K : Fg} : OpS K opIx (rIx K) := by
  intro μ H S x y w S' vx vy Q s rx ry h a
  unfold opIx at h
  split at h
  · rename_i z i
    cases rx with
    | str x _ e =>
      cases ry
      split at h
      · rename_i hl
        simp only [Option.map_eq_some_iff] at h
        obtain ⟨c, h1, h2⟩ := h
        cases h2
        refine .inr (.inr ⟨x, i, c, rfl, rfl, ?_, ?_, a.now s (.str _ _ rfl)⟩)
        · rw [str_len e]
          exact lim_ok hl
        · rw [e]
          exact h1
      · cases h
  · rename_i z i
    cases rx with
    | tup q t =>
      cases ry
      simp only [Option.map_eq_some_iff] at h
      obtain ⟨c, h1, h2⟩ := h
      cases h2
      unfold MP.atI at h1
      rw [Option.bind_eq_some_iff] at h1
      obtain ⟨j, h3, h4⟩ := h1
      obtain ⟨v, h5, h6⟩ := t.get h4
      refine .inr (.inl ⟨_, _, i, v, rfl, rfl, q, ?_, a.now s h6⟩)
      rw [atI_eq]
      unfold MP.atI
      rw [t.length, h3]
      exact h5
  · rename_i k i
    split at h
    · rename_i z hz
      cases rx with
      | ref hk hkl =>
        cases ry
        simp only [Option.map_eq_some_iff] at h
        obtain ⟨c, h1, h2⟩ := h
        cases h2
        obtain ⟨vs, q, t⟩ := s.rd hk hz
        unfold MP.atI at h1
        rw [Option.bind_eq_some_iff] at h1
        obtain ⟨j, h3, h4⟩ := h1
        obtain ⟨v, h5, h6⟩ := t.get h4
        refine .inl ⟨_, _, i, v, rfl, rfl, q, ?_, a.now s h6⟩
        rw [atI_eq]
        unfold MP.atI
        rw [t.length, h3]
        exact h5
    · cases h
  · cases h
def rSlAll (K : Fg) : V → Option Int → Option Int → Hp → VK → Prop := fun x lo hi H Q => rSlS x lo hi H Q ∨ rSlA K x lo hi H Q ∨ rSlL K x lo hi H Q
theorem sl_all {X : Cx} : SlR X (rSlAll X.K) := SlR.or sl_str (SlR.or sl_tupA sl_list)
theorem cut_all {α : Type} {xs : List α} {lo hi : Option Int} (h1 : MP.sIx xs.length 0 lo = 0) (h2 : MP.sIx xs.length xs.length hi = xs.length) : cut xs lo hi = xs := by
  unfold cut
  rw [h1, h2, List.drop_zero, Nat.sub_zero, List.take_length]
theorem ss_all {K : Fg} {μ : List Addr} {H : Hp} {S S' : Sto} {x w : W} {vx : V} {lo hi : Option Int} {Q : VK} (s : SR K μ H S) (rx : VW K μ H vx x) (e : opSl x lo hi S = some (w, S')) (a : Aft K μ H S' w Q) : rSlAll K vx lo hi H Q := by
  unfold opSl at e
  split at e
  · split at e
    · rename_i z hz
      cases e
      cases rx with
      | str x _ q =>
        refine .inl ⟨x, rfl, ?_, a.now s (.str _ _ ?_)⟩
        · rw [str_len q]
          exact lim_ok hz
        · unfold cutS MP.cut
          rw [sIx_eq, sIx_eq, str_len q, q]
    · cases e
  · rename_i z
    cases e
    cases rx with
    | tup q t =>
      refine .inr (.inl ⟨_, _, rfl, q, fun c => ?_, fun _ => a.tup s (t.cutt lo hi)⟩)
      rw [sIx_eq, sIx_eq, t.length] at c
      rw [cut_all c.1 c.2] at a
      exact a.now s (.tup q t)
  · split at e
    · rename_i k z hz
      cases rx with
      | ref hk hkl =>
        obtain ⟨vs, q, t⟩ := s.rd hk hz
        exact .inr (.inr ⟨_, _, rfl, q, (a.new s (t.cutt lo hi) e).2⟩)
    · cases e
  · cases rx with
    | rol q t => exact .inr (.inr ⟨_, _, rfl, q.sq, (a.new s (t.cutt lo hi) e).2⟩)
  · cases e
/-! ### calls of built-ins -/
def ClS (K : Fg) (f : List W → Sto → R) (r : List V → Hp → VK → Prop) : Prop := ∀ μ H S ws vs w S' Q, SR K μ H S → VWs K μ H vs ws → f ws S = some (w, S') → Aft K μ H S' w Q → r vs H Q
section
variable {K : Fg}
theorem VWs.one {μ : List Addr} {H : Hp} {vs : List V} {w : W} (h : VWs K μ H vs [w]) : ∃ v, vs = [v] ∧ VW K μ H v w := by
  cases h with
  | cons r t => cases t; exact ⟨_, rfl, r⟩
theorem VWs.two {μ : List Addr} {H : Hp} {vs : List V} {w u : W} (h : VWs K μ H vs [w, u]) : ∃ v v', vs = [v, v'] ∧ VW K μ H v w ∧ VW K μ H v' u := by
  cases h with
  | cons r t => cases t with | cons r' t' => cases t'; exact ⟨_, _, rfl, r, r'⟩
theorem cs_len : ClS K (opI .len) (fun xs H Q => ∃ x n, xs = [x] ∧ LenV K x H n ∧ Q (.int n) H) := by
  intro μ H S ws vs w S' Q s hv h a
  unfold opI at h
  split at h <;> try (cases h; done)
  all_goals rename_i hb; cases hb
  all_goals obtain ⟨v, rfl, r⟩ := hv.one
  · split at h
    · rename_i hl
      cases h
      cases r with
      | str x _ e =>
        refine ⟨_, _, rfl, ⟨?_, rfl⟩, ?_⟩
        · rw [str_len e]; exact lim_ok hl
        · rw [str_len e]; exact a.now s (.int _)
    · cases h
  · cases h
    cases r with
    | tup q t =>
      refine ⟨_, _, rfl, .inr ⟨_, q, rfl⟩, ?_⟩
      rw [t.length]; exact a.now s (.int _)
  · cases h
    cases r with
    | rol q t =>
      refine ⟨_, _, rfl, .inl ⟨_, q.sq, rfl⟩, ?_⟩
      rw [t.length]; exact a.now s (.int _)
  · simp only [Option.map_eq_some_iff] at h
    obtain ⟨z, h1, h2⟩ := h
    cases h2
    cases r with
    | ref hk hkl =>
      obtain ⟨vs, q, t⟩ := s.rd hk h1
      refine ⟨_, _, rfl, .inl ⟨_, q, rfl⟩, ?_⟩
      rw [t.length]; exact a.now s (.int _)
theorem cs_abs : ClS K (opI .abs) (fun xs H Q => ∃ i, xs = [.int i] ∧ Q (.int (if i < 0 then -i else i)) H) := by
  intro μ H S ws vs w S' Q s hv h a
  unfold opI at h
  split at h <;> try (cases h; done)
  all_goals rename_i hb; cases hb
  all_goals obtain ⟨v, rfl, r⟩ := hv.one
  cases h
  cases r
  exact ⟨_, rfl, a.now s (.int _)⟩
theorem cs_tuple : ClS K (opI .tuple) (fun xs H Q => ∃ p ys, xs = [.ref p] ∧ ((SqL K H p ys ∧ ∀ l, H l = none → Q (.ref l) (upd H l (.tup ys))) ∨ (SqT K H p ys ∧ Q (.ref p) H))) := by
  intro μ H S ws vs w S' Q s hv h a
  unfold opI at h
  split at h <;> try (cases h; done)
  all_goals rename_i hb; cases hb
  all_goals obtain ⟨v, rfl, r⟩ := hv.one
  · simp only [Option.map_eq_some_iff] at h
    obtain ⟨z, h1, h2⟩ := h
    cases h2
    cases r with
    | ref hk hkl =>
      obtain ⟨vs, q, t⟩ := s.rd hk h1
      exact ⟨_, _, rfl, .inl ⟨q, a.tup s t⟩⟩
  · cases h
    cases r with
    | tup q t => exact ⟨_, _, rfl, .inr ⟨q, a.now s (.tup q t)⟩⟩
theorem cs_list : ClS K (opI .list) (fun xs H Q => ∃ p ys, xs = [.ref p] ∧ (SqL K H p ys ∨ SqT K H p ys) ∧ ∀ l, H l = none → Q (.ref l) (upd H l (.lst ys))) := by
  intro μ H S ws vs w S' Q s hv h a
  unfold opI at h
  split at h <;> try (cases h; done)
  all_goals rename_i hb; cases hb
  all_goals obtain ⟨v, rfl, r⟩ := hv.one
  · split at h
    · rename_i z h1
      cases r with
      | ref hk hkl =>
        obtain ⟨vs, q, t⟩ := s.rd hk h1
        exact ⟨_, _, rfl, .inl q, (a.new s t h).2⟩
    · cases h
  · cases r with
    | tup q t => exact ⟨_, _, rfl, .inr q, (a.new s t h).2⟩
theorem bls_ok {μ : List Addr} {H : Hp} : ∀ {vs : List V} {ws : List W} {bs : List Bool}, bls ws = some bs → VWs K μ H vs ws → vs = bs.map V.bl
  | _, [], _, h, hv => by cases hv; cases h; rfl
  | _, w :: ws, bs, h, hv => by
    cases hv with
    | cons r t =>
      cases w <;> simp only [bls] at h <;> try (cases h; done)
      rw [Option.map_eq_some_iff] at h
      obtain ⟨bs', h1, h2⟩ := h
      subst h2
      cases r
      rw [bls_ok h1 t]
      rfl
theorem cs_all : ClS K (opI .all) (rAll K) := by
  intro μ H S ws vs w S' Q s hv h a
  unfold opI at h
  split at h <;> try (cases h; done)
  all_goals rename_i hb; cases hb
  all_goals obtain ⟨v, rfl, r⟩ := hv.one
  split at h
  · rename_i z hz
    rw [Option.map_eq_some_iff] at h
    obtain ⟨bs, h1, h2⟩ := h
    cases h2
    cases r with
    | ref hk hkl =>
      obtain ⟨vs, q, t⟩ := s.rd hk hz
      rw [bls_ok h1 t] at q
      exact ⟨_, bs, rfl, q, a.now s (.bl _)⟩
  · cases h
theorem cs_any : ClS K (opI .any) (rAny K) := by
  intro μ H S ws vs w S' Q s hv h a
  unfold opI at h
  split at h <;> try (cases h; done)
  all_goals rename_i hb; cases hb
  all_goals obtain ⟨v, rfl, r⟩ := hv.one
  split at h
  · rename_i z hz
    rw [Option.map_eq_some_iff] at h
    obtain ⟨bs, h1, h2⟩ := h
    cases h2
    cases r with
    | ref hk hkl =>
      obtain ⟨vs, q, t⟩ := s.rd hk hz
      rw [bls_ok h1 t] at q
      exact ⟨_, bs, rfl, q, a.now s (.bl _)⟩
  · cases h
theorem cs_int : ClS K (opI .int) (fun xs H Q => (∃ i, xs = [.int i] ∧ Q (.int i) H) ∨ ∃ k, xs = [.bl k] ∧ Q (.int (if k then 1 else 0)) H) := by
  intro μ H S ws vs w S' Q s hv h a
  unfold opI at h
  split at h <;> try (cases h; done)
  all_goals rename_i hb; cases hb
  all_goals obtain ⟨v, rfl, r⟩ := hv.one
  · cases h
    cases r
    exact .inl ⟨_, rfl, a.now s (.int _)⟩
  · cases h
    cases r
    exact .inr ⟨_, rfl, a.now s (.int _)⟩
end
/-! ### isinstance -/
def tyN : Nat → String
  | 0 => "str" | 1 => "int" | 2 => "bool" | 3 => "tuple" | _ => "list"
def wTy : W → String
  | .non => "NoneType" | .bl _ => "bool" | .int _ => "int" | .str _ => "str" | .tup _ => "tuple" | .ref _ => "list" | .rol _ => "list" | .fn _ => "function" | .dic _ => "dict" | .dref _ => "dict"
theorem tyX_ok {K : Fg} {μ : List Addr} {H : Hp} {S : Sto} {v : V} {w : W} (s : SR K μ H S) (r : VW K μ H v w) (hf : isFn w = false) : TyX K H v (.type (wTy w)) := by
  cases r with
  | fn x l e q => cases hf
  | dic q t => exact .fDict q
  | non => exact .base .non
  | bl b => exact .base (.bl b)
  | int i => exact .base (.int i)
  | str x l e => exact .base (.str x)
  | tup q t =>
    rcases q with (q | ⟨o, q⟩) | ⟨o, its, n, h1, h2, _⟩
    · exact .base (.tup q)
    · exact .fTuple q
    · exact .kTuple h1 h2
  | ref hk hkl => obtain ⟨vs, e⟩ := hkl; exact .base (.lst e)
  | dref hk hkl => cases hf
  | rol q t =>
    rcases q with ⟨o, q⟩ | ⟨o, its, n, h1, h2, _⟩
    · exact .base (.frz q)
    · exact .kList h1 h2
theorem kit_all (w : W) (t : Nat) (ht : t < 5) : kitB (wTy w) (tyN t) = some (isT t w) := by
  have : t = 0 ∨ t = 1 ∨ t = 2 ∨ t = 3 ∨ t = 4 := by omega
  rcases this with h | h | h | h | h <;> subst h <;> cases w <;> (simp only [wTy, tyN, isT]; decide +kernel)
theorem isi_ok {K : Fg} {μ : List Addr} {H : Hp} {S : Sto} {v : V} {w : W} {t : Nat} {Q : VK} (ht : t < 5) (s : SR K μ H S) (r : VW K μ H v w) (hf : isFn w = false) (a : Aft K μ H S (.bl (isT t w)) Q) : rIsi K [v, .ty (tyN t)] H Q :=
  ⟨_, _, _, _, _, rfl, .ty _, tyX_ok s r hf, kit_ty (kit_all w t ht), a.now s (.bl _)⟩
/-! ### join -/
theorem txts_ok {K : Fg} {μ : List Addr} {H : Hp} : ∀ {vs : List V} {ws : List W} {ls : List (List Nat)}, txts ws = some ls → VWs K μ H vs ws → ∃ ys : List Str, vs = ys.map V.str ∧ ys.map (fun y => y.cps.toList) = ls
  | _, [], _, h, hv => by cases hv; cases h; exact ⟨[], rfl, rfl⟩
  | _, w :: ws, bs, h, hv => by
    cases hv with
    | cons r t =>
      cases w <;> simp only [txts] at h <;> try (cases h; done)
      rw [Option.map_eq_some_iff] at h
      obtain ⟨bs', h1, h2⟩ := h
      subst h2
      cases r with
      | str x _ e =>
        obtain ⟨ys, h3, h4⟩ := txts_ok h1 t
        exact ⟨x :: ys, by rw [h3]; rfl, by rw [List.map_cons, h4, e]⟩
theorem join_toList (sep : Str) : ∀ ys : List Str, (Txt.join sep ys).cps.toList = joinL sep.cps.toList (ys.map fun y => y.cps.toList) := by
  intro ys
  show (Builtin.Str.glued sep ys).cps.toList = _
  rw [StrLaws.glued_eq_join]
  induction ys with
  | nil => rfl
  | cons x r ih =>
    cases r with
    | nil => rfl
    | cons y r =>
      show (x ++ sep ++ Str.join sep (y :: r)).cps.toList = x.cps.toList ++ sep.cps.toList ++ joinL sep.cps.toList ((y :: r).map fun y => y.cps.toList)
      rw [cps_toList_append, cps_toList_append, ih]
theorem lens_eq : ∀ ys : List Str, (ys.map (·.length)).sum = lens (ys.map fun y => y.cps.toList)
  | [] => rfl
  | y :: r => by
    rw [List.map_cons, List.map_cons, List.sum_cons, lens_eq r, str_len rfl]
    rfl
def rJoin (K : Fg) : V → List V → Hp → VK → Prop := fun x xs H Q => ∃ a p, ∃ ys : List Str, x = .str a ∧ xs = [.ref p] ∧ (SqL K H p (ys.map V.str) ∨ SqT K H p (ys.map V.str)) ∧
    (ys.map (·.length)).sum + ys.length * a.length ≤ 16777216 ∧ Q (.str (Txt.join a ys)) H
theorem join_ok {K : Fg} {μ : List Addr} {H : Hp} {S S' : Sto} {v u : V} {x y w : W} {Q : VK} (s : SR K μ H S) (rx : VW K μ H v x) (ry : VW K μ H u y) (h : opI .join [x, y] S = some (w, S')) (a : Aft K μ H S' w Q) : (∃ z, v = .str z) ∧ rJoin K v [u] H Q := by
  cases x <;> cases y <;> simp only [opI] at h <;> try (cases h; done)
  cases rx with
  | str x _ e =>
    cases ry with
    | ref hk hkl =>
      split at h
      · rename_i z hz
        split at h
        · rename_i ls hls
          split at h
          · rename_i hl
            cases h
            obtain ⟨vs, q, t⟩ := s.rd hk hz
            obtain ⟨ys, h3, h4⟩ := txts_ok hls t
            subst h3
            refine ⟨⟨x, rfl⟩, x, _, ys, rfl, rfl, .inl q, ?_, ?_⟩
            · rw [lens_eq, h4, str_len e]
              have : ys.length = ls.length := by rw [← h4, List.length_map]
              rw [this]
              exact Nat.le_trans hl (by decide)
            · refine a.now s (.str _ _ ?_)
              rw [join_toList, h4, e]
          · cases h
        · cases h
      · cases h
/-! ### truth -/
theorem tru_w {K : Fg} {μ : List Addr} {H : Hp} {S S' : Sto} {v : V} {x w : W} {Q : Bool → Hp → Prop} (s : SR K μ H S) (rx : VW K μ H v x) (h : opI .tru [x] S = some (w, S')) (a : ∀ k, w = .bl k → S' = S → Q k H) : ∃ k, TruV K v H k ∧ Q k H := by
  cases x <;> simp only [opI] at h <;> try (cases h; done)
  · cases rx; cases h; exact ⟨_, rfl, a _ rfl rfl⟩
  · cases rx; cases h; exact ⟨_, rfl, a _ rfl rfl⟩
  · cases rx; cases h; exact ⟨_, rfl, a _ rfl rfl⟩
  · cases rx with
    | str x _ e =>
      split at h
      · rename_i hl
        cases h
        refine ⟨_, ⟨by rw [str_len e]; exact lim_ok hl, ?_⟩, a _ rfl rfl⟩
        rw [str_len e]
        rename_i l
        cases l with
        | nil => rfl
        | cons c r =>
          simp
          omega
      · cases h
  · cases rx with
    | tup q t =>
      cases h
      refine ⟨_, .inr (.inl ⟨_, q, ?_⟩), a _ rfl rfl⟩
      cases t <;> rfl
  · rw [Option.map_eq_some_iff] at h
    obtain ⟨z, h1, h2⟩ := h
    cases h2
    cases rx with
    | ref hk hkl =>
      obtain ⟨vs, q, t⟩ := s.rd hk h1
      refine ⟨_, .inl ⟨_, q, ?_⟩, a _ rfl rfl⟩
      cases t <;> rfl
end MP
namespace MP
open PySem PySem.Spec PyProof.Rows L2
/-! ### readings -/
def tD (K : Fg) (Φ : Fns) (c : CE) : TE := fun σ H Q => ∃ μ env S w S', SR K μ H S ∧ ER K μ H σ env ∧ ev Φ c env S = some (w, S') ∧ Aft K μ H S' w Q
def AftA (K : Fg) (μ : List Addr) (H : Hp) (S' : Sto) (ws : List W) (Q : List V → Hp → Prop) : Prop := ∀ vs μ' H', Ex K μ H μ' H' → SR K μ' H' S' → VWs K μ' H' vs ws → Q vs H'
def tDA (K : Fg) (Φ : Fns) (c : CEs) : TA := fun σ H Q => ∃ μ env S ws S', SR K μ H S ∧ ER K μ H σ env ∧ evs Φ c env S = some (ws, S') ∧ AftA K μ H S' ws Q
def tDT (K : Fg) (Φ : Fns) (c : CE) : TT := fun σ H Q => ∃ μ env S k S', SR K μ H S ∧ ER K μ H σ env ∧ ev Φ c env S = some (.bl k, S') ∧ ∀ μ' H', Ex K μ H μ' H' → SR K μ' H' S' → Q k H'
abbrev DE (X : Cx) (Φ : Fns) (e : Expr) (c : CE) : Prop := PE X e (tD X.K Φ c)
abbrev DA (X : Cx) (Φ : Fns) (e : List Expr) (c : CEs) : Prop := PA X e (tDA X.K Φ c)
abbrev DT (X : Cx) (Φ : Fns) (e : Expr) (c : CE) : Prop := PT X e (tDT X.K Φ c)
abbrev DW (X : Cx) (Φ : Fns) (e : Expr) (c : CE) : Prop := PW X e (tDT X.K Φ c)
section
variable {X : Cx}
theorem peW {e : Expr} {t t' : TE} (h : PE X e t) (i : ∀ σ H Q, t' σ H Q → t σ H Q) : PE X e t' := ⟨fun pins s σ H Q I q => h.run pins s σ H Q I (i σ H Q q)⟩
theorem paW {e : List Expr} {t t' : TA} (h : PA X e t) (i : ∀ σ H Q, t' σ H Q → t σ H Q) : PA X e t' := ⟨fun pos pins s σ H Q I q => h.run pos pins s σ H Q I (i σ H Q q)⟩
theorem ptW {e : Expr} {t t' : TT} (h : PT X e t) (i : ∀ σ H Q, t' σ H Q → t σ H Q) : PT X e t' := ⟨fun pins s σ H Q I q => h.run pins s σ H Q I (i σ H Q q)⟩
theorem pwW {e : Expr} {t t' : TT} (h : PW X e t) (i : ∀ σ H Q, t' σ H Q → t σ H Q) : PW X e t' := ⟨fun wh pins s σ H Q I q => h.run wh pins s σ H Q I (i σ H Q q)⟩
variable {Φ : Fns} {a b d e : Expr} {es : List Expr} {ca cb cd ce : CE} {cs : CEs} {pos : Pos}
/-! ### names, constants -/
theorem tVar_of {i : Nat} {σ : L2.St} {H : Hp} {Q : VK} (h : tD X.K Φ (.var i) σ H Q) : tVar i σ H Q := by
  obtain ⟨μ, env, S, w, S', s, er, h1, h2⟩ := h
  simp only [ev] at h1
  split at h1
  · rename_i w' hw
    cases h1
    obtain ⟨v, q1, q2⟩ := er.2 i w hw
    exact ⟨v, q1, h2.now s q2⟩
  · cases h1
theorem de_var (i : Nat) {x : Str} (hN : X.N[i]? = some x := by rfl) (hv : Vis X.env.scope x := by first | exact Or.inl rfl | exact Or.inr (Or.inl rfl) | exact Or.inr (Or.inr rfl)) (hd : (x == ("__debug__" : Str)) = false := by decide) (hcd : (x == ("__classdict__" : Str)) = false := by decide) : DE X Φ (.Name x pos) (.var i) :=
  peW (pe_var hN hv hd hcd) fun _ _ _ h => tVar_of h
theorem tC_of {v : V} {w : W} (r : ∀ μ H, VW X.K μ H v w) {σ : L2.St} {H : Hp} {Q : VK} (h : tD X.K Φ (.c w) σ H Q) : tC v σ H Q := by
  obtain ⟨μ, env, S, w', S', s, er, h1, h2⟩ := h
  simp only [ev] at h1
  cases h1
  exact h2.now s (r _ _)
theorem de_int {i j} : DE X Φ (.Constant (.int i) j pos) (.c (.int i)) := peW pe_int fun _ _ _ h => tC_of (fun _ _ => .int i) h
theorem de_bl {i j} : DE X Φ (.Constant (.bool i) j pos) (.c (.bl i)) := peW pe_bl fun _ _ _ h => tC_of (fun _ _ => .bl i) h
theorem de_non {j} : DE X Φ (.Constant .none j pos) (.c .non) := peW pe_non fun _ _ _ h => tC_of (fun _ _ => .non) h
theorem de_str {x : Str} {l : List Nat} {j} (e : x.cps.toList = l := by decide +kernel) : DE X Φ (.Constant (.str x) j pos) (.c (.str l)) := peW pe_str fun _ _ _ h => tC_of (fun _ _ => .str x l e) h
theorem de_glob {x : Str} {v : V} {w : W} {u : Value} (hm : X.mg x = some u) (r : RelV v u) (q : ∀ μ H, VW X.K μ H v w) (hg : Gl X x := by rfl) (hd : (x == ("__debug__" : Str)) = false := by decide) : DE X Φ (.Name x pos) (.c w) :=
  peW (pe_glob hg hm r hd) fun _ _ _ h => tC_of q h
/-! ### operators -/
theorem tOp_of {r : R2} {f : W → W → Sto → R} {c : CE} (hs : OpS X.K f r) (he : ∀ env S w S', ev Φ c env S = some (w, S') → ∃ x S1 y S2, ev Φ ca env S = some (x, S1) ∧ ev Φ cb env S1 = some (y, S2) ∧ f x y S2 = some (w, S')) {σ : L2.St} {H : Hp} {Q : VK} (h : tD X.K Φ c σ H Q) :
    tOp r (tD X.K Φ ca) (tD X.K Φ cb) σ H Q := by
  obtain ⟨μ, env, S, w, S', s, er, h1, h2⟩ := h
  obtain ⟨x, S1, y, S2, e1, e2, e3⟩ := he _ _ _ _ h1
  refine ⟨μ, env, S, x, S1, s, er, e1, fun vx μ1 H1 x1 s1 r1 => ⟨μ1, env, S1, y, S2, s1, er.mono x1, e2, fun vy μ2 H2 x2 s2 r2 => ?_⟩⟩
  exact hs μ2 H2 S2 x y w S' vx vy Q s2 (r1.mono x2) r2 e3 (h2.mono (x1.trans x2))
theorem ev_bin {o : BO} {env : Env} {S S' : Sto} {w : W} (h : ev Φ (.bin o ca cb) env S = some (w, S')) : ∃ x S1 y S2, ev Φ ca env S = some (x, S1) ∧ ev Φ cb env S1 = some (y, S2) ∧ opB o x y S2 = some (w, S') := by
  simp only [ev] at h
  split at h
  · rename_i x S1 h1
    split at h
    · rename_i y S2 h2
      exact ⟨x, S1, y, S2, h1, h2, h⟩
    · cases h
  · cases h
theorem ev_cmp {o : CO} {env : Env} {S S' : Sto} {w : W} (h : ev Φ (.cmp o ca cb) env S = some (w, S')) : ∃ x S1 y S2, ev Φ ca env S = some (x, S1) ∧ ev Φ cb env S1 = some (y, S2) ∧ (fun x y S => (opC o x y S).map fun k => ((.bl k : W), S)) x y S2 = some (w, S') := by
  simp only [ev] at h
  split at h
  · rename_i x S1 h1
    split at h
    · rename_i y S2 h2
      exact ⟨x, S1, y, S2, h1, h2, h⟩
    · cases h
  · cases h
theorem ev_ix {env : Env} {S S' : Sto} {w : W} (h : ev Φ (.ix ca cb) env S = some (w, S')) : ∃ x S1 y S2, ev Φ ca env S = some (x, S1) ∧ ev Φ cb env S1 = some (y, S2) ∧ opIx x y S2 = some (w, S') := by
  simp only [ev] at h
  split at h
  · rename_i x S1 h1
    split at h
    · rename_i y S2 h2
      exact ⟨x, S1, y, S2, h1, h2, h⟩
    · cases h
  · cases h
theorem de_bin {op : Operator} {o : BO} {r : R2} (ho : OpR X (binaryOp op) r) (hs : OpS X.K (opB o) r) (ha : DE X Φ a ca) (hb : DE X Φ b cb) : DE X Φ (.BinOp a op b pos) (.bin o ca cb) :=
  peW (pe_op ho ha hb) fun _ _ _ h => tOp_of hs (fun _ _ _ _ q => ev_bin q) h
theorem de_add (ha : DE X Φ a ca) (hb : DE X Φ b cb) : DE X Φ (.BinOp a .Add b pos) (.bin .add ca cb) := de_bin op_addA os_add ha hb
theorem de_sub (ha : DE X Φ a ca) (hb : DE X Φ b cb) : DE X Φ (.BinOp a .Sub b pos) (.bin .sub ca cb) := de_bin op_sub os_sub ha hb
theorem de_mul (ha : DE X Φ a ca) (hb : DE X Φ b cb) : DE X Φ (.BinOp a .Mult b pos) (.bin .mul ca cb) := de_bin op_mulA os_mul ha hb
theorem de_fdiv (ha : DE X Φ a ca) (hb : DE X Φ b cb) : DE X Φ (.BinOp a .FloorDiv b pos) (.bin .fdiv ca cb) := de_bin op_fdiv os_fdiv ha hb
theorem de_mod (ha : DE X Φ a ca) (hb : DE X Φ b cb) : DE X Φ (.BinOp a .Mod b pos) (.bin .mod ca cb) := de_bin op_mod os_mod ha hb
theorem de_pow (ha : DE X Φ a ca) (hb : DE X Φ b cb) : DE X Φ (.BinOp a .Pow b pos) (.bin .pow ca cb) := de_bin op_pow os_pow ha hb
/-- a comparison's operator: its rule and its soundness -/
structure CmpOk (X : Cx) (op : CmpOp) (o : CO) : Prop where
  ex : ∃ r, OpR X (compareOp op) r ∧ OpS X.K (fun x y S => (opC o x y S).map fun k => ((.bl k : W), S)) r
theorem ck_eq {k : Nat} (hr : Room k X.A) : CmpOk X .Eq .eq := ⟨_, op_eqA hr.units, os_eq⟩
theorem ck_ne {k : Nat} (hr : Room k X.A) : CmpOk X .NotEq .ne := ⟨_, op_neA hr.units, os_ne⟩
theorem u65 {k : Nat} {A : Around} (hr : Room k A) : A.units + 65 < cLine := by have := hr.un; omega
theorem ck_in {k : Nat} (hr : Room k X.A) : CmpOk X .In .isIn := ⟨_, op_inA (u65 hr), os_in⟩
theorem ck_notIn {k : Nat} (hr : Room k X.A) : CmpOk X .NotIn .notIn := ⟨_, op_notInA (u65 hr), os_notIn⟩
theorem ck_lt : CmpOk X .Lt .lt := ⟨_, op_ltA, os_lt⟩
theorem ck_le : CmpOk X .LtE .le := ⟨_, op_leA, os_le⟩
theorem ck_gt : CmpOk X .Gt .gt := ⟨_, op_gt, os_gt⟩
theorem ck_ge : CmpOk X .GtE .ge := ⟨_, op_ge, os_ge⟩
theorem de_cmp {op : CmpOp} {o : CO} (ho : CmpOk X op o) (ha : DE X Φ a ca) (hb : DE X Φ b cb) (hm : behindInMarks op b = false := by first | exact nomark _ | rfl) : DE X Φ (.Compare a [op] [b] pos) (.cmp o ca cb) := by
  obtain ⟨r, h1, h2⟩ := ho.ex
  exact peW (pe_cmpR h1 ha hb hm) fun _ _ _ h => tOp_of h2 (fun _ _ _ _ q => ev_cmp q) h
theorem tTest_of {c : CE} {t : TE} (i : ∀ σ H Q, tD X.K Φ c σ H Q → t σ H Q) {σ : L2.St} {H : Hp} {Q : Bool → Hp → Prop} (h : tDT X.K Φ c σ H Q) : t σ H fun x H' => ∃ k, x = .bl k ∧ Q k H' := by
  obtain ⟨μ, env, S, k, S', s, er, h1, h2⟩ := h
  refine i _ _ _ ⟨μ, env, S, _, S', s, er, h1, fun v μ' H' x s' r => ?_⟩
  cases r
  exact ⟨k, rfl, h2 μ' H' x s'⟩
theorem dt_cmp {op : CmpOp} {o : CO} (ho : CmpOk X op o) (ha : DE X Φ a ca) (hb : DE X Φ b cb) (hm : behindInMarks op b = false := by first | exact nomark _ | rfl) : DT X Φ (.Compare a [op] [b] pos) (.cmp o ca cb) := by
  obtain ⟨r, h1, h2⟩ := ho.ex
  exact ptW (pt_cmpR h1 ha hb hm) fun _ _ _ h => tTest_of (fun _ _ _ q => tOp_of h2 (fun _ _ _ _ q => ev_cmp q) q) h
theorem tChain_of {r r' : R2} {o o' : CO} (h2 : OpS X.K (fun x y S => (opC o x y S).map fun k => ((.bl k : W), S)) r) (h2' : OpS X.K (fun x y S => (opC o' x y S).map fun k => ((.bl k : W), S)) r') {σ : L2.St} {H : Hp} {Q : VK} (h : tD X.K Φ (.chain o o' ca cb cd) σ H Q) :
    tChain r r' (tD X.K Φ ca) (tD X.K Φ cb) (tD X.K Φ cd) σ H Q := by
  obtain ⟨μ, env, S, w, S', s, er, h1, a⟩ := h
  simp only [ev] at h1
  split at h1
  · rename_i x S1 e1
    split at h1
    · rename_i y S2 e2
      refine ⟨μ, env, S, x, S1, s, er, e1, fun vx μ1 H1 x1 s1 r1 => ⟨μ1, env, S1, y, S2, s1, er.mono x1, e2, fun vy μ2 H2 x2 s2 r2 => ?_⟩⟩
      split at h1
      · rename_i e3
        refine h2 μ2 H2 S2 x y (.bl true) S2 vx vy _ s2 (r1.mono x2) r2 (by simp only [e3]; rfl) fun v μ3 H3 x3 s3 r3 => ?_
        cases r3
        refine ⟨true, rfl, ?_⟩
        refine iteT ?_
        split at h1
        · rename_i z S3 e4
          refine ⟨μ3, env, S2, z, S3, s3, er.mono ((x1.trans x2).trans x3), e4, fun vz μ4 H4 x4 s4 r4 => ?_⟩
          exact h2' μ4 H4 S3 y z w S' vy vz Q s4 (r2.mono (x3.trans x4)) r4 h1 (a.mono (((x1.trans x2).trans x3).trans x4))
        · cases h1
      · rename_i e3
        cases h1
        refine h2 μ2 H2 _ x y (.bl false) _ vx vy _ s2 (r1.mono x2) r2 (by simp only [e3]; rfl) fun v μ3 H3 x3 s3 r3 => ?_
        cases r3
        refine ⟨false, rfl, ?_⟩
        refine iteF ?_
        exact a _ μ3 H3 ((x1.trans x2).trans x3) s3 (.bl _)
      · cases h1
    · cases h1
  · cases h1
theorem de_chain {op op' : CmpOp} {o o' : CO} (ho : CmpOk X op o) (ho' : CmpOk X op' o') (ha : DE X Φ a ca) (hb : DE X Φ b cb) (hd : DE X Φ d cd) (hm : lastMarks [op, op'] [b, d] = false := by rfl) : DE X Φ (.Compare a [op, op'] [b, d] pos) (.chain o o' ca cb cd) := by
  obtain ⟨r, h1, h2⟩ := ho.ex
  obtain ⟨r', h1', h2'⟩ := ho'.ex
  exact peW (pe_chain h1 h1' ha hb hd hm) fun _ _ _ h => tChain_of h2 h2' h
theorem dt_chain {op op' : CmpOp} {o o' : CO} (ho : CmpOk X op o) (ho' : CmpOk X op' o') (ha : DE X Φ a ca) (hb : DE X Φ b cb) (hd : DE X Φ d cd) (hm : lastMarks [op, op'] [b, d] = false := by rfl) : DT X Φ (.Compare a [op, op'] [b, d] pos) (.chain o o' ca cb cd) := by
  obtain ⟨r, h1, h2⟩ := ho.ex
  obtain ⟨r', h1', h2'⟩ := ho'.ex
  exact ptW (pt_chain h1 h1' ha hb hd hm) fun _ _ _ h => tTest_of (fun _ _ _ q => tChain_of h2 h2' q) h
theorem de_ix (ha : DE X Φ a ca) (hb : DE X Φ b cb) (hs : PlainIx b := by intro _ _; rfl) : DE X Φ (.Subscript a b pos) (.ix ca cb) :=
  peW (pe_ix ix_seq ha hb hs) fun _ _ _ h => tOp_of os_ix (fun _ _ _ _ q => ev_ix q) h
/-! ### and, or, not, if else -/
theorem de_one {op} (h : DE X Φ a ca) : DE X Φ (.BoolOp op [a] pos) ca := pe_one h
theorem de_and {rest : List Expr} (ha : DE X Φ a ca) (hb : DE X Φ (.BoolOp .And (b :: rest) pos) cb) : DE X Φ (.BoolOp .And (a :: b :: rest) pos) (.and ca cb) := by
  refine peW (pe_and ha hb) fun σ H Q h => ?_
  obtain ⟨μ, env, S, w, S', s, er, h1, h2⟩ := h
  simp only [ev] at h1
  split at h1
  · rename_i S1 e1
    refine ⟨μ, env, S, _, S1, s, er, e1, fun v μ1 H1 x1 s1 r1 => ?_⟩
    cases r1
    refine ⟨true, rfl, ?_⟩
    refine iteT ?_
    exact ⟨μ1, env, S1, w, S', s1, er.mono x1, h1, h2.mono x1⟩
  · rename_i S1 e1
    cases h1
    refine ⟨μ, env, S, _, S', s, er, e1, fun v μ1 H1 x1 s1 r1 => ?_⟩
    cases r1
    refine ⟨false, rfl, ?_⟩
    refine iteF ?_
    exact h2 _ μ1 H1 x1 s1 (.bl _)
  · cases h1
theorem de_or {rest : List Expr} (ha : DE X Φ a ca) (hb : DE X Φ (.BoolOp .Or (b :: rest) pos) cb) : DE X Φ (.BoolOp .Or (a :: b :: rest) pos) (.or ca cb) := by
  refine peW (pe_or ha hb) fun σ H Q h => ?_
  obtain ⟨μ, env, S, w, S', s, er, h1, h2⟩ := h
  simp only [ev] at h1
  split at h1
  · rename_i S1 e1
    cases h1
    refine ⟨μ, env, S, _, S', s, er, e1, fun v μ1 H1 x1 s1 r1 => ?_⟩
    cases r1
    refine ⟨true, rfl, ?_⟩
    refine iteT ?_
    exact h2 _ μ1 H1 x1 s1 (.bl _)
  · rename_i S1 e1
    refine ⟨μ, env, S, _, S1, s, er, e1, fun v μ1 H1 x1 s1 r1 => ?_⟩
    cases r1
    refine ⟨false, rfl, ?_⟩
    refine iteF ?_
    exact ⟨μ1, env, S1, w, S', s1, er.mono x1, h1, h2.mono x1⟩
  · cases h1
theorem de_not (ha : DE X Φ a ca) : DE X Φ (.UnaryOp .Not a pos) (.not ca) := by
  refine peW (pe_not ha) fun σ H Q h => ?_
  obtain ⟨μ, env, S, w, S', s, er, h1, h2⟩ := h
  simp only [ev] at h1
  split at h1
  · rename_i k S1 e1
    cases h1
    refine ⟨μ, env, S, _, S', s, er, e1, fun v μ1 H1 x1 s1 r1 => ?_⟩
    cases r1
    exact ⟨k, rfl, h2 _ μ1 H1 x1 s1 (.bl _)⟩
  · cases h1
theorem dt_val (h : DE X Φ e ce) (he : ∀ whole, isTrue e X.env whole = (do let v ← whole; standAt e.pos; holding [v] (truthy v)) := by intro _; rfl) : DT X Φ e ce :=
  ptW (pt_val h he) fun _ _ _ q => tTest_of (fun _ _ _ q => q) q
theorem dw_and1 (ha : DT X Φ a ca) : DW X Φ (.BoolOp .And [a] pos) ca := pw_and1 ha
theorem dw_or1 (ha : DT X Φ a ca) : DW X Φ (.BoolOp .Or [a] pos) ca := pw_or1 ha
theorem dw_and {rest : List Expr} (ha : DT X Φ a ca) (hb : DW X Φ (.BoolOp .And (b :: rest) pos) cb) : DW X Φ (.BoolOp .And (a :: b :: rest) pos) (.and ca cb) := by
  refine pwW (pw_and ha hb) fun σ H Q h => ?_
  obtain ⟨μ, env, S, k, S', s, er, h1, h2⟩ := h
  simp only [ev] at h1
  split at h1
  · rename_i S1 e1
    refine ⟨μ, env, S, _, S1, s, er, e1, fun μ1 H1 x1 s1 => ?_⟩
    refine iteT ?_
    exact ⟨μ1, env, S1, k, S', s1, er.mono x1, h1, fun μ2 H2 x2 s2 => h2 μ2 H2 (x1.trans x2) s2⟩
  · rename_i S1 e1
    cases h1
    refine ⟨μ, env, S, _, S', s, er, e1, fun μ1 H1 x1 s1 => ?_⟩
    refine iteF ?_
    exact h2 μ1 H1 x1 s1
  · cases h1
theorem dw_or {rest : List Expr} (ha : DT X Φ a ca) (hb : DW X Φ (.BoolOp .Or (b :: rest) pos) cb) : DW X Φ (.BoolOp .Or (a :: b :: rest) pos) (.or ca cb) := by
  refine pwW (pw_or ha hb) fun σ H Q h => ?_
  obtain ⟨μ, env, S, k, S', s, er, h1, h2⟩ := h
  simp only [ev] at h1
  split at h1
  · rename_i S1 e1
    cases h1
    refine ⟨μ, env, S, _, S', s, er, e1, fun μ1 H1 x1 s1 => ?_⟩
    refine iteT ?_
    exact h2 μ1 H1 x1 s1
  · rename_i S1 e1
    refine ⟨μ, env, S, _, S1, s, er, e1, fun μ1 H1 x1 s1 => ?_⟩
    refine iteF ?_
    exact ⟨μ1, env, S1, k, S', s1, er.mono x1, h1, fun μ2 H2 x2 s2 => h2 μ2 H2 (x1.trans x2) s2⟩
  · cases h1
theorem dt_w (h : DW X Φ e ce) : DT X Φ e ce := PW.pt h
theorem dt_not (ha : DT X Φ a ca) : DT X Φ (.UnaryOp .Not a pos) (.not ca) := by
  refine ptW (pt_not ha) fun σ H Q h => ?_
  obtain ⟨μ, env, S, k, S', s, er, h1, h2⟩ := h
  simp only [ev] at h1
  split at h1
  · rename_i k' S1 e1
    cases h1
    exact ⟨μ, env, S, _, S', s, er, e1, fun μ1 H1 x1 s1 => h2 μ1 H1 x1 s1⟩
  · cases h1
theorem dt_truth (ha : DE X Φ a ca) (he : ∀ whole, isTrue a X.env whole = (do let v ← whole; standAt a.pos; holding [v] (truthy v)) := by intro _; rfl) : DT X Φ a (.bi .tru (.cons ca .nil)) := by
  refine ptW (pt_truth ha he) fun σ H Q h => ?_
  obtain ⟨μ, env, S, k, S', s, er, h1, h2⟩ := h
  simp only [ev, evs] at h1
  split at h1
  · rename_i xs S1 e1
    split at e1
    · rename_i x S2 e2
      cases e1
      refine ⟨μ, env, S, _, S1, s, er, e2, fun v μ1 H1 x1 s1 r1 => ?_⟩
      refine tru_w s1 r1 h1 fun k' q1 q2 => ?_
      cases q1
      subst q2
      exact h2 μ1 H1 x1 s1
    · cases e1
  · cases h1
theorem de_ite (hd : DT X Φ d cd) (ha : DE X Φ a ca) (hb : DE X Φ b cb) : DE X Φ (.IfExp d a b pos) (.ite cd ca cb) := by
  refine peW (pe_ifExp hd ha hb) fun σ H Q h => ?_
  obtain ⟨μ, env, S, w, S', s, er, h1, h2⟩ := h
  simp only [ev] at h1
  split at h1
  · rename_i S1 e1
    refine ⟨μ, env, S, _, S1, s, er, e1, fun μ1 H1 x1 s1 => ?_⟩
    refine iteT ?_
    exact ⟨μ1, env, S1, w, S', s1, er.mono x1, h1, h2.mono x1⟩
  · rename_i S1 e1
    refine ⟨μ, env, S, _, S1, s, er, e1, fun μ1 H1 x1 s1 => ?_⟩
    refine iteF ?_
    exact ⟨μ1, env, S1, w, S', s1, er.mono x1, h1, h2.mono x1⟩
  · cases h1
/-! ### argument lists, displays -/
theorem da_nil : DA X Φ [] .nil := by
  refine paW pa_nil fun σ H Q h => ?_
  obtain ⟨μ, env, S, w, S', s, er, h1, h2⟩ := h
  simp only [evs] at h1
  cases h1
  exact h2 _ μ H .refl s .nil
theorem da_cons (ha : DE X Φ e ce) (hr : DA X Φ es cs) (hs : starEach (e :: es) X.env = (false, eval e X.env) :: starEach es X.env := by rfl) : DA X Φ (e :: es) (.cons ce cs) := by
  refine paW (pa_cons ha hr hs) fun σ H Q h => ?_
  obtain ⟨μ, env, S, w, S', s, er, h1, h2⟩ := h
  simp only [evs] at h1
  split at h1
  · rename_i x S1 e1
    split at h1
    · rename_i xs S2 e2
      cases h1
      refine ⟨μ, env, S, x, S1, s, er, e1, fun v μ1 H1 x1 s1 r1 => ⟨μ1, env, S1, xs, _, s1, er.mono x1, e2, fun vs μ2 H2 x2 s2 r2 => ?_⟩⟩
      exact h2 _ μ2 H2 (x1.trans x2) s2 (.cons (r1.mono x2) r2)
    · cases h1
  · cases h1
theorem de_tup {x1} (h : DA X Φ es cs) : DE X Φ (.Tuple es x1 pos) (.tup cs) := by
  refine peW (pe_tup h) fun σ H Q h => ?_
  obtain ⟨μ, env, S, w, S', s, er, h1, h2⟩ := h
  simp only [ev] at h1
  split at h1
  · rename_i xs S1 e1
    split at h1
    · rename_i hl
      cases h1
      refine ⟨μ, env, S, xs, _, s, er, e1, fun vs μ1 H1 x1 s1 r1 => ⟨?_, ?_⟩⟩
      · rw [r1.length]
        exact lim_ok hl
      · exact (h2.mono x1).tup s1 r1
    · cases h1
  · cases h1
theorem de_lst (h : DA X Φ es cs) : DE X Φ (.List es pos) (.lst cs) := by
  refine peW (pe_lst h) fun σ H Q h => ?_
  obtain ⟨μ, env, S, w, S', s, er, h1, h2⟩ := h
  simp only [ev] at h1
  split at h1
  · rename_i xs S1 e1
    exact ⟨μ, env, S, xs, _, s, er, e1, fun vs μ1 H1 x1 s1 r1 => (h2.mono x1).new s1 r1 h1⟩
  · cases h1
/-! ### slices -/
def tDO (K : Fg) (Φ : Fns) (c : CP) : TO := fun σ H Q => ∃ μ env S o S', SR K μ H S ∧ ER K μ H σ env ∧ evp Φ c env S = some (o, S') ∧ ∀ μ' H', Ex K μ H μ' H' → SR K μ' H' S' → Q o H'
abbrev DO (X : Cx) (Φ : Fns) (e : Option Expr) (c : CP) : Prop := PO X e (tDO X.K Φ c)
theorem poW {e : Option Expr} {t t' : TO} (h : PO X e t) (i : ∀ σ H Q, t' σ H Q → t σ H Q) : PO X e t' := ⟨fun pins s σ H Q I q => h.run pins s σ H Q I (i σ H Q q)⟩
theorem do_none : DO X Φ none .no := by
  refine poW po_none fun σ H Q h => ?_
  obtain ⟨μ, env, S, o, S', s, er, h1, h2⟩ := h
  simp only [evp] at h1
  cases h1
  exact h2 μ H .refl s
theorem do_some (h : DE X Φ e ce) : DO X Φ (some e) (.yes ce) := by
  refine poW (po_some h) fun σ H Q h => ?_
  obtain ⟨μ, env, S, o, S', s, er, h1, h2⟩ := h
  simp only [evp] at h1
  split at h1
  · rename_i i S1 e1
    cases h1
    refine ⟨μ, env, S, _, S', s, er, e1, fun v μ1 H1 x1 s1 r1 => ?_⟩
    cases r1
    exact ⟨i, rfl, h2 μ1 H1 x1 s1⟩
  · cases h1
theorem de_sl {lo hi : Option Expr} {cl ch : CP} {p2 : Pos} (ha : DE X Φ a ca) (hl : DO X Φ lo cl) (hh : DO X Φ hi ch) : DE X Φ (.Subscript a (.Slice lo hi none p2) pos) (.sl ca cl ch) := by
  refine peW (pe_slice sl_all ha hl hh) fun σ H Q h => ?_
  obtain ⟨μ, env, S, w, S', s, er, h1, h2⟩ := h
  simp only [ev] at h1
  split at h1
  · rename_i x S1 e1
    split at h1
    · rename_i y S2 e2
      split at h1
      · rename_i z S3 e3
        refine ⟨μ, env, S, x, S1, s, er, e1, fun v μ1 H1 x1 s1 r1 => ⟨μ1, env, S1, y, S2, s1, er.mono x1, e2, fun μ2 H2 x2 s2 => ⟨μ2, env, S2, z, S3, s2, er.mono (x1.trans x2), e3, fun μ3 H3 x3 s3 => ?_⟩⟩⟩
        exact ss_all s3 (r1.mono (x2.trans x3)) h1 (h2.mono ((x1.trans x2).trans x3))
      · cases h1
    · cases h1
  · cases h1
theorem de_rev {k : Nat} {p1 p2 p3 : Pos} (ha : DE X Φ a ca) : DE X Φ (.Subscript a (.Slice none none (some (.UnaryOp .USub (.Constant (.int 1) k p1) p2)) p3) pos) (.bi .rev (.cons ca .nil)) := by
  refine peW (pe_revL ha) fun σ H Q h => ?_
  obtain ⟨μ, env, S, w, S', s, er, h1, h2⟩ := h
  simp only [ev, evs] at h1
  split at h1
  · rename_i xs S1 e1
    split at e1
    · rename_i x S2 e2
      cases e1
      refine ⟨μ, env, S, x, _, s, er, e2, fun v μ1 H1 x1 s1 r1 => ?_⟩
      cases x <;> simp only [opI] at h1 <;> try (cases h1; done)
      split at h1
      · rename_i z hz
        cases r1 with
        | ref hk hkl =>
          obtain ⟨vs, q, t⟩ := s1.rd hk hz
          exact ⟨_, _, rfl, q, ((h2.mono x1).new s1 t.reverse h1).2⟩
      · cases h1
    · cases e1
  · cases h1
/-! ### calls -/
/-- a def's promise -/
def spD (K : Fg) (Φ : Fns) (f n : Nat) : Sp := fun vs H Q _ => vs.length = n ∧ ∃ μ S ws w S', SR K μ H S ∧ VWs K μ H vs ws ∧ Φ f ws S = some (w, S') ∧ Aft K μ H S' w Q
/-- a def that may be called: its name in the module, its number -/
structure Cal (P : Program) (w : World) (K : Fg) (mg : Str → Option Value) (base : Heap) (k : Nat) (Φ : Fns) (x : Str) (i n : Nat) : Prop where
  ex : ∃ (f : Addr) (fd : FuncData) (ps : List Str), FnOk P w K mg base CX0 k f fd ps (spD K Φ i n) ∧ mg x = some (.ref f) ∧ PySem.W.keepIn K (.ref f) = true ∧ Binds K fd ps []
def CEs.len : CEs → Nat
  | .nil => 0
  | .cons _ r => r.len + 1
theorem evs_len : ∀ (cs : CEs) {env : Env} {S S' : Sto} {ws : List W}, evs Φ cs env S = some (ws, S') → ws.length = cs.len
  | .nil, env, S, S', ws, h => by
    simp only [evs] at h
    cases h
    rfl
  | .cons c cs, env, S, S', ws, h => by
    simp only [evs] at h
    split at h
    · split at h
      · rename_i xs S2 e2
        cases h
        show xs.length + 1 = cs.len + 1
        rw [evs_len cs e2]
      · cases h
    · cases h
theorem de_call {x : Str} {i n k : Nat} {p : Pos} (G : Cal X.prog X.w X.K X.mg X.base k Φ x i n) (hr : Room k X.A) (ha : DA X Φ (e :: es) cs) (hn : cs.len = n := by rfl) (hg : Gl X x := by rfl) (hdb : (x == ("__debug__" : Str)) = false := by decide)
    (he : starEach (e :: es) X.env = (false, eval e X.env) :: starEach es X.env := by rfl) (hpl : (backTo pos (starEach es X.env)).any (·.1) = false := by rfl) : DE X Φ (.Call (.Name x p) (e :: es) [] pos) (.call i cs) := by
  obtain ⟨f, fd, ps, F, hm, hk, hb⟩ := G.ex
  refine peW (pe_call F hr hg hm hk hb .nil pass0 ha hdb he hpl) fun σ H Q h => ?_
  obtain ⟨μ, env, S, w, S', s, er, h1, h2⟩ := h
  simp only [ev] at h1
  split at h1
  · rename_i xs S1 e1
    refine ⟨μ, env, S, xs, S1, s, er, e1, fun vs μ1 H1 x1 s1 r1 => ?_⟩
    show spD X.K Φ i n (vs ++ []) H1 Q E0
    rw [List.append_nil]
    exact ⟨by rw [r1.length, evs_len cs e1]; exact hn, μ1, S1, xs, w, S', s1, r1, h1, h2.mono x1⟩
  · cases h1
/-- a call of what a slot holds: the def of that name -/
theorem de_callv {x y : Str} {i j n k : Nat} {l : List Nat} {p : Pos} (G : Cal X.prog X.w X.K X.mg X.base k Φ x i n) (hns : ∃ u, PySem.W.nsIn X.K mainGlobals x = some (some u) ∧ X.mg x = some u) (hr : Room k X.A) (hN : X.N[j]? = some y) (hl : x.cps.toList = l) (ha : DA X Φ (e :: es) cs) (hn : cs.len = n := by rfl) (hv : Vis X.env.scope y := by first | exact .inl rfl | exact .inr rfl) (hdb : (y == ("__debug__" : Str)) = false := by decide) (hcd : (y == ("__classdict__" : Str)) = false := by decide)
    (he : starEach (e :: es) X.env = (false, eval e X.env) :: starEach es X.env := by rfl) (hpl : (backTo pos (starEach es X.env)).any (·.1) = false := by rfl) : DE X Φ (.Call (.Name y p) (e :: es) [] pos) (.callv i l j cs) := by
  obtain ⟨f, fd, ps, F, hm, hk, hb⟩ := G.ex
  obtain ⟨u, hu, hmu⟩ := hns
  rw [hm] at hmu
  cases hmu
  refine peW (ItX.pe_callV (i := j) (FnOk.raw F hb .nil) hr hk pass0 hN hv ha hdb hcd he hpl) fun σ H Q h => ?_
  obtain ⟨μ, env, S, w, S', s, er, h1, h2⟩ := h
  simp only [ev] at h1
  split at h1
  · rename_i l' e0
    split at h1
    · rename_i el
      subst el
      split at h1
      · rename_i xs S1 e1
        obtain ⟨v, q1, q2⟩ := er.2 j _ e0
        cases q2 with
        | fn z _ ez hz =>
          have ex : z = x := (str_eta ez).trans (str_eta hl).symm
          subst ex
          rw [hu] at hz
          cases hz
          refine ⟨q1, μ, env, S, xs, S1, s, er, e1, fun vs μ1 H1 x1 s1 r1 => ?_⟩
          show spD X.K Φ i n (vs ++ []) H1 Q E0
          rw [List.append_nil]
          exact ⟨by rw [r1.length, evs_len cs e1]; exact hn, μ1, S1, xs, w, S', s1, r1, h1, h2.mono x1⟩
      · cases h1
    · cases h1
  · cases h1
theorem tCB_of {f : BI} {r : List V → Hp → VK → Prop} (hs : ClS X.K (opI f) r) {σ : L2.St} {H : Hp} {Q : VK} (h : tD X.K Φ (.bi f cs) σ H Q) : tCB r (tDA X.K Φ cs) σ H Q := by
  obtain ⟨μ, env, S, w, S', s, er, h1, h2⟩ := h
  simp only [ev] at h1
  split at h1
  · rename_i xs S1 e1
    exact ⟨μ, env, S, xs, S1, s, er, e1, fun vs μ1 H1 x1 s1 r1 => hs μ1 H1 S1 xs vs w S' Q s1 r1 h1 (h2.mono x1)⟩
  · cases h1
theorem de_callB {x : Str} {id : String} {f : BI} {r : List V → Hp → VK → Prop} {p : Pos} (hc : CallR X (.builtin id) r) (hs : ClS X.K (opI f) r) (hm : X.mg x = none) (hv : bootBuiltins x = some (.builtin id)) (ha : DA X Φ (e :: es) cs) (hg : Gl X x := by rfl) (hn : x ≠ "__name__" := by decide) (hdb : (x == ("__debug__" : Str)) = false := by decide)
    (he : starEach (e :: es) X.env = (false, eval e X.env) :: starEach es X.env := by rfl) (hpl : (backTo pos (starEach es X.env)).any (·.1) = false := by rfl) : DE X Φ (.Call (.Name x p) (e :: es) [] pos) (.bi f cs) :=
  peW (pe_callB hc hg hm hv ha hn hdb he hpl) fun _ _ _ h => tCB_of hs h
theorem de_callTy {x : Str} {T : String} {f : BI} {r : List V → Hp → VK → Prop} {p : Pos} (hc : CallR X (.type T) r) (hs : ClS X.K (opI f) r) (hm : X.mg x = none) (hv : bootBuiltins x = some (.type T)) (ha : DA X Φ (e :: es) cs) (hg : Gl X x := by rfl) (hn : x ≠ "__name__" := by decide) (hdb : (x == ("__debug__" : Str)) = false := by decide)
    (he : starEach (e :: es) X.env = (false, eval e X.env) :: starEach es X.env := by rfl) (hpl : (backTo pos (starEach es X.env)).any (·.1) = false := by rfl) : DE X Φ (.Call (.Name x p) (e :: es) [] pos) (.bi f cs) :=
  peW (pe_callTy hc hg hm hv ha hn hdb he hpl) fun _ _ _ h => tCB_of hs h
end
end MP
namespace MP
open PySem PySem.Spec PyProof.Rows L2
section
variable {X : Cx} {Φ : Fns} {a b d e : Expr} {es : List Expr} {ca cb cd ce : CE} {cs : CEs} {pos : Pos}
/-! ### more built-ins -/
theorem de_isi {t : Nat} {T : Str} {p p1 : Pos} (ht : t < 5) (hT : bootBuiltins T = some (.type (tyN t))) (hm : X.mg "isinstance" = none) (hmT : X.mg T = none) (ha : DE X Φ a ca)
    (hg : Gl X "isinstance" := by rfl) (hgT : Gl X T := by rfl) (hnT : T ≠ "__name__" := by decide) (hdT : (T == ("__debug__" : Str)) = false := by decide)
    (hs0 : starEach [(.Name T p1 : Expr)] X.env = (false, eval (.Name T p1) X.env) :: starEach [] X.env := by rfl)
    (he : starEach [a, (.Name T p1 : Expr)] X.env = (false, eval a X.env) :: starEach [(.Name T p1 : Expr)] X.env := by rfl) (hpl : (backTo pos (starEach [(.Name T p1 : Expr)] X.env)).any (·.1) = false := by rfl) :
    DE X Φ (.Call (.Name "isinstance" p) [a, .Name T p1] [] pos) (.bi (.isi t) (.cons ca .nil)) := by
  refine peW (pe_callB (x := "isinstance") (id := "isinstance") call_isi hg hm (by decide +kernel) (pa_cons ha (pa_cons (pe_bltn (v := .ty (tyN t)) hgT hmT hT rfl hnT hdT) pa_nil hs0) he) (by decide) (by decide) he hpl) fun σ H Q h => ?_
  obtain ⟨μ, env, S, w, S', s, er, h1, h2⟩ := h
  simp only [ev, evs] at h1
  split at h1
  · rename_i xs S1 e1
    split at e1
    · rename_i x S2 e2
      cases e1
      by_cases hf : isFn x = true
      · cases x <;> first | (cases hf; done) | (simp only [opI] at h1; cases h1)
      · have hq : opI (.isi t) [x] S1 = some (.bl (isT t x), S1) := by cases x <;> first | rfl | exact absurd rfl hf
        rw [hq] at h1
        cases h1
        exact ⟨μ, env, S, x, _, s, er, e2, fun v μ1 H1 x1 s1 r1 => isi_ok ht s1 r1 (by simpa using hf) (h2.mono x1)⟩
    · cases e1
  · cases h1
theorem de_isN {j p} (ha : DE X Φ a ca) : DE X Φ (.Compare a [.Is] [.Constant .none j p] pos) (.bi .isN (.cons ca .nil)) := by
  refine peW (pe_cmp (pc_isN ha)) fun σ H Q h => ?_
  obtain ⟨μ, env, S, w, S', s, er, h1, h2⟩ := h
  simp only [ev, evs] at h1
  split at h1
  · rename_i xs S1 e1
    split at e1
    · rename_i x S2 e2
      cases e1
      simp only [opI] at h1
      cases h1
      refine ⟨μ, env, S, x, _, s, er, e2, fun v μ1 H1 x1 s1 r1 => ?_⟩
      have q : decide (v = .non) = isNon x := by cases r1 <;> simp [isNon]
      show Q (V.bl (decide (v = V.non))) H1
      rw [q]
      exact h2 _ μ1 H1 x1 s1 (.bl _)
    · cases e1
  · cases h1
theorem de_notN {j p} (ha : DE X Φ a ca) : DE X Φ (.Compare a [.IsNot] [.Constant .none j p] pos) (.bi .notN (.cons ca .nil)) := by
  refine peW (pe_cmp (pc_notN ha)) fun σ H Q h => ?_
  obtain ⟨μ, env, S, w, S', s, er, h1, h2⟩ := h
  simp only [ev, evs] at h1
  split at h1
  · rename_i xs S1 e1
    split at e1
    · rename_i x S2 e2
      cases e1
      simp only [opI] at h1
      cases h1
      refine ⟨μ, env, S, x, _, s, er, e2, fun v μ1 H1 x1 s1 r1 => ?_⟩
      have q : decide (v = .non) = isNon x := by cases r1 <;> simp [isNon]
      show Q (V.bl (!decide (v = V.non))) H1
      rw [q]
      exact h2 _ μ1 H1 x1 s1 (.bl _)
    · cases e1
  · cases h1
theorem de_neg (ha : DE X Φ a ca) : DE X Φ (.UnaryOp .USub a pos) (.bi .neg (.cons ca .nil)) := by
  refine peW (pe_un un_neg ha) fun σ H Q h => ?_
  obtain ⟨μ, env, S, w, S', s, er, h1, h2⟩ := h
  simp only [ev, evs] at h1
  split at h1
  · rename_i xs S1 e1
    split at e1
    · rename_i x S2 e2
      cases e1
      cases x <;> simp only [opI] at h1 <;> try (cases h1; done)
      cases h1
      refine ⟨μ, env, S, _, _, s, er, e2, fun v μ1 H1 x1 s1 r1 => ?_⟩
      cases r1
      exact ⟨_, rfl, h2 _ μ1 H1 x1 s1 (.int _)⟩
    · cases e1
  · cases h1
theorem de_join {apos : Pos} (ha : DE X Φ a ca) (hb : DE X Φ b cb) (h1 : attributeBase a "join" X.env (eval a X.env) = eval a X.env := by rfl)
    (h2 : ((((backTo pos (starEach [b] X.env)).all fun x => !x.fst) && (backToKw pos (keywordEach [] X.env)).all fun x => x.fst.isSome) && decide (([b].length + ([] : List Keyword).length + if ([] : List Keyword).isEmpty = true then 0 else 1) < 30)) = true := by rfl)
    (h3 : (apos.endLine == pos.line) = true := by rfl) (h4 : starEach [b] X.env = (false, eval b X.env) :: starEach [] X.env := by rfl) (h5 : ((backTo pos (starEach [] X.env)).any fun x => x.fst) = false := by rfl) :
    DE X Φ (.Call (.Attribute a "join" apos) [b] [] pos) (.bi .join (.cons ca (.cons cb .nil))) := by
  refine peW (pe_bm PySem.F.plainAttrs_str PySem.F.slot_str_join PySem.F.type_str_join mt_join ha (pa_cons hb pa_nil h4) h1 h2 h3 h4 h5) fun σ H Q h => ?_
  obtain ⟨μ, env, S, w, S', s, er, h1, h2⟩ := h
  simp only [ev, evs] at h1
  split at h1
  · rename_i xs S1 e1
    split at e1
    · rename_i x S2 e2
      split at e1
      · rename_i ys S3 e3
        cases e1
        split at e3
        · rename_i y S4 e4
          cases e3
          have hx : ∃ l, x = .str l := by cases x <;> cases y <;> simp only [opI] at h1 <;> first | exact ⟨_, rfl⟩ | cases h1
          obtain ⟨l, rfl⟩ := hx
          refine ⟨μ, env, S, _, S2, s, er, e2, fun v μ1 H1 x1 s1 r1 => ?_⟩
          cases r1 with
          | str z _ ez =>
            refine ⟨rfl, μ1, env, S2, y, _, s1, er.mono x1, e4, fun u μ2 H2 x2 s2 r2 => ?_⟩
            exact (join_ok s2 (.str z _ ez) r2 h1 (h2.mono (x1.trans x2))).2
        · cases e3
      · cases e1
    · cases e1
  · cases h1
end
end MP
namespace MP
open PySem PySem.Spec PyProof.Rows L2
/-! ### what is walked -/
def ItOk (K : Fg) (μ : List Addr) (H : Hp) (J : Src) (It : It) : Prop := ∀ μ2 H2 S2, Ey K μ H μ2 H2 → SR K μ2 H2 S2 →
  (∀ (i : Nat) x, J.item S2 i = some x → It.go i H2 ∧ ∀ v H3, It.yld i H2 v H3 → Ex K μ2 H2 μ2 H3 ∧ SR K μ2 H3 S2 ∧ VW K μ2 H3 v x) ∧ ∀ i n, J.len S2 = some n → n ≤ i → It.stop i H2
def tDI (K : Fg) (Φ : Fns) (c : CI) : TI := fun σ H R => ∃ μ env S J S', SR K μ H S ∧ ER K μ H σ env ∧ evi Φ c env S = some (J, S') ∧ ((∃ n, J.len S' = some n) → ∀ μ' H' T, Ex K μ H μ' H' → SR K μ' H' S' → ItOk K μ' H' J T → R T H') ∧ ∃ n, J.len S' = some n
abbrev DI (X : Cx) (Φ : Fns) (tg e : Expr) (c : CI) : Prop := PI X tg e (tDI X.K Φ c)
section
variable {X : Cx} {Φ : Fns} {a b d e tg : Expr} {es : List Expr} {ca cb cd ce : CE} {cs : CEs} {pos : Pos}
theorem piW {tg e : Expr} {t t' : TI} (h : PI X tg e t) (i : ∀ σ H Q, t' σ H Q → t σ H Q) : PI X tg e t' := ⟨fun pins s σ H Q I q => h.run pins s σ H Q I (i σ H Q q)⟩
theorem piOr {tg e : Expr} {t t' : TI} (h : PI X tg e t) (h' : PI X tg e t') : PI X tg e (fun σ H R => t σ H R ∨ t' σ H R) := ⟨fun pins s σ H Q I q => q.elim (h.run pins s σ H Q I) (h'.run pins s σ H Q I)⟩
theorem it_list {K : Fg} {μ : List Addr} {H : Hp} {k : Nat} {a : Addr} (hk : μ[k]? = some a) : ItOk K μ H (.seq (.ref k)) (Itl K a) := by
  intro μ2 H2 S2 x s
  have hk2 := x.pre k a hk
  refine ⟨fun i w h => ?_, fun i n h hn => ?_⟩
  · simp only [Src.item, Option.bind_eq_some_iff] at h
    obtain ⟨ws, h1, h2⟩ := h
    obtain ⟨vs, q, t⟩ := s.rd hk2 h1
    obtain ⟨v, h3, h4⟩ := t.get h2
    refine ⟨⟨vs, v, q, h3⟩, fun u H3 y => ?_⟩
    obtain ⟨e1, e2⟩ := y
    have e3 := e2 vs q
    rw [h3] at e3
    cases e3
    subst e1
    exact ⟨.refl, s, h4⟩
  · simp only [Src.len, Option.map_eq_some_iff] at h
    obtain ⟨ws, h1, h2⟩ := h
    obtain ⟨vs, q, t⟩ := s.rd hk2 h1
    exact ⟨vs, q, by rw [t.length]; omega⟩
theorem it_tup {K : Fg} {μ : List Addr} {H : Hp} {ws : List W} {vs : List V} {a : Addr} (q0 : SqT K H a vs) (t0 : VWs K μ H vs ws) : ItOk K μ H (.seq (.tup ws)) (Itt K a) := by
  intro μ2 H2 S2 x s
  have q := x.tup _ _ q0
  have t := t0.monoY x
  refine ⟨fun i w h => ?_, fun i n h hn => ?_⟩
  · simp only [Src.item] at h
    obtain ⟨v, h3, h4⟩ := t.get h
    refine ⟨⟨vs, v, q, h3⟩, fun u H3 y => ?_⟩
    obtain ⟨e1, e2⟩ := y
    have e3 := e2 vs q
    rw [h3] at e3
    cases e3
    subst e1
    exact ⟨.refl, s, h4⟩
  · simp only [Src.len] at h
    cases h
    exact ⟨vs, q, by rw [t.length]; omega⟩
theorem it_str {K : Fg} {μ : List Addr} {H : Hp} {l : List Nat} {x : Str} (e : x.cps.toList = l) : ItOk K μ H (.seq (.str l)) (Its x) := by
  intro μ2 H2 S2 _ s
  subst e
  refine ⟨fun i w h => ?_, fun i n h hn => ?_⟩
  · simp only [Src.item, Option.map_eq_some_iff] at h
    obtain ⟨c, h1, h2⟩ := h
    subst h2
    have h3 : x.cps[i]? = some c := by
      rw [← Array.getElem?_toList]
      exact h1
    refine ⟨?_, fun u H3 y => ?_⟩
    · show i < x.cps.size
      have := (List.getElem?_eq_some_iff.mp h1).1
      simpa using this
    · obtain ⟨e1, c', e2, e3⟩ := y
      rw [h3] at e2
      cases e2
      subst e3
      subst e1
      exact ⟨.refl, s, .str _ _ rfl⟩
  · simp only [Src.len] at h
    cases h
    show x.cps.size ≤ i
    simpa using hn
theorem it_rng {K : Fg} {μ : List Addr} {H : Hp} {lo : Int} {n : Nat} : ItOk K μ H (.rng lo n) (Itr lo n) := by
  intro μ2 H2 S2 _ s
  refine ⟨fun i w h => ?_, fun i m h hn => ?_⟩
  · simp only [Src.item] at h
    split at h
    · rename_i hi
      cases h
      refine ⟨hi, fun u H3 y => ?_⟩
      obtain ⟨e1, e2⟩ := y
      subst e2
      subst e1
      exact ⟨.refl, s, .int _⟩
    · cases h
  · simp only [Src.len] at h
    cases h
    exact hn
theorem di_val (ha : DE X Φ a ca) : DI X Φ tg a (.val ca) := by
  refine piW (piOr (pi_list ha) (piOr (pi_tup ha) (pi_str ha))) fun σ H R h => ?_
  obtain ⟨μ, env, S, J, S', s, er, h1, h2, n, hn⟩ := h
  simp only [evi] at h1
  split at h1
  · rename_i x S1 e1
    cases h1
    cases x with
    | ref k =>
      refine .inl ⟨μ, env, S, _, _, s, er, e1, fun v μ1 H1 x1 s1 r1 => ?_⟩
      cases r1 with
      | ref hk hkl =>
        simp only [Src.len, Option.map_eq_some_iff] at hn
        obtain ⟨ws, hn1, _⟩ := hn
        obtain ⟨vs, q, t⟩ := s1.rd hk hn1
        exact ⟨_, rfl, ⟨vs, q⟩, h2 ⟨ws.length, by simp only [Src.len, hn1]; rfl⟩ μ1 H1 _ x1 s1 (it_list hk)⟩
    | tup ws =>
      refine .inr (.inl ⟨μ, env, S, _, _, s, er, e1, fun v μ1 H1 x1 s1 r1 => ?_⟩)
      cases r1 with
      | tup q t => exact ⟨_, rfl, ⟨_, q⟩, h2 ⟨n, hn⟩ μ1 H1 _ x1 s1 (it_tup q t)⟩
    | str l =>
      refine .inr (.inr ⟨μ, env, S, _, _, s, er, e1, fun v μ1 H1 x1 s1 r1 => ?_⟩)
      cases r1 with
      | str z _ e => exact ⟨_, rfl, h2 ⟨n, hn⟩ μ1 H1 _ x1 s1 (it_str e)⟩
    | _ => simp [Src.len] at hn
  · cases h1
theorem rng_ok {j : Int} (h : rngOk j = true) : -(2 ^ 62) ≤ j ∧ j < 2 ^ 62 := of_decide_eq_true h
theorem di_rng1 {p : Pos} (hm : X.mg "range" = none) (ha : DE X Φ a ca) (hg : Gl X "range" := by rfl) (hs : starEach [a] X.env = [(false, eval a X.env)] := by rfl) : DI X Φ tg (.Call (.Name "range" p) [a] [] pos) (.rng1 ca) := by
  refine piW (pi_range1 hg hm (pa_cons ha pa_nil hs) hs) fun σ H R h => ?_
  obtain ⟨μ, env, S, J, S', s, er, h1, h2, n, hn⟩ := h
  simp only [evi] at h1
  split at h1
  · rename_i j S1 e1
    split at h1
    · rename_i hj
      cases h1
      refine ⟨μ, env, S, _, _, s, er, e1, fun v μ1 H1 x1 s1 r1 => ?_⟩
      cases r1
      exact ⟨j, rfl, (rng_ok hj).1, (rng_ok hj).2, h2 ⟨n, hn⟩ μ1 H1 _ x1 s1 it_rng⟩
    · cases h1
  · cases h1
theorem di_rng2 {p : Pos} (hm : X.mg "range" = none) (ha : DE X Φ a ca) (hb : DE X Φ b cb) (hg : Gl X "range" := by rfl) (hs : starEach [a, b] X.env = [(false, eval a X.env), (false, eval b X.env)] := by rfl) (hs2 : starEach [b] X.env = [(false, eval b X.env)] := by rfl) : DI X Φ tg (.Call (.Name "range" p) [a, b] [] pos) (.rng2 ca cb) := by
  refine piW (pi_range2 hg hm (pa_cons ha (pa_cons hb pa_nil hs2) (by rw [hs, hs2])) hs hs2) fun σ H R h => ?_
  obtain ⟨μ, env, S, J, S', s, er, h1, h2, n, hn⟩ := h
  simp only [evi] at h1
  split at h1
  · rename_i i S1 e1
    split at h1
    · rename_i j S2 e2
      split at h1
      · rename_i hj
        rw [Bool.and_eq_true] at hj
        cases h1
        refine ⟨μ, env, S, _, _, s, er, e1, fun v μ1 H1 x1 s1 r1 => ⟨μ1, env, _, _, _, s1, er.mono x1, e2, fun v' μ2 H2 x2 s2 r2 => ?_⟩⟩
        cases r1
        cases r2
        exact ⟨i, j, rfl, ⟨(rng_ok hj.1).1, (rng_ok hj.1).2, (rng_ok hj.2).1, (rng_ok hj.2).2⟩, h2 ⟨n, hn⟩ μ2 H2 _ (x1.trans x2) s2 it_rng⟩
      · cases h1
    · cases h1
  · cases h1
/-! ### targets -/
def GOk (K : Fg) (ts : List Nat) (g : TG) : Prop := ∀ (μ : List Addr) (H : Hp) (S : Sto) (σ : L2.St) (env env' : Env) (v : V) (w : W) (Q : L2.St → Hp → Prop), SR K μ H S → ER K μ H σ env → VW K μ H v w → bindT S env ts w = some env' →
  (∀ σ', ER K μ H σ' env' → σ'.length = σ.length → (∀ i, i ∉ ts → σ'[i]? = σ[i]?) → Q σ' H) → g v σ H Q
theorem go_name (K : Fg) (i : Nat) : GOk K [i] (gName i) := by
  intro μ H S σ env env' v w Q sr er r h q
  simp only [bindT] at h
  cases h
  refine q _ (er.set i r) (List.length_set ..) fun j hj => ?_
  rw [List.getElem?_set_ne (fun e => hj (by rw [e]; exact List.mem_singleton.mpr rfl))]
/-- names one behind another -/
def gNames : List Nat → TGs
  | [] => gNil
  | i :: r => gCons (gName i) (gNames r)
theorem go_names {K : Fg} {μ : List Addr} {H : Hp} : ∀ (is : List Nat) (xs : List W) (vs : List V) (σ : L2.St) (env env' : Env) (Q : L2.St → Hp → Prop), ER K μ H σ env → VWs K μ H vs xs → bindL env is xs = some env' →
    (∀ σ', ER K μ H σ' env' → σ'.length = σ.length → (∀ i, i ∉ is → σ'[i]? = σ[i]?) → Q σ' H) → vs.length = is.length ∧ gNames is vs σ H Q
  | [], [], vs, σ, env, env', Q, er, r, h, q => by
    cases r
    simp only [bindL] at h
    cases h
    exact ⟨rfl, rfl, q σ er rfl fun _ _ => rfl⟩
  | [], _ :: _, vs, σ, env, env', Q, er, r, h, q => by simp [bindL] at h
  | _ :: _, [], vs, σ, env, env', Q, er, r, h, q => by simp [bindL] at h
  | i :: is, x :: xs, vs, σ, env, env', Q, er, r, h, q => by
    cases r with
    | cons r1 r2 =>
      simp only [bindL] at h
      rename_i v vs
      have ih := go_names is xs vs (σ.set i (some v)) _ env' Q (er.set i r1) r2 h fun σ' e1 e2 e3 => q σ' e1 (by rw [e2, List.length_set]) fun k hk => by
        rw [e3 k (fun m => hk (List.mem_cons_of_mem _ m)), List.getElem?_set_ne (fun e => hk (by rw [e]; exact List.mem_cons_self ..))]
      exact ⟨by rw [List.length_cons, List.length_cons, ih.1], _, _, rfl, ih.2⟩
/-- a tuple or a list of so many -/
def gSeq (K : Fg) (is : List Nat) : TG := fun v σ H Q => gTup K is.length (gNames is) v σ H Q ∨ gLst K is.length (gNames is) v σ H Q
theorem go_seq (K : Fg) (i j : Nat) (is : List Nat) : GOk K (i :: j :: is) (gSeq K (i :: j :: is)) := by
  intro μ H S σ env env' v w Q sr er r h q
  cases w with
  | tup xs =>
    simp only [bindT] at h
    cases r with
    | tup q0 t =>
      obtain ⟨l, g⟩ := go_names _ xs _ σ env env' Q er t h q
      exact .inl ⟨_, _, rfl, q0, l, g⟩
  | ref k =>
    simp only [bindT] at h
    split at h
    · rename_i xs hx
      cases r with
      | ref hk hkl =>
        obtain ⟨vs, q0, t⟩ := sr.rd hk hx
        obtain ⟨l, g⟩ := go_names _ xs _ σ env env' Q er t h q
        exact .inr ⟨_, _, rfl, q0, l, g⟩
    · cases h
  | _ => simp [bindT] at h
theorem pg_or {X : Cx} {tg : Expr} {g1 g2 : TG} (h1 : PG X tg g1) (h2 : PG X tg g2) : PG X tg (fun v σ H Q => g1 v σ H Q ∨ g2 v σ H Q) :=
  ⟨fun pins s σ H v u Q I r hw => hw.elim (h1.run pins s σ H v u Q I r) (h2.run pins s σ H v u Q I r)⟩
theorem pg_seq {X : Cx} {es : List Expr} {k : Nat} {is : List Nat} {pos : Pos} (hc : X.calm = true) (h : PGs X es (gNames is)) (hn : (assignEach es X.env).length = is.length := by rfl) (hst : (assignEach es X.env).findIdx? (·.1) = none := by rfl) : PG X (.Tuple es k pos) (gSeq X.K is) :=
  pg_or (pg_tup hc h hn hst) (pg_lst hc h hn hst)
/-- a target: its rule -/
structure DG (X : Cx) (tg : Expr) (ts : List Nat) : Prop where
  ex : ∃ g, PG X tg g ∧ GOk X.K ts g
theorem dg_name (i : Nat) {x : Str} (hN : X.N.Nodup) (hi : X.N[i]? = some x := by rfl) (hx : Loc X.env.scope x := by first | exact .inl rfl | exact .inr rfl) (hf : X.fn x = true ∨ X.env.scope.names.lookup x = some .local := by first | exact .inl rfl | exact .inr rfl) : DG X (.Name x pos) [i] :=
  ⟨_, pg_name (i := i) hN hi hx hf, go_name _ i⟩
theorem dg_seq (i j : Nat) (is : List Nat) {es : List Expr} {k : Nat} (h : PGs X es (gNames (i :: j :: is))) (hc : X.calm = true := by rfl) (hn : (assignEach es X.env).length = (i :: j :: is).length := by rfl) (hst : (assignEach es X.env).findIdx? (·.1) = none := by rfl) : DG X (.Tuple es k pos) (i :: j :: is) :=
  ⟨_, pg_seq hc h hn hst, go_seq _ i j is⟩
/-! ### list comprehensions -/
theorem ev_comp {vs ts : List Nat} {s : CI} {t e : CE} {env : Env} {S S' : Sto} {w : W} (h : ev Φ (.comp vs ts s t e) env S = some (w, S')) :
    ∃ J S1 n acc S4 n', evi Φ s env S = some (J, S1) ∧ J.len S1 = some n ∧ compGo (turnC Φ vs ts t e env J) 0 n [] S1 = some (acc, S4) ∧ J.len S4 = some n' ∧ n' ≤ n ∧ new S4 acc = some (w, S') := by
  simp only [ev] at h
  split at h
  · rename_i J S1 e1
    split at h
    · rename_i n e2
      split at h
      · rename_i acc S4 e3
        split at h
        · rename_i n' e4
          split at h
          · rename_i e5
            exact ⟨J, S1, n, acc, S4, n', e1, e2, e3, e4, e5, h⟩
          · cases h
        · cases h
      · cases h
    · cases h
  · cases h
theorem tLc_of {K : Fg} {vs ts : List Nat} {s : CI} {t e : CE} {g : TG} (hg : GOk K ts g) (ht : ∀ i ∈ ts, i ∈ vs) {σ : L2.St} {H : Hp} {Q : VK} (h : tD K Φ (.comp vs ts s t e) σ H Q) : tLc (tDI K Φ s) g (tDT K Φ t) (tD K Φ e) vs σ H Q := by
  obtain ⟨μ, env, S, w, S', sr, er, h1, h2⟩ := h
  obtain ⟨J, S1, n, accF, S4, n', e1, e2, e3, e4, e5, e6⟩ := ev_comp h1
  refine ⟨μ, env, S, J, S1, sr, er, e1, fun _ μ1 H1 T x1 s1 it => ?_, n, e2⟩
  intro D hD
  refine ⟨fun i m H2 => ∃ μ2 S2 acc us, Ex K μ1 H1 μ2 H2 ∧ SR K μ2 H2 S2 ∧ H2 D = some (.lst us) ∧ (∀ k : Nat, μ2[k]? ≠ some D) ∧ VWs K μ2 H2 us acc ∧ compGo (turnC Φ vs ts t e env J) i m acc S2 = some (accF, S4) ∧ i + m = n, ⟨n, μ1, S1, [], [], ?_, s1.fresh hD, upd_same, ?_, .nil, e3, Nat.zero_add n⟩, ?_⟩
  · exact ex_fresh hD
  · intro k hk
    obtain ⟨u, hu, _⟩ := s1.trk hk
    rw [hD] at hu
    cases hu
  rintro i m H2 ⟨μ2, S2, acc, us, x2, s2, hDl, hDn, hv, hgo, him⟩
  have ito := it μ2 H2 S2 x2.toEy s2
  cases m with
  | zero =>
    simp only [compGo] at hgo
    cases hgo
    refine .inl ⟨ito.2 i n' e4 (by omega), ?_⟩
    have hl : us.length ≤ sizeLine := by
      unfold MP.new at e6
      split at e6
      · rename_i hl
        rw [hv.length]
        exact lim_ok hl
      · cases e6
    unfold MP.new at e6
    split at e6
    · cases e6
      exact h2 _ (μ2 ++ [D]) H2 (x1.trans (x2.snoc hD)) (s2.adopt hDl hDn hv) (.ref (by
        rw [← s2.len, List.getElem?_append_right (Nat.le_refl _), Nat.sub_self]
        rfl) ⟨_, hDl⟩)
    · cases e6
  | succ m =>
    simp only [compGo] at hgo
    -- the item
    have key : ∃ x, J.item S2 i = some x := by
      cases hx : J.item S2 i with
      | some x => exact ⟨x, rfl⟩
      | none =>
        simp only [turnC, hx] at hgo
        cases hgo
    obtain ⟨x, hx⟩ := key
    obtain ⟨hgo1, hyl⟩ := ito.1 i x hx
    refine .inr ⟨hgo1, fun H' => ∃ μ3 S3 acc' us', Ex K μ1 H1 μ3 H' ∧ SR K μ3 H' S3 ∧ H' D = some (.lst us') ∧ (∀ k : Nat, μ3[k]? ≠ some D) ∧ VWs K μ3 H' us' acc' ∧ compGo (turnC Φ vs ts t e env J) (i + 1) m acc' S3 = some (accF, S4), fun H' hN => ?_, fun v H' y => ?_⟩
    · obtain ⟨μ3, S3, acc', us', a1, a2, a3, a4, a5, a6⟩ := hN
      exact ⟨m, by omega, μ3, S3, acc', us', a1, a2, a3, a4, a5, a6, by omega⟩
    · obtain ⟨xy, sy, rv⟩ := hyl v H' y
      have x2 := x2.trans xy
      obtain ⟨hDl, hDn⟩ := xy.fr D _ hDl hDn
      have hv := hv.mono xy
      have s2 := sy
      cases hb : bindT S2 (MP.wipe env vs) ts x with
      | none =>
        simp only [turnC, hx, hb] at hgo
        cases hgo
      | some env' =>
        refine hg μ2 H' S2 _ _ env' v x _ s2 (((er.mono x1).mono x2).wipe vs) rv hb fun σ' er' hl hs => ⟨?_, ?_⟩
        · exact wipe_same (by rw [hl, L2.wipe_length]) ht hs
        · have fin3 : ∀ {μa : List Addr} {Ha : Hp}, Ex K μ2 H' μa Ha → Ha D = some (.lst us) ∧ ∀ k : Nat, μa[k]? ≠ some D := fun xa => xa.fr D _ hDl hDn
          cases ht1 : ev Φ t env' S2 with
          | none =>
            simp only [turnC, hx, hb, ht1] at hgo
            cases hgo
          | some p =>
            obtain ⟨wt, S3⟩ := p
            have hbl : ∃ k, wt = .bl k := by
              cases wt with
              | bl k => exact ⟨k, rfl⟩
              | _ => simp only [turnC, hx, hb, ht1] at hgo; cases hgo
            obtain ⟨k, rfl⟩ := hbl
            refine ⟨μ2, env', S2, k, S3, s2, er', ht1, fun μ3 H3 x3 s3 => ?_⟩
            cases k with
            | false =>
              refine iteF ?_
              simp only [turnC, hx, hb, ht1] at hgo
              obtain ⟨d1, d2⟩ := fin3 x3
              exact ⟨μ3, S3, acc, us, x2.trans x3, s3, d1, d2, hv.mono x3, hgo⟩
            | true =>
              refine iteT ?_
              cases he1 : ev Φ e env' S3 with
              | none =>
                simp only [turnC, hx, hb, ht1, he1] at hgo
                cases hgo
              | some p =>
                obtain ⟨w1, S5⟩ := p
                simp only [turnC, hx, hb, ht1, he1] at hgo
                split at hgo
                · rename_i hlim
                  refine ⟨μ3, env', S3, w1, S5, s3, er'.mono x3, he1, fun y μ4 H4 x4 s4 r4 => ?_⟩
                  obtain ⟨d1, d2⟩ := fin3 (x3.trans x4)
                  obtain ⟨s5, y5⟩ := s4.other (ys := us ++ [y]) d1 d2
                  refine ⟨us, d1, ?_, μ4, S5, acc ++ [w1], us ++ [y], ((x2.trans x3).trans x4).mut hD, s5, upd_same, d2, ?_, hgo⟩
                  · rw [hv.length]
                    exact lim_lt hlim
                  · exact ((hv.mono (x3.trans x4)).snoc r4).monoY y5
                · cases hgo
end
end MP
namespace MP
open PySem PySem.Spec PyProof.Rows L2
section
variable {X : Cx} {Φ : Fns} {a b d e tg : Expr} {es : List Expr} {ca cb cd ce : CE} {cs : CEs} {pos : Pos}
theorem ptsW {ifs : List Expr} {t t' : TT} (h : PTs X ifs t) (i : ∀ σ H Q, t' σ H Q → t σ H Q) : PTs X ifs t' := ⟨fun pins s σ H Q I q => h.run pins s σ H Q I (i σ H Q q)⟩
abbrev DTs (X : Cx) (Φ : Fns) (ifs : List Expr) (c : CE) : Prop := PTs X ifs (tDT X.K Φ c)
theorem dts_nil : DTs X Φ [] (.c (.bl true)) := ptsW pts_nil fun σ H Q h => by
  obtain ⟨μ, env, S, k, S', s, er, h1, h2⟩ := h
  simp only [ev] at h1
  cases h1
  exact h2 μ H .refl s
theorem dts_one (h : DT X Φ e ce) : DTs X Φ [e] ce := pts_one h
theorem de_comp {elt iter : Expr} {ifs : List Expr} {scope : Scope} {own : List (Str × Nat)} {ts : List Nat} {g : TG} {s : CI} {t : CE} (gk : GOk X.K ts g) (hN : X.N.Nodup) (hi : DI X Φ tg iter s) (ok : BlkOk X.N X.env.scope scope own)
    (hg : ∀ (s : Shared) (H : Hp) (C : Addr) (cl : List (Str × Addr)) (fp : List Addr), PG (X.blk s H scope (compEnvC scope cl C X.env) fp) tg g)
    (ht : ∀ (s : Shared) (H : Hp) (C : Addr) (cl : List (Str × Addr)) (fp : List Addr), DTs (X.blk s H scope (compEnvC scope cl C X.env) fp) Φ ifs t)
    (he : ∀ (s : Shared) (H : Hp) (C : Addr) (cl : List (Str × Addr)) (fp : List Addr), DE (X.blk s H scope (compEnvC scope cl C X.env) fp) Φ elt ce) (hsub : ∀ i ∈ ts, i ∈ own.map (·.2) := by decide) (hc : X.calm = true := by rfl) (hs : ∀ x, foldedSetIterable iter X.env x = pure x := by intro _; rfl) :
    DE X Φ (.ListComp elt [⟨tg, iter, ifs, 0⟩] scope pos) (.comp (own.map (·.2)) ts s t ce) :=
  peW (pe_lc hc hN hi ok hg ht he hs) fun _ _ _ h => tLc_of gk hsub h
/-! ### statements -/
def FlOk (K : Fg) (μ : List Addr) (H : Hp) (D : Ends) : Fl → Prop
  | .nx env S => ∀ σ' μ' H', Ex K μ H μ' H' → SR K μ' H' S → ER K μ' H' σ' env → D.nx σ' H'
  | .rt w S => Aft K μ H S w D.rt
  | .bk env S => ∀ σ' μ' H', Ex K μ H μ' H' → SR K μ' H' S → ER K μ' H' σ' env → D.bk σ' H'
  | .ct env S => ∀ σ' μ' H', Ex K μ H μ' H' → SR K μ' H' S → ER K μ' H' σ' env → D.ct σ' H'
theorem FlOk.mono {K : Fg} {μ μ1 : List Addr} {H H1 : Hp} {D : Ends} {r : Fl} (x : Ex K μ H μ1 H1) (h : FlOk K μ H D r) : FlOk K μ1 H1 D r := by
  cases r with
  | nx env S => exact fun σ' μ' H' x' s' e' => h σ' μ' H' (x.trans x') s' e'
  | rt w S => exact Aft.mono x h
  | bk env S => exact fun σ' μ' H' x' s' e' => h σ' μ' H' (x.trans x') s' e'
  | ct env S => exact fun σ' μ' H' x' s' e' => h σ' μ' H' (x.trans x') s' e'
def tDS (K : Fg) (Φ : Fns) (c : CS) : TS := fun D σ H => ∃ μ env S r, SR K μ H S ∧ ER K μ H σ env ∧ ex Φ c env S = some r ∧ FlOk K μ H D r
def tDSs (K : Fg) (Φ : Fns) (c : CSs) : TS := fun D σ H => ∃ μ env S r, SR K μ H S ∧ ER K μ H σ env ∧ exs Φ c env S = some r ∧ FlOk K μ H D r
abbrev DS (X : Cx) (Φ : Fns) (st : Stmt) (c : CS) : Prop := PS X st (tDS X.K Φ c)
abbrev DSs (X : Cx) (Φ : Fns) (st : List Stmt) (c : CSs) : Prop := PSs X st (tDSs X.K Φ c)
theorem psW {st : Stmt} {t t' : TS} (h : PS X st t) (i : ∀ D σ H, t' D σ H → t D σ H) : PS X st t' := ⟨fun pins s σ H Q I q => h.run pins s σ H Q I (i Q σ H q)⟩
theorem pssW {st : List Stmt} {t t' : TS} (h : PSs X st t) (i : ∀ D σ H, t' D σ H → t D σ H) : PSs X st t' := ⟨fun pins s σ H Q I q => h.run pins s σ H Q I (i Q σ H q)⟩
theorem dss_nil : DSs X Φ [] .nil := pssW pss_nil fun D σ H h => by
  obtain ⟨μ, env, S, r, s, er, h1, h2⟩ := h
  simp only [exs] at h1
  cases h1
  exact h2 σ μ H .refl s er
theorem dss_cons {st : Stmt} {rest : List Stmt} {c : CS} {cr : CSs} (h1 : DS X Φ st c) (h2 : DSs X Φ rest cr) : DSs X Φ (st :: rest) (.cons c cr) := pssW (pss_cons h1 h2) fun D σ H h => by
  obtain ⟨μ, env, S, r, s, er, e1, f⟩ := h
  simp only [exs] at e1
  split at e1
  · rename_i env' S' e2
    refine ⟨μ, env, S, _, s, er, e2, fun σ' μ' H' x' s' er' => ?_⟩
    exact ⟨μ', env', S', r, s', er', e1, f.mono x'⟩
  · rename_i r' hn
    refine ⟨μ, env, S, r, s, er, e1, ?_⟩
    cases r with
    | nx env' S' => exact absurd e1 (hn env' S')
    | rt w S' => exact f
    | bk env' S' => exact f
    | ct env' S' => exact f
theorem ds_ret (h : DE X Φ e ce) : DS X Φ (.Return (some e) pos) (.ret ce) := psW (ps_ret h) fun D σ H h => by
  obtain ⟨μ, env, S, r, s, er, e1, f⟩ := h
  simp only [ex] at e1
  split at e1
  · rename_i w S1 e2
    cases e1
    exact ⟨μ, env, S, w, S1, s, er, e2, f⟩
  · cases e1
theorem ds_expr (h : DE X Φ e ce) (hs : swapsWith e none pos.line X.env = pure false := by rfl) : DS X Φ (.Expr e pos) (.expr ce) := psW (ps_expr h hs) fun D σ H h => by
  obtain ⟨μ, env, S, r, s, er, e1, f⟩ := h
  simp only [ex] at e1
  split at e1
  · rename_i w S1 e2
    cases e1
    exact ⟨μ, env, S, w, S1, s, er, e2, fun v μ' H' x' s' _ => f σ μ' H' x' s' (er.mono x')⟩
  · cases e1
theorem ds_if {A B : List Stmt} {sa sb : CSs} (hc : DT X Φ d cd) (ha : DSs X Φ A sa) (hb : DSs X Φ B sb) : DS X Φ (.If d A B pos) (.ifs cd sa sb) := psW (ps_if hc ha hb) fun D σ H h => by
  obtain ⟨μ, env, S, r, s, er, e1, f⟩ := h
  simp only [ex] at e1
  split at e1
  · rename_i S1 e2
    refine ⟨μ, env, S, _, S1, s, er, e2, fun μ' H' x' s' => iteT ?_⟩
    exact ⟨μ', env, S1, r, s', er.mono x', e1, f.mono x'⟩
  · rename_i S1 e2
    refine ⟨μ, env, S, _, S1, s, er, e2, fun μ' H' x' s' => iteF ?_⟩
    exact ⟨μ', env, S1, r, s', er.mono x', e1, f.mono x'⟩
  · cases e1
theorem ds_pass : DS X Φ (.Pass pos) .pass := psW ps_pass fun D σ H h => by
  obtain ⟨μ, env, S, r, s, er, e1, f⟩ := h
  simp only [ex] at e1
  cases e1
  exact f σ μ H .refl s er
theorem ds_break : DS X Φ (.Break pos) .brk := psW ps_break fun D σ H h => by
  obtain ⟨μ, env, S, r, s, er, e1, f⟩ := h
  simp only [ex] at e1
  cases e1
  exact f σ μ H .refl s er
theorem ds_continue : DS X Φ (.Continue pos) .cont := psW ps_continue fun D σ H h => by
  obtain ⟨μ, env, S, r, s, er, e1, f⟩ := h
  simp only [ex] at e1
  cases e1
  exact f σ μ H .refl s er
theorem ds_never {st : Stmt} : DS X Φ st .never := psW ps_never fun D σ H h => by
  obtain ⟨μ, env, S, r, s, er, e1, f⟩ := h
  simp only [ex] at e1
  cases e1
theorem tAsg_of {K : Fg} {ts : List Nat} {g : TG} {te : TE} (gk : GOk K ts g) (ht : ∀ σ H Q, tD K Φ ce σ H Q → te σ H Q) {D : Ends} {σ : L2.St} {H : Hp} (h : tDS K Φ (.set ts ce) D σ H) : tAsg te g D σ H := by
  obtain ⟨μ, env, S, r, s, er, e1, f⟩ := h
  simp only [ex] at e1
  split at e1
  · rename_i w S1 e2
    rw [Option.map_eq_some_iff] at e1
    obtain ⟨env', h1, h2⟩ := e1
    subst h2
    refine ht _ _ _ ⟨μ, env, S, w, S1, s, er, e2, fun v μ' H' x' s' r' => ?_⟩
    exact gk μ' H' S1 σ env env' v w _ s' (er.mono x') r' h1 fun σ' er' _ _ => f σ' μ' H' x' s' er'
  · cases e1
theorem ds_set {ts : List Nat} {x : Expr} (hg : DG X x ts) (he : DE X Φ e ce) (hs : swapsWithSole [x] e pos.line X.env = pure false := by rfl) (hw : swappedStores [x] e X.env = pure none := by rfl) (h3 : List.map (fun x => x.snd) (assignEach [x] X.env) = [assign x X.env] := by rfl) : DS X Φ (.Assign [x] e pos) (.set ts ce) := by
  obtain ⟨g, h1, h2⟩ := hg.ex
  exact psW (ps_asg he h1 hs hw h3) fun D σ H h => tAsg_of h2 (fun _ _ _ q => q) h
/-- x = [..] on one line, x a local -/
theorem ds_setLc {i : Nat} {y : Str} {py spos : Pos} {elt iter : Expr} {ifs : List Expr} {scope : Scope} {own : List (Str × Nat)} {ts : List Nat} {g : TG} {s : CI} {t : CE} (gk : GOk X.K ts g) (hN : X.N.Nodup) (hi : DI X Φ tg iter s) (ok : BlkOk X.N X.env.scope scope own)
    (hg : ∀ (s : Shared) (H : Hp) (C : Addr) (cl : List (Str × Addr)) (fp : List Addr), PG (X.blk s H scope (compEnvC scope cl C X.env) fp) tg g)
    (ht : ∀ (s : Shared) (H : Hp) (C : Addr) (cl : List (Str × Addr)) (fp : List Addr), DTs (X.blk s H scope (compEnvC scope cl C X.env) fp) Φ ifs t)
    (he : ∀ (s : Shared) (H : Hp) (C : Addr) (cl : List (Str × Addr)) (fp : List Addr), DE (X.blk s H scope (compEnvC scope cl C X.env) fp) Φ elt ce)
    (hsw : swapsWith (.ListComp elt [⟨tg, iter, ifs, 0⟩] scope pos) (some (.Name y py)) spos.line X.env = pure true) (hsub : ∀ i ∈ ts, i ∈ own.map (·.2) := by decide) (hy : X.N[i]? = some y := by rfl) (hyl : X.env.scope.names.lookup y = some .local := by rfl) (hc : X.calm = true := by rfl) (hs : ∀ x, foldedSetIterable iter X.env x = pure x := by intro _; rfl) :
    DS X Φ (.Assign [.Name y py] (.ListComp elt [⟨tg, iter, ifs, 0⟩] scope pos) spos) (.set [i] (.comp (own.map (·.2)) ts s t ce)) :=
  psW (ps_setLc hc hN hy hyl hsw hi ok hg ht he hs) fun D σ H h => tAsg_of (go_name _ i) (fun _ _ _ q => tLc_of gk hsub q) h
def endF (J : Src) (n : Nat) : Option Fl → Option Fl
  | some (.nx env' S4) => match J.len S4 with
    | some n' => if n' ≤ n then some (.nx env' S4) else none
    | none => none
  | some (.bk env' S4) => some (.nx env' S4)
  | r => r
theorem ex_for {ts : List Nat} {s : CI} {b : CSs} {env : Env} {S : Sto} {r : Fl} (h : ex Φ (.for_ ts s b) env S = some r) : ∃ J S1 n, evi Φ s env S = some (J, S1) ∧ J.len S1 = some n ∧ endF J n (forGo (turnF Φ ts b J) 0 n env S1) = some r := by
  simp only [ex] at h
  split at h
  · rename_i J S1 e1
    split at h
    · rename_i n e2
      exact ⟨J, S1, n, e1, e2, h⟩
    · cases h
  · cases h
theorem ds_for {ts : List Nat} {iter : Expr} {body : List Stmt} {s : CI} {b : CSs} (hg : DG X tg ts) (hi : DI X Φ tg iter s) (hb : DSs X Φ body b) (hp : PassesOwn (model X.prog X.w) X.A X.env X.xe) (hc : X.calm = true := by rfl) (hs : ∀ x, foldedSetIterable iter X.env x = pure x := by intro _; rfl) : DS X Φ (.For tg iter body [] pos) (.for_ ts s b) := by
  obtain ⟨g, h1, gk⟩ := hg.ex
  refine psW (ps_for hp hc hi h1 hb hs) fun D σ H h => ?_
  obtain ⟨μ, env, S, r, sr, er, e0, f⟩ := h
  obtain ⟨J, S1, n, e1, e2, e3⟩ := ex_for e0
  refine ⟨μ, env, S, J, S1, sr, er, e1, fun _ μ1 H1 T x1 s1 it => ?_, n, e2⟩
  have f1 := f.mono x1
  refine ⟨fun i m σ2 H2 => ∃ μ2 env2 S2, Ex X.K μ1 H1 μ2 H2 ∧ SR X.K μ2 H2 S2 ∧ ER X.K μ2 H2 σ2 env2 ∧ endF J n (forGo (turnF Φ ts b J) i m env2 S2) = some r ∧ i + m = n, ⟨n, μ1, env, S1, .refl, s1, er.mono x1, e3, Nat.zero_add n⟩, ?_⟩
  rintro i m σ2 H2 ⟨μ2, env2, S2, x2, s2, er2, hgo, him⟩
  have ito := it μ2 H2 S2 x2.toEy s2
  cases m with
  | zero =>
    simp only [forGo, endF] at hgo
    split at hgo
    · rename_i n' e4
      split at hgo
      · rename_i e5
        cases hgo
        exact .inl ⟨ito.2 i n' e4 (by omega), f1 σ2 μ2 H2 x2 s2 er2⟩
      · cases hgo
    · cases hgo
  | succ m =>
    simp only [forGo] at hgo
    have key : ∃ x, J.item S2 i = some x := by
      cases hx : J.item S2 i with
      | some x => exact ⟨x, rfl⟩
      | none =>
        simp only [turnF, hx, endF] at hgo
        cases hgo
    obtain ⟨x, hx⟩ := key
    obtain ⟨hgo1, hyl⟩ := ito.1 i x hx
    refine .inr ⟨hgo1, fun σ' H' => ∃ μ3 env3 S3, Ex X.K μ1 H1 μ3 H' ∧ SR X.K μ3 H' S3 ∧ ER X.K μ3 H' σ' env3 ∧ endF J n (forGo (turnF Φ ts b J) (i + 1) m env3 S3) = some r, fun σ' H' hN => ?_, fun v H' y => ?_⟩
    · obtain ⟨μ3, env3, S3, a1, a2, a3, a4⟩ := hN
      exact ⟨m, by omega, μ3, env3, S3, a1, a2, a3, a4, by omega⟩
    · obtain ⟨xy, sy, rv⟩ := hyl v H' y
      have x2 := x2.trans xy
      have s2 := sy
      have er2 := er2.mono xy
      cases hb' : bindT S2 env2 ts x with
      | none =>
        simp only [turnF, hx, hb', endF] at hgo
        cases hgo
      | some env' =>
        refine gk μ2 H' S2 σ2 env2 env' v x _ s2 er2 rv hb' fun σ' er' _ _ => ?_
        simp only [turnF, hx, hb'] at hgo
        cases hr : exs Φ b env' S2 with
        | none =>
          simp only [hr, endF] at hgo
          cases hgo
        | some r2 =>
          refine ⟨μ2, env', S2, r2, s2, er', hr, ?_⟩
          simp only [hr] at hgo
          cases r2 with
          | nx env3 S3 => exact fun σ3 μ3 H3 x3 s3 er3 => ⟨μ3, env3, S3, x2.trans x3, s3, er3, hgo⟩
          | ct env3 S3 => exact fun σ3 μ3 H3 x3 s3 er3 => ⟨μ3, env3, S3, x2.trans x3, s3, er3, hgo⟩
          | bk env3 S3 =>
            simp only [endF] at hgo
            cases hgo
            exact fun σ3 μ3 H3 x3 s3 er3 => f1 σ3 μ3 H3 (x2.trans x3) s3 er3
          | rt w S3 =>
            simp only [endF] at hgo
            cases hgo
            exact Aft.mono x2 f1
theorem ds_while {body : List Stmt} {b : CSs} (n : Nat) (hc : DT X Φ d cd) (hb : DSs X Φ body b) (hp : PassesOwn (model X.prog X.w) X.A X.env X.xe) : DS X Φ (.While d body [] pos) (.whl n cd b) := by
  refine psW (ps_while hp hc hb) fun D σ H h => ?_
  obtain ⟨μ, env, S, r, sr, er, e0, f⟩ := h
  simp only [ex] at e0
  refine ⟨fun m σ2 H2 => ∃ μ2 env2 S2, Ex X.K μ H μ2 H2 ∧ SR X.K μ2 H2 S2 ∧ ER X.K μ2 H2 σ2 env2 ∧ whlGo (ev Φ cd) (exs Φ b) m env2 S2 = some r, ⟨n, μ, env, S, .refl, sr, er, e0⟩, ?_⟩
  rintro m σ2 H2 ⟨μ2, env2, S2, x2, s2, er2, hgo⟩
  cases m with
  | zero =>
    simp only [whlGo] at hgo
    cases hgo
  | succ m =>
    simp only [whlGo] at hgo
    split at hgo
    · rename_i S3 e3
      refine ⟨μ2, env2, S2, _, S3, s2, er2, e3, fun μ3 H3 x3 s3 => iteT ?_⟩
      refine ⟨fun σ' H' => ∃ μ3 env3 S3, Ex X.K μ H μ3 H' ∧ SR X.K μ3 H' S3 ∧ ER X.K μ3 H' σ' env3 ∧ whlGo (ev Φ cd) (exs Φ b) m env3 S3 = some r, fun σ' H' hN => ⟨m, by omega, hN⟩, ?_⟩
      cases hr : exs Φ b env2 S3 with
      | none =>
        simp only [hr] at hgo
        cases hgo
      | some r2 =>
        refine ⟨μ3, env2, S3, r2, s3, er2.mono x3, hr, ?_⟩
        simp only [hr] at hgo
        cases r2 with
        | nx env4 S4 => exact fun σ4 μ4 H4 x4 s4 er4 => ⟨μ4, env4, S4, (x2.trans x3).trans x4, s4, er4, hgo⟩
        | ct env4 S4 => exact fun σ4 μ4 H4 x4 s4 er4 => ⟨μ4, env4, S4, (x2.trans x3).trans x4, s4, er4, hgo⟩
        | bk env4 S4 =>
          cases hgo
          exact fun σ4 μ4 H4 x4 s4 er4 => f σ4 μ4 H4 ((x2.trans x3).trans x4) s4 er4
        | rt w S4 =>
          cases hgo
          exact Aft.mono (x2.trans x3) f
    · rename_i S3 e3
      cases hgo
      exact ⟨μ2, env2, S2, _, S3, s2, er2, e3, fun μ3 H3 x3 s3 => iteF (f σ2 μ3 H3 (x2.trans x3) s3 (er2.mono x3))⟩
    · cases hgo
/-! ### stores into lists -/
theorem SR.isL {K : Fg} {μ : List Addr} {H : Hp} {S : Sto} {k : Nat} {a : Addr} (s : SR K μ H S) (hk : μ[k]? = some a) (hkl : ∃ vs, H a = some (.lst vs)) : ∃ xs, SqL K H a xs := by
  obtain ⟨o1, ho1⟩ := s.back hk
  have q := s.at_ _ _ o1 hk ho1
  cases o1 with
  | lst ws => obtain ⟨vs, q, _⟩ := q; exact ⟨vs, .inl (.inl q)⟩
  | dct ws => obtain ⟨_, e, _⟩ := q; obtain ⟨_, e'⟩ := hkl; rw [e] at e'; cases e'
theorem ds_setix {o i : Expr} {co ci : CE} {p2 : Pos} (ho : DE X Φ o co) (hi : DE X Φ i ci) (he : DE X Φ e ce) (hg : PG X (.Subscript o i p2) (gSub (tD X.K Φ co) (tD X.K Φ ci) rSetL)) (hs : swapsWithSole [(.Subscript o i p2 : Expr)] e pos.line X.env = pure false := by rfl) (hw : swappedStores [(.Subscript o i p2 : Expr)] e X.env = pure none := by rfl)
    (h3 : List.map (fun x => x.snd) (assignEach [(.Subscript o i p2 : Expr)] X.env) = [assign (.Subscript o i p2) X.env] := by rfl) : DS X Φ (.Assign [.Subscript o i p2] e pos) (.setix co ci ce) := by
  refine psW (ps_asg he hg hs hw h3) fun D σ H h => ?_
  obtain ⟨μ, env, S, r, sr, er, e0, f⟩ := h
  simp only [ex] at e0
  split at e0
  · rename_i w S1 e1
    split at e0
    · rename_i k S2 e2
      split at e0
      · rename_i j S3 e3
        split at e0
        · rename_i xs e4
          split at e0
          · rename_i n e5
            cases e0
            refine ⟨μ, env, S, w, S1, sr, er, e1, fun v μ1 H1 x1 s1 r1 => ⟨μ1, env, S1, _, S2, s1, er.mono x1, e2, fun v2 μ2 H2 x2 s2 r2 => ⟨μ2, env, S2, _, S3, s2, er.mono (x1.trans x2), e3, fun v3 μ3 H3 x3 s3 r3 => ?_⟩⟩⟩
            cases r3
            cases r2 with
            | ref hk hkl =>
              have hk3 := x3.pre _ _ hk
              obtain ⟨q0, vs, q1, t1⟩ := s3.rm hk3 e4
              obtain ⟨s4, x4⟩ := s3.write hk3 q0 (t1.set (r1.mono (x2.trans x3)) n)
              refine ⟨_, vs, j, n, rfl, rfl, q1, ?_, ?_⟩
              · rw [t1.length]
                exact e5
              · exact f σ μ3 _ (((x1.trans x2).trans x3).trans x4) s4 (er.mono (((x1.trans x2).trans x3).trans x4))
          · cases e0
        · cases e0
      · cases e0
    · cases e0
  · cases e0
theorem ds_app {o : Expr} {co : CE} {apos cpos : Pos} (ho : DE X Φ o co) (he : DE X Φ e ce) (hs : swapsWith (.Call (.Attribute o "append" apos) [e] [] cpos) none pos.line X.env = pure false := by rfl) (h1 : attributeBase o "append" X.env (eval o X.env) = eval o X.env := by rfl)
    (h2 : ((((backTo cpos (starEach [e] X.env)).all fun x => !x.fst) && (backToKw cpos (keywordEach [] X.env)).all fun x => x.fst.isSome) && decide (([e].length + ([] : List Keyword).length + if ([] : List Keyword).isEmpty = true then 0 else 1) < 30)) = true := by rfl)
    (h3 : (apos.endLine == cpos.line) = true := by rfl) (h4 : starEach [e] X.env = (false, eval e X.env) :: starEach [] X.env := by rfl) (h5 : ((backTo cpos (starEach [] X.env)).any fun x => x.fst) = false := by rfl) :
    DS X Φ (.Expr (.Call (.Attribute o "append" apos) [e] [] cpos) pos) (.app co ce) := by
  refine psW (ps_expr (pe_bm PySem.F.plainAttrs_list PySem.F.slot_list_append PySem.F.type_list_append mt_append ho (pa_cons he pa_nil h4) h1 h2 h3 h4 h5) hs) fun D σ H h => ?_
  obtain ⟨μ, env, S, r, sr, er, e0, f⟩ := h
  simp only [ex] at e0
  split at e0
  · rename_i k S1 e1
    split at e0
    · rename_i w S2 e2
      split at e0
      · rename_i xs e3
        split at e0
        · rename_i hl
          cases e0
          refine ⟨μ, env, S, _, S1, sr, er, e1, fun v μ1 H1 x1 s1 r1 => ?_⟩
          cases r1 with
          | ref hk hkl =>
            refine ⟨.inl ⟨rfl, s1.isL hk hkl⟩, μ1, env, S1, w, S2, s1, er.mono x1, e2, fun u μ2 H2 x2 s2 r2 => ?_⟩
            have hk2 := x2.pre _ _ hk
            obtain ⟨q0, vs, q1, t1⟩ := s2.rm hk2 e3
            obtain ⟨s3, x3⟩ := s2.write hk2 q0 (t1.snoc r2)
            refine ⟨_, vs, u, rfl, rfl, q1, by rw [t1.length]; exact lim_lt hl, ?_⟩
            exact f σ μ2 _ ((x1.trans x2).trans x3) s3 (er.mono ((x1.trans x2).trans x3))
        · cases e0
      · cases e0
    · cases e0
  · cases e0
theorem tupAt {pins : List (Addr × Obj)} {s : Shared} {σ : L2.St} {H : Hp} {a : Addr} {xs : List V} (I : L2.Inv X pins σ H s) (q : SqT X.K H a xs) : ∃ (ws : List Value) (ob : Obj) (m : Nat), Vals xs ws ∧ s.heap.get? a = some ob ∧ ob.cls = .type "tuple" ∧ ob.data = .seq ws.toArray m := by
  rcases q with q | ⟨ob, ws, m, e, hc, hd, _, hv⟩
  · obtain ⟨_, ws, hv, ob, e, hc, m, hd⟩ := (show ObjOk _ _ H s.heap a (.tup xs) from q.ok I.hok)
    exact ⟨ws, ob, m, hv, e, hc, hd⟩
  · exact ⟨ws.toList, ob, m, hv, I.kIn _ _ e, hc, by simp [hd]⟩
theorem meets_extT (l : Addr) (us : Array Value) (n : Nat) (b : Addr) (o : Obj) (vs : Array Value) (m : Nat) (q0 : ¬(!us.isEmpty && Builtin.List.listTooLong (us.size + vs.size)) = true) (q1 : us.size ≤ sizeLine) (q2 : us.size + vs.size ≤ sizeLine + 1) (hc : o.cls = .type "tuple") (hdt : o.data = .seq vs m) :
    Meets (Builtin.«list.extend» ⟨[.ref l, .ref b], []⟩) (fun _ R s => s.heap.get? l = some { cls := .type "list", dict := none, data := .seq us n, slots := #[] } ∧ s.heap.get? b = some o ∧ R (.ok (.ret Value.none)) { s with heap := s.heap.update l (Obj.mapSeq fun x => x ++ vs), toks := s.toks }) :=
  .of_wp fun prog w A R s h => by
    obtain ⟨oc, od, odt, osl⟩ := o
    cases hc
    cases hdt
    obtain ⟨hp, g, d, tk, os⟩ := s
    obtain ⟨k1, k2, k3⟩ := h
    have f1 := AutoSeq1.idx_int
    have f2 := AutoSeq1.sub_tuple_tuple
    have f3 := AutoSeq1.sub_list_list
    have f4 := AutoSeq1.sub_tuple_list
    have f5 := AutoSeq1.sub_list_tuple
    have q3 : (us ++ vs).size ≤ sizeLine + 1 := by rw [Array.size_append]; exact q2
    wp_walk using (wpAny_updateSeq k1 rfl (hz := q1) (_hz' := q3)), AutoSeq1.wpAny_loadPart' k1, AutoSeq1.wpAny_loadPart' k2
    exact ⟨_, rfl, k3⟩
def rExtA (K : Fg) : V → List V → Hp → VK → Prop := fun x vs H Q => rExtend x vs H Q ∨ ∃ l b xs zs, x = .ref l ∧ vs = [.ref b] ∧ H l = some (.lst xs) ∧ SqT K H b zs ∧ xs.length + zs.length ≤ sizeLine ∧ Q .non (upd H l (.lst (xs ++ zs)))
theorem mt_extA : MtM X "list.extend" (rExtA X.K) := by
  intro pins s σ H x vs v us Q I rx rv h
  rcases h with h | h
  · exact mt_extend pins s σ H x vs v us Q I rx rv h
  obtain ⟨l, b, xs, zs, rfl, rfl, k1, k2, k3, q⟩ := h
  cases rx
  obtain ⟨u, rfl, ru⟩ := rv.one
  cases ru
  obtain ⟨l0, ps, n, r, l1, e⟩ := I.lstM k1
  obtain ⟨qs, o, m, r2, e2, oc, od⟩ := tupAt I k2
  have l2 := r2.length
  have l3 : ps.toArray.size + qs.toArray.size ≤ sizeLine := by rw [List.size_toArray, List.size_toArray]; omega
  have l4 : ¬ (!ps.toArray.isEmpty && Builtin.List.listTooLong (ps.toArray.size + qs.toArray.size)) = true := by
    rw [notLongL l3, Bool.and_false]
    decide
  refine call_meets F.slot_list_extend ⟨_, e, rfl⟩ F.entry_list_extend (F.args_list_extend_2 _ _) (meets_extT l ps.toArray n b o qs.toArray m l4 (by rw [List.size_toArray]; omega) (by omega) oc od) ⟨e, e2, .non, _, I.lset (its' := ps ++ qs) k1 e (by simp) (r.append r2) ?_, rfl, q⟩
  rw [List.length_append]
  omega
theorem ds_ext {o : Expr} {co : CE} {apos cpos : Pos} (ho : DE X Φ o co) (he : DE X Φ e ce) (hs : swapsWith (.Call (.Attribute o "extend" apos) [e] [] cpos) none pos.line X.env = pure false := by rfl) (h1 : attributeBase o "extend" X.env (eval o X.env) = eval o X.env := by rfl)
    (h2 : ((((backTo cpos (starEach [e] X.env)).all fun x => !x.fst) && (backToKw cpos (keywordEach [] X.env)).all fun x => x.fst.isSome) && decide (([e].length + ([] : List Keyword).length + if ([] : List Keyword).isEmpty = true then 0 else 1) < 30)) = true := by rfl)
    (h3 : (apos.endLine == cpos.line) = true := by rfl) (h4 : starEach [e] X.env = (false, eval e X.env) :: starEach [] X.env := by rfl) (h5 : ((backTo cpos (starEach [] X.env)).any fun x => x.fst) = false := by rfl) :
    DS X Φ (.Expr (.Call (.Attribute o "extend" apos) [e] [] cpos) pos) (.ext co ce) := by
  refine psW (ps_expr (pe_bm PySem.F.plainAttrs_list PySem.F.slot_list_extend PySem.F.type_list_extend mt_extA ho (pa_cons he pa_nil h4) h1 h2 h3 h4 h5) hs) fun D σ H h => ?_
  obtain ⟨μ, env, S, r, sr, er, e0, f⟩ := h
  simp only [ex] at e0
  split at e0
  · rename_i k S1 e1
    split at e0
    · rename_i j S2 e2
      split at e0
      · rename_i xs ys e3 e4
        split at e0
        · rename_i hl
          cases e0
          refine ⟨μ, env, S, _, S1, sr, er, e1, fun v μ1 H1 x1 s1 r1 => ?_⟩
          cases r1 with
          | ref hk hkl =>
            refine ⟨.inl ⟨rfl, s1.isL hk hkl⟩, μ1, env, S1, _, S2, s1, er.mono x1, e2, fun u μ2 H2 x2 s2 r2 => ?_⟩
            have hk2 := x2.pre _ _ hk
            obtain ⟨q0, vs, q1, t1⟩ := s2.rm hk2 e3
            cases j <;> simp only [seqW] at e4 <;> try (cases e4; done)
            · cases e4
              cases r2 with
              | tup p1 t2 =>
                obtain ⟨s3, x3⟩ := s2.write hk2 q0 (t1.append t2)
                refine .inr ⟨_, _, vs, _, rfl, rfl, q1, p1, by rw [t1.length, t2.length]; exact lim_ok hl, ?_⟩
                exact f σ μ2 _ ((x1.trans x2).trans x3) s3 (er.mono ((x1.trans x2).trans x3))
            · cases r2 with
              | ref hj =>
                obtain ⟨p0, us, p1, t2⟩ := s2.rm hj e4
                obtain ⟨s3, x3⟩ := s2.write hk2 q0 (t1.append t2)
                refine .inl ⟨_, _, vs, us, rfl, rfl, q1, p1, by rw [t1.length, t2.length]; exact lim_ok hl, ?_⟩
                exact f σ μ2 _ ((x1.trans x2).trans x3) s3 (er.mono ((x1.trans x2).trans x3))
        · cases e0
      · cases e0
    · cases e0
  · cases e0
end
/-! ### a def -/
theorem VWs.start {K : Fg} {μ : List Addr} {H : Hp} {vs : List V} {ws : List W} {N : List Str} (h : VWs K μ H vs ws) : ER K μ H (L2.start N vs) (MP.start N.length ws) := by
  refine ⟨?_, fun i w q => ?_⟩
  · unfold L2.start MP.start
    rw [List.length_append, List.length_append, List.length_map, List.length_map, List.length_replicate, List.length_replicate, h.length]
  · unfold MP.start at q
    unfold L2.start
    by_cases hi : i < ws.length
    · rw [List.getElem?_append_left (by rw [List.length_map]; exact hi), List.getElem?_map, Option.map_eq_some_iff] at q
      obtain ⟨w', q1, q2⟩ := q
      cases q2
      obtain ⟨v, h1, h2⟩ := h.get q1
      refine ⟨v, ?_, h2⟩
      rw [List.getElem?_append_left (by rw [List.length_map, h.length]; exact hi), List.getElem?_map, h1]
      rfl
    · rw [List.getElem?_append_right (by rw [List.length_map]; omega), List.getElem?_replicate] at q
      split at q <;> cases q
theorem fn_ok {P : Program} {w : World} {K : Fg} {mg : Str → Option Value} {base : Heap} {x : Str} {st : Stmt} {f : Addr} {fd : FuncData} {N ps : List Str} {k i n : Nat} {ds : Nat → Option Def} {body : CSs} (F : Fun K x x st f fd) (Sc : FnScope N ps (defScope st)) (hd : ds i = some ⟨n, N.length, body⟩) (hn : ps.length = n)
    (hbody : ∀ (cdv : Value) (A : Around) (outer : List PySem.Env) (s : Shared) (H : Hp) (E : XK), Room k (A.deeper (envOfC x (defScope st) s.heap.objs.size f cdv)) → DSs (cxOf CX0 P w K mg base N x (defScope st) f cdv A outer s H E).nox (callF ds k) (defBody st) body) : FnOk P w K mg base CX0 (k + 1) f fd ps (spD K (callF ds (k + 1)) i n) := by
  refine F.ok Sc (fun vs H Q E h => h.1.trans hn.symm) (fun cdv A outer s H vs Q E hr h => ⟨_, hbody cdv A outer s H E hr, ?_⟩)
  obtain ⟨hl, μ, S, ws, w', S', sr, hv, h1, h2⟩ := h
  simp only [callF, hd] at h1
  split at h1
  · cases hr : exs (callF ds k) body (MP.start N.length ws) S with
    | none =>
      rw [hr] at h1
      cases h1
    | some r =>
      rw [hr] at h1
      refine ⟨μ, _, S, r, sr, hv.start, hr, ?_⟩
      cases r with
      | nx env S2 =>
        cases h1
        exact fun σ' μ' H' x' s' _ => h2 _ μ' H' x' s' .non
      | rt w2 S2 =>
        cases h1
        exact h2
      | bk env S2 => cases h1
      | ct env S2 => cases h1
  · cases h1
end MP
namespace MP
open PySem PySem.Spec PyProof.Rows L2
section
variable {X : Cx} {Φ : Fns} {a b d e tg : Expr} {es : List Expr} {ca cb cd ce : CE} {cs : CEs} {pos : Pos}
theorem de_gstr {x s : Str} {l : List Nat} (h : ∃ t, X.mg x = some (.str s t)) (e : s.cps.toList = l := by decide +kernel) (hg : Gl X x := by rfl) (hd : (x == ("__debug__" : Str)) = false := by decide) : DE X Φ (.Name x pos) (.c (.str l)) := by
  obtain ⟨t, h⟩ := h
  exact de_glob h (v := .str s) ⟨t, rfl⟩ (fun _ _ => .str s l e) hg hd
theorem de_gint {x : Str} {i : Int} (h : ∃ t, X.mg x = some (.int i t)) (hg : Gl X x := by rfl) (hd : (x == ("__debug__" : Str)) = false := by decide) : DE X Φ (.Name x pos) (.c (.int i)) := by
  obtain ⟨t, h⟩ := h
  exact de_glob h (v := .int i) ⟨t, rfl⟩ (fun _ _ => .int i) hg hd
theorem de_gval {x : Str} {w : W} (h : ∃ v u, X.mg x = some u ∧ RelV v u ∧ ∀ μ H, VW X.K μ H v w) (hg : Gl X x := by rfl) (hd : (x == ("__debug__" : Str)) = false := by decide) : DE X Φ (.Name x pos) (.c w) := by
  obtain ⟨v, u, h1, h2, h3⟩ := h
  exact de_glob h1 h2 h3 hg hd
theorem tT_of {c : CE} {t : TE} (i : ∀ σ H Q, tD X.K Φ c σ H Q → t σ H Q) {σ : L2.St} {H : Hp} {Q : Bool → Hp → Prop} (h : tDT X.K Φ c σ H Q) : tB t σ H Q := tTest_of i h
theorem isN_of {neg : Bool} {σ : L2.St} {H : Hp} {Q : VK} (h : tD X.K Φ (.bi (if neg then .notN else .isN) (.cons ca .nil)) σ H Q) : (if neg then tNotN (tD X.K Φ ca) else tIsN (tD X.K Φ ca)) σ H Q := by
  obtain ⟨μ, env, S, w, S', s, er, h1, h2⟩ := h
  simp only [ev, evs] at h1
  split at h1
  · rename_i xs S1 e1
    split at e1
    · rename_i x S2 e2
      cases e1
      cases neg with
      | true =>
        simp only [opI, if_true] at h1
        cases h1
        refine ⟨μ, env, S, x, _, s, er, e2, fun v μ1 H1 x1 s1 r1 => ?_⟩
        have q : decide (v = .non) = isNon x := by cases r1 <;> simp [isNon]
        show Q (V.bl (!decide (v = V.non))) H1
        rw [q]
        exact h2 _ μ1 H1 x1 s1 (.bl _)
      | false =>
        simp only [opI] at h1
        cases h1
        refine ⟨μ, env, S, x, _, s, er, e2, fun v μ1 H1 x1 s1 r1 => ?_⟩
        have q : decide (v = .non) = isNon x := by cases r1 <;> simp [isNon]
        show Q (V.bl (decide (v = V.non))) H1
        rw [q]
        exact h2 _ μ1 H1 x1 s1 (.bl _)
    · cases e1
  · cases h1
theorem dt_isN {j p} (ha : DE X Φ a ca) : DT X Φ (.Compare a [.Is] [.Constant .none j p] pos) (.bi .isN (.cons ca .nil)) :=
  ptW (pt_cmp (pc_isN ha)) fun _ _ _ h => tT_of (fun _ _ _ q => isN_of (neg := false) q) h
theorem dt_notN {j p} (ha : DE X Φ a ca) : DT X Φ (.Compare a [.IsNot] [.Constant .none j p] pos) (.bi .notN (.cons ca .nil)) :=
  ptW (pt_cmp (pc_notN ha)) fun _ _ _ h => tT_of (fun _ _ _ q => isN_of (neg := true) q) h
end
/-! ### ends -/
theorem fn_zero {P : Program} {w : World} {K : Fg} {mg : Str → Option Value} {base : Heap} {f : Addr} {fd : FuncData} {ps : List Str} {i n : Nat} {ds : Nat → Option Def} (h : ps.length = n) : FnOk P w K mg base CX0 0 f fd ps (spD K (callF ds 0) i n) :=
  ⟨fun vs H Q E q => q.1.trans h.symm, fun A outer s H args us vs Q E hr he hb hv q => by
    obtain ⟨_, μ, S, ws, w', S', _, _, h1, _⟩ := q
    cases h1⟩
theorem VWs.ints {K : Fg} {μ : List Addr} {H : Hp} : ∀ ns : List Int, VWs K μ H (ns.map V.int) (ns.map W.int)
  | [] => .nil
  | n :: ns => .cons (.int n) (VWs.ints ns)
/-- the law's call at the script -/
theorem law_in {K : Fg} {H : Hp} {a : Addr} {ns : List Int} {Φ : Fns} {f : Nat} {E : XK} (hO : Only H) (hS : SqL K H a (ns.map V.int)) (h : ∃ S', Φ f [.rol (ns.map W.int)] [] = some (.bl true, S')) : spD K Φ f 1 [.ref a] H (fun v _ => v = .bl true) E := by
  obtain ⟨S', h⟩ := h
  have hz : FzL K H a (ns.map V.int) := by
    rcases hS with (q | ⟨o, q⟩) | q
    · rcases hO a with z | ⟨o, xs, z⟩
      · rw [z] at q; cases q
      · rw [z] at q; cases q
    · exact .inl ⟨o, q⟩
    · exact .inr q
  refine ⟨rfl, [], [], _, _, S', ⟨rfl, fun i j a h => by simp at h, fun k a o h => by simp at h⟩, .cons (.rol hz (VWs.ints ns)) .nil, h, fun v μ' H' _ _ r => ?_⟩
  cases r
  rfl
theorem bind_one {K : Fg} {x y : Str} {st : Stmt} {f : Addr} {fd : FuncData} (F : Fun K x x st f fd) (h : ∀ (kV doc pm : Value) (an : Option Addr) (cdv ct : Value) (u : Value), bindArgs (PySem.W.fnOf x x (defArgs st) (defBody st) (defScope st) .none kV doc pm an cdv ct) ⟨[u], []⟩ = pure [(y, u)]) : ∀ (s : Shared) (u : Value), BindsTo s fd ⟨[u], []⟩ [(y, u)] := by
  obtain ⟨oc, od, kV, doc, pm, an, cdv, ct, osl, rfl, lk, hcd⟩ := F.ex
  exact fun s u => .of_eq (h kV doc pm an cdv ct u)
end MP
namespace MP
abbrev Srt (l : List (List Nat)) : Prop := l.Pairwise (· < ·)
theorem mem_insU (x z : List Nat) : ∀ l : List (List Nat), z ∈ insU x l ↔ z = x ∨ z ∈ l
  | [] => by simp [insU]
  | y :: r => by
    unfold insU
    split
    · simp
    · split
      · rw [List.mem_cons, mem_insU x z r, List.mem_cons]
        constructor
        · rintro (h | h | h)
          · exact .inr (.inl h)
          · exact .inl h
          · exact .inr (.inr h)
        · rintro (h | h | h)
          · exact .inr (.inl h)
          · exact .inl h
          · exact .inr (.inr h)
      · rename_i h1 h2
        have e : x = y := List.le_antisymm h2 h1
        subst e
        simp
theorem srt_insU (x : List Nat) : ∀ l : List (List Nat), Srt l → Srt (insU x l)
  | [], _ => by simp [insU]
  | y :: r, h => by
    have h := List.pairwise_cons.mp h
    unfold insU
    split
    · rename_i hx
      refine List.pairwise_cons.mpr ⟨fun z hz => ?_, List.pairwise_cons.mpr h⟩
      rcases List.mem_cons.mp hz with q | q
      · rw [q]; exact hx
      · exact List.lt_trans hx (h.1 z q)
    · split
      · rename_i hy
        refine List.pairwise_cons.mpr ⟨fun z hz => ?_, srt_insU x r h.2⟩
        rcases (mem_insU x z r).mp hz with q | q
        · rw [q]; exact hy
        · exact h.1 z q
      · exact List.pairwise_cons.mpr h
theorem srt_sortU : ∀ ys : List (List Nat), Srt (sortU ys)
  | [] => .nil
  | y :: r => srt_insU y _ (srt_sortU r)
theorem mem_sortU (z : List Nat) : ∀ ys : List (List Nat), z ∈ sortU ys ↔ z ∈ ys
  | [] => by simp [sortU]
  | y :: r => by
    show z ∈ insU y (sortU r) ↔ _
    rw [mem_insU, mem_sortU z r, List.mem_cons]
theorem srt_uniq : ∀ l m : List (List Nat), Srt l → Srt m → (∀ z, z ∈ l ↔ z ∈ m) → l = m
  | [], [], _, _, _ => rfl
  | [], y :: r, _, _, h => absurd ((h y).mpr List.mem_cons_self) (by simp)
  | x :: r, [], _, _, h => absurd ((h x).mp List.mem_cons_self) (by simp)
  | x :: r, y :: t, hl, hm, h => by
    have hl := List.pairwise_cons.mp hl
    have hm := List.pairwise_cons.mp hm
    have e : x = y := by
      rcases List.mem_cons.mp ((h x).mp List.mem_cons_self) with q | q
      · exact q
      · rcases List.mem_cons.mp ((h y).mpr List.mem_cons_self) with q' | q'
        · exact q'.symm
        · exact absurd (List.lt_trans (hl.1 y q') (hm.1 x q)) (List.lt_irrefl x)
    subst e
    rw [srt_uniq r t hl.2 hm.2 fun z => ?_]
    constructor
    · intro hz
      rcases List.mem_cons.mp ((h z).mp (List.mem_cons_of_mem _ hz)) with q | q
      · subst q
        exact absurd (hl.1 z hz) (List.lt_irrefl z)
      · exact q
    · intro hz
      rcases List.mem_cons.mp ((h z).mpr (List.mem_cons_of_mem _ hz)) with q | q
      · subst q
        exact absurd (hm.1 z hz) (List.lt_irrefl z)
      · exact q
/-- what is the same as a set is sorted alike -/
theorem sortU_congr {a b : List (List Nat)} (h : ∀ z, z ∈ a ↔ z ∈ b) : sortU a = sortU b :=
  srt_uniq _ _ (srt_sortU a) (srt_sortU b) fun z => by rw [mem_sortU, mem_sortU, h]
theorem len_insU (x : List Nat) : ∀ l : List (List Nat), (insU x l).length ≤ l.length + 1
  | [] => by simp [insU]
  | y :: r => by
    unfold insU
    split
    · simp
    · split
      · simp only [List.length_cons]
        have := len_insU x r
        omega
      · simp
theorem len_sortU : ∀ ys : List (List Nat), (sortU ys).length ≤ ys.length
  | [] => Nat.le_refl _
  | y :: r => by
    have h1 := len_insU y (sortU r)
    have h2 := len_sortU r
    show (insU y (sortU r)).length ≤ r.length + 1
    omega
end MP
namespace MP
open PySem PySem.Spec PyProof.Rows L2
/-! ### sets of texts: set(list), sorted(set) -/
def GoodT (w : World) (e : Int × Value) : Prop := ∃ x tk, e.2 = Value.str x tk ∧ e.1 = hashStr w x
def keyT (e : Int × Value) : Str := match e.2 with
  | .str x _ => x
  | _ => Str.empty
def SetT (w : World) (h : Heap) (a : Addr) (S : Str → Bool) (n : Nat) : Prop :=
  ∃ o es ep t, (h.get? a = some o ∧ o.ExactSet ∧ o.data = .set es ep t) ∧ ((∀ e ∈ es.toList, GoodT w e) ∧ (es.toList.map keyT).Nodup ∧ ∀ k, S k = true ↔ k ∈ es.toList.map keyT) ∧
    (es.size < scanBound ∧ t.fits es.size = true ∧ es.size = n) ∧ Ris t.place.toList ∧ (w.params.followText "set-order" = true ∨ t.led = true)
section
variable {P : Program} {w : World} {h h' : Heap} {a : Addr} {S : Str → Bool} {n : Nat}
theorem SetT.at (R : SetT w h a S n) (k : ∀ o, h.get? a = some o → h'.get? a = some o) : SetT w h' a S n := by
  obtain ⟨o, es, ep, t, ⟨ho, q⟩, r⟩ := R
  exact ⟨o, es, ep, t, ⟨k o ho, q⟩, r⟩
theorem SetT.congr {S' : Str → Bool} (R : SetT w h a S n) (e : ∀ k, S' k = S k) : SetT w h a S' n := by
  rw [show S' = S from funext e]
  exact R
theorem goodT_elems {l : List (Int × Value)} (g : ∀ e ∈ l, GoodT w e) : ElemsOf (PySem.strKind P w) l := fun e he => by
  obtain ⟨k, tk, h1, h2⟩ := g e he
  exact ⟨⟨k, by rw [h1]; exact PySem.strKind_is P w k tk, h2⟩, by rw [h1] <;> rfl⟩
theorem goodT_is {e : Int × Value} (g : GoodT w e) (k : Str) : (PySem.strKind P w).is k e.2 = true ↔ keyT e = k := by
  obtain ⟨k0, tk, h1, _⟩ := g
  unfold keyT
  rw [h1]
  constructor
  · intro q
    obtain ⟨t, q2⟩ := Value.isStrOf_shape (x := k) (v := Value.str k0 tk) q
    cases q2
    rfl
  · intro q
    have q2 : k0 = k := q
    rw [q2]
    exact PySem.strKind_is P w k tk
theorem goodT_mem {l : List (Int × Value)} (g : ∀ e ∈ l, GoodT w e) (k : Str) : k ∈ l.map keyT ↔ ∃ e ∈ l, (PySem.strKind P w).is k e.2 = true := by
  rw [List.mem_map]
  exact ⟨fun ⟨e, he, q⟩ => ⟨e, he, (goodT_is (g e he) k).2 q⟩, fun ⟨e, he, q⟩ => ⟨e, he, (goodT_is (P := P) (g e he) k).1 q⟩⟩
end
section
variable {P : Program} {w : World} {A : Around} {E : Value → Shared → Prop} {s : Shared} {a : Addr} {S : Str → Bool} {n : Nat}
theorem setT_tail {g : Bool → Sem Unit} (hg : ∀ (b : Bool) (s₁ : Shared) (Q' : Unit → Shared → Prop), Q' () s₁ → wpAny (model P w) A (g b) Q' E s₁) {o : Obj} {es : Array (Int × Value)} {ep : Nat} {t : SetTable} (ho : s.heap.get? a = some o) (hex : o.ExactSet) (hd : o.data = .set es ep t)
    {es1 : Array (Int × Value)} {t2 : SetTable} {S' : Str → Bool} (g1 : ∀ e ∈ es1.toList, GoodT w e) (nd1 : (es1.toList.map keyT).Nodup) (m1 : ∀ k, S' k = true ↔ k ∈ es1.toList.map keyT) (hb1 : es1.size < scanBound) (hf2 : t2.fits es1.size = true)
    (hr : Ris t2.place.toList) (hl : w.params.followText "set-order" = true ∨ t2.led = true) {wasDummy : Bool} {R : Option Bool → Shared → Prop} (hR : ∀ h', Heap.SameBut a s.heap h' → SetT w h' a S' es1.size → R (some true) { s with heap := h' }) :
    wpAny (model P w) A (do
        storeSet a es1 t2
        if (!wasDummy && t2.tooFull) = true then do
            g (relayAll t2 es1 (SetTable.grown es1.size)).2.2
            storeSet a (relayAll t2 es1 (SetTable.grown es1.size)).1 (relayAll t2 es1 (SetTable.grown es1.size)).2.1
            pure (some true)
          else pure (some true)) R E s := by
  have ho1 := store_at (es' := es1) (t' := t2) ho hd; have sb1 := Heap.SameBut.update s.heap a (Obj.putSet es1 t2)
  refine wpAny_bind (wpAny_storeSet_of ho hd (?_ : _) (fits_of_scanBound hb1))
  split
  · have pm := relayAll_perm t2 es1 (SetTable.grown es1.size); have hf3 := relayAll_fits t2 es1 (SetTable.grown es1.size); have hr3 := relayAll_ris t2 es1 (SetTable.grown es1.size); have hl3 := relayAll_led t2 es1 (SetTable.grown es1.size)
    generalize relayAll t2 es1 (SetTable.grown es1.size) = Z at pm hf3 hr3 hl3 ⊢; obtain ⟨es2, t3, gave⟩ := Z
    dsimp only at pm hf3 hr3 hl3 ⊢
    have hsz : es2.size = es1.size := by
      have q := pm.length_eq
      simpa using q
    have hb2 : es2.size < scanBound := by omega
    have ho2 := store_at (es' := es2) (t' := t3) ho1 rfl
    refine wpAny_bind (hg _ _ _ (wpAny_bind (wpAny_storeSet_of ho1 rfl (wpAny_pure (hR _ (sb1.trans (Heap.SameBut.update _ a _)) ?_)) (fits_of_scanBound hb2))))
    exact ⟨_, es2, _, t3, ⟨ho2, hex, rfl⟩, ⟨fun e he => g1 e (pm.mem_iff.mp he), (pm.map keyT).nodup_iff.mpr nd1, fun k => (m1 k).trans (pm.map keyT).mem_iff.symm⟩, ⟨hb2, hf3, hsz⟩, hr3, hl.imp id fun z => by rw [hl3]; exact z⟩
  · exact wpAny_pure (hR _ sb1 ⟨_, es1, _, t2, ⟨ho1, hex, rfl⟩, ⟨g1, nd1, m1⟩, ⟨hb1, hf2, rfl⟩, hr, hl⟩)
theorem setT_add {k : Str} {tk : Tok} {Q : Bool → Shared → Prop} (R : SetT w s.heap a S n) (room : n + 1 < scanBound) (hQ : ∀ h', Heap.SameBut a s.heap h' → SetT w h' a (fun j => S j || decide (j = k)) (if S k = true then n else n + 1) → Q (!S k) { s with heap := h' }) :
    wpAny (model P w) A (setAddHashed a (.str k tk) ((PySem.strKind P w).hash k)) Q E s := by
  obtain ⟨o, es, ep, t, ⟨ho, hex, hd⟩, ⟨g, nd, hm⟩, ⟨hb, hf, hn⟩, hr, hl⟩ := R
  have hkey : (PySem.strKind P w).is k (.str k tk) = true := PySem.strKind_is P w k tk
  have hsc : (Value.str k tk).scannable = true := rfl
  have hel : ElemsOf (PySem.strKind P w) es.toList := goodT_elems g
  unfold setAddHashed setAddHashedIn
  refine wpAny_holding (wpAny_bind (wpAny_setState_of ho hd hf (?_ : _)))
  dsimp only
  rw [byScan_of hsc hb hel]; simp only [↓reduceIte]; unfold setAddByScan
  refine wpAny_bind (wpAny_bind (wpAny_rule (wpAny_bind (wpAny_setScan_of hkey ho hd hf hel ?_))))
  cases hfi : List.findIdx? (fun e => (PySem.strKind P w).is k e.2) es.toList with
  | some j =>
    dsimp only
    obtain ⟨hj, pj, _⟩ := List.findIdx?_eq_some_iff_getElem.mp hfi
    have hSk : S k = true := (hm k).2 ((goodT_mem (P := P) (w := w) g k).2 ⟨es.toList[j], List.getElem_mem hj, pj⟩)
    have q := hQ s.heap (Heap.SameBut.refl a s.heap) ⟨o, es, ep, t, ⟨ho, hex, hd⟩, ⟨g, nd, fun i => by
      rw [Bool.or_eq_true, decide_eq_true_eq, ← hm i]
      exact ⟨fun z => z.elim id (fun e => e ▸ hSk), .inl⟩⟩, ⟨hb, hf, by rw [if_pos hSk]; exact hn⟩, hr, hl⟩
    rw [hSk] at q
    exact wpAny_pure (wpAny_pure q)
  | none =>
    dsimp only
    have hnk : k ∉ es.toList.map keyT := fun z => by
      obtain ⟨e, he, q⟩ := (goodT_mem (P := P) (w := w) g k).1 z
      rw [List.findIdx?_eq_none_iff.mp hfi e he] at q; cases q
    have hSk : S k = false := Bool.eq_false_iff.mpr fun q => hnk ((hm k).1 q)
    have hgw : ∀ (b : Bool) {s₁ : Shared} {Q' : Unit → Shared → Prop}, Q' () s₁ → wpAny (model P w) A (match b with | true => rule "set.scan.the-table-gave-way" | false => pure ()) Q' E s₁ := fun b s₁ Q' q => by
      cases b
      · exact wpAny_pure q
      · exact wpAny_rule q
    have pm := layNew_perm t es ((PySem.strKind P w).hash k) (.str k tk); have hf1 := layNew_fits t es ((PySem.strKind P w).hash k) (.str k tk); have hr1 := layNew_ris t es ((PySem.strKind P w).hash k) (.str k tk) hr; have hl1 := layNew_led t es ((PySem.strKind P w).hash k) (.str k tk)
    generalize layNew t es ((PySem.strKind P w).hash k) (.str k tk) = Z at pm hf1 hr1 hl1 ⊢; obtain ⟨es1, t1, wasDummy, gave⟩ := Z
    dsimp only at pm hf1 hr1 hl1 ⊢
    rw [Array.toList_push] at pm
    have pc : es1.toList.Perm (((PySem.strKind P w).hash k, Value.str k tk) :: es.toList) := pm.trans (List.perm_append_singleton _ _)
    have pk : (es1.toList.map keyT).Perm (k :: es.toList.map keyT) := pc.map keyT
    have g1 : ∀ e ∈ es1.toList, GoodT w e := fun e he => by
      rcases List.mem_cons.mp (pc.mem_iff.mp he) with z | z
      · exact ⟨k, tk, by rw [z], by rw [z]; rfl⟩
      · exact g e z
    have nd1 : (es1.toList.map keyT).Nodup := pk.nodup_iff.mpr (List.nodup_cons.mpr ⟨hnk, nd⟩)
    have m1 : ∀ i, (S i || decide (i = k)) = true ↔ i ∈ es1.toList.map keyT := fun i => by
      rw [Bool.or_eq_true, decide_eq_true_eq, hm i, pk.mem_iff, List.mem_cons, Or.comm]
    have hsz : es1.size = n + 1 := by
      have q := pc.length_eq
      simp at q
      omega
    have hb1 : es1.size < scanBound := by omega
    have hled : w.params.followText "set-order" = true ∨ t1.led = true := hl.imp id fun z => by rw [hl1, z]
    have fin : ∀ h', Heap.SameBut a s.heap h' → SetT w h' a (fun j => S j || decide (j = k)) es1.size → Q true { s with heap := h' } := fun h' sb r => by
      have q := hQ h' sb
      rw [hSk] at q; rw [hsz] at r
      exact q r
    refine wpAny_bind (hgw _ (?_ : _))
    split
    · refine wpAny_bind ?_; rw [hashByValue_scannable 8 hsc]
      refine wpAny_pure (setT_tail (?_ : _) ho hex hd g1 nd1 m1 hb1 ?_ ?_ ?_ ?_)
      · intro b s₁ Q' q; cases b <;> first | exact wpAny_pure q | exact wpAny_rule q
      · first | (split <;> first | exact hf1 | exact SetTable.fits_plain_off hf1) | exact hf1
      · first | (split <;> exact hr1) | exact hr1
      · first | (split <;> exact hled) | exact hled
      · exact fun h' sb r => by dsimp only; exact wpAny_pure (fin h' sb r)
    · refine wpAny_bind (wpAny_pure (?_ : _)); simp only [↓reduceIte]
      refine setT_tail (?_ : _) ho hex hd g1 nd1 m1 hb1 hf1 hr1 hled ?_
      · intro b s₁ Q' q; cases b <;> first | exact wpAny_pure q | exact wpAny_rule q
      · exact fun h' sb r => by dsimp only; exact wpAny_pure (fin h' sb r)
end
end MP
namespace MP
open PySem PySem.Spec PyProof.Rows L2
abbrev fset (w : World) : Obj := { cls := .type "set", dict := none, data := .set #[] 0 (.fresh 0 0 (!w.params.followText "set-order")) }
theorem setT_new {w : World} {h : Heap} {a : Addr} (ho : h.get? a = some (fset w)) : SetT w h a (fun _ => false) 0 :=
  ⟨_, #[], 0, _, ⟨ho, ⟨rfl, rfl, rfl⟩, rfl⟩, ⟨(fun e he => by simp at he), by simp, fun k => by simp⟩, ⟨by decide, by rfl, rfl⟩, List.Pairwise.nil, by
    show _ ∨ (!w.params.followText "set-order") = true
    cases w.params.followText "set-order" <;> simp⟩
theorem strs_at : ∀ {vs : List Value} {ns : List Str}, PyProof.Rows.StrsAre vs ns → ∀ (i : Nat) (v : Value), vs[i]? = some v → ∃ k t, ns[i]? = some k ∧ v = .str k t
  | _, _, .nil, i, v, h => by simp at h
  | _, _, .cons y t r, 0, v, h => by simp at h; exact ⟨y, t, rfl, h.symm⟩
  | _, _, .cons y t r, i + 1, v, h => strs_at r i v (by simpa using h)
section
variable {P : Program} {w : World} {A : Around} {E : Value → Shared → Prop} {s : Shared}
theorem set_update_txts {I : Addr} {fp wr : List Addr} {G : Array GenState → Array GenState → Prop} {n : Nat} {Pv : Nat → Value → Prop} {St : Nat → Shared → Prop} {R : Result → Shared → Prop} (W : WalksS P w A.in1 I fp wr G n Pv St) (S : Addr) (hSf : S ∉ fp)
    (ns : List Str) (hn : n = ns.length) (hb : ns.length + 1 < scanBound) (hval : ∀ i v, Pv i v → ∃ k t, ns[i]? = some k ∧ v = .str k t) : ∀ (k i : Nat) (s : Shared), n - i = k → i ≤ n → St i s → (∃ c, c ≤ i ∧ SetT w s.heap S (fun j => decide (j ∈ ns.take i)) c) →
      (∀ s' c, Moved (S :: wr) G s s' → c ≤ n → SetT w s'.heap S (fun j => decide (j ∈ ns)) c → R (.ok (.ret .none)) s') → codeAny (model P w) A (.builtin "set.update.loop" ⟨[.ref S, .ref I], []⟩) R s := by
  have hSw : S ∉ wr := fun h => hSf (W.sub _ h); have hsub : ∀ b ∈ wr, b ∈ S :: wr := fun b hb => List.mem_cons_of_mem _ hb
  intro k
  induction k with
  | zero =>
    intro i s hk' hi hst ⟨c, hc, hS⟩ hR
    obtain rfl : i = n := by omega
    refine codeAny_builtin PyProof.Rows.F.entry_set_update_loop (?_ : _); rw [Around.under_plainId PyProof.Rows.F.plain_set_update_loop _]
    show wpAny _ A.in1 (pyNext (.ref I) >>= _) _ _ s
    refine wpAny_bind (W.done s _ _ hst fun s' hm => (?_ : _)); show wpAny _ A.in1 (ret Value.none) _ _ s'
    rw [List.take_of_length_le (show ns.length ≤ i by omega)] at hS
    exact wpAny_pure (hR s' c (hm.mono hsub) hc (hS.at fun o e => hm.heap S o hSw e))
  | succ k ih =>
    intro i s hk' hi hst ⟨c, hc, hS⟩ hR
    have hlt : i < n := by omega
    refine codeAny_builtin PyProof.Rows.F.entry_set_update_loop (?_ : _); rw [Around.under_plainId PyProof.Rows.F.plain_set_update_loop _]
    show wpAny _ A.in1 (pyNext (.ref I) >>= _) _ _ s
    refine wpAny_bind (W.item i s _ _ hlt hst fun v s' hP hst' hm => (?_ : _)); obtain ⟨z, t, hz, rfl⟩ := hval i v hP
    have hS' : SetT w s'.heap S (fun j => decide (j ∈ ns.take i)) c := hS.at fun o e => hm.heap S o hSw e
    show wpAny _ A.in1 (holding [Value.str z t] (setAdd S (.str z t)) >>= _) _ _ s'
    refine wpAny_bind (wpAny_holding (?_ : _)); unfold setAdd
    refine wpAny_holding (wpAny_bind ((PySem.strKind P w).pyHash (k := z) (PySem.strKind_is _ _ _ _) (?_ : _)))
    refine setT_add (s := { s' with toks := s'.toks + 1 }) hS' (by omega) fun h' hsb hS2 => ?_
    have hS3 : SetT w h' S (fun j => decide (j ∈ ns.take (i + 1))) (if decide (z ∈ ns.take i) = true then c else c + 1) := hS2.congr fun j => by
      rw [List.take_add_one, hz]
      simp [List.mem_append]
    have hc3 : (if decide (z ∈ ns.take i) = true then c else c + 1) ≤ i + 1 := by split <;> omega
    refine wpAny_pure ⟨plainId_quiet PyProof.Rows.F.plain_set_update_loop _, ih (i + 1) _ (by omega) hlt (W.frame _ s' _ _ hst' (Nat.le_succ _) fun b hb o e => (?_ : _)) ⟨_, hc3, hS3⟩ fun s'' c2 hm'' hc'' hS'' => ?_⟩
    · rw [hsb.2 b (fun q : b = S => hSf (q ▸ hb))]; exact e
    · refine hR s'' c2 (Moved.trans W.gtrans ((hm.mono hsub).then_heap (Nat.le_succ _) fun b o hb e => (?_ : _)) hm'') hc'' hS''; rw [hsb.2 b (fun q : b = S => hb (q ▸ List.mem_cons_self))]; exact e
theorem call_set_txts {l : Addr} {items : Array Value} (ns : List Str) {Q : Value → Shared → Prop} (hh : A.handled = none) (hl : s.heap.IsList l items) (hit : PyProof.Rows.StrsAre items.toList ns) (hb : ns.length + 1 < scanBound)
    (h : ∀ (h' : Heap) (tk c : Nat), SetT w h' s.heap.objs.size (fun j => decide (j ∈ ns)) c → c ≤ ns.length → (∀ b o, s.heap.get? b = some o → h'.get? b = some o) → Q (.ref s.heap.objs.size) { s with heap := h', toks := tk }) : wpAny (model P w) A (call (.type "set") [.ref l]) Q E s := by
  have hisz : items.size = ns.length := by
    have q := PyProof.Rows.StrsAre.length hit
    simpa using q
  obtain ⟨c, tl, hmro⟩ := PySem.F.called_set.mro; have hmade := PySem.F.called_set.made; have hsub := PySem.F.called_set.sub
  refine wpAny_call (codeAny_of_tree (?_ : _)); show wpAny _ _ (callAny (.type "set") _) _ _ _
  refine wpAny_pure ⟨Code.quiet_builtin _ (by decide +kernel), codeAny_builtin PySem.F.entry_type_call (?_ : _)⟩
  rw [Around.under_plain (weight_type_call_type "set" [.ref l] []) rfl]
  have h1 := PySem.F.called_set.notType; have h2 := PySem.F.called_set.canCreate; have hct := PySem.F.typeCall_set_1 (.ref l)
  repeat (any_goals (first | assumption | wp_step))
  refine codeAny_mono (L2.code_set_led1 (.ref l) (E := E) (Q₁ := fun obj s₁ => obj = .ref s.heap.objs.size ∧ s₁ = { s with heap := s.heap.push (fset w) }) ⟨rfl, rfl⟩) fun r s₁ hr => ?_
  cases r with
  | error e => exact hr
  | ok fl =>
    cases fl with
    | ret obj =>
      obtain ⟨rfl, rfl⟩ := hr
      have hS : (s.heap.push (fset w)).get? s.heap.objs.size = some (fset w) := Heap.get?_push_size _ rfl
      have hT : Shared.TypeIs { s with heap := s.heap.push (fset w) } (.ref s.heap.objs.size) "set" := ⟨_, hS, rfl⟩
      have hli := PySem.F.called_set.init.lookup; have hbi := PySem.F.called_set.init.bind (.ref s.heap.objs.size)
      repeat (any_goals (first | assumption | wp_step))
      refine codeAny_mono (codeAny_call_builtin (R := wants (fun r s₂ => r = .none ∧ ∃ h' tk c, s₂ = { s with heap := h', toks := tk } ∧ SetT w h' s.heap.objs.size (fun j => decide (j ∈ ns)) c ∧ c ≤ ns.length ∧ (∀ b o, s.heap.get? b = some o → h'.get? b = some o)) E) PySem.F.called_set.init.plain PySem.F.entry_set_init (check_set_init_1 hT ?_)) fun r₂ s₂ hr₂ => ?_
      · obtain ⟨ol, hol, hcl, nl, hdl⟩ := hl; obtain ⟨ocls, odict, odata, oslots⟩ := ol
        simp only at hcl hdl
        subst hcl; subst hdl
        have hol' : (s.heap.push (fset w)).get? l = some { cls := .type "list", dict := odict, data := .seq items nl, slots := oslots } := Heap.get?_push_of_some _ hol
        have hsls := PySem.F.sub_list_set; have hslf := PySem.F.sub_list_frozenset; have hne : (Value.type "list" == Value.type "dict") = false := by decide
        have hl1 : (s.heap.push (fset w)).IsList l items := ⟨_, hol', rfl, nl, rfl⟩
        unfold Builtin.«set.__init__» noKeywords Builtin.Frozenset.updateFrom; generalize hPI : pyIter = PI
        wp_walk
        subst hPI
        refine wpAny_pyIter_list hl1 (wpAny_bind (wpAny_runValue (?_ : _)))
        have hlS : l < s.heap.objs.size := Heap.lt_size hol; have hh3 : A.in1.in1.in1.handled = none := by simp [hh]
        have hz : (s.heap.push (fset w)).objs.size = s.heap.objs.size + 1 := Heap.size_push ..
        have hneI : l ≠ (s.heap.push (fset w)).objs.size := by rw [hz]; exact Nat.ne_of_lt (Nat.lt_succ_of_lt hlS)
        have hSf : s.heap.objs.size ∉ [(s.heap.push (fset w)).objs.size, l] := by
          rw [hz]; simp only [List.mem_cons, List.not_mem_nil, or_false, not_or]
          exact ⟨Nat.ne_of_lt (Nat.lt_succ_self _), fun q => Nat.lt_irrefl _ (q ▸ hlS)⟩
        have hval : ∀ (i : Nat) (v : Value), items[i]? = some v → ∃ k t, ns[i]? = some k ∧ v = .str k t := fun i v hv => by
          have hv' : items.toList[i]? = some v := by rw [Array.getElem?_toList]; exact hv
          exact strs_at hit i v hv'
        refine set_update_txts ((Walks.list hh3 _ l hneI items).toS) s.heap.objs.size hSf ns hisz hb hval (items.size - 0) 0 _ (by omega) (Nat.zero_le _) ⟨⟨_, Heap.get?_push_size _ rfl, rfl, rfl⟩, (hl1.push _)⟩ ?hS0 ?hR
        case hS0 =>
          have hget : ((s.heap.push (fset w)).push { cls := .type "list_iterator", data := .fields #[.ref l, .int 0 0] }).get? s.heap.objs.size = some (fset w) := Heap.get?_push_of_some _ hS
          exact ⟨0, Nat.le_refl 0, (setT_new hget).congr fun k => by simp⟩
        case hR =>
          intro s' c' hm hc' hS'
          obtain ⟨h', g2, d', tk', os'⟩ := s'
          obtain rfl : g2 = s.gens := hm.gens
          obtain rfl : d' = s.drawn := hm.drawn
          obtain rfl : os' = s.os := hm.os
          show wpAny _ _ _ _ _ _
          refine wpAny_pure (?_ : _); show wpAny _ _ (ret Value.none) _ _ _
          refine wpAny_pure ⟨rfl, h', tk', c', rfl, hS', by omega, fun b o e => ?_⟩
          have hb0 : b < s.heap.objs.size := Heap.lt_size e
          refine hm.heap b o ?_ (Heap.get?_push_of_some _ (Heap.get?_push_of_some _ e)); rw [hz]; simp only [List.mem_cons, List.not_mem_nil, or_false, not_or]; exact ⟨Nat.ne_of_lt hb0, Nat.ne_of_lt (Nat.lt_succ_of_lt hb0)⟩
      · cases r₂ with
        | error e => exact hr₂
        | ok fl₂ =>
          cases fl₂ with
          | ret r =>
            obtain ⟨rfl, h', tk, c', rfl, hS', hc', hk'⟩ := hr₂
            repeat (any_goals (first | assumption | wp_step))
            exact h _ _ _ hS' hc' hk'
          | _ => exact hr₂.elim
    | _ => exact hr.elim
theorem strsAre_of_all : ∀ (l : List Value), (∀ v ∈ l, ∃ k tk, v = Value.str k tk) → PyProof.Rows.StrsAre l (l.map fun v => match v with | .str x _ => x | _ => Str.empty)
  | [], _ => .nil
  | v :: r, h => by
    obtain ⟨k, tk, rfl⟩ := h v List.mem_cons_self
    exact .cons _ _ (strsAre_of_all r fun u hu => h u (List.mem_cons_of_mem _ hu))
theorem sorted_setT {a : Addr} {S : Str → Bool} {n : Nat} {Q : Value → Shared → Prop} (R : SetT w s.heap a S n) (hh : A.handled = none) (h64 : n < 64)
    (hQ : ∀ s' p (out : Array Value) (c : Nat) (ns : List Str), (∀ b o, s.heap.get? b = some o → s'.heap.get? b = some o) → s'.gens = s.gens → s'.os = s.os → s.heap.objs.size ≤ p → s'.heap.get? p = some (seqObj "list" out c) → PyProof.Rows.StrsAre out.toList ns → sortedS ns = true → ns.Nodup → (∀ k, k ∈ ns ↔ S k = true) → ns.length = n → Q (.ref p) s') :
    wpAny (model P w) A (call (.builtin "sorted") [.ref a]) Q E s := by
  obtain ⟨o, es, ep, t, ⟨ho, hex, hd⟩, ⟨g, nd, hm⟩, ⟨hb, hf, hn⟩, hr, hl⟩ := R
  refine Calls.call_function_entry kind_sorted plain_sorted entry_sorted (args_sorted1 _) (?_ : _); unfold Builtin.«sorted»
  refine wpAny_bind (m := checkCount "sorted" 1 1 _) (wpAny_pure (wpAny_bind (collect_set (A := A.in1) hh ⟨o, ho, hex.1, hd⟩ hf hb hr hl fun s1 vs k1 hz g1 o1 pm => ?_)))
  have hvl : vs.length = n := by
    have q := pm.length_eq
    simp at q
    omega
  have hI := strsAre_of_all vs fun v hv => by
    obtain ⟨e, he, q⟩ := List.mem_map.mp (pm.mem_iff.mp hv)
    obtain ⟨k, tk, h1, _⟩ := g e he
    exact ⟨k, tk, by rw [← q]; exact h1⟩
  have pk : (vs.map fun v => match v with | .str x _ => x | _ => Str.empty).Perm (es.toList.map keyT) := by
    have q := pm.map fun v => (match v with | .str x _ => x | _ => Str.empty : Str)
    rw [List.map_map] at q
    exact q
  refine wpAny_bind (wpAny_newList (?_ : _) (by rw [hvl, sizeLine_eq]; omega))
  have hoL : (s1.heap.push (seqObj "list" vs.toArray 0)).get? s1.heap.objs.size = some (seqObj "list" vs.toArray 0) := Heap.get?_push_size _ rfl
  refine wpAny_bind (wpAny_holding (wpAny_call_entry slot_list_sort ⟨_, hoL, rfl⟩ entry_list_sort (list_sort_treeK strKind_oneLt hoL hI.keysOf (fun v₁ v₂ rest e => keyKind_strs (by rw [← e]; exact hI)) (by rw [hvl]; exact h64) fun st' hp hs => ⟨_, rfl, ?_⟩) (args_list_sort _)))
  obtain ⟨ns', a1, a2, a3⟩ := sorted_out_str hI hp hs
  obtain ⟨c, hc⟩ := sortedHeap_at (vs := vs) (out := (arrOf st').map (·.2)) hoL
  have pn : ns'.Perm (es.toList.map keyT) := a2.trans pk
  refine wpAny_pure ⟨_, rfl, hQ _ s1.heap.objs.size _ c ns' (fun b u e => ?_) g1 o1 hz hc a1 a3 (pn.nodup_iff.mpr nd) (fun k => by rw [pn.mem_iff, ← hm k]) ?_⟩
  · have q := k1 b u e; have hlt := Heap.lt_size q
    show (sortedHeap (s1.heap.push (seqObj "list" vs.toArray 0)) s1.heap.objs.size vs _).get? b = some u
    rw [sortedHeap_old (Nat.ne_of_lt hlt) (by rw [size_push']; exact Nat.lt_succ_of_lt hlt)]; exact Heap.get?_push_of_some _ q
  · have q := pn.length_eq
    simp at q
    omega
end
/-! ### the layer's rules -/
def SetTO (w : World) (a : Addr) (S : Str → Bool) (n : Nat) : HO := .ext fun h => SetT w h a S n
section
variable {X : Cx}
theorem setTO_new {w : World} {P : Program} {H : Hp} {h : Heap} {a : Addr} {S : Str → Bool} {n : Nat} (R : SetT w h a S n) : ObjOk P w H h a (SetTO w a S n) := by
  have ⟨o, _, _, _, ⟨ho, _⟩, _⟩ := R
  exact ⟨R, ⟨o, ho⟩, fun h1 h2 p k => SetT.at p k⟩
theorem strsAre_vals {xs : List Str} : ∀ {us : List Value}, Vals (xs.map V.str) us → PyProof.Rows.StrsAre us xs := by
  induction xs with
  | nil => intro us r; cases r; exact .nil
  | cons x r ih =>
    intro us q
    cases q with
    | cons a b =>
      obtain ⟨t, rfl⟩ := a
      exact .cons x t (ih b)
theorem vals_strsAre : ∀ {us : List Value} {xs : List Str}, PyProof.Rows.StrsAre us xs → Vals (xs.map V.str) us
  | _, _, .nil => .nil
  | _, _, .cons y t r => .cons ⟨t, rfl⟩ (vals_strsAre r)
def rSetL (K : Fg) (w : World) : List V → Hp → VK → Prop := fun vs H Q => ∃ (p : Addr) (xs : List Str), vs = [.ref p] ∧ SqL K H p (xs.map V.str) ∧ xs.length ≤ 60 ∧ ∀ q c, H q = none → c ≤ xs.length → Q (.ref q) (upd H q (SetTO w q (fun j => decide (j ∈ xs)) c))
theorem cr_setL (hc : X.calm = true) : CallR X (.type "set") (rSetL X.K X.w) := by
  intro pins s σ H vs us Q I r h
  obtain ⟨p, xs, rfl, hs, hl, q⟩ := h
  obtain ⟨its, rv, pl, hz⟩ := I.list hs
  rw [Vals.ref1 r]
  refine call_set_txts xs (I.ok.hd hc) pl.isList (by simpa using strsAre_vals rv) (by unfold scanBound; omega) fun h' tk c R hc' hk => ?_
  have hn : H s.heap.objs.size = none := I.hok.fresh (Nat.le_refl _)
  exact ⟨.ref _, upd H s.heap.objs.size (SetTO X.w s.heap.objs.size (fun j => decide (j ∈ xs)) c), I.laid (t' := tk) hk (Nat.le_refl _) (setTO_new R), rfl, q _ c hn hc'⟩
def rSortT (w : World) : List V → Hp → VK → Prop := fun vs H Q => ∃ (a : Addr) (S : Str → Bool) (n : Nat), vs = [V.ref a] ∧ H a = some (SetTO w a S n) ∧ n < 64 ∧
  ∀ (ns : List Str) (p : Addr), sortedS ns = true → ns.Nodup → (∀ k : Str, k ∈ ns ↔ S k = true) → H p = none → Q (.ref p) (upd H p (.lst (ns.map V.str)))
theorem cr_sortT (hc : X.calm = true) : CallR X (.builtin "sorted") (rSortT X.w) := by
  intro pins s σ H vs us Q I r h
  obtain ⟨a, S, n, rfl, ha, h64, q⟩ := h
  have R : SetT X.w s.heap a S n := (I.hok a _ ha).1
  rw [Vals.ref1 r]
  refine sorted_setT R (I.ok.hd hc) h64 fun s' p out c ns k g o hp hg hi hs hd hm hl => ?_
  have hlen : (ns.map V.str).length ≤ sizeLine := by rw [List.length_map, hl, sizeLine_eq]; omega
  have hn : H p = none := I.hok.fresh hp
  have J : Inv X pins σ (upd H p (.lst (ns.map V.str))) { s with heap := s'.heap, gens := s'.gens, drawn := s'.drawn, toks := s'.toks } :=
    I.call (ch := []) (Un.laid k hp hn) (I.hok.laid k hp ⟨hlen, out.toList, c, vals_strsAre hi, hg⟩) (by rw [g]; exact I.bare) (fun _ z => nomatch z)
  have e : s' = { s with heap := s'.heap, gens := s'.gens, drawn := s'.drawn, toks := s'.toks } := by
    cases s'; cases s; cases o; rfl
  rw [e]
  exact ⟨.ref p, _, J, rfl, q ns p hs hd hm hn⟩
end
end MP
namespace MP
open PySem PySem.Spec PyProof.Rows L2
theorem risingS_le : ∀ (p : Str) (l : List Str), risingS p l = true → ∀ x ∈ l, ¬ x.cps.toList < p.cps.toList
  | _, [], _, x, hx => by simp at hx
  | p, y :: r, h, x, hx => by
    simp only [risingS, Bool.and_eq_true, Bool.not_eq_true', ltCps_eq, decide_eq_false_iff_not] at h
    rcases List.mem_cons.mp hx with q | q
    · rw [q]; exact h.1
    · intro hlt
      have h1 := risingS_le y r h.2 x q
      -- p ≤ y ≤ x
      by_cases e : p.cps.toList < y.cps.toList
      · exact h1 (List.lt_trans hlt e)
      · have e2 : p.cps.toList = y.cps.toList := List.le_antisymm h.1 e
        rw [e2] at hlt
        exact h1 hlt
theorem risingS_tail : ∀ (p : Str) (l : List Str), risingS p l = true → sortedS l = true
  | _, [], _ => rfl
  | p, y :: r, h => by
    simp only [risingS, Bool.and_eq_true] at h
    exact h.2
theorem str_inj {x y : Str} (h : x.cps.toList = y.cps.toList) : x = y := by
  cases x
  cases y
  simp only [Str.mk.injEq]
  exact Array.ext' h
theorem sortedS_srt : ∀ l : List Str, sortedS l = true → l.Nodup → Srt (l.map fun x => x.cps.toList)
  | [], _, _ => .nil
  | x :: r, h, hn => by
    rw [List.nodup_cons] at hn
    refine List.pairwise_cons.mpr ⟨fun z hz => ?_, sortedS_srt r (risingS_tail x r h) hn.2⟩
    obtain ⟨y, hy, rfl⟩ := List.mem_map.mp hz
    have h1 := risingS_le x r h y hy
    by_cases e : x.cps.toList < y.cps.toList
    · exact e
    · have e2 : x.cps.toList = y.cps.toList := List.le_antisymm h1 e
      exact absurd (str_inj e2 ▸ hy) hn.1
theorem VWs.strs {K : Fg} {μ : List Addr} {H : Hp} : ∀ ns : List Str, VWs K μ H (ns.map V.str) ((ns.map fun x => x.cps.toList).map W.str)
  | [] => .nil
  | n :: ns => .cons (.str n _ rfl) (VWs.strs ns)
section
variable {X : Cx} {Φ : Fns} {a : Expr} {ca : CE} {pos : Pos}
theorem de_sset {p p1 p2 : Pos} (hm1 : X.mg "sorted" = none) (hm2 : X.mg "set" = none) (ha : DE X Φ a ca) (hg1 : Gl X "sorted" := by rfl) (hg2 : Gl X "set" := by rfl) (hc : X.calm = true := by rfl) (hs : starEach [a] X.env = (false, eval a X.env) :: starEach [] X.env := by rfl)
    (hs2 : starEach [(.Call (.Name "set" p1) [a] [] p2 : Expr)] X.env = (false, eval (.Call (.Name "set" p1) [a] [] p2) X.env) :: starEach [] X.env := by rfl) (hpl : (backTo p2 (starEach [] X.env)).any (·.1) = false := by rfl) (hpl2 : (backTo pos (starEach [] X.env)).any (·.1) = false := by rfl) :
    DE X Φ (.Call (.Name "sorted" p) [.Call (.Name "set" p1) [a] [] p2] [] pos) (.bi .sset (.cons ca .nil)) := by
  refine peW (pe_callB (x := "sorted") (id := "sorted") (cr_sortT hc) hg1 hm1 (by decide +kernel) (pa_cons (pe_callTy (x := "set") (T := "set") (cr_setL hc) hg2 hm2 (by decide +kernel) (pa_cons ha pa_nil hs) (by decide) (by decide) hs hpl) pa_nil hs2) (by decide) (by decide) hs2 hpl2) fun σ H Q h => ?_
  obtain ⟨μ, env, S, w, S', s, er, h1, h2⟩ := h
  simp only [ev, evs] at h1
  split at h1
  · rename_i xs S1 e1
    split at e1
    · rename_i x S2 e2
      cases e1
      refine ⟨μ, env, S, x, _, s, er, e2, fun v μ1 H1 x1 s1 r1 => ?_⟩
      cases x <;> simp only [opI] at h1 <;> try (cases h1; done)
      split at h1
      · rename_i z hz
        split at h1
        · rename_i ys hys
          split at h1
          · rename_i hl
            cases r1 with
            | ref hk hkl =>
              obtain ⟨vs, q, t⟩ := s1.rd hk hz
              obtain ⟨ts, t1, t2⟩ := txts_ok hys t
              subst t1
              have hlen : ts.length = ys.length := by rw [← t2, List.length_map]
              refine ⟨_, ts, rfl, q, by omega, fun p c hp hc => ?_⟩
              refine ⟨p, _, c, rfl, upd_same, by omega, fun ns p2 k1 k2 k3 hp2 => ?_⟩
              have e : ns.map (fun x => x.cps.toList) = sortU ys := by
                refine srt_uniq _ _ (sortedS_srt ns k1 k2) (srt_sortU ys) fun u => ?_
                rw [mem_sortU, ← t2, List.mem_map, List.mem_map]
                constructor
                · rintro ⟨b, hb, rfl⟩
                  exact ⟨b, of_decide_eq_true ((k3 b).mp hb), rfl⟩
                · rintro ⟨b, hb, rfl⟩
                  exact ⟨b, (k3 b).mpr (decide_eq_true hb), rfl⟩
              have s2 := s1.fresh (o := SetTO X.w p (fun j => decide (j ∈ ts)) c) hp
              have a2 := (h2.mono x1).mono (ex_fresh (K := X.K) (μ := μ1) (o := SetTO X.w p (fun j => decide (j ∈ ts)) c) hp)
              rw [← e] at h1
              exact (a2.new s2 (VWs.strs ns) h1).2 p2 hp2
          · cases h1
        · cases h1
      · cases h1
    · cases e1
  · cases h1
end
end MP
namespace MP
open PySem PySem.Spec PyProof.Rows L2
/-! max of a list of numbers, with what is told of none -/
section
variable {prog : Program} {w : World} {A : Around} {R : Result → Shared → Prop} {I : Addr} {fp wr : List Addr} {n : Nat} {P : Nat → Value → Prop} {St : Nat → Heap → Prop} {kw : List (Str × Value)}
theorem mx_loop (W : Walks prog w A.in1 I fp wr n P St) (bt : Nat → Nat → Bool) (cm : CmpOf prog w A.in1 .Gt P bt) (Z : Addr) (hZ : Z ∉ fp) :
    ∀ (m j : Nat) (t : Shared) (vb : Value) (c : Nat), n - (j + 1) = m → j + 1 ≤ n → St (j + 1) t.heap → P (argBest bt j) vb → t.heap.get? Z = some { cls := .type "list", dict := none, data := .seq #[vb, vb] c, slots := #[] } →
      (∀ v g tk, P (argBest bt (n - 1)) v → (∀ b o, b ∉ wr → b ≠ Z → t.heap.get? b = some o → g.get? b = some o) → R (.ok (.ret v)) { t with heap := g, toks := tk }) →
      codeAny (model prog w) A (.builtin "max.loop" ⟨[.ref I, .none, .ref Z], kw⟩) R t := by
  have zw : Z ∉ wr := fun q => hZ (W.sub _ q)
  have nm : (toString "max" ++ toString ".loop" : String) = "max.loop" := by decide
  intro m
  induction m with
  | zero =>
    intro j t vb c e1 e2 st pb z fin
    have e3 : j + 1 = n := by omega
    refine codeAny_builtin F.entry_max_loop ?_
    rw [Around.under_plainId F.plain_max_loop _]
    show wpAny _ A.in1 (seqItems? (.ref Z) >>= _) _ _ t
    refine wpAny_bind (wpAny_seqItems z rfl ?_)
    show wpAny _ A.in1 (tryCatch (pyNext (.ref I)) _ >>= _) _ _ t
    refine wpAny_bind (wpAny_tryCatch (W.done t _ _ (e3 ▸ st) fun g tk k => ?_))
    have z2 := k Z _ zw z
    show wpAny _ A.in1 (updateSeq Z (fun _ => #[]) >>= _) _ _ _
    refine wpAny_bind (wpAny_updateSeq z2 rfl (wpAny_bind (wpAny_letGo (wpAny_pure ?_))))
    exact fin vb _ tk (by rw [← e3]; exact pb) fun b o b1 b2 e => (Heap.get?_update_other _ _ (Ne.symm b2)).trans (k b o b1 e)
  | succ m ih =>
    intro j t vb c e1 e2 st pb z fin
    have e3 : j + 1 < n := by omega
    refine codeAny_builtin F.entry_max_loop ?_
    rw [Around.under_plainId F.plain_max_loop _]
    show wpAny _ A.in1 (seqItems? (.ref Z) >>= _) _ _ t
    refine wpAny_bind (wpAny_seqItems z rfl ?_)
    show wpAny _ A.in1 (tryCatch (pyNext (.ref I)) _ >>= _) _ _ t
    refine wpAny_bind (wpAny_tryCatch (W.item (j + 1) t _ _ e3 st fun v g tk pv st2 k => ?_))
    have z2 := k Z _ zw z
    show wpAny _ A.in1 (tryCatch (holding [v, v] (richCompare .Gt v vb >>= _)) _ >>= _) _ _ _
    refine wpAny_bind (wpAny_tryCatch (wpAny_holding (wpAny_bind (cm (j + 1) (argBest bt j) v vb _ _ _ pv pb ?_))))
    refine wpAny_bind (wpAny_holding (wpAny_truthy_bool (wpAny_bind (wpAny_letGo (wpAny_pure ?_)))))
    cases hb : bt (j + 1) (argBest bt j) with
    | true =>
      simp only [if_true]
      refine wpAny_bind (wpAny_updateSeq z2 rfl (wpAny_bind (wpAny_letGo ?_)))
      rw [nm]
      refine wpAny_pure ⟨plainId_quiet F.plain_max_loop _, ih (j + 1) _ v _ (by omega) e3 (W.frame _ _ _ st2 fun b hb2 o e => ?_) (by simp only [argBest, hb, if_true]; exact pv) (Heap.get?_update_self _ z2 rfl) fun v2 g2 tk2 p2 k2 => ?_⟩
      · exact (Heap.get?_update_other _ _ (fun q : Z = b => hZ (by rw [q]; exact hb2))).trans e
      · exact fin v2 g2 tk2 p2 fun b o b1 b2 e => k2 b o b1 b2 ((Heap.get?_update_other _ _ (Ne.symm b2)).trans (k b o b1 e))
    | false =>
      simp only [Bool.false_eq_true, if_false]
      refine wpAny_bind (wpAny_letGo ?_)
      rw [nm]
      refine wpAny_pure ⟨plainId_quiet F.plain_max_loop _, ih (j + 1) _ vb c (by omega) e3 st2 (by simp only [argBest, hb, Bool.false_eq_true, if_false]; exact pb) z2 fun v2 g2 tk2 p2 k2 => ?_⟩
      exact fin v2 g2 tk2 p2 fun b o b1 b2 e => k2 b o b1 b2 (k b o b1 e)
theorem mx_first (W : Walks prog w A.in1 I fp wr n P St) (bt : Nat → Nat → Bool) (cm : CmpOf prog w A.in1 .Gt P bt) (Z : Addr) (hZ : Z ∉ fp) {t : Shared} {c : Nat} {d : Value} {dn : Str} (st : St 0 t.heap)
    (z : t.heap.get? Z = some { cls := .type "list", dict := none, data := .seq #[] c, slots := #[] })
    (no : n = 0 → ∀ g tk, (∀ b o, b ∉ wr → b ≠ Z → t.heap.get? b = some o → g.get? b = some o) → R (.ok (.ret d)) { t with heap := g, toks := tk })
    (fin : 0 < n → ∀ v g tk, P (argBest bt (n - 1)) v → (∀ b o, b ∉ wr → b ≠ Z → t.heap.get? b = some o → g.get? b = some o) → R (.ok (.ret v)) { t with heap := g, toks := tk }) :
    codeAny (model prog w) A (.builtin "max.loop" ⟨[.ref I, .none, .ref Z], [(dn, d)]⟩) R t := by
  have zw : Z ∉ wr := fun q => hZ (W.sub _ q)
  have nm : (toString "max" ++ toString ".loop" : String) = "max.loop" := by decide
  refine codeAny_builtin F.entry_max_loop ?_
  rw [Around.under_plainId F.plain_max_loop _]
  show wpAny _ A.in1 (seqItems? (.ref Z) >>= _) _ _ t
  refine wpAny_bind (wpAny_seqItems z rfl ?_)
  show wpAny _ A.in1 (tryCatch (pyNext (.ref I)) _ >>= _) _ _ t
  by_cases hn : n = 0
  · refine wpAny_bind (wpAny_tryCatch (W.done t _ _ (hn ▸ st) fun g tk k => ?_))
    show wpAny _ A.in1 (rule _ >>= _) _ _ _
    refine wpAny_bind (wpAny_rule (wpAny_pure ?_))
    exact no hn g tk fun b o b1 _ e => k b o b1 e
  · have h0 : 0 < n := by omega
    refine wpAny_bind (wpAny_tryCatch (W.item 0 t _ _ h0 st fun v g tk pv st2 k => ?_))
    have z2 := k Z _ zw z
    show wpAny _ A.in1 (updateSeq Z (fun _ => #[v, v]) >>= _) _ _ _
    refine wpAny_bind (wpAny_updateSeq z2 rfl ?_)
    rw [nm]
    refine wpAny_pure ⟨plainId_quiet F.plain_max_loop _, mx_loop W bt cm Z hZ _ 0 _ v _ rfl h0 (W.frame _ _ _ st2 fun b hb2 o e => ?_) pv (Heap.get?_update_self _ z2 rfl) fun v2 g2 tk2 p2 k2 => ?_⟩
    · exact (Heap.get?_update_other _ _ (fun q : Z = b => hZ (by rw [q]; exact hb2))).trans e
    · exact fin h0 v2 g2 tk2 p2 fun b o b1 b2 e => k2 b o b1 b2 ((Heap.get?_update_other _ _ (Ne.symm b2)).trans (k b o b1 e))
end
theorem mx_args (a v : Value) : argsOk "max" ⟨[a], [(Str.ofString "default", v)]⟩ := by unfold argsOk; kernel_rfl
section
variable {prog : Program} {w : World} {A : Around} {E : Value → Shared → Prop} {s : Shared} {l : Addr} {xs : Array (Int × Tok)} {d : Value}
theorem mx_call {Q : Value → Shared → Prop} (hh : A.handled = none) (hl : s.heap.IsList l (intItems xs))
    (no : xs.size = 0 → ∀ g tk, (∀ b o, s.heap.get? b = some o → g.get? b = some o) → Q d { s with heap := g, toks := tk })
    (fin : 0 < xs.size → ∀ v g tk, (intItems xs)[argBest (fun i j => decide (numAt xs i > numAt xs j)) (xs.size - 1)]? = some v → (∀ b o, s.heap.get? b = some o → g.get? b = some o) → Q v { s with heap := g, toks := tk }) :
    wpAny (model prog w) A (call (.builtin "max") [.ref l] [(Str.ofString "default", d)]) Q E s := by
  have nm : (toString "max" ++ toString ".loop" : String) = "max.loop" := by decide
  refine kmk_tree F.kind_max F.plain_max F.entry_max (mx_args _ _) ?_
  show wpAny _ A.in1 (Builtin.Builtins.bindParams "max" ["key", "default"] 0 ⟨[], [(Str.ofString "default", d)]⟩ >>= _) _ _ s
  refine wpAny_bind (wpAny_of_eq (show Builtin.Builtins.bindParams "max" ["key", "default"] 0 ⟨[], [(Str.ofString "default", d)]⟩ = pure [none, some d] from by first | rfl | kernel_rfl) ?_)
  refine wpAny_bind (wpAny_pure ?_)
  refine wpAny_bind (iter_intList hl fun s₂ e st hfp hlI => ?_)
  subst e
  refine wpAny_bind (wpAny_newObj_type ?_)
  rw [nm]
  have hsz : (intItems xs).size = xs.size := by simp [intItems]
  have W := Walks.list (prog := prog) (w := w) (A := A.in1) hh s.heap.objs.size l hlI (intItems xs)
  refine wpAny_pure ⟨plainId_quiet F.plain_max_loop _, mx_first W _ (CmpOf.ints_gt (numAt xs) (fun _ _ => intItems_at)) _ (fun hm => Nat.lt_irrefl _ (hfp _ hm)) (W.frame _ _ _ st fun b _ o e => Heap.get?_push_of_some _ e) (Heap.get?_push_size _ rfl) (fun h0 g tk k => ?_) fun h0 v g tk hP k => ?_⟩
  · exact no (by omega) g tk (old_kept fun b o hb e => k b o hb (Nat.ne_of_lt (Heap.lt_size e)) (Heap.get?_push_of_some _ e))
  · exact fin (by omega) v g tk (by rw [hsz] at hP; exact hP) (old_kept fun b o hb e => k b o hb (Nat.ne_of_lt (Heap.lt_size e)) (Heap.get?_push_of_some _ e))
end
/-! the greatest of numbers -/
theorem maxI_le : ∀ (l : List Int) (x : Int), x ∈ l → x ≤ maxI l
  | [], x, h => by simp at h
  | [y], x, h => by rw [List.mem_singleton.mp h, maxI]; omega
  | y :: z :: r, x, h => by
    have ih := maxI_le (z :: r)
    rw [maxI]
    rcases List.mem_cons.mp h with e | e
    · subst e; split <;> omega
    · have := ih x e; split <;> omega
theorem maxI_mem : ∀ (l : List Int), l ≠ [] → maxI l ∈ l
  | [], h => absurd rfl h
  | [y], _ => by simp [maxI]
  | y :: z :: r, _ => by
    have ih := maxI_mem (z :: r) (by simp)
    rw [maxI]
    split
    · simp
    · exact List.mem_cons_of_mem _ ih
theorem maxI_uniq {l : List Int} {m : Int} (h1 : m ∈ l) (h2 : ∀ y ∈ l, y ≤ m) : m = maxI l := by
  have a := maxI_le l m h1
  have b := h2 _ (maxI_mem l (fun e => by rw [e] at h1; simp at h1))
  omega
theorem minI_le : ∀ (l : List Int) (x : Int), x ∈ l → minI l ≤ x
  | [], x, h => by simp at h
  | [y], x, h => by rw [List.mem_singleton.mp h, minI]; omega
  | y :: z :: r, x, h => by
    have ih := minI_le (z :: r)
    rw [minI]
    rcases List.mem_cons.mp h with e | e
    · subst e; split <;> omega
    · have := ih x e; split <;> omega
theorem minI_mem : ∀ (l : List Int), l ≠ [] → minI l ∈ l
  | [], h => absurd rfl h
  | [y], _ => by simp [minI]
  | y :: z :: r, _ => by
    have ih := minI_mem (z :: r) (by simp)
    rw [minI]
    split
    · simp
    · exact List.mem_cons_of_mem _ ih
theorem minI_uniq {l : List Int} {m : Int} (h1 : m ∈ l) (h2 : ∀ y ∈ l, m ≤ y) : m = minI l := by
  have a := minI_le l m h1
  have b := h2 _ (minI_mem l (fun e => by rw [e] at h1; simp at h1))
  omega
theorem ints_ok {K : Fg} {μ : List Addr} {H : Hp} : ∀ {vs : List V} {ws : List W} {bs : List Int}, intsW ws = some bs → VWs K μ H vs ws → vs = bs.map V.int
  | _, [], _, h, hv => by cases hv; cases h; rfl
  | _, w :: ws, bs, h, hv => by
    cases hv with
    | cons r t =>
      cases w <;> simp only [intsW] at h <;> try (cases h; done)
      rw [Option.map_eq_some_iff] at h
      obtain ⟨bs', h1, h2⟩ := h
      subst h2
      cases r
      rw [ints_ok h1 t]
      rfl
def rMxD (K : Fg) : List V → List V → Hp → VK → Prop := fun vs zs H Q => ∃ (a : Addr) (ns : List Int) (d : Int), vs = [V.ref a] ∧ zs = [V.int d] ∧ SqL K H a (ns.map V.int) ∧ Q (.int (if ns.isEmpty then d else maxI ns)) H
section
variable {X : Cx} {Φ : Fns} {a b d e : Expr} {es : List Expr} {ca cb cd ce : CE} {cs : CEs} {pos : Pos}
theorem cr_mxD (hc : X.calm = true) : CallRK X (.builtin "max") [Str.ofString "default"] (rMxD X.K) := by
  intro pins s σ H vs zs us ws Q I r rz h
  obtain ⟨a, ns, d, rfl, rfl, hs, q⟩ := h
  obtain ⟨its, rv, hl, _⟩ := I.list hs
  rw [Vals.ref1 r]
  have rz1 : ∃ t, ws = [Value.int d t] := by
    cases rz with
    | cons r1 t1 =>
      cases t1
      obtain ⟨t, rfl⟩ := r1
      exact ⟨t, rfl⟩
  obtain ⟨td, rfl⟩ := rz1
  have hi := rv.ints
  obtain ⟨xs, e⟩ := hi.allInts.items
  have hn : numsOf (intItems xs).toList = ns := by rw [← e]; exact hi.numsOf
  rw [nums_intItems] at hn
  subst hn
  have hl2 := hl.isList
  rw [e] at hl2
  have hlen : (xs.toList.map (·.1)).length = xs.size := by rw [List.length_map, Array.length_toList]
  refine mx_call (I.ok.hd hc) hl2 (fun h0 g tk k => ?_) fun h0 v g tk hv k => ?_
  · refine ⟨.int d, H, I.kept k, ⟨_, rfl⟩, ?_⟩
    have e0 : (xs.toList.map (·.1)).isEmpty = true := by
      rw [List.isEmpty_iff_length_eq_zero, hlen, h0]
    rw [e0] at q
    exact q
  · obtain ⟨t, rfl⟩ := intItems_at hv
    obtain ⟨h1, h2⟩ := argBest_gt (numAt xs) (xs.size - 1)
    refine ⟨.int _, H, I.kept k, ⟨_, rfl⟩, ?_⟩
    have e0 : (xs.toList.map (·.1)).isEmpty = false := by
      cases hq : (xs.toList.map (·.1)).isEmpty with
      | false => rfl
      | true =>
        rw [List.isEmpty_iff_length_eq_zero, hlen] at hq
        omega
    rw [e0] at q
    have m1 : numAt xs (argBest (fun i j => decide (numAt xs i > numAt xs j)) (xs.size - 1)) ∈ xs.toList.map (·.1) := by
      rw [numAt_eq]
      exact PySem.getD_mem (by rw [hlen]; omega)
    rw [maxI_uniq m1 fun a ha => ?_]
    · exact q
    · obtain ⟨j, hj, rfl⟩ := mem_getD ha
      rw [hlen] at hj
      rw [← numAt_eq]
      exact h2 j (by omega)
theorem de_maxd {p kp : Pos} (hm : X.mg "max" = none) (ha : DE X Φ a ca) (hd : DE X Φ d cd) (hg : Gl X "max" := by rfl) (hc : X.calm = true := by rfl) (hs : starEach [a] X.env = (false, eval a X.env) :: starEach [] X.env := by rfl)
    (he : backTo pos (starEach [a] X.env) = (false, eval a X.env) :: backTo pos (starEach [] X.env) := by rfl) (hpl : (backTo pos (starEach [a] X.env)).any (·.1) = false := by rfl)
    (hall : (backToKw pos (keywordEach [⟨some "default", d, kp⟩] X.env)).all (·.1.isSome) = true := by rfl) (hnone : (backToKw pos (keywordEach [⟨some "default", d, kp⟩] X.env)).any (·.1.isNone) = false := by rfl) (hks : (backToKw pos (keywordEach [⟨some "default", d, kp⟩] X.env)).filterMap (·.1) = [Str.ofString "default"] := by rfl) :
    DE X Φ (.Call (.Name "max" p) [a] [⟨some "default", d, kp⟩] pos) (.bi .maxd (.cons ca (.cons cd .nil))) := by
  refine peW (pe_callBK (x := "max") (id := "max") (cr_mxD hc) hg hm (by decide +kernel) (pa_cons ha pa_nil hs) (pk_cons hd pk_nil) (by decide) (by decide) he hpl hall hnone hks) fun σ H Q h => ?_
  obtain ⟨μ, env, S, w, S', s, er, h1, h2⟩ := h
  simp only [ev, evs] at h1
  split at h1
  · rename_i xs S1 e1
    split at e1
    · rename_i x S2 e2
      split at e1
      · rename_i ys S3 e3
        cases e1
        split at e3
        · rename_i y S4 e4
          cases e3
          refine ⟨μ, env, S, x, S2, s, er, e2, fun v μ1 H1 x1 s1 r1 => ⟨μ1, env, S2, y, _, s1, er.mono x1, e4, fun u μ2 H2 x2 s2 r2 => ?_⟩⟩
          have r3 := r1.mono x2
          have a2 := h2.mono (x1.trans x2)
          cases x <;> cases y <;> simp only [opI] at h1 <;> try (cases h1; done)
          split at h1
          · rename_i z hz
            rw [Option.map_eq_some_iff] at h1
            obtain ⟨ns, h3, h4⟩ := h1
            cases h4
            cases r2
            cases r3 with
            | ref hk hkl =>
              obtain ⟨vs, q, t⟩ := s2.rd hk hz
              rw [ints_ok h3 t] at q
              exact ⟨_, ns, _, rfl, rfl, q, a2.now s2 (.int _)⟩
          · cases h1
        · cases e3
      · cases e1
    · cases e1
  · cases h1
/-- what the pure side never comes to -/
theorem de_no : DE X Φ e (.bi .rev .nil) := ⟨fun pins s σ H Q I h => by
  obtain ⟨μ, env, S, w, S', s, er, h1, h2⟩ := h
  simp only [ev, evs, opI] at h1
  cases h1⟩
end
end MP
namespace MP
open PySem PySem.Spec PyProof.Rows L2
/-- a written dict of texts, as a table -/
def KTb (K : Fg) (w : World) (p : Addr) (t : List (List Nat × W)) : Prop := ∃ es n, K.lookup p = some ⟨.type "dict", none, .dict es n, #[]⟩ ∧ PySem.W.KeysLit w.params es.toList ∧ (p == sysModules) = false ∧
  ∀ z : Str, ∃ v, RelV v ((findBy Value.isStrOf es z).getD .none) ∧ ∀ μ H, VW K μ H v (atT t z.cps.toList)
section
variable {X : Cx} {Φ : Fns} {a b d e : Expr} {es : List Expr} {ca cb cd ce : CE} {cs : CEs} {pos apos cpos : Pos}
theorem de_dget {x : Str} {p : Addr} {t : List (List Nat × W)} (hm : X.mg x = some (.ref p)) (T : KTb X.K X.w p t) (he : DE X Φ e ce) (m : M1 X (.Name x pos) "get" apos e cpos) (hg : Gl X x := by rfl) (hd : (x == ("__debug__" : Str)) = false := by decide) :
    DE X Φ (.Call (.Attribute (.Name x pos) "get" apos) [e] [] cpos) (.bi (.dget t) (.cons ce .nil)) := by
  obtain ⟨es, n, l1, l2, l3, l4⟩ := T
  refine ⟨fun pins s σ H Q I h => ?_⟩
  have ho : PE X (.Name x pos) (tC (.ref p)) := pe_glob hg hm rfl hd
  have hq : tC (.ref p) σ H fun u H1 => u = .ref p ∧ H1 = H := ⟨rfl, rfl⟩
  refine wpAny_Call_method m.base m.few m.line PySem.F.plainAttrs_dict PySem.F.slot_dict_get PySem.F.type_dict_get (thn (ho.run pins s σ H _ I hq) fun u s1 ⟨x, H1, I1, rx, ex, eH⟩ => ?_)
  subst ex
  subst eH
  obtain rfl : u = Value.ref p := rx
  have mo := PySem.W.mapOf_K (prog := X.prog) (w := X.w) I1.kIn l1 l2
  refine ⟨mo.typeIs, fun b q => ?_, ?_⟩
  · cases q
    exact ⟨_, I1.kIn _ _ l1, rfl⟩
  rw [m.trees]
  obtain ⟨μ, env, S, w, S', sr, er, h1, h2⟩ := h
  simp only [ev, evs] at h1
  split at h1
  · rename_i ws S1 e1
    split at e1
    · rename_i y S2 e2
      cases e1
      have hy : tD X.K Φ ce σ H1 fun v H2 => ∃ z : Str, v = .str z ∧ ∀ u, (∀ μ H, VW X.K μ H u (atT t z.cps.toList)) → Q u H2 := by
        refine ⟨μ, env, S, y, _, sr, er, e2, fun v μ1 H2 x1 s1 r1 => ?_⟩
        cases y <;> simp only [opI] at h1 <;> try (cases h1; done)
        cases h1
        cases r1 with
        | str z l e => exact ⟨z, rfl, fun u hu => h2 _ μ1 H2 x1 s1 (by rw [← e]; exact hu _ _)⟩
      refine Calls.callWith_builtin rfl (Calls.evalArgs_plain (Calls.spliced_cons (thn (he.run pins s1 σ H1 _ I1 hy) fun iv s2 ⟨v, H2, I2, ry, z, ez, q2⟩ => Calls.spliced_nil ?_)))
      subst ez
      obtain ⟨tk, rfl⟩ := (show ∃ t, iv = Value.str z t from ry)
      obtain ⟨u, ru, hu⟩ := l4 z
      have mo2 := PySem.W.mapOf_K (prog := X.prog) (w := X.w) I2.kIn l1 l2
      exact call_meetsIn PySem.F.slot_dict_get mo2.typeIs PySem.F.entry_dict_get (PySem.F.args_dict_get_2 _ _) (meets_dict_get (strKind X.prog X.w) p (strKind_is X.prog X.w z tk) l3) ⟨_, mo2, u, H2, I2.tok _, ru, q2 u hu⟩
    · cases e1
  · cases h1
theorem de_dgetE {x : Str} {t : List (List Nat × W)} (h : ∃ p, X.mg x = some (.ref p) ∧ KTb X.K X.w p t) (he : DE X Φ e ce) (m : M1 X (.Name x pos) "get" apos e cpos := by exact ⟨rfl, rfl, rfl, rfl⟩) (hg : Gl X x := by rfl) (hd : (x == ("__debug__" : Str)) = false := by decide) :
    DE X Φ (.Call (.Attribute (.Name x pos) "get" apos) [e] [] cpos) (.bi (.dget t) (.cons ce .nil)) := by
  obtain ⟨p, h1, h2⟩ := h
  exact de_dget h1 h2 he m hg hd
end
/-- entries and table, row by row -/
inductive KR (K : Fg) : List DictEntry → List (List Nat × W) → Prop
  | nil : KR K [] []
  | cons {x : Str} {l : List Nat} {t : Tok} {h : Int} {u : Value} {v : V} {w : W} {es : List DictEntry} {ts : List (List Nat × W)} : x.cps.toList = l → RelV v u → (∀ μ H, VW K μ H v w) → KR K es ts → KR K (⟨h, .str x t, u⟩ :: es) ((l, w) :: ts)
theorem KR.find {K : Fg} : ∀ {es : List DictEntry} {ts : List (List Nat × W)}, KR K es ts → ∀ z : Str, ∃ v, RelV v ((findBy Value.isStrOf es.toArray z).getD .none) ∧ ∀ μ H, VW K μ H v (atT ts z.cps.toList)
  | _, _, .nil, z => ⟨.non, rfl, fun _ _ => .non⟩
  | _, _, .cons (x := x) (l := l) (t := t) (h := h) (u := u) (v := v) (w := w) (es := es) (ts := ts) e r q k, z => by
    obtain ⟨v2, r2, q2⟩ := k.find z
    unfold findBy at r2 ⊢
    rw [List.find?_toArray] at r2 ⊢
    rw [List.find?_cons]
    by_cases hx : x = z
    · subst hx
      rw [show Value.isStrOf x (Value.str x t) = true from by simp [Value.isStrOf]]
      refine ⟨v, r, fun μ H => ?_⟩
      rw [atT, if_pos e]
      exact q μ H
    · rw [show Value.isStrOf z (Value.str x t) = false from by simp [Value.isStrOf, hx]]
      refine ⟨v2, r2, fun μ H => ?_⟩
      rw [atT, if_neg (fun q3 => hx (str_inj (e.trans q3.symm)))]
      exact q2 μ H
theorem ktb_mk {K : Fg} {w : World} {p : Addr} {es : List DictEntry} {n : Nat} {t : List (List Nat × W)} (h1 : K.lookup p = some ⟨.type "dict", none, .dict es.toArray n, #[]⟩) (h2 : PySem.W.KeysLit w.params es) (h3 : (p == sysModules) = false) (h4 : KR K es t) : KTb K w p t :=
  ⟨es.toArray, n, h1, h2, h3, fun z => h4.find z⟩
theorem vw_ktup {K : Fg} {a : Addr} {o : Obj} {its : Array Value} {n : Nat} {vs : List V} {ws : List W} (h1 : K.lookup a = some o) (h2 : o.cls = .type "tuple") (h3 : o.data = .seq its n) (h4 : its.size ≤ sizeLine) (h5 : Vals vs its.toList) (h6 : ∀ μ H, VWs K μ H vs ws) : ∀ μ H, VW K μ H (.ref a) (.tup ws) :=
  fun μ H => .tup (.inr ⟨o, its, n, h1, h2, h3, h4, h5⟩) (h6 μ H)
end MP
namespace MP
open PySem PySem.Spec PyProof.Rows L2
section
variable {X : Cx} {Φ : Fns} {a b d e : Expr} {es : List Expr} {ca cb cd ce : CE} {cs : CEs} {pos pos' : Pos}
theorem ip_both : PIp X .Add (fun x y H Q => rAdd x y H Q ∨ rAddS x y H Q) := fun pins s σ H x y v u Q I rx ry h => h.elim (in_add pins s σ H x y v u Q I rx ry) (in_addS pins s σ H x y v u Q I rx ry)
theorem ip_subI : PIp X .Sub rSub := fun pins s σ H x y v u Q I rx ry h => in_sub pins s σ H x y v u Q I rx ry h
theorem ex_aug {i : Nat} {f : BI} {env : Env} {S : Sto} {r : Fl} (h : ex Φ (.set [i] (.bi f (.cons (.var i) (.cons ce .nil)))) env S = some r) : ∃ x y S1 w S2, env[i]? = some (some x) ∧ ev Φ ce env S = some (y, S1) ∧ opI f [x, y] S1 = some (w, S2) ∧ r = .nx (env.set i (some w)) S2 := by
  simp only [ex, ev, evs, bindT] at h
  split at h
  · rename_i w S1 e1
    simp only [Option.map_some, Option.some.injEq] at h
    split at e1
    · rename_i xs S2 e2
      split at e2
      · rename_i x S3 e3
        split at e3
        · rename_i x' hx
          cases e3
          split at e2
          · rename_i ys S4 e4
            cases e2
            split at e4
            · rename_i y S5 e5
              cases e4
              exact ⟨x, y, _, w, S1, hx, e5, e1, h.symm⟩
            · cases e4
          · cases e2
        · cases e3
      · cases e2
    · cases e1
  · cases h
theorem ds_aug_add (i : Nat) {x : Str} (hN : X.N.Nodup) (he : DE X Φ e ce) (hi : X.N[i]? = some x := by rfl) (hx : Loc X.env.scope x := by first | exact .inl rfl | exact .inr rfl) (hf : X.fn x = true ∨ X.env.scope.names.lookup x = some .local := by first | exact .inl rfl | exact .inr rfl) :
    DS X Φ (.AugAssign (.Name x pos') .Add e pos) (.set [i] (.bi .iadd (.cons (.var i) (.cons ce .nil)))) := by
  refine psW (ps_aug (i := i) hN hi hx he ip_both hf) fun D σ H h => ?_
  obtain ⟨μ, env, S, r, s, er, e1, f⟩ := h
  obtain ⟨xw, yw, S1, w, S2, q1, q2, q3, rfl⟩ := ex_aug e1
  obtain ⟨v, v1, v2⟩ := er.2 i xw q1
  refine ⟨v, v1, μ, env, S, yw, S1, s, er, q2, fun u μ1 H1 x1 s1 r1 => ?_⟩
  have v3 := v2.mono x1
  cases xw <;> cases yw <;> simp only [opI] at q3 <;> try (cases q3; done)
  · cases q3
    cases v3
    cases r1
    exact .inl ⟨_, _, rfl, rfl, f _ μ1 H1 x1 s1 ((er.mono x1).set i (.int _))⟩
  · split at q3
    · rename_i hl
      cases q3
      cases v3 with
      | str z _ ez =>
        cases r1 with
        | str z2 _ ez2 =>
          refine .inr ⟨z, z2, rfl, rfl, ?_, f _ μ1 H1 x1 s1 ((er.mono x1).set i (.str _ _ ?_))⟩
          · rw [str_len ez, str_len ez2]
            exact lim_ok hl
          · rw [cps_toList_append, ez, ez2]
    · cases q3
theorem ds_aug_sub (i : Nat) {x : Str} (hN : X.N.Nodup) (he : DE X Φ e ce) (hi : X.N[i]? = some x := by rfl) (hx : Loc X.env.scope x := by first | exact .inl rfl | exact .inr rfl) (hf : X.fn x = true ∨ X.env.scope.names.lookup x = some .local := by first | exact .inl rfl | exact .inr rfl) :
    DS X Φ (.AugAssign (.Name x pos') .Sub e pos) (.set [i] (.bi .isub (.cons (.var i) (.cons ce .nil)))) := by
  refine psW (ps_aug (i := i) hN hi hx he ip_subI hf) fun D σ H h => ?_
  obtain ⟨μ, env, S, r, s, er, e1, f⟩ := h
  obtain ⟨xw, yw, S1, w, S2, q1, q2, q3, rfl⟩ := ex_aug e1
  obtain ⟨v, v1, v2⟩ := er.2 i xw q1
  refine ⟨v, v1, μ, env, S, yw, S1, s, er, q2, fun u μ1 H1 x1 s1 r1 => ?_⟩
  have v3 := v2.mono x1
  cases xw <;> cases yw <;> simp only [opI] at q3 <;> try (cases q3; done)
  cases q3
  cases v3
  cases r1
  exact ⟨_, _, rfl, rfl, f _ μ1 H1 x1 s1 ((er.mono x1).set i (.int _))⟩
end
end MP
namespace MP
open PySem PySem.Spec PyProof.Rows L2
section
variable {K : Fg}
theorem intsW_ok {μ : List Addr} {H : Hp} : ∀ {vs : List V} {ws : List W} {ns : List Int}, intsW ws = some ns → VWs K μ H vs ws → vs = ns.map V.int
  | _, [], _, h, hv => by cases hv; cases h; rfl
  | _, w :: ws, bs, h, hv => by
    cases hv with
    | cons r t =>
      cases w <;> simp only [intsW] at h <;> try (cases h; done)
      rw [Option.map_eq_some_iff] at h
      obtain ⟨bs', h1, h2⟩ := h
      subst h2
      cases r
      rw [intsW_ok h1 t]
      rfl
theorem max_uniq {l : List Int} {m : Int} (hm : m ∈ l) (h : ∀ y ∈ l, y ≤ m) : m = maxI l := by
  have h1 := maxI_le l m hm
  have h2 := h _ (maxI_mem l (List.ne_nil_of_mem hm))
  omega
theorem min_uniq {l : List Int} {m : Int} (hm : m ∈ l) (h : ∀ y ∈ l, m ≤ y) : m = minI l := by
  have h1 := minI_le l m hm
  have h2 := h _ (minI_mem l (List.ne_nil_of_mem hm))
  omega
theorem cs_sum : ClS K (opI .sum) (rSum K) := by
  intro μ H S ws vs w S' Q s hv h a
  unfold opI at h
  split at h <;> try (cases h; done)
  all_goals rename_i hb; cases hb
  all_goals obtain ⟨v, rfl, r⟩ := hv.one
  split at h
  · rename_i z hz
    rw [Option.map_eq_some_iff] at h
    obtain ⟨ns, h1, h2⟩ := h
    cases h2
    cases r with
    | ref hk hkl =>
      obtain ⟨us, q, t⟩ := s.rd hk hz
      rw [intsW_ok h1 t] at q
      exact ⟨_, ns, rfl, q, a.now s (.int _)⟩
  · cases h
theorem cs_maxl : ClS K (opI .maxl) (rMax K) := by
  intro μ H S ws vs w S' Q s hv h a
  unfold opI at h
  split at h <;> try (cases h; done)
  all_goals rename_i hb; cases hb
  all_goals obtain ⟨v, rfl, r⟩ := hv.one
  split at h
  · rename_i z hz
    split at h
    · rename_i ns h1
      split at h
      · cases h
      · rename_i hne
        cases h
        cases r with
        | ref hk hkl =>
          obtain ⟨us, q, t⟩ := s.rd hk hz
          rw [intsW_ok h1 t] at q
          refine ⟨_, ns, rfl, q, ?_, fun m hm hle => ?_⟩
          · cases ns with
            | nil => simp at hne
            | cons _ _ => simp
          · rw [max_uniq hm hle]
            exact a.now s (.int _)
    · cases h
  · cases h
theorem cs_minl : ClS K (opI .minl) (rMin K) := by
  intro μ H S ws vs w S' Q s hv h a
  unfold opI at h
  split at h <;> try (cases h; done)
  all_goals rename_i hb; cases hb
  all_goals obtain ⟨v, rfl, r⟩ := hv.one
  split at h
  · rename_i z hz
    split at h
    · rename_i ns h1
      split at h
      · cases h
      · rename_i hne
        cases h
        cases r with
        | ref hk hkl =>
          obtain ⟨us, q, t⟩ := s.rd hk hz
          rw [intsW_ok h1 t] at q
          refine ⟨_, ns, rfl, q, ?_, fun m hm hle => ?_⟩
          · cases ns with
            | nil => simp at hne
            | cons _ _ => simp
          · rw [min_uniq hm hle]
            exact a.now s (.int _)
    · cases h
  · cases h
theorem cs_max2 : ClS K (opI .max2) (fun xs H Q => ∃ i j, xs = [.int i, .int j] ∧ Q (.int (if j > i then j else i)) H) := by
  intro μ H S ws vs w S' Q s hv h a
  unfold opI at h
  split at h <;> try (cases h; done)
  all_goals rename_i hb; cases hb
  all_goals obtain ⟨v, u, rfl, r, r'⟩ := hv.two
  cases h
  cases r
  cases r'
  exact ⟨_, _, rfl, a.now s (.int _)⟩
theorem cs_min2 : ClS K (opI .min2) (fun xs H Q => ∃ i j, xs = [.int i, .int j] ∧ Q (.int (if j < i then j else i)) H) := by
  intro μ H S ws vs w S' Q s hv h a
  unfold opI at h
  split at h <;> try (cases h; done)
  all_goals rename_i hb; cases hb
  all_goals obtain ⟨v, u, rfl, r, r'⟩ := hv.two
  cases h
  cases r
  cases r'
  exact ⟨_, _, rfl, a.now s (.int _)⟩
/-! remove of a text -/
def eqT (x : Str) (v : Value) : Bool := match v with
  | .str y _ => y.cps.toList == x.cps.toList
  | _ => false
theorem vals_strs : ∀ {ys : List Str} {us : List Value}, Vals (ys.map V.str) us → ∀ (j : Nat) (u : Value), us[j]? = some u → ∃ y t, ys[j]? = some y ∧ u = .str y t
  | [], _, h, j, u, e => by cases h; simp at e
  | y :: ys, _, h, j, u, e => by
    cases h with
    | cons r t =>
      cases j with
      | zero =>
        simp at e
        subst e
        obtain ⟨tk, rfl⟩ := r
        exact ⟨y, tk, rfl, rfl⟩
      | succ j =>
        obtain ⟨y2, t2, q1, q2⟩ := vals_strs t j u (by simpa using e)
        exact ⟨y2, t2, by simpa using q1, q2⟩
theorem erase_mapS : ∀ (l : List Str) (j : Nat), (l.map V.str).eraseIdx j = (l.eraseIdx j).map V.str
  | [], j => by simp
  | a :: r, 0 => by simp
  | a :: r, j + 1 => by
    have ih := erase_mapS r j
    simp [ih]
end
section
variable {X : Cx}
def rRemS : V → List V → Hp → VK → Prop := fun x xs H Q => ∃ (l : Addr) (ys : List Str) (k : Str) (j : Nat), x = .ref l ∧ xs = [.str k] ∧ H l = some (.lst (ys.map V.str)) ∧ ys[j]? = some k ∧ (∀ m : Nat, m < j → ys[m]? ≠ some k) ∧ Q .non (upd H l (.lst ((ys.eraseIdx j).map V.str)))
theorem mt_remS : MtM X "list.remove" rRemS := by
  intro pins s σ H x xs v us Q I rx rv h
  obtain ⟨l, ys, k, j, rfl, rfl, k1, hj, hno, q⟩ := h
  cases rx
  obtain ⟨u, rfl, ru⟩ := rv.one
  obtain ⟨tk, rfl⟩ := ru
  obtain ⟨l0, ps, n, r, l1, e⟩ := I.lstM k1
  rw [List.length_map] at l1 l0
  have hjn : j < ys.length := (List.getElem?_eq_some_iff.mp hj).1
  have hjl : j < ps.toArray.size := by rw [List.size_toArray]; omega
  have each : ∀ (m : Nat) (hm : m < ps.length), ∃ t, ps[m] = .str (ys[m]'(by omega)) t := fun m hm => by
    obtain ⟨y, t, q1, q2⟩ := vals_strs r m ps[m] (List.getElem?_eq_getElem hm)
    rw [List.getElem?_eq_getElem (by omega)] at q1
    cases q1
    exact ⟨t, q2⟩
  refine call_meets PySem.F.slot_list_remove ⟨_, e, rfl⟩ PySem.F.entry_list_remove (PySem.F.args_list_remove_2 _ _)
    (MeetsSeq.list_remove l ps.toArray n (.str k tk) (eqT k) (fun y hy => ?_) j hjl ?_ ?_ (by rw [List.size_toArray]; omega)) ⟨e, ?_⟩
  · obtain ⟨m, hm, e2⟩ := List.mem_iff_getElem.mp (show y ∈ ps by simpa using hy)
    obtain ⟨t, e3⟩ := each m hm
    rw [← e2, e3]
    exact SeqRoads2.EqGives.str _ _ _ _
  · obtain ⟨t, e3⟩ := each j (by omega)
    have e1 : ps.toArray[j] = .str (ys[j]) t := by simpa using e3
    rw [e1]
    have e4 : ys[j] = k := by
      have := List.getElem?_eq_getElem hjn
      rw [hj] at this
      exact (Option.some.inj this).symm
    rw [e4]
    simp [eqT]
  · intro m hm hmj
    have hmn : m < ys.length := by omega
    obtain ⟨t, e3⟩ := each m (by omega)
    have e1 : ps.toArray[m] = .str (ys[m]) t := by simpa using e3
    rw [e1]
    refine beq_eq_false_iff_ne.mpr fun e2 => hno m hmj ?_
    rw [List.getElem?_eq_getElem hmn]
    congr 1
    exact str_inj e2
  · have rr := r.eraseIdx j
    rw [erase_mapS] at rr
    refine ⟨.non, _, I.lset (its' := ps.eraseIdx j) (t' := s.toks) k1 e ?_ rr ?_, rfl, q⟩
    · show ps.toArray.eraseIdxIfInBounds j = (ps.eraseIdx j).toArray
      rw [List.eraseIdxIfInBounds_toArray]
    · have z2 : (ys.eraseIdx j).length ≤ ys.length := by rw [List.length_eraseIdx]; split <;> omega
      rw [List.length_map]
      omega
variable {Φ : Fns} {a b d e : Expr} {es : List Expr} {ca cb cd ce : CE} {cs : CEs} {pos : Pos}
theorem ev_two {f : BI} {env : Env} {S S' : Sto} {w : W} (h : ev Φ (.bi f (.cons ca (.cons cb .nil))) env S = some (w, S')) : ∃ x S1 y S2, ev Φ ca env S = some (x, S1) ∧ ev Φ cb env S1 = some (y, S2) ∧ opI f [x, y] S2 = some (w, S') := by
  simp only [ev, evs] at h
  split at h
  · rename_i xs S1 e1
    split at e1
    · rename_i x S2 e2
      split at e1
      · rename_i ys S3 e3
        cases e1
        split at e3
        · rename_i y S5 e4
          cases e3
          exact ⟨x, S2, y, _, e2, e4, h⟩
        · cases e3
      · cases e1
    · cases e1
  · cases h
theorem erase_ok : ∀ (ys : List Str) (k : Str), k.cps.toList ∈ ys.map (fun y => y.cps.toList) → ∃ j : Nat, ys[j]? = some k ∧ (∀ m : Nat, m < j → ys[m]? ≠ some k) ∧ (ys.eraseIdx j).map (fun y => y.cps.toList) = (ys.map fun y => y.cps.toList).erase k.cps.toList
  | [], k, h => by simp at h
  | y :: r, k, h => by
    by_cases e : y = k
    · subst e
      exact ⟨0, rfl, fun m hm => by omega, by simp⟩
    · have ne : y.cps.toList ≠ k.cps.toList := fun q => e (str_inj q)
      have h2 : k.cps.toList ∈ r.map (fun y => y.cps.toList) := by
        rw [List.map_cons, List.mem_cons] at h
        exact h.resolve_left fun q => ne q.symm
      obtain ⟨j, h3, h4, h5⟩ := erase_ok r k h2
      refine ⟨j + 1, by simpa using h3, fun m hm => ?_, ?_⟩
      · cases m with
        | zero => simpa using e
        | succ m => simpa using h4 m (by omega)
      · rw [List.eraseIdx_cons_succ, List.map_cons, List.map_cons, List.erase_cons_tail (by simpa using ne), h5]
theorem de_rem {apos : Pos} (ha : DE X Φ a ca) (hb : DE X Φ b cb) (h1 : attributeBase a "remove" X.env (eval a X.env) = eval a X.env := by rfl)
    (h2 : ((((backTo pos (starEach [b] X.env)).all fun x => !x.fst) && (backToKw pos (keywordEach [] X.env)).all fun x => x.fst.isSome) && decide (([b].length + ([] : List Keyword).length + if ([] : List Keyword).isEmpty = true then 0 else 1) < 30)) = true := by rfl)
    (h3 : (apos.endLine == pos.line) = true := by rfl) (h4 : starEach [b] X.env = (false, eval b X.env) :: starEach [] X.env := by rfl) (h5 : ((backTo pos (starEach [] X.env)).any fun x => x.fst) = false := by rfl) :
    DE X Φ (.Call (.Attribute a "remove" apos) [b] [] pos) (.bi .rem (.cons ca (.cons cb .nil))) := by
  refine peW (pe_bm PySem.F.plainAttrs_list PySem.F.slot_list_remove PySem.F.type_list_remove mt_remS ha (pa_cons hb pa_nil h4) h1 h2 h3 h4 h5) fun σ H Q h => ?_
  obtain ⟨μ, env, S, w, S', s, er, h1, h2⟩ := h
  obtain ⟨x, S1, y, S2, e1, e2, e3⟩ := ev_two h1
  cases x <;> cases y <;> simp only [opI] at e3 <;> try (cases e3; done)
  rename_i k z
  refine ⟨μ, env, S, _, S1, s, er, e1, fun v μ1 H1 x1 s1 r1 => ?_⟩
  cases r1 with
  | ref hk hkl =>
    refine ⟨.inl ⟨rfl, s1.isL hk hkl⟩, μ1, env, S1, _, S2, s1, er.mono x1, e2, fun u μ2 H2 x2 s2 r2 => ?_⟩
    split at e3
    · rename_i zs hz
      split at e3
      · rename_i ls hls
        split at e3
        · rename_i hmem
          cases e3
          have hk2 := x2.pre _ _ hk
          obtain ⟨q0, vs, q1, t1⟩ := s2.rm hk2 hz
          obtain ⟨ys, h3, h4⟩ := txts_ok hls t1
          subst h3
          cases r2 with
          | str kk _ ek =>
            obtain ⟨j, j1, j2, j3⟩ := erase_ok ys kk (by rw [h4, ek]; exact hmem)
            have tt : VWs X.K μ2 H2 ((ys.eraseIdx j).map V.str) ((ls.erase z).map W.str) := by
              rw [← ek, ← h4, ← j3]
              generalize ys.eraseIdx j = l
              induction l with
              | nil => exact .nil
              | cons a r ih => exact .cons (.str _ _ rfl) ih
            obtain ⟨s3, x3⟩ := s2.write hk2 q0 tt
            exact ⟨_, ys, kk, j, rfl, rfl, q1, j1, j2, h2 _ μ2 _ ((x1.trans x2).trans x3) s3 .non⟩
        · cases e3
      · cases e3
    · cases e3
theorem de_popi {apos : Pos} (ha : DE X Φ a ca) (hb : DE X Φ b cb) (h1 : attributeBase a "pop" X.env (eval a X.env) = eval a X.env := by rfl)
    (h2 : ((((backTo pos (starEach [b] X.env)).all fun x => !x.fst) && (backToKw pos (keywordEach [] X.env)).all fun x => x.fst.isSome) && decide (([b].length + ([] : List Keyword).length + if ([] : List Keyword).isEmpty = true then 0 else 1) < 30)) = true := by rfl)
    (h3 : (apos.endLine == pos.line) = true := by rfl) (h4 : starEach [b] X.env = (false, eval b X.env) :: starEach [] X.env := by rfl) (h5 : ((backTo pos (starEach [] X.env)).any fun x => x.fst) = false := by rfl) :
    DE X Φ (.Call (.Attribute a "pop" apos) [b] [] pos) (.bi .popi (.cons ca (.cons cb .nil))) := by
  refine peW (pe_bm PySem.F.plainAttrs_list PySem.F.slot_list_pop PySem.F.type_list_pop mt_popAt ha (pa_cons hb pa_nil h4) h1 h2 h3 h4 h5) fun σ H Q h => ?_
  obtain ⟨μ, env, S, w, S', s, er, h1, h2⟩ := h
  obtain ⟨x, S1, y, S2, e1, e2, e3⟩ := ev_two h1
  cases x <;> cases y <;> simp only [opI] at e3 <;> try (cases e3; done)
  rename_i k i
  refine ⟨μ, env, S, _, S1, s, er, e1, fun v μ1 H1 x1 s1 r1 => ?_⟩
  cases r1 with
  | ref hk hkl =>
    refine ⟨.inl ⟨rfl, s1.isL hk hkl⟩, μ1, env, S1, _, S2, s1, er.mono x1, e2, fun u μ2 H2 x2 s2 r2 => ?_⟩
    split at e3
    · rename_i zs hz
      split at e3
      · rename_i n hn
        split at e3
        · rename_i y hy
          split at e3
          · rename_i lz
            cases e3
            have hk2 := x2.pre _ _ hk
            obtain ⟨q0, vs, q1, t1⟩ := s2.rm hk2 hz
            cases r2
            obtain ⟨vy, v1, v2⟩ := t1.get hy
            obtain ⟨s3, x3⟩ := s2.write hk2 q0 (t1.erase n)
            simp only [LIM] at lz
            unfold ixN at hn
            have hb : -(zs.length : Int) ≤ i ∧ i < zs.length := by
              split at hn
              · split at hn
                · omega
                · cases hn
              · split at hn
                · omega
                · cases hn
            refine ⟨_, vs, i, n, vy, rfl, rfl, q1, by omega, by omega, ?_, v1, h2 _ μ2 _ ((x1.trans x2).trans x3) s3 (v2.mono x3)⟩
            rw [t1.length]
            unfold seqIndex?
            simp only
            by_cases hi : i < 0
            · rw [if_pos hi, if_pos (by simp; omega)]
              rw [if_neg (by omega), if_pos (by omega)] at hn
              exact hn
            · rw [if_neg hi, if_pos (by simp; omega)]
              rw [if_pos (by omega), if_pos (by omega)] at hn
              exact hn
          · cases e3
        · cases e3
      · cases e3
    · cases e3
end
end MP
namespace MP
open PySem PySem.Spec PyProof.Rows L2
/-! enumerate of a tuple -/
def IteT (K : Fg) (a : Addr) : It :=
  ⟨fun i H => ∃ (us : List V) (x : V), SqT K H a us ∧ us[i]? = some x, fun i H v H' => ∃ T x, v = .ref T ∧ H T = none ∧ H' = upd H T (.tup [.int (i : Nat), x]) ∧ ∀ us, SqT K H a us → us[i]? = some x, fun i H => ∃ us : List V, SqT K H a us ∧ us.length ≤ i⟩
section
variable {prog : Program} {w : World} {A : Around} {E : Value → Shared → Prop} {s : Shared}
theorem meets_enumB1 {v : Value} {o : Obj} {G : Heap → Prop} (B : Begins v o G) :
    Meets (Builtin.«enumerate.__new__» ⟨[.type "enumerate", v], []⟩) (fun _ R s => G s.heap ∧
      R (.ok (.ret (.ref (s.heap.push o).objs.size))) { s with heap := (s.heap.push o).push { cls := .type "enumerate", data := .fields #[.none, .bool false, .ref s.heap.objs.size, rawInt 0, .none, .none] } }) :=
  .of_wp fun prog w A R s h => by
    obtain ⟨hp, g, d, tk, os⟩ := s
    obtain ⟨g1, g2⟩ := h
    have sb := sub_enumerate
    have it1 : ∀ {A' : Around} {E : Value → Shared → Prop} {Q : Value → Shared → Prop}, Q (.ref hp.objs.size) ⟨hp.push o, g, d, tk, os⟩ → wpAny (model prog w) A' (pyIter v) Q E ⟨hp, g, d, tk, os⟩ :=
      fun q => B.iter prog w _ _ ⟨hp, g, d, tk, os⟩ _ g1 q
    wp_walk using it1
    refine wpAny_stack_any fun st => wpAny_pure ?_
    split
    · rename_i c _ _ _ _ _
      cases (c == Value.type "enumerate")
      · wp_walk using it1
        exact ⟨_, rfl, g2⟩
      · wp_walk using it1
        exact ⟨_, rfl, g2⟩
    · wp_walk using it1
      exact ⟨_, rfl, g2⟩
theorem call_enumB1 {v : Value} {o : Obj} {G : Heap → Prop} {Q : Value → Shared → Prop} (B : Begins v o G) (g1 : G s.heap)
    (h : ∀ g, IsEnum g (s.heap.objs.size + 1) s.heap.objs.size 0 .none → g.get? s.heap.objs.size = some o → g.objs.size = s.heap.objs.size + 2 → (∀ b u, s.heap.get? b = some u → g.get? b = some u) → Q (.ref (s.heap.objs.size + 1)) { s with heap := g }) :
    wpAny (model prog w) A (call (.type "enumerate") [v]) Q E s := by
  refine callType_new F.called_enumerate (by decide) (F.typeCall_enumerate_1 _) (F.newCall_enumerate_1 _) (fun obj => F.args_object_init_2 obj _) F.entry_enumerate_new (meets_enumB1 B) ⟨g1, ?_⟩
  have z1 : (s.heap.push o).objs.size = s.heap.objs.size + 1 := Heap.size_push ..
  show _ ∧ _
  rw [z1]
  have z2 : IsEnum ((s.heap.push o).push { cls := .type "enumerate", data := .fields #[.none, .bool false, .ref s.heap.objs.size, rawInt 0, .none, .none] }) (s.heap.objs.size + 1) s.heap.objs.size 0 .none := by
    have z3 := Heap.get?_push_size (s.heap.push o) (o := { cls := .type "enumerate", data := .fields #[.none, .bool false, .ref s.heap.objs.size, rawInt 0, .none, .none] }) rfl
    rw [z1] at z3
    exact z3
  exact ⟨⟨_, z2, rfl⟩, h _ z2 (Heap.get?_push_of_some _ (Heap.get?_push_size _ B.free)) (by rw [Heap.size_push, z1]) fun b u x => Heap.get?_push_of_some _ (Heap.get?_push_of_some _ x)⟩
end
theorem turn_enumT {P : Program} {w : World} {K : Fg} {elts : List Expr} {kk : Nat} {tpos : Pos} (a e it : Addr) :
    Turn P w K (.Tuple elts kk tpos) (IteT K a) [e, it] e (fun i h => (∃ old, IsEnum h e it ((i : Nat) : Int) old) ∧ h.IsTupleIter it a i ∧ e ≠ it ∧ a ≠ it ∧ a ≠ e) where
  mem := by simp
  obj := fun i h st b hb => by
    obtain ⟨⟨old, he⟩, ⟨o, ho, hc, hd⟩, _⟩ := st
    have e1 : b = e ∨ b = it := by simpa using hb
    rcases e1 with z | z
    · rw [z]; exact ⟨_, he, fun v q => nomatch q⟩
    · rw [z]; exact ⟨o, ho, fun v q => by rw [hd] at q; cases q⟩
  keep := fun i h h' st k => let ⟨⟨old, he⟩, hi, hne⟩ := st; ⟨⟨old, k e (by simp) _ he⟩, hi.at fun o q => k it (by simp) o q, hne⟩
  item := by
    intro X hP hw hK hc i pins s σ H E I hf st hg
    subst hP hw hK
    obtain ⟨⟨old, he⟩, hit, hne, hai, hae⟩ := st
    obtain ⟨us, x, hq, hx⟩ := hg
    obtain ⟨ws, rv, pt, hz⟩ := I.tuple hq
    obtain ⟨u, hu, ru⟩ := rv.get hx
    have hel : e < s.heap.objs.size := Heap.lt_size he
    have hil : it < s.heap.objs.size := by obtain ⟨_, q, _⟩ := hit; exact Heap.lt_size q
    have hui : ws.toArray[i]? = some u := by simpa using hu
    have hin : i < ws.toArray.size := (Array.getElem?_eq_some_iff.mp hui).1
    have DD : Draws X.prog X.w X.A.in1 it [it, a] ws.toArray.size (fun i v => ws.toArray[i]? = some v) (fun i h => h.IsTupleIter it a i ∧ h.IsTuple a ws.toArray) := Draws.tuple (A := X.A.in1) (show X.A.in1.handled = none from I.ok.hd hc) it a hai ws.toArray
    refine wpAny_pyNext_enum_itemD DD he ⟨hit, pt⟩ hin hne (by simp [hne, Ne.symm hae]) fun x' h' tk hx' ho hst hT hsz hk => ?_
    have ex : x' = u := by
      rw [hui] at hx'
      exact (Option.some.inj hx').symm
    subst ex
    refine ⟨_, rfl, wpAny_letOwnedTupleGo_enum (s := { s with heap := h', toks := tk + 1 }) ho fun h2 he2 sb => ?_⟩
    have hT2 : h2.get? s.heap.objs.size = some { cls := .type "tuple", data := .seq #[.int i tk, x'] } := (sb.2 _ (Nat.ne_of_gt hel)).trans hT
    have nw : ObjOk X.prog X.w (upd H s.heap.objs.size (.tup [.int (i : Nat), x])) h2 s.heap.objs.size (.tup [.int (i : Nat), x]) :=
      ⟨by show 2 ≤ sizeLine; decide, [.int i tk, x'], .cons ⟨_, rfl⟩ (.cons ru .nil), ⟨_, hT2, rfl, _, rfl⟩⟩
    have I1 : L2.Inv X pins σ (upd H s.heap.objs.size (.tup [.int (i : Nat), x])) { s with heap := h2, toks := tk + 1 } :=
      I.turnedNew (ch := [e, it]) (fun b ob hb q => (sb.2 b (fun z => hb (by simp [z]))).trans (hk b ob (fun z => hb (by simp [z])) (fun z => hb (by simp [z])) q)) hf (Nat.le_refl _) nw
    refine ⟨.ref s.heap.objs.size, _, I1, rfl, ⟨_, x, rfl, I.hok.fresh (Nat.le_refl _), rfl, fun ys hy => by rw [I.tuple_inj hy hq]; exact hx⟩, ⟨⟨x', ?_⟩, hst.1.at fun o q => (sb.2 it (Ne.symm hne)).trans q, hne, hai, hae⟩, fun b hb => ?_⟩
    · rw [show ((i + 1 : Nat) : Int) = (i : Int) + 1 by omega]
      exact he2
    · have hbl : b < s.heap.objs.size := by
        have e1 : b = e ∨ b = it := by simpa using hb
        rcases e1 with z | z
        · rw [z]; exact hel
        · rw [z]; exact hil
      rw [upd_ne (Nat.ne_of_lt hbl)]
      exact (hf b hb).1
  done := by
    intro X hP hw hK hc i pins s σ H E I hf st hg
    subst hP hw hK
    obtain ⟨⟨old, he⟩, hit, hne, hai, hae⟩ := st
    obtain ⟨us, hq, hx⟩ := hg
    obtain ⟨ws, rv, pt, hz⟩ := I.tuple hq
    have lw := rv.length
    obtain ⟨f0, f1, f2, f3, f4, f5⟩ := hf it (by simp)
    have DD : Draws X.prog X.w X.A.in1 it [it, a] i (fun _ _ => True) (fun j h => j = i ∧ h.IsTupleIter it a i ∧ h.IsTuple a ws.toArray) := {
      live := fun _ _ st => let ⟨o, ho, _⟩ := st.2.1; ⟨o, ho⟩
      frame := fun _ _ _ st k => ⟨st.1, st.2.1.at fun o q => k it (by simp) o q, st.2.2.at fun o q => k a (by simp) o q⟩
      item := fun j s Q E hj st _ => absurd st.1 (by omega)
      done := fun s Q E st hE => wpAny_nextOf_tuple_end (A := X.A.in1) (show X.A.in1.handled = none from I.ok.hd hc) st.2.1 st.2.2 (by simp; omega) hE }
    exact wpAny_pyNext_enum_endD DD he ⟨rfl, hit, pt⟩ fun h' eb => ⟨rfl, I.turned (t' := s.toks) (fun b o hb q => eb b o hb q) f0 f1 f3 f4 f5⟩
  self := fun A i s Q E st h => let ⟨⟨_, he⟩, _⟩ := st; wpAny_pyIter_enum he h
theorem pi_enumT {X : Cx} {e : Expr} {ta : TA} {p pos tpos : Pos} {elts : List Expr} {kk : Nat} (hg : Gl X "enumerate") (hm : X.mg "enumerate" = none) (ha : PA X [e] ta) (hs : starEach [e] X.env = [(false, eval e X.env)] := by rfl) :
    PI X (.Tuple elts kk tpos) (.Call (.Name "enumerate" p) [e] [] pos) (fun σ H R => ta σ H fun vs H1 => ∃ a us, vs = [.ref a] ∧ SqT X.K H1 a us ∧ R (IteT X.K a) H1) := by
  refine ⟨fun pins s σ H R I h => ?_⟩
  refine Call_ (ld_blt I hg hm boot_enumerate (PyProof.Rows.callWith_type1 (thn (ha.run pos pins s σ H _ I h) fun us s1 ⟨vs, H1, I1, r1, q1⟩ => ?_) hs rfl))
  obtain ⟨a, zs, ex, hq, q⟩ := q1
  subst ex
  cases r1 with
  | cons r rr =>
    cases rr
    cases r
    obtain ⟨ws, rv, pt, hz⟩ := I1.tuple hq
    have hal : a < s1.heap.objs.size := by obtain ⟨_, q0, _⟩ := id pt; exact Heap.lt_size q0
    refine call_enumB1 (begins_tuple a ws.toArray) pt fun g he hit hsz hk => wpAny_pyIter_enum he ?_
    have I2 : L2.Inv X pins σ H1 { s1 with heap := g } := I1.kept (t' := s1.toks) hk
    refine ⟨s1.heap.objs.size + 1, [s1.heap.objs.size + 1, s1.heap.objs.size], _, _, H1, rfl, I2, turn_enumT a (s1.heap.objs.size + 1) s1.heap.objs.size, ⟨⟨.none, he⟩, ⟨_, hit, rfl, rfl⟩, Nat.succ_ne_self _, Nat.ne_of_lt hal, Nat.ne_of_lt (Nat.lt_succ_of_lt hal)⟩, fun b hb => ?_, q⟩
    have e1 : b = s1.heap.objs.size + 1 ∨ b = s1.heap.objs.size := by simpa using hb
    have le1 : s1.heap.objs.size ≤ b := by
      rcases e1 with z | z
      · rw [z]; exact Nat.le_add_right _ _
      · rw [z]; exact Nat.le_refl _
    exact I1.fpOk le1 (I1.hok.fresh le1)
theorem enumT_get : ∀ (z : List W) (m i : Nat), (enumT m z)[i]? = (z[i]?).map fun w => .tup [.int ((m + i : Nat) : Int), w]
  | [], m, i => by simp [enumT]
  | x :: r, m, 0 => by simp [enumT]
  | x :: r, m, i + 1 => by
    rw [enumT, List.getElem?_cons_succ, List.getElem?_cons_succ, enumT_get r (m + 1) i, show m + 1 + i = m + (i + 1) by omega]
theorem enumT_len : ∀ (z : List W) (m : Nat), (enumT m z).length = z.length
  | [], _ => rfl
  | x :: r, m => by rw [enumT, List.length_cons, List.length_cons, enumT_len r]
theorem zipT_get : ∀ (x y : List W) (i : Nat), (zipT x y)[i]? = match x[i]?, y[i]? with | some a, some b => some (.tup [a, b]) | _, _ => none
  | [], y, i => by simp [zipT]
  | a :: x, [], i => by simp [zipT]
  | a :: x, b :: y, 0 => by simp [zipT]
  | a :: x, b :: y, i + 1 => by
    rw [zipT, List.getElem?_cons_succ, List.getElem?_cons_succ, List.getElem?_cons_succ, zipT_get x y i]
theorem zipT_len : ∀ (x y : List W), (zipT x y).length = min x.length y.length
  | [], y => by simp [zipT]
  | a :: x, [] => by simp [zipT]
  | a :: x, b :: y => by rw [zipT, List.length_cons, List.length_cons, List.length_cons, zipT_len x y]; omega
theorem it_enumT {K : Fg} {μ : List Addr} {H : Hp} {ws : List W} {vs : List V} {a : Addr} (q0 : SqT K H a vs) (t0 : VWs K μ H vs ws) : ItOk K μ H (.seq (.tup (enumT 0 ws))) (IteT K a) := by
  intro μ2 H2 S2 x s
  have q := x.tup _ _ q0
  have t := t0.monoY x
  refine ⟨fun i w h => ?_, fun i n h hn => ?_⟩
  · simp only [Src.item, enumT_get, Option.map_eq_some_iff] at h
    obtain ⟨w0, h1, h2⟩ := h
    obtain ⟨v, h3, h4⟩ := t.get h1
    refine ⟨⟨vs, v, q, h3⟩, fun u H3 y => ?_⟩
    obtain ⟨T, v2, rfl, hT, rfl, e2⟩ := y
    have e3 := e2 vs q
    rw [h3] at e3
    cases e3
    subst h2
    rw [Nat.zero_add]
    exact ⟨ex_fresh hT, s.fresh hT, .tup (.inl (.inl upd_same)) (.cons (.int _) (.cons (h4.mono (ex_fresh hT)) .nil))⟩
  · simp only [Src.len, enumT_len] at h
    cases h
    exact ⟨vs, q, by rw [t.length]; exact hn⟩
theorem it_zipT {K : Fg} {μ : List Addr} {H : Hp} {ws zs : List W} {vs us : List V} {a b : Addr} (q0 : SqT K H a vs) (t0 : VWs K μ H vs ws) (p0 : SqT K H b us) (r0 : VWs K μ H us zs) : ItOk K μ H (.seq (.tup (zipT ws zs))) (RZ.ItzT K a b) := by
  intro μ2 H2 S2 x s
  have q := x.tup _ _ q0
  have t := t0.monoY x
  have p := x.tup _ _ p0
  have r := r0.monoY x
  refine ⟨fun i w h => ?_, fun i n h hn => ?_⟩
  · simp only [Src.item, zipT_get] at h
    split at h
    · rename_i w1 w2 h1 h2
      cases h
      obtain ⟨v1, h3, h4⟩ := t.get h1
      obtain ⟨v2, h5, h6⟩ := r.get h2
      refine ⟨⟨vs, us, v1, v2, q, p, h3, h5⟩, fun u H3 y => ?_⟩
      obtain ⟨T, y1, y2, rfl, hT, rfl, f1, f2⟩ := y
      have e1 := f1 vs q
      have e2 := f2 us p
      rw [h3] at e1
      rw [h5] at e2
      cases e1
      cases e2
      exact ⟨ex_fresh hT, s.fresh hT, .tup (.inl (.inl upd_same)) (.cons (h4.mono (ex_fresh hT)) (.cons (h6.mono (ex_fresh hT)) .nil))⟩
    · cases h
  · simp only [Src.len, zipT_len] at h
    cases h
    have l1 := t.length
    have l2 := r.length
    refine ⟨vs, us, q, p, ?_⟩
    omega
/-! zip of two texts -/
def ItzS (x y : Str) : It :=
  ⟨fun i _ => i < x.cps.size ∧ i < y.cps.size, fun i H v H' => ∃ T c d, v = .ref T ∧ H T = none ∧ x.cps[i]? = some c ∧ y.cps[i]? = some d ∧ H' = upd H T (.tup [.str ⟨#[c]⟩, .str ⟨#[d]⟩]), fun i _ => x.cps.size ≤ i ∨ y.cps.size ≤ i⟩
theorem draws_past {prog : Program} {w : World} {A : Around} (hh : A.handled = none) {x : Str} {t : Tok} {it : Addr} {i : Nat} {h : Heap} (st : h.IsStrIter it (strIterType x) x t i) :
    ∃ n P St, Draws prog w A it [it] n P St ∧ St i h ∧ i ≤ n ∧ (x.cps.size ≤ i → i = n) := by
  by_cases hi : i < x.cps.size
  · exact ⟨_, _, _, Draws.text hh it x t, st, by omega, fun q => absurd hi (by omega)⟩
  · refine ⟨i, fun _ _ => True, fun j g => j = i ∧ g.IsStrIter it (strIterType x) x t i, ⟨fun _ _ q => let ⟨o, ho, _⟩ := q.2; ⟨o, ho⟩, fun _ _ _ q k => ⟨q.1, let ⟨o, ho, r⟩ := q.2; ⟨o, k it (by simp) o ho, r⟩⟩, fun j s Q E hj q _ => absurd q.1 (by omega), fun s Q E q hE => ?_⟩, ⟨rfl, st⟩, Nat.le_refl _, fun _ => rfl⟩
    have q2 := q.2
    have no : x.cps[i]? = none := by simp; omega
    unfold strIterType at q2
    split at q2
    · exact wpAny_nextOf_ascii_end hh q2 no hE
    · exact wpAny_nextOf_wide_end hh q2 no hE
theorem turn_zipS {P : Program} {w : World} {K : Fg} {elts : List Expr} {kk : Nat} {tpos : Pos} {x y : Str} {t u : Tok} {z TI TO i1 i2 : Addr} (D : ZipSep2 z TI TO i1 i2 [i1] [i2]) :
    Turn P w K (.Tuple elts kk tpos) (ItzS x y) [z, TI, TO, i1, i2] z (fun i h => IsZip h z TI TO .none ∧ IsTupOf2 h TI (.ref i1) (.ref i2) ∧ (∃ a b, IsTupOf2 h TO a b) ∧ h.IsStrIter i1 (strIterType x) x t i ∧ h.IsStrIter i2 (strIterType y) y u i) where
  mem := by simp
  obj := fun i h st c hc => by
    obtain ⟨hz, hTI, ⟨_, _, hTO⟩, ⟨o1, e1, _, d1⟩, ⟨o2, e2, _, d2⟩⟩ := st
    have e' : c = z ∨ c = TI ∨ c = TO ∨ c = i1 ∨ c = i2 := by simpa using hc
    rcases e' with q | q | q | q | q <;> rw [q]
    · exact ⟨_, hz, fun v q => nomatch q⟩
    · exact ⟨_, hTI, fun v q => nomatch q⟩
    · exact ⟨_, hTO, fun v q => nomatch q⟩
    · exact ⟨o1, e1, fun v q => by rw [d1] at q; cases q⟩
    · exact ⟨o2, e2, fun v q => by rw [d2] at q; cases q⟩
  keep := fun i h h' st k => by
    obtain ⟨hz, hTI, ⟨a0, b0, hTO⟩, ⟨o1, e1, r1⟩, ⟨o2, e2, r2⟩⟩ := st
    exact ⟨k z (by simp) _ hz, k TI (by simp) _ hTI, ⟨a0, b0, k TO (by simp) _ hTO⟩, ⟨o1, k i1 (by simp) _ e1, r1⟩, ⟨o2, k i2 (by simp) _ e2, r2⟩⟩
  item := by
    intro X hP hw hK hc i pins s σ H E I hf st hg
    subst hP hw hK
    obtain ⟨hz, hTI, ⟨a0, b0, hTO⟩, h1, h2⟩ := st
    have hzl : z < s.heap.objs.size := Heap.lt_size hz
    have hh : X.A.in1.handled = none := I.ok.hd hc
    refine wpAny_pyNext_zipD2_item D (Draws.text hh i1 x t) (Draws.text hh i2 y u) hz hTI hTO h1 h2 hg.1 hg.2 fun x1 x2 h' tk p1 p2 z' TO' h1' h2' hT hsz hk => ?_
    obtain ⟨c, tc, hx, rfl⟩ := p1
    obtain ⟨d, td, hy, rfl⟩ := p2
    refine ⟨_, rfl, wpAny_letOwnedTupleGo_zip (s := { s with heap := h', toks := tk }) z' fun h'' z'' sb => ?_⟩
    have hT2 : h''.get? s.heap.objs.size = some { cls := .type "tuple", data := .seq #[.str ⟨#[c]⟩ tc, .str ⟨#[d]⟩ td] } := (sb.2 _ (Nat.ne_of_gt hzl)).trans hT
    have nw : ObjOk X.prog X.w (upd H s.heap.objs.size (.tup [.str ⟨#[c]⟩, .str ⟨#[d]⟩])) h'' s.heap.objs.size (.tup [.str ⟨#[c]⟩, .str ⟨#[d]⟩]) :=
      ⟨by show 2 ≤ sizeLine; decide, [.str ⟨#[c]⟩ tc, .str ⟨#[d]⟩ td], .cons ⟨_, rfl⟩ (.cons ⟨_, rfl⟩ .nil), ⟨_, hT2, rfl, _, rfl⟩⟩
    have I1 : L2.Inv X pins σ (upd H s.heap.objs.size (.tup [.str ⟨#[c]⟩, .str ⟨#[d]⟩])) { s with heap := h'', toks := tk } :=
      I.turnedNew (t' := tk) (ch := [z, TI, TO, i1, i2]) (fun b o hb q => (sb.2 b (fun q' => hb (by simp [q']))).trans (hk b o (fun q' => hb (by simp [q'])) (fun q' => hb (by simp [q'])) (fun q' => hb (by simp [q'])) (fun q' => hb (by simp [q'])) q)) hf (Nat.le_refl _) nw
    refine ⟨.ref s.heap.objs.size, _, I1, rfl, ⟨_, c, d, rfl, I.hok.fresh (Nat.le_refl _), hx, hy, rfl⟩, ⟨z'', ?_, ⟨.str ⟨#[c]⟩ tc, .str ⟨#[d]⟩ td, ?_⟩, ?_, ?_⟩, fun b hbm => ?_⟩
    · exact (sb.2 _ D.TIz).trans (hk _ _ D.TIz D.TITO D.TIi1 D.TIi2 hTI)
    · exact (sb.2 _ D.TOz).trans TO'
    · obtain ⟨o, ho, r⟩ := h1'
      exact ⟨o, (sb.2 _ D.zi1.symm).trans ho, r⟩
    · obtain ⟨o, ho, r⟩ := h2'
      exact ⟨o, (sb.2 _ D.zi2.symm).trans ho, r⟩
    · have hlt : b < s.heap.objs.size := by
        have e' : b = z ∨ b = TI ∨ b = TO ∨ b = i1 ∨ b = i2 := by simpa using hbm
        rcases e' with q | q | q | q | q <;> rw [q]
        · exact hzl
        · exact Heap.lt_size hTI
        · exact Heap.lt_size hTO
        · obtain ⟨_, e1, _⟩ := h1; exact Heap.lt_size e1
        · obtain ⟨_, e2, _⟩ := h2; exact Heap.lt_size e2
      rw [upd_ne (Nat.ne_of_lt hlt)]
      exact (hf b hbm).1
  done := by
    intro X hP hw hK hc i pins s σ H E I hf st hg
    subst hP hw hK
    obtain ⟨hz, hTI, ⟨a0, b0, hTO⟩, h1, h2⟩ := st
    have hh : X.A.in1.handled = none := I.ok.hd hc
    obtain ⟨n1, P1, St1, D1, s1, l1, e1⟩ := draws_past (prog := X.prog) (w := X.w) (A := X.A.in1) hh h1
    obtain ⟨n2, P2, St2, D2, s2, l2, e2⟩ := draws_past (prog := X.prog) (w := X.w) (A := X.A.in1) hh h2
    refine wpAny_pyNext_zipD2_end D D1 D2 hz hTI hTO s1 s2 l1 l2 (hg.imp e1 e2) fun h' tk hk => ⟨rfl, I.turnedL (t' := tk) (ch := [z, TI, TO, i1, i2]) (fun b o hb q =>
      hk b o (fun q' => hb (by simp [q'])) (fun q' => hb (by simp [q'])) (fun q' => hb (by simp [q'])) (fun q' => hb (by simp [q'])) q) hf⟩
  self := fun A i s Q E st h => wpAny_pyIter_zip st.1 h
theorem sep5 (n : Nat) : ZipSep2 (n + 4) (n + 2) (n + 3) n (n + 1) [n] [n + 1] := by
  constructor <;> simp
theorem pi_zipB {X : Cx} {e e2 : Expr} {ta : TA} {p pos tpos : Pos} {elts : List Expr} {kk : Nat} (hg : Gl X "zip") (hm : X.mg "zip" = none) (ha : PA X [e, e2] ta)
    (hs : starEach [e, e2] X.env = (false, eval e X.env) :: starEach [e2] X.env := by rfl) (hpl : (backTo pos (starEach [e2] X.env)).any (·.1) = false := by rfl) :
    PI X (.Tuple elts kk tpos) (.Call (.Name "zip" p) [e, e2] [] pos) (fun σ H R => ta σ H fun vs H1 => (∃ a b xs ys, vs = [.ref a, .ref b] ∧ SqT X.K H1 a xs ∧ SqT X.K H1 b ys ∧ R (RZ.ItzT X.K a b) H1) ∨ ∃ x y, vs = [.str x, .str y] ∧ R (ItzS x y) H1) := by
  refine ⟨fun pins s σ H R I h => ?_⟩
  refine Call_ (ld_blt I hg hm PyProof.Rows.boot_zip (PyProof.Rows.callWith_type1 (thn (ha.run pos pins s σ H _ I h) fun us s1 ⟨vs, H1, I1, r1, q1⟩ => ?_) hs hpl))
  have five : ∀ c, c ∈ [s1.heap.objs.size + 4, s1.heap.objs.size + 2, s1.heap.objs.size + 3, s1.heap.objs.size, s1.heap.objs.size + 1] → FpOk X pins H1 c := fun c hcm => by
    have hle : s1.heap.objs.size ≤ c := by
      have e' : c = s1.heap.objs.size + 4 ∨ c = s1.heap.objs.size + 2 ∨ c = s1.heap.objs.size + 3 ∨ c = s1.heap.objs.size ∨ c = s1.heap.objs.size + 1 := by simpa using hcm
      rcases e' with q | q | q | q | q <;> rw [q] <;> first | exact Nat.le_refl _ | exact Nat.le_add_right _ _
    exact I1.fpOk hle (I1.hok.fresh hle)
  rcases q1 with ⟨a, b, xs, ys, ex, hqx, hqy, q⟩ | ⟨x, y, ex, q⟩
  · subst ex
    cases r1 with
    | cons r rr =>
      cases rr with
      | cons r' rr =>
        cases rr
        cases r
        cases r'
        obtain ⟨its, rv, p1, _⟩ := I1.tuple hqx
        obtain ⟨its2, rv2, p2, _⟩ := I1.tuple hqy
        obtain ⟨o1, ho1, _⟩ := id p1
        obtain ⟨o2, ho2, _⟩ := id p2
        refine RZ.call_zipT (show s1.heap.IsTuple a its.toArray from p1) (show s1.heap.IsTuple b its2.toArray from p2) fun h' hz hTI hTO h1 h2 hsz hk => wpAny_pyIter_zip hz ?_
        have I2 : L2.Inv X pins σ H1 { s1 with heap := h' } := I1.kept (t' := s1.toks) hk
        exact ⟨_, [s1.heap.objs.size + 4, s1.heap.objs.size + 2, s1.heap.objs.size + 3, s1.heap.objs.size, s1.heap.objs.size + 1], _, _, H1, rfl, I2, RZ.turn_zipT (PySem.W.ktu_apart s1.heap.objs.size a b (Heap.lt_size ho1) (Heap.lt_size ho2)), ⟨hz, hTI, ⟨_, _, hTO⟩, h1, h2⟩, five, q⟩
  · subst ex
    cases r1 with
    | cons r rr =>
      cases rr with
      | cons r' rr =>
        cases rr
        obtain ⟨t, rfl⟩ := r
        obtain ⟨u, rfl⟩ := r'
        refine zip_begins2 (begins_text x t) (begins_text y u) trivial trivial fun h' hz hTI hTO h1 h2 hsz hk => wpAny_pyIter_zip hz ?_
        have I2 : L2.Inv X pins σ H1 { s1 with heap := h' } := I1.kept (t' := s1.toks) hk
        exact ⟨_, [s1.heap.objs.size + 4, s1.heap.objs.size + 2, s1.heap.objs.size + 3, s1.heap.objs.size, s1.heap.objs.size + 1], _, _, H1, rfl, I2, turn_zipS (t := t) (u := u) (sep5 _), ⟨hz, hTI, ⟨_, _, hTO⟩, ⟨_, h1, rfl, rfl⟩, ⟨_, h2, rfl, rfl⟩⟩, five, q⟩
theorem it_zipS {K : Fg} {μ : List Addr} {H : Hp} {l m : List Nat} {x y : Str} (e1 : x.cps.toList = l) (e2 : y.cps.toList = m) : ItOk K μ H (.seq (.tup (zipT (sgns l) (sgns m)))) (ItzS x y) := by
  intro μ2 H2 S2 _ s
  have z1 : x.cps.size = l.length := by rw [← e1]; simp
  have z2 : y.cps.size = m.length := by rw [← e2]; simp
  refine ⟨fun i w h => ?_, fun i n h hn => ?_⟩
  · simp only [Src.item, zipT_get, sgns, List.getElem?_map] at h
    cases h1 : l[i]? with
    | none => rw [h1] at h; simp at h
    | some c =>
      cases h2 : m[i]? with
      | none => rw [h1, h2] at h; simp at h
      | some d =>
        rw [h1, h2] at h
        simp only [Option.map_some, Option.some.injEq] at h
        subst h
        refine ⟨⟨by rw [z1]; exact (List.getElem?_eq_some_iff.mp h1).1, by rw [z2]; exact (List.getElem?_eq_some_iff.mp h2).1⟩, fun v H3 q => ?_⟩
        obtain ⟨T, c', d', rfl, hT, q1, q2, rfl⟩ := q
        have f1 : c' = c := by
          rw [← Array.getElem?_toList, e1, h1] at q1
          exact (Option.some.inj q1).symm
        have f2 : d' = d := by
          rw [← Array.getElem?_toList, e2, h2] at q2
          exact (Option.some.inj q2).symm
        subst f1 f2
        exact ⟨ex_fresh hT, s.fresh hT, .tup (.inl (.inl upd_same)) (.cons (.str _ _ rfl) (.cons (.str _ _ rfl) .nil))⟩
  · simp only [Src.len, zipT_len, sgns, List.length_map] at h
    cases h
    show _ ∨ _
    omega
section
variable {X : Cx} {Φ : Fns} {a b d e tg : Expr} {es : List Expr} {ca cb cd ce : CE} {cs : CEs} {pos : Pos}
theorem di_enum {p tpos : Pos} {elts : List Expr} {kk : Nat} (hm : X.mg "enumerate" = none) (ha : DE X Φ a ca) (hg : Gl X "enumerate" := by rfl) (hs : starEach [a] X.env = [(false, eval a X.env)] := by rfl) : DI X Φ (.Tuple elts kk tpos) (.Call (.Name "enumerate" p) [a] [] pos) (.enum ca) := by
  refine piW (pi_enumT hg hm (pa_cons ha pa_nil hs) hs) fun σ H R h => ?_
  obtain ⟨μ, env, S, J, S', s, er, h1, h2, n, hn⟩ := h
  simp only [evi] at h1
  split at h1
  · rename_i z S1 e1
    cases h1
    refine ⟨μ, env, S, _, _, s, er, e1, fun v μ1 H1 x1 s1 r1 => ?_⟩
    cases r1 with
    | tup q t => exact ⟨_, _, rfl, q, h2 ⟨n, hn⟩ μ1 H1 _ x1 s1 (it_enumT q t)⟩
  · cases h1
theorem di_zip {p tpos : Pos} {elts : List Expr} {kk : Nat} (hm : X.mg "zip" = none) (ha : DE X Φ a ca) (hb : DE X Φ b cb) (hg : Gl X "zip" := by rfl) (hs : starEach [a, b] X.env = (false, eval a X.env) :: starEach [b] X.env := by rfl) (hs2 : starEach [b] X.env = [(false, eval b X.env)] := by rfl) (hpl : (backTo pos (starEach [b] X.env)).any (·.1) = false := by rfl) :
    DI X Φ (.Tuple elts kk tpos) (.Call (.Name "zip" p) [a, b] [] pos) (.zip ca cb) := by
  refine piW (pi_zipB hg hm (pa_cons ha (pa_cons hb pa_nil hs2) hs) hs hpl) fun σ H R h => ?_
  obtain ⟨μ, env, S, J, S', s, er, h1, h2, n, hn⟩ := h
  simp only [evi] at h1
  split at h1
  · rename_i x S1 e1
    split at h1
    · rename_i y S2 e2
      cases h1
      refine ⟨μ, env, S, _, _, s, er, e1, fun v μ1 H1 x1 s1 r1 => ⟨μ1, env, S1, _, _, s1, er.mono x1, e2, fun u μ2 H2 x2 s2 r2 => ?_⟩⟩
      have r1' := r1.mono x2
      cases r1' with
      | tup q t =>
        cases r2 with
        | tup q' t' => exact .inl ⟨_, _, _, _, rfl, q, q', h2 ⟨n, hn⟩ μ2 H2 _ (x1.trans x2) s2 (it_zipT q t q' t')⟩
    · cases h1
  · rename_i x S1 e1
    split at h1
    · rename_i y S2 e2
      cases h1
      refine ⟨μ, env, S, _, _, s, er, e1, fun v μ1 H1 x1 s1 r1 => ⟨μ1, env, S1, _, _, s1, er.mono x1, e2, fun u μ2 H2 x2 s2 r2 => ?_⟩⟩
      have r1' := r1.mono x2
      cases r1' with
      | str q _ t =>
        cases r2 with
        | str q' _ t' => exact .inr ⟨_, _, rfl, h2 ⟨n, hn⟩ μ2 H2 _ (x1.trans x2) s2 (it_zipS t t')⟩
    · cases h1
  · cases h1
end
end MP
/-! list(zip(x, y)) of two tuples -/
namespace MP
open PySem PySem.Spec PyProof.Rows L2
section
variable {prog : Program} {w : World} {A : Around} {E : Value → Shared → Prop} {s : Shared} {z TI TO T i1 i2 l1 l2 q : Addr} {f : Bool} {oT : Obj} {n1 n2 : Nat} {xs ys : Array Value} {x y : Value}
/-- the next pair, where the one that was given out is still there -/
theorem zh_item {Q : Value → Shared → Prop} (D : ZipApart z TI TO i1 i2 l1 l2) (hZ : IsZipHeld s.heap z TI TO T f) (hT : s.heap.get? T = some oT) (hI : IsPair s.heap TI (.ref i1) (.ref i2)) (a1 : s.heap.IsTupleIter i1 l1 n1) (a2 : s.heap.IsTupleIter i2 l2 n2) (t1 : s.heap.IsTuple l1 xs) (t2 : s.heap.IsTuple l2 ys) (hx : xs[n1]? = some x) (hy : ys[n2]? = some y)
    (go : ∀ g, IsZipHeld g z TI TO T true → g.IsTupleIter i1 l1 (n1 + 1) → g.IsTupleIter i2 l2 (n2 + 1) → IsPair g s.heap.objs.size x y → g.objs.size = s.heap.objs.size + 1 → (∀ c o, c ≠ z → c ≠ i1 → c ≠ i2 → s.heap.get? c = some o → g.get? c = some o) → Q (.ref s.heap.objs.size) { s with heap := g }) :
    wpAny (model prog w) A (Builtin.«zip.__next__» ⟨[.ref z], []⟩) (fun fin s' => ∃ v, fin = .done (.ret v) ∧ Q v s') E s := by
  show wpAny _ _ (field (.ref z) 2 >>= _) _ _ _
  refine wpAny_bind (wpAny_field hZ rfl (x := .bool false) rfl ?_)
  show wpAny _ _ (field (.ref z) 3 >>= _) _ _ _
  refine wpAny_bind (wpAny_field hZ rfl (x := .ref TI) rfl ?_)
  refine wpAny_bind (wpAny_seqItems hI rfl ?_)
  show wpAny _ _ (Builtin.SmallTypes.ownedTupleIsFree (.ref z) >>= _) _ _ _
  refine wpAny_bind (wpAny_tupleHeld_zip hZ hT fun ga hZa sa => ?_)
  simp only [Bool.false_eq_true, if_false]
  refine wpAny_bind ?_
  rw [← Array.forIn_toList]
  simp only [List.forIn_cons, List.forIn_nil]
  refine wpAny_bind (wpAny_bind (wpAny_holding ?_))
  show wpAny _ _ (Builtin.SmallTypes.nextOf (.ref i1) >>= _) _ _ _
  refine wpAny_bind (RZ.nextOf_tuple_item (s := { s with heap := ga }) (a1.extBut sa.extBut D.i1z) (t1.extBut sa.extBut D.l1z) hx fun gb b1 sb => wpAny_pure ?_)
  refine wpAny_pure ?_
  refine wpAny_bind (wpAny_bind (wpAny_holding ?_))
  show wpAny _ _ (Builtin.SmallTypes.nextOf (.ref i2) >>= _) _ _ _
  refine wpAny_bind (RZ.nextOf_tuple_item (s := { s with heap := gb }) ((a2.extBut sa.extBut D.i2z).extBut sb.extBut D.i12.symm) ((t2.extBut sa.extBut D.l2z).extBut sb.extBut D.l2i1) hy fun gc b2 sc => wpAny_pure ?_)
  refine wpAny_pure (wpAny_pure ?_)
  show wpAny _ _ (newTuple [x, y] >>= _) _ _ _
  refine wpAny_bind (wpAny_newTuple ?_)
  have ez : gc.objs.size = s.heap.objs.size := by rw [sc.1, sb.1, sa.1]
  have hZc : IsZipHeld gc z TI TO T true := sc.extBut _ _ D.i2z.symm (sb.extBut _ _ D.i1z.symm hZa)
  have kc : ∀ c o, c ≠ z → c ≠ i1 → c ≠ i2 → s.heap.get? c = some o → gc.get? c = some o := fun c o p1 p2 p3 e => sc.extBut _ _ p3 (sb.extBut _ _ p2 (sa.extBut _ _ p1 e))
  have b1c : gc.IsTupleIter i1 l1 (n1 + 1) := b1.extBut sc.extBut D.i12
  refine wpAny_pure ⟨_, rfl, ?_⟩
  show Q (.ref gc.objs.size) _
  have hp : IsPair (gc.push { cls := .type "tuple", data := .seq #[x, y] }) gc.objs.size x y := Heap.get?_push_size _ rfl
  have hq : (gc.push { cls := .type "tuple", data := .seq #[x, y] }).objs.size = gc.objs.size + 1 := Heap.size_push ..
  rw [ez] at hp hq ⊢
  exact go _ (Heap.get?_push_of_some _ hZc) (b1c.at fun o e => Heap.get?_push_of_some _ e) (b2.at fun o e => Heap.get?_push_of_some _ e) hp hq fun c o p1 p2 p3 e => Heap.get?_push_of_some _ (kc c o p1 p2 p3 e)
theorem zh_end {Q : Fin → Shared → Prop} (hh : A.handled = none) (D : ZipApart z TI TO i1 i2 l1 l2) (hZ : IsZipHeld s.heap z TI TO T f) (hT : s.heap.get? T = some oT) (hI : IsPair s.heap TI (.ref i1) (.ref i2)) (a1 : s.heap.IsTupleIter i1 l1 n1) (a2 : s.heap.IsTupleIter i2 l2 n2) (t1 : s.heap.IsTuple l1 xs) (t2 : s.heap.IsTuple l2 ys) (he : xs[n1]? = none ∨ ys[n2]? = none)
    (go : ∀ g e, (∀ c o, c ≠ z → c ≠ i1 → c ≠ i2 → s.heap.get? c = some o → g.get? c = some o) → (∃ o, g.get? e = some o ∧ o.cls = .type "StopIteration") → E (.ref e) { s with heap := g }) :
    wpAny (model prog w) A (Builtin.«zip.__next__» ⟨[.ref z], []⟩) Q E s := by
  show wpAny _ _ (field (.ref z) 2 >>= _) _ _ _
  refine wpAny_bind (wpAny_field hZ rfl (x := .bool false) rfl ?_)
  show wpAny _ _ (field (.ref z) 3 >>= _) _ _ _
  refine wpAny_bind (wpAny_field hZ rfl (x := .ref TI) rfl ?_)
  refine wpAny_bind (wpAny_seqItems hI rfl ?_)
  show wpAny _ _ (Builtin.SmallTypes.ownedTupleIsFree (.ref z) >>= _) _ _ _
  refine wpAny_bind (wpAny_tupleHeld_zip hZ hT fun ga hZa sa => ?_)
  simp only [Bool.false_eq_true, if_false]
  refine wpAny_bind ?_
  rw [← Array.forIn_toList]
  simp only [List.forIn_cons, List.forIn_nil]
  refine wpAny_bind (wpAny_bind (wpAny_holding ?_))
  show wpAny _ _ (Builtin.SmallTypes.nextOf (.ref i1) >>= _) _ _ _
  cases ex : xs[n1]? with
  | none =>
    refine wpAny_bind (RZ.nextOf_tuple_end (s := { s with heap := ga }) hh (a1.extBut sa.extBut D.i1z) (t1.extBut sa.extBut D.l1z) ex fun gb e sb st => ?_)
    exact go gb e (fun c o p1 p2 _ u => sb _ _ p2 (sa.extBut _ _ p1 u)) st
  | some x =>
    have ey : ys[n2]? = none := by rcases he with h | h; rw [ex] at h; cases h; exact h
    refine wpAny_bind (RZ.nextOf_tuple_item (s := { s with heap := ga }) (a1.extBut sa.extBut D.i1z) (t1.extBut sa.extBut D.l1z) ex fun gb b1 sb => wpAny_pure ?_)
    refine wpAny_pure ?_
    refine wpAny_bind (wpAny_bind (wpAny_holding ?_))
    show wpAny _ _ (Builtin.SmallTypes.nextOf (.ref i2) >>= _) _ _ _
    refine wpAny_bind (RZ.nextOf_tuple_end (s := { s with heap := gb }) hh ((a2.extBut sa.extBut D.i2z).extBut sb.extBut D.i12.symm) ((t2.extBut sa.extBut D.l2z).extBut sb.extBut D.l2i1) ey fun gc e sc st => ?_)
    exact go gc e (fun c o p1 p2 p3 u => sc _ _ p3 (sb.extBut _ _ p2 (sa.extBut _ _ p1 u))) st
/-- a zip under way: nothing given out yet, or the first pair still there -/
def ZS (z TI TO i1 i2 l1 l2 q : Addr) (h : Heap) (i : Nat) : Prop := IsPair h TI (.ref i1) (.ref i2) ∧ h.IsTupleIter i1 l1 i ∧ h.IsTupleIter i2 l2 i ∧
  ((IsZip h z TI TO .none ∧ ∃ u v, IsPair h TO u v) ∨ ∃ (T : Addr) (f : Bool) (o : Obj), IsZipHeld h z TI TO T f ∧ h.get? T = some o ∧ T ≠ z ∧ T ≠ i1 ∧ T ≠ i2 ∧ T ≠ q ∧ ∃ oO, h.get? TO = some oO)
theorem ZS.keep {h g : Heap} {i : Nat} (st : ZS z TI TO i1 i2 l1 l2 q h i) (nz : z ≠ q) (nI : TI ≠ q) (nO : TO ≠ q) (n1 : i1 ≠ q) (n2 : i2 ≠ q) (k : ∀ c o, c ≠ q → h.get? c = some o → g.get? c = some o) : ZS z TI TO i1 i2 l1 l2 q g i := by
  obtain ⟨a, b, c, d⟩ := st
  refine ⟨k _ _ nI a, b.at fun o e => k _ o n1 e, c.at fun o e => k _ o n2 e, ?_⟩
  rcases d with ⟨d, u, v, e⟩ | ⟨T, f, o, d, e, r1, r2, r3, r4, oO, eO⟩
  · exact .inl ⟨k _ _ nz d, u, v, k _ _ nO e⟩
  · exact .inr ⟨T, f, o, k _ _ nz d, k _ _ r4 e, r1, r2, r3, r4, oO, k _ _ nO eO⟩
theorem zs_type {h : Heap} {i : Nat} (st : ZS z TI TO i1 i2 l1 l2 q h i) (hs : s.heap = h) : s.TypeIs (.ref z) "zip" := by
  subst hs
  rcases st.2.2.2 with ⟨d, _⟩ | ⟨_, _, _, d, _⟩
  · exact ⟨_, d, rfl⟩
  · exact ⟨_, d, rfl⟩
theorem zs_item {i : Nat} {Q : Option Value → Shared → Prop} (D : ZipApart z TI TO i1 i2 l1 l2) (st : ZS z TI TO i1 i2 l1 l2 q s.heap i) (hq : q < s.heap.objs.size) (t1 : s.heap.IsTuple l1 xs) (t2 : s.heap.IsTuple l2 ys) (hx : xs[i]? = some x) (hy : ys[i]? = some y)
    (go : ∀ g, ZS z TI TO i1 i2 l1 l2 q g (i + 1) → IsPair g s.heap.objs.size x y → g.objs.size = s.heap.objs.size + 1 → (∀ c o, c ∉ [z, TI, TO, i1, i2] → s.heap.get? c = some o → g.get? c = some o) → Q (some (.ref s.heap.objs.size)) { s with heap := g }) :
    wpAny (model prog w) A (pyNext (.ref z)) Q E s := by
  have ty := zs_type st rfl
  obtain ⟨hI, a1, a2, d⟩ := st
  have lz : z < s.heap.objs.size := by
    rcases d with ⟨d, _⟩ | ⟨_, _, _, d, _⟩ <;> exact Heap.lt_size d
  have li1 : i1 < s.heap.objs.size := by obtain ⟨_, e, _⟩ := a1; exact Heap.lt_size e
  have li2 : i2 < s.heap.objs.size := by obtain ⟨_, e, _⟩ := a2; exact Heap.lt_size e
  rcases d with ⟨hZ, u, v, hO⟩ | ⟨T, f, o, hZ, hT, r1, r2, r3, r4, oO, eO⟩
  · refine RZ.pyNext_zipT_item D hZ hI hO a1 a2 t1 t2 hx hy fun g hz' hO' b1 b2 hp hs' hk => ?_
    refine go g ⟨hk _ _ D.TIz D.TITO D.TIi1 D.TIi2 hI, b1, b2, .inr ⟨s.heap.objs.size, false, _, hz', hp, Nat.ne_of_gt lz, Nat.ne_of_gt li1, Nat.ne_of_gt li2, Nat.ne_of_gt hq, _, hO'⟩⟩ hp hs' fun c o hc e => hk c o (fun h => hc (by simp [h])) (fun h => hc (by simp [h])) (fun h => hc (by simp [h])) (fun h => hc (by simp [h])) e
  · unfold pyNext
    refine wpAny_bind (wpAny_attempt (wpAny_callSpecial?_slot (name := Str.ofString "__next__") ty F.slot_zip_next (wpAny_call_entry F.slot_zip_next ty F.entry_zip_next (zh_item D hZ hT hI a1 a2 t1 t2 hx hy fun g hz' b1 b2 hp hs' hk => wpAny_pure ?_) (F.args_zip_next_1 _))))
    refine go g ⟨hk _ _ D.TIz D.TIi1 D.TIi2 hI, b1, b2, .inr ⟨T, true, o, hz', hk _ _ r1 r2 r3 hT, r1, r2, r3, r4, oO, hk _ _ D.TOz D.TOi1 D.TOi2 eO⟩⟩ hp hs' fun c o hc e => hk c o (fun h => hc (by simp [h])) (fun h => hc (by simp [h])) (fun h => hc (by simp [h])) e
theorem zs_end {i : Nat} {Q : Option Value → Shared → Prop} (hh : A.handled = none) (D : ZipApart z TI TO i1 i2 l1 l2) (st : ZS z TI TO i1 i2 l1 l2 q s.heap i) (t1 : s.heap.IsTuple l1 xs) (t2 : s.heap.IsTuple l2 ys) (he : xs[i]? = none ∨ ys[i]? = none)
    (go : ∀ g, (∀ c o, c ∉ [z, TI, TO, i1, i2] → s.heap.get? c = some o → g.get? c = some o) → Q none { s with heap := g }) :
    wpAny (model prog w) A (pyNext (.ref z)) Q E s := by
  have ty := zs_type st rfl
  obtain ⟨hI, a1, a2, d⟩ := st
  rcases d with ⟨hZ, u, v, hO⟩ | ⟨T, f, o, hZ, hT, r1, r2, r3, r4, oO, eO⟩
  · exact RZ.pyNext_zipT_end hh D hZ hI hO a1 a2 t1 t2 he fun g hk => go g fun c o hc e => hk c o (fun h => hc (by simp [h])) (fun h => hc (by simp [h])) (fun h => hc (by simp [h])) (fun h => hc (by simp [h])) e
  · unfold pyNext
    refine wpAny_bind (wpAny_attempt (wpAny_callSpecial?_slot (name := Str.ofString "__next__") ty F.slot_zip_next (wpAny_call_entry F.slot_zip_next ty F.entry_zip_next (zh_end hh D hZ hT hI a1 a2 t1 t2 he fun g e hk st => ?_) (F.args_zip_next_1 _))))
    obtain ⟨o', ho, hc⟩ := st
    refine wpAny_bind (wpAny_isInstance (T := "StopIteration") (b := true) ⟨o', ho, hc⟩ isSubtype_stop ?_)
    exact wpAny_pure (go _ fun c o hc e => hk c o (fun h => hc (by simp [h])) (fun h => hc (by simp [h])) (fun h => hc (by simp [h])) e)
theorem zip_len0 : typeLookup (.type "zip") "__len__" = pure none := by rw [typeLookup_type, builtinLookup_eq_fast]; kernel_rfl
theorem zip_hint0 : typeLookup (.type "zip") "__length_hint__" = pure none := by rw [typeLookup_type, builtinLookup_eq_fast]; kernel_rfl
end
section
variable {X : Cx} {pins : List (Addr × Obj)} {σ : L2.St} {zp TI TO i1 i2 a b q : Addr} {xs ys : List V}
/-- what is walked: the list at q is filled, pair by pair -/
structure ZRun (K : Fg) (a b q : Addr) (xs ys : List V) (P : Nat → List V → Hp → Prop) : Prop where
  here : ∀ i acc H, P i acc H → H q = some (.lst acc) ∧ acc.length = i ∧ SqT K H a xs ∧ SqT K H b ys
  step : ∀ i acc H T x y, P i acc H → xs[i]? = some x → ys[i]? = some y → H T = none → P (i + 1) (acc ++ [.ref T]) (upd (upd H T (.tup [x, y])) q (.lst (acc ++ [.ref T])))
theorem zl_loop {A1 : Around} {Rs : Result → Shared → Prop} {P : Nat → List V → Hp → Prop} (hh : A1.in1.handled = none) (D : ZipApart zp TI TO i1 i2 a b) (R : ZRun X.K a b q xs ys P)
    (fin : ∀ i acc H s, Inv X pins σ H s → P i acc H → xs.length ≤ i ∨ ys.length ≤ i → Rs (.ok (.ret .none)) s) :
    ∀ (m i : Nat) (acc : List V) (H : Hp) (s : Shared), xs.length - i = m → Inv X pins σ H s → P i acc H → ZS zp TI TO i1 i2 a b q s.heap i → (∀ c ∈ [zp, TI, TO, i1, i2], FpOk X pins H c) →
      codeAny (model X.prog X.w) A1 (.builtin "list.extend.loop" ⟨[.ref q, .ref zp, .none], []⟩) Rs s := by
  intro m
  induction m with
  | zero =>
    intro i acc H s hm I hP st hf
    obtain ⟨h1, h2, h3, h4⟩ := R.here i acc H hP
    obtain ⟨u1, v1, p1, _⟩ := I.tuple h3
    obtain ⟨u2, v2, p2, _⟩ := I.tuple h4
    have e1 := v1.length
    refine codeAny_builtin PySem.F.entry_extend_loop ?_
    rw [Around.under_plainId PySem.F.plain_extend_loop _]
    show wpAny _ A1.in1 (pyNext (.ref zp) >>= _) _ _ s
    refine wpAny_bind (zs_end (A := A1.in1) hh D st p1 p2 (.inl (by simp; omega)) fun g hk => ?_)
    exact wpAny_pure (fin i acc H _ (I.turnedL (t' := s.toks) (ch := [zp, TI, TO, i1, i2]) hk hf) hP (.inl (by omega)))
  | succ m ih =>
    intro i acc H s hm I hP st hf
    obtain ⟨h1, h2, h3, h4⟩ := R.here i acc H hP
    obtain ⟨u1, v1, p1, z1⟩ := I.tuple h3
    obtain ⟨u2, v2, p2, z2⟩ := I.tuple h4
    have e1 := v1.length
    have e2 := v2.length
    refine codeAny_builtin PySem.F.entry_extend_loop ?_
    rw [Around.under_plainId PySem.F.plain_extend_loop _]
    show wpAny _ A1.in1 (pyNext (.ref zp) >>= _) _ _ s
    by_cases hy : ys.length ≤ i
    · refine wpAny_bind (zs_end (A := A1.in1) hh D st p1 p2 (.inr (by simp; omega)) fun g hk => ?_)
      exact wpAny_pure (fin i acc H _ (I.turnedL (t' := s.toks) (ch := [zp, TI, TO, i1, i2]) hk hf) hP (.inr hy))
    have lx : i < xs.length := by omega
    have ly : i < ys.length := by omega
    have gx : xs[i]? = some xs[i] := List.getElem?_eq_getElem lx
    have gy : ys[i]? = some ys[i] := List.getElem?_eq_getElem ly
    obtain ⟨c1, w1, r1⟩ := v1.get gx
    obtain ⟨c2, w2, r2⟩ := v2.get gy
    obtain ⟨_, _, _, _, _, el⟩ := I.lstM h1
    have lq : q < s.heap.objs.size := Heap.lt_size el
    have nq : ∀ c ∈ [zp, TI, TO, i1, i2], c ≠ q := fun c hc e => by
      have := (hf c hc).1
      rw [e, h1] at this
      cases this
    refine wpAny_bind (zs_item (A := A1.in1) D st lq p1 p2 (x := c1) (y := c2) (by simpa using w1) (by simpa using w2) fun g st' hp hs hk => ?_)
    have hn : H s.heap.objs.size = none := I.hok.fresh (Nat.le_refl _)
    have ob : ObjOk X.prog X.w (upd H s.heap.objs.size (.tup [xs[i], ys[i]])) g s.heap.objs.size (.tup [xs[i], ys[i]]) := ⟨by show 2 ≤ sizeLine; decide, [c1, c2], .cons r1 (.cons r2 .nil), ⟨_, hp, rfl, _, rfl⟩⟩
    have I1 : Inv X pins σ (upd H s.heap.objs.size (.tup [xs[i], ys[i]])) { s with heap := g } := I.turnedNew (t' := s.toks) (ch := [zp, TI, TO, i1, i2]) hk hf (Nat.le_refl _) ob
    have hq1 : upd H s.heap.objs.size (.tup [xs[i], ys[i]]) q = some (.lst acc) := by rw [upd_ne (Nat.ne_of_lt lq)]; exact h1
    obtain ⟨_, its, k, r3, _, e3⟩ := I1.lstM hq1
    have e4 := r3.length
    show wpAny _ A1.in1 (updateSeq q (·.push (.ref s.heap.objs.size)) >>= _) _ _ _
    refine wpAny_bind (wpAny_updateSeq e3 rfl (wpAny_pure ⟨plainId_quiet PySem.F.plain_extend_loop _, ?_⟩) (by rw [List.size_toArray]; omega) (by show (its.toArray.push (.ref s.heap.objs.size)).size ≤ sizeLine + 1; rw [Array.size_push, List.size_toArray]; omega))
    refine ih (i + 1) (acc ++ [.ref s.heap.objs.size]) _ _ (by omega) (I1.lset (its' := its ++ [.ref s.heap.objs.size]) (t' := s.toks) hq1 e3 (by simp) (r3.append (show Vals [V.ref s.heap.objs.size] [Value.ref s.heap.objs.size] from .cons rfl .nil)) (by rw [List.length_append, List.length_singleton]; omega)) (R.step i acc H _ _ _ hP gx gy hn) ?_ fun c hc => ?_
    · exact st'.keep (nq zp (by simp)) (nq TI (by simp)) (nq TO (by simp)) (nq i1 (by simp)) (nq i2 (by simp)) fun c o hc e => (Heap.get?_update_other _ _ (Ne.symm hc)).trans e
    · obtain ⟨f0, f1⟩ := hf c hc
      refine ⟨?_, f1⟩
      rw [upd_ne (nq c hc)]
      by_cases hcs : c = s.heap.objs.size
      · exfalso
        have lt : c < s.heap.objs.size := by
          obtain ⟨s1, s2, s3, s4⟩ := st
          have e' : c = zp ∨ c = TI ∨ c = TO ∨ c = i1 ∨ c = i2 := by simpa using hc
          rcases e' with r | r | r | r | r
          · rw [r]; rcases s4 with ⟨d, _⟩ | ⟨_, _, _, d, _⟩ <;> exact Heap.lt_size d
          · rw [r]; exact Heap.lt_size s1
          · rw [r]
            rcases s4 with ⟨_, _, _, d⟩ | ⟨_, _, _, _, _, _, _, _, _, _, d⟩
            · exact Heap.lt_size d
            · exact Heap.lt_size d
          · rw [r]; obtain ⟨_, e, _⟩ := s2; exact Heap.lt_size e
          · rw [r]; obtain ⟨_, e, _⟩ := s3; exact Heap.lt_size e
        exact Nat.lt_irrefl _ (hcs ▸ lt)
      · rw [upd_ne hcs]; exact f0
theorem zl_call {s : Shared} {H : Hp} {Q : VK} (hc : X.calm = true) (I : Inv X pins σ H s) (D : ZipApart zp TI TO i1 i2 a b) (hZ : IsZip s.heap zp TI TO .none) (hI : IsPair s.heap TI (.ref i1) (.ref i2)) (hO : IsPair s.heap TO .none .none) (a1 : s.heap.IsTupleIter i1 a 0) (a2 : s.heap.IsTupleIter i2 b 0) (hf : ∀ c ∈ [zp, TI, TO, i1, i2], FpOk X pins H c)
    (h : ∀ q, H q = none → ∃ P : Nat → List V → Hp → Prop, P 0 [] (upd H q (.lst [])) ∧ ZRun X.K a b q xs ys P ∧ ∀ i acc H', P i acc H' → xs.length ≤ i ∨ ys.length ≤ i → Q (.ref q) H') :
    wpAny (model X.prog X.w) X.A (call (.type "list") [.ref zp]) (EP X pins σ Q) X.xe s := by
  refine callType_codes (Q₁ := fun o s1 => o = .ref s.heap.objs.size ∧ s1 = { s with heap := s.heap.push { cls := .type "list", data := .seq #[] } }) PySem.F.called_list (PySem.F.typeCall_list_1 _) PySem.F.entry_list_init (code_list_new _ ⟨rfl, rfl⟩) fun o s1 e1 => ?_
  obtain ⟨rfl, rfl⟩ := e1
  have eL : (s.heap.push { cls := .type "list", data := .seq #[] }).get? s.heap.objs.size = some { cls := .type "list", data := .seq #[] } := Heap.get?_push_size _ rfl
  refine ⟨⟨_, eL, rfl⟩, PySem.F.args_list_init_2 _ _, ?_⟩
  have hn : H s.heap.objs.size = none := I.hok.fresh (Nat.le_refl _)
  obtain ⟨P, hP, R, fin⟩ := h _ hn
  have I1 : Inv X pins σ (upd H s.heap.objs.size (.lst [])) { s with heap := s.heap.push { cls := .type "list", data := .seq #[] } } := I.lnew (its := []) (t' := s.toks) .nil (Nat.zero_le _)
  have lz : ∀ c ∈ [zp, TI, TO, i1, i2], c < s.heap.objs.size := fun c hcm => by
    have e' : c = zp ∨ c = TI ∨ c = TO ∨ c = i1 ∨ c = i2 := by simpa using hcm
    rcases e' with r | r | r | r | r
    · rw [r]; exact Heap.lt_size hZ
    · rw [r]; exact Heap.lt_size hI
    · rw [r]; exact Heap.lt_size hO
    · rw [r]; obtain ⟨_, e, _⟩ := a1; exact Heap.lt_size e
    · rw [r]; obtain ⟨_, e, _⟩ := a2; exact Heap.lt_size e
  have nq : ∀ c ∈ [zp, TI, TO, i1, i2], c ≠ s.heap.objs.size := fun c hcm => Nat.ne_of_lt (lz c hcm)
  have st0 : ZS zp TI TO i1 i2 a b s.heap.objs.size s.heap 0 := ⟨hI, a1, a2, .inl ⟨hZ, _, _, hO⟩⟩
  have up : ∀ {h g : Heap}, ZS zp TI TO i1 i2 a b s.heap.objs.size h 0 → (∀ c o, c ≠ s.heap.objs.size → h.get? c = some o → g.get? c = some o) → ZS zp TI TO i1 i2 a b s.heap.objs.size g 0 := fun st k => st.keep (nq zp (by simp)) (nq TI (by simp)) (nq TO (by simp)) (nq i1 (by simp)) (nq i2 (by simp)) k
  have st1 := up st0 (g := s.heap.push { cls := .type "list", data := .seq #[] }) fun c o _ e => Heap.get?_push_of_some _ e
  have hf1 : ∀ c ∈ [zp, TI, TO, i1, i2], FpOk X pins (upd H s.heap.objs.size (.lst [])) c := fun c hcm => ⟨by rw [upd_ne (nq c hcm)]; exact (hf c hcm).1, (hf c hcm).2⟩
  show wpAny _ _ (do let old ← Builtin.List.listItems (.ref s.heap.objs.size); Builtin.List.listUpdate (.ref s.heap.objs.size) (fun _ => #[]); letGo old.toList.reverse; Builtin.List.listExtendWith (.ref s.heap.objs.size) (.ref zp) .none) _ _ _
  refine wpAny_bind ?_
  unfold Builtin.List.listItems
  refine wpAny_bind (wpAny_seqItems eL rfl (wpAny_pure ?_))
  show wpAny _ _ (updateSeq s.heap.objs.size (fun _ => #[]) >>= fun _ => letGo (#[] : Array Value).toList.reverse >>= fun _ => Builtin.List.listExtendWith (.ref s.heap.objs.size) (.ref zp) .none) _ _ _
  refine wpAny_bind (wpAny_updateSeq eL rfl ?_)
  have I2 := I1.lset (f := fun _ => #[]) (its := []) (its' := []) (ys := []) (t' := s.toks) upd_same eL rfl .nil (Nat.zero_le _)
  rw [upd_upd] at I2
  refine wpAny_bind (wpAny_letGo ?_)
  have st2 := up st1 (g := (s.heap.push { cls := .type "list", data := .seq #[] }).update s.heap.objs.size (Obj.mapSeq fun _ => #[])) fun c o hcn e => (Heap.get?_update_other _ _ (Ne.symm hcn)).trans e
  generalize (s.heap.push { cls := .type "list", data := .seq #[] }).update s.heap.objs.size (Obj.mapSeq fun _ => #[]) = g2 at *
  unfold Builtin.List.listExtendWith
  have hzT : ({ s with heap := g2 } : Shared).TypeIs (.ref zp) "zip" := zs_type st2 rfl
  refine wpAny_bind (wpAny_typeOf hzT ?_)
  have d1 : Builtin.List.listSameRef (.ref s.heap.objs.size) (.ref zp) = false := by simp [Builtin.List.listSameRef, Ne.symm (nq zp (by simp))]
  have d2 : (Value.type "zip" == Value.type "list") = false := by decide
  have d3 : (Value.type "zip" == Value.type "tuple") = false := by decide
  simp only [d1, d2, d3, if_false, Bool.or_false, Bool.false_eq_true]
  have hZ2 : IsZip g2 zp TI TO .none ∨ ∃ (T : Addr) (f : Bool), IsZipHeld g2 zp TI TO T f := by
    rcases st2.2.2.2 with ⟨d, _⟩ | ⟨T, f, _, d, _⟩
    · exact .inl d
    · exact .inr ⟨T, f, d⟩
  have it : ∀ {A : Around} {E : Value → Shared → Prop} {Q : Value → Shared → Prop}, Q (.ref zp) { s with heap := g2 } → wpAny (model X.prog X.w) A (pyIter (.ref zp)) Q E { s with heap := g2 } := fun hq => by
    refine wpAny_pyIter_slot hzT PySem.F.slot_zip_iter (wpAny_call_entry PySem.F.slot_zip_iter hzT PySem.F.entry_zip_iter ?_ (PySem.F.args_zip_iter_1 _))
    show wpAny _ _ (ret (.ref zp)) _ _ _
    exact wpAny_pure ⟨_, rfl, "zip", _, hzT, PySem.F.slot_zip_next.lookup, hq⟩
  refine wpAny_bind (it ?_)
  refine wpAny_bind (wpAny_holding ?_)
  unfold Builtin.List.listLengthHint
  refine wpAny_bind (wpAny_specialOf hzT zip_len0 ?_)
  show wpAny _ _ (specialOf (Value.ref zp) (Str.ofString "__length_hint__") >>= _) _ _ _
  refine wpAny_bind (wpAny_specialOf hzT zip_hint0 ?_)
  refine wpAny_pure ?_
  refine wpAny_bind (wpAny_rule ?_)
  refine wpAny_bind ?_
  show wpAny _ _ (updateSeq s.heap.objs.size (·.push .none) >>= fun _ => updateSeq s.heap.objs.size (·.pop)) _ _ _
  obtain ⟨_, its3, k3, r3, _, e3⟩ := I2.lstM upd_same
  cases r3
  refine wpAny_bind (wpAny_updateSeq e3 rfl ?_)
  have I3 := I2.lset (f := (·.push Value.none)) (its' := [Value.none]) (ys := [.non]) (t' := s.toks) upd_same e3 (by simp) (.cons rfl .nil) (by rw [List.length_singleton, sizeLine_eq]; decide)
  obtain ⟨_, its4, k4, r4, _, e4⟩ := I3.lstM upd_same
  obtain ⟨u4, rfl, ru4⟩ := r4.one
  refine wpAny_updateSeq e4 rfl ?_ (by show 1 ≤ sizeLine; rw [sizeLine_eq]; decide) (by show 0 ≤ sizeLine + 1; exact Nat.zero_le _)
  have I4 := I3.lset (f := (·.pop)) (its := [u4]) (its' := []) (ys := []) (t' := s.toks) upd_same e4 (by rfl) .nil (Nat.zero_le _)
  rw [upd_upd, upd_upd] at I4
  have st4 := up st2 (g := (g2.update s.heap.objs.size (Obj.mapSeq (·.push Value.none))).update s.heap.objs.size (Obj.mapSeq (·.pop))) fun c o hcn e => (Heap.get?_update_other _ _ (Ne.symm hcn)).trans ((Heap.get?_update_other _ _ (Ne.symm hcn)).trans e)
  refine wpAny_pure ⟨plainId_quiet PySem.F.plain_extend_loop _, zl_loop (A1 := X.A.in1) (I.ok.hd hc) D R (fun i acc H' s' I' hP' he => ⟨rfl, .ref s.heap.objs.size, H', I', rfl, fin i acc H' hP' he⟩) _ 0 [] _ _ rfl I4 hP st4 hf1⟩
end
section
variable {X : Cx} {Φ : Fns} {a b : Expr} {ca cb : CE}
theorem take_zip {ws zs : List W} {i : Nat} {u v : W} (h1 : ws[i]? = some u) (h2 : zs[i]? = some v) : (zipT ws zs).take (i + 1) = (zipT ws zs).take i ++ [.tup [u, v]] := by
  rw [List.take_add_one, zipT_get, h1, h2]
  rfl
theorem zip_inv {x y w : W} {S S' : Sto} (h : opI .zip [x, y] S = some (w, S')) : ∃ ws zs, x = .tup ws ∧ y = .tup zs ∧ new S (zipT ws zs) = some (w, S') := by
  cases x <;> cases y <;> simp only [opI] at h <;> first | exact ⟨_, _, rfl, rfl, h⟩ | cases h
theorem de_lzip {p p2 pos pos2 : Pos} (hmL : X.mg "list" = none) (hmZ : X.mg "zip" = none) (ha : DE X Φ a ca) (hb : DE X Φ b cb) (hgL : Gl X "list" := by rfl) (hgZ : Gl X "zip" := by rfl) (hc : X.calm = true := by rfl)
    (hsL : starEach [.Call (.Name "zip" p2) [a, b] [] pos2] X.env = [(false, eval (.Call (.Name "zip" p2) [a, b] [] pos2) X.env)] := by rfl)
    (hs : starEach [a, b] X.env = (false, eval a X.env) :: starEach [b] X.env := by rfl) (hs2 : starEach [b] X.env = [(false, eval b X.env)] := by rfl) (hpl : (backTo pos2 (starEach [b] X.env)).any (·.1) = false := by rfl) :
    DE X Φ (.Call (.Name "list" p) [.Call (.Name "zip" p2) [a, b] [] pos2] [] pos) (.bi .zip (.cons ca (.cons cb .nil))) := by
  refine ⟨fun pins s σ H Q I h => ?_⟩
  obtain ⟨μ, env, S, w, S', sr, er, h1, h2⟩ := h
  simp only [ev, evs] at h1
  split at h1 <;> try (cases h1; done)
  rename_i xs0 S2z hx
  split at hx <;> try (cases hx; done)
  rename_i wa S1 ea
  split at hx <;> try (cases hx; done)
  rename_i xs1 S2' hx1
  split at hx1 <;> try (cases hx1; done)
  rename_i wb S2x eb
  simp only [Option.some.injEq, Prod.mk.injEq] at hx1 hx
  obtain ⟨e1, e2⟩ := hx1
  obtain ⟨e3, e4⟩ := hx
  subst e1
  rw [← e3, ← e4, ← e2] at h1
  obtain ⟨ws, zs, rfl, rfl, hN⟩ := zip_inv h1
  refine Call_ (ld_blt I hgL hmL PyProof.Rows.boot_list (PyProof.Rows.callWith_type1 ?_ hsL rfl))
  rw [hsL]
  show wpAny _ _ (spliced ((false, eval (.Call (.Name "zip" p2) [a, b] [] pos2) X.env) :: backTo pos [])) _ _ s
  refine Calls.spliced_cons ?_
  refine Call_ (ld_blt I hgZ hmZ PyProof.Rows.boot_zip (PyProof.Rows.callWith_type1 (thn ((pa_cons ha (pa_cons hb pa_nil hs2) hs).run pos2 pins s σ H (fun vs H2 => ∃ (a b : Addr) (xs ys : List V) (μ2 : List Addr), vs = [.ref a, .ref b] ∧ SqT X.K H2 a xs ∧ SqT X.K H2 b ys ∧ VWs X.K μ2 H2 xs ws ∧ VWs X.K μ2 H2 ys zs ∧ Ex X.K μ H μ2 H2 ∧ SR X.K μ2 H2 S2x) I
    ⟨μ, env, S, _, _, sr, er, ea, fun v μ1 H1 x1 s1 r1 => ⟨μ1, env, S1, _, _, s1, er.mono x1, eb, fun u μ2 H2 x2 s2 r2 => by
      have r1' := r1.mono x2
      cases r1' with
      | tup q t =>
        cases r2 with
        | tup q' t' => exact ⟨_, _, _, _, μ2, rfl, q, q', t, t', x1.trans x2, s2⟩⟩⟩) fun us s1 ⟨vs, H2, I1, rv, q1⟩ => ?_) hs hpl))
  obtain ⟨la, lb, xs, ys, μ2, rfl, hqx, hqy, tx, ty, x12, sr2⟩ := q1
  cases rv with
  | cons r rr =>
  cases rr with
  | cons r' rr =>
  cases rr
  cases r
  cases r'
  obtain ⟨u1, v1, p1, _⟩ := I1.tuple hqx
  obtain ⟨u2, v2, p2', _⟩ := I1.tuple hqy
  obtain ⟨o1, ho1, _⟩ := id p1
  obtain ⟨o2, ho2, _⟩ := id p2'
  have fresh : ∀ c, c ∈ [s1.heap.objs.size + 4, s1.heap.objs.size + 2, s1.heap.objs.size + 3, s1.heap.objs.size, s1.heap.objs.size + 1] → FpOk X pins H2 c := fun c hcm => by
    have hle : s1.heap.objs.size ≤ c := by
      have e' : c = s1.heap.objs.size + 4 ∨ c = s1.heap.objs.size + 2 ∨ c = s1.heap.objs.size + 3 ∨ c = s1.heap.objs.size ∨ c = s1.heap.objs.size + 1 := by simpa using hcm
      rcases e' with r | r | r | r | r
      · rw [r]; exact Nat.le_add_right _ 4
      · rw [r]; exact Nat.le_add_right _ 2
      · rw [r]; exact Nat.le_add_right _ 3
      · rw [r]; exact Nat.le_refl _
      · rw [r]; exact Nat.le_add_right _ 1
    exact I1.fpOk hle (I1.hok.fresh hle)
  refine RZ.call_zipT (show s1.heap.IsTuple la u1.toArray from p1) (show s1.heap.IsTuple lb u2.toArray from p2') fun g hz hTI hTO h1' h2' hsz hk => ?_
  have I2 : Inv X pins σ H2 { s1 with heap := g } := I1.kept (t' := s1.toks) hk
  show wpAny _ _ (spliced []) _ _ _
  refine Calls.spliced_nil ?_
  refine zl_call (xs := xs) (ys := ys) hc I2 (PySem.W.ktu_apart s1.heap.objs.size la lb (Heap.lt_size ho1) (Heap.lt_size ho2)) hz hTI hTO h1' h2' fresh fun q hq => ?_
  have nq : ∀ k : Nat, μ2[k]? ≠ some q := fun k e => by
    obtain ⟨o, ho, _⟩ := sr2.trk e
    rw [hq] at ho
    cases ho
  have lx := tx.length
  have ly := ty.length
  refine ⟨fun i acc H' => Ex X.K μ2 H2 μ2 H' ∧ SR X.K μ2 H' _ ∧ H' q = some (.lst acc) ∧ acc.length = i ∧ VWs X.K μ2 H' acc ((zipT ws zs).take i), ⟨ex_fresh hq, sr2.fresh hq, upd_same, rfl, by rw [List.take_zero]; exact .nil⟩, ⟨fun i acc H' hP => ?_, fun i acc H' T x y hP gx gy hT => ?_⟩, fun i acc H' hP he => ?_⟩
  · obtain ⟨e, s', hl, hi, hv⟩ := hP
    exact ⟨hl, hi, e.tup _ _ hqx, e.tup _ _ hqy⟩
  · obtain ⟨e, s', hl, hi, hv⟩ := hP
    have nT : T ≠ q := fun z => by rw [z, hl] at hT; cases hT
    have e1 := ex_fresh (K := X.K) (μ := μ2) (o := .tup [x, y]) hT
    have hl1 : upd H' T (.tup [x, y]) q = some (.lst acc) := by rw [upd_ne (Ne.symm nT)]; exact hl
    obtain ⟨s2, e2⟩ := (s'.fresh (o := .tup [x, y]) hT).other (ys := acc ++ [.ref T]) hl1 nq
    obtain ⟨wx, g1, w1⟩ := tx.get' gx
    obtain ⟨wy, g2, w2⟩ := ty.get' gy
    have e0 := e.toEy
    refine ⟨(e.trans e1).mut hq, s2, upd_same, by rw [List.length_append, hi]; rfl, ?_⟩
    rw [take_zip g1 g2]
    refine VWs.snoc ((hv.mono e1).monoY e2) (.tup (xs := [x, y]) (.inl (.inl (by rw [upd_ne nT]; exact upd_same))) ?_)
    exact .cons (((w1.monoY e0).mono e1).monoY e2) (.cons (((w2.monoY e0).mono e1).monoY e2) .nil)
  · obtain ⟨e, s', hl, hi, hv⟩ := hP
    rw [List.take_of_length_le (by rw [zipT_len]; omega)] at hv
    unfold new at hN
    split at hN
    · cases hN
      exact h2 (.ref q) (μ2 ++ [q]) H' (x12.trans (e.snoc hq)) (s'.adopt hl nq hv) (s'.newRef ⟨_, hl⟩)
    · cases hN
end
end MP
/-! is True, is not True -/
namespace MP
open PySem PySem.Spec PyProof.Rows L2
theorem isb_gen {M : Model} {A : Around} {E : Value → Shared → Prop} {Q : Value → Shared → Prop} {s : Shared} {x : V} {v : Value} (r : RelV x v) (d : Bool) (h : Q (.bool (decide (x = .bl d))) s) : wpAny M A (compareOp .Is v (.bool d)) Q E s := by
  have e : wpAny M A (compareOp .Is v (.bool d)) Q E s = wpAny M A (pure (Value.bool (v == .bool d))) Q E s ∧ (v == Value.bool d) = decide (x = .bl d) := by
    cases x with
    | bl b => cases r; exact ⟨rfl, by cases b <;> cases d <;> decide⟩
    | non => cases r; exact ⟨rfl, rfl⟩
    | ref _ => cases r; exact ⟨rfl, rfl⟩
    | ty _ => cases r; exact ⟨rfl, rfl⟩
    | _ => obtain ⟨t, rfl⟩ := r; exact ⟨rfl, rfl⟩
  rw [e.1, e.2]
  exact wpAny_pure h
theorem isnb_gen {M : Model} {A : Around} {E : Value → Shared → Prop} {Q : Value → Shared → Prop} {s : Shared} {x : V} {v : Value} (r : RelV x v) (d : Bool) (h : Q (.bool (!decide (x = .bl d))) s) : wpAny M A (compareOp .IsNot v (.bool d)) Q E s := by
  have e : wpAny M A (compareOp .IsNot v (.bool d)) Q E s = wpAny M A (pure (Value.bool (!(v == .bool d)))) Q E s ∧ (v == Value.bool d) = decide (x = .bl d) := by
    cases x with
    | bl b => cases r; exact ⟨rfl, by cases b <;> cases d <;> decide⟩
    | non => cases r; exact ⟨rfl, rfl⟩
    | ref _ => cases r; exact ⟨rfl, rfl⟩
    | ty _ => cases r; exact ⟨rfl, rfl⟩
    | _ => obtain ⟨t, rfl⟩ := r; exact ⟨rfl, rfl⟩
  rw [e.1, e.2]
  exact wpAny_pure h
section
variable {X : Cx} {Φ : Fns} {a : Expr} {ca : CE} {ta : TE} {pos : Pos}
theorem pc_isT {d : Bool} {j p} (ha : PE X a ta) : PC X .Is a (.Constant (.bool d) j p) (fun σ H Q => ta σ H fun x H1 => Q (.bl (decide (x = .bl d))) H1) := by
  refine ⟨fun pins s σ H Q I h => ?_⟩
  refine thn (ha.run pins s σ H _ I h) fun v s1 ⟨x, H1, I1, r1, q1⟩ => ?_
  exact Constant_bool (isb_gen r1 d ⟨.bl _, H1, I1, rfl, q1⟩)
theorem pc_isnT {d : Bool} {j p} (ha : PE X a ta) : PC X .IsNot a (.Constant (.bool d) j p) (fun σ H Q => ta σ H fun x H1 => Q (.bl (!decide (x = .bl d))) H1) := by
  refine ⟨fun pins s σ H Q I h => ?_⟩
  refine thn (ha.run pins s σ H _ I h) fun v s1 ⟨x, H1, I1, r1, q1⟩ => ?_
  exact Constant_bool (isnb_gen r1 d ⟨.bl _, H1, I1, rfl, q1⟩)
theorem isT_of {d : Bool} {σ : L2.St} {H : Hp} {Q : VK} (h : tD X.K Φ (.bi (.isTr d) (.cons ca .nil)) σ H Q) : tD X.K Φ ca σ H fun x H1 => Q (.bl (decide (x = .bl d))) H1 := by
  obtain ⟨μ, env, S, w, S', s, er, h1, h2⟩ := h
  simp only [ev, evs] at h1
  split at h1
  · rename_i xs S1 e1
    split at e1
    · rename_i x S2 e2
      cases e1
      simp only [opI] at h1
      cases h1
      refine ⟨μ, env, S, x, _, s, er, e2, fun v μ1 H1 x1 s1 r1 => ?_⟩
      have q : decide (v = .bl d) = isTrW d x := by
        cases r1 <;> simp [isTrW]
        rename_i b
        cases b <;> cases d <;> decide
      show Q (V.bl (decide (v = V.bl d))) H1
      rw [q]
      exact h2 _ μ1 H1 x1 s1 (.bl _)
    · cases e1
  · cases h1
theorem de_isT {d : Bool} {j p} (ha : DE X Φ a ca) : DE X Φ (.Compare a [.Is] [.Constant (.bool d) j p] pos) (.bi (.isTr d) (.cons ca .nil)) := peW (pe_cmp (pc_isT ha)) fun _ _ _ h => isT_of h
theorem isnT_of {d : Bool} {σ : L2.St} {H : Hp} {Q : VK} (h : tD X.K Φ (.not (.bi (.isTr d) (.cons ca .nil))) σ H Q) : tD X.K Φ ca σ H fun x H1 => Q (.bl (!decide (x = .bl d))) H1 := by
  obtain ⟨μ, env, S, w, S', s, er, h1, h2⟩ := h
  simp only [ev] at h1
  split at h1
  · rename_i k S1 e1
    cases h1
    have hh : tD X.K Φ (.bi (.isTr d) (.cons ca .nil)) σ H fun x H1 => ∃ c, x = .bl c ∧ Q (.bl (!c)) H1 := ⟨μ, env, S, .bl k, _, s, er, by simp only [ev]; exact e1, fun v μ1 H1 x1 s1 r => by
      cases r
      exact ⟨k, rfl, h2 _ μ1 H1 x1 s1 (.bl _)⟩⟩
    obtain ⟨μ, env, S, w, S', s, er, h1, h2⟩ := isT_of hh
    refine ⟨μ, env, S, w, S', s, er, h1, fun v μ1 H1 x1 s1 r1 => ?_⟩
    obtain ⟨c, ec, q⟩ := h2 v μ1 H1 x1 s1 r1
    cases ec
    exact q
  · cases h1
theorem de_isnT {d : Bool} {j p} (ha : DE X Φ a ca) : DE X Φ (.Compare a [.IsNot] [.Constant (.bool d) j p] pos) (.not (.bi (.isTr d) (.cons ca .nil))) := peW (pe_cmp (pc_isnT ha)) fun _ _ _ h => isnT_of h
theorem dt_isT {d : Bool} {j p} (ha : DE X Φ a ca) : DT X Φ (.Compare a [.Is] [.Constant (.bool d) j p] pos) (.bi (.isTr d) (.cons ca .nil)) := ptW (pt_cmp (pc_isT ha)) fun _ _ _ h => tTest_of (fun _ _ _ q => isT_of q) h
theorem dt_isnT {d : Bool} {j p} (ha : DE X Φ a ca) : DT X Φ (.Compare a [.IsNot] [.Constant (.bool d) j p] pos) (.not (.bi (.isTr d) (.cons ca .nil))) := ptW (pt_cmp (pc_isnT ha)) fun _ _ _ h => tTest_of (fun _ _ _ q => isnT_of q) h
end
/-! t[::-1] of a tuple -/
section
variable {prog : Program} {w : World} {A : Around} {E : Value → Shared → Prop} {s : Shared}
theorem sl_neg {sl : Addr} {vl vu vs : Value} {n : Nat} {Q : Int × Int × Nat → Shared → Prop} (hs : s.heap.IsSliceOf sl vl vu vs) (pl : IsPart vl none) (pu : IsPart vu none) (ps : IsPart vs (some (-1)))
    (h : Q ((n : Int) - 1, -1, n) s) : wpAny (model prog w) A (Builtin.Slice.sliceApplied (.ref sl) (pure (n : Int))) Q E s := by
  obtain ⟨os, ho, _, hd⟩ := id hs
  unfold Builtin.Slice.sliceApplied Builtin.Slice.sliceFields
  refine wpAny_bind (wpAny_bind (wpAny_field ho hd (x := vl) rfl (wpAny_bind (wpAny_field ho hd (x := vu) rfl (wpAny_bind (wpAny_field ho hd (x := vs) rfl (wpAny_pure ?_)))))))
  refine wpAny_bind (HT.slicePart_ ps ?_)
  show wpAny _ _ (if ((-1 : Int) == 0) = true then _ else _) _ _ s
  rw [if_neg (by decide)]
  refine wpAny_bind (HT.slicePart_ pl (wpAny_bind (HT.slicePart_ pu (wpAny_bind (wpAny_pure ?_)))))
  have e1 : Builtin.Slice.sliceAdjust none none (-1) (n : Int) = ((n : Int) - 1, -1) := by
    unfold Builtin.Slice.sliceAdjust
    simp only [show ((-1 : Int) < 0) from by decide, if_true]
  have e2 : Builtin.Slice.slicePlaces ((n : Int) - 1) (-1) (-1) = n := by
    unfold Builtin.Slice.slicePlaces
    rw [if_neg (by decide)]
    by_cases hn : n = 0
    · subst hn; rfl
    · rw [if_pos (by omega), show (-(-1) : Int) = 1 by decide, Int.ediv_one]
      omega
  show wpAny _ _ (match Builtin.Slice.sliceAdjust none none (-1) (n : Int) with | (lo, hi) => pure (lo, (-1 : Int), Builtin.Slice.slicePlaces lo hi (-1))) _ _ s
  rw [e1]
  show wpAny _ _ (pure ((n : Int) - 1, (-1 : Int), Builtin.Slice.slicePlaces ((n : Int) - 1) (-1) (-1))) _ _ s
  rw [e2]
  exact wpAny_pure h
theorem pick_neg (xs : Array Value) : ((List.range xs.size).filterMap fun (m : Nat) => xs[(((xs.size : Int) - 1) + (m : Int) * (-1)).toNat]?).toArray = xs.toList.reverse.toArray := by
  congr 1
  have e : ((List.range xs.size).filterMap fun (m : Nat) => xs[(((xs.size : Int) - 1) + (m : Int) * (-1)).toNat]?) = ((List.range xs.size).map fun k => xs.size - 1 - k).filterMap (xs[·]?) := by
    rw [List.filterMap_map]
    have cg : ∀ (l : List Nat) (f g : Nat → Option Value), (∀ m ∈ l, f m = g m) → l.filterMap f = l.filterMap g := fun l f g h => by
      induction l with
      | nil => rfl
      | cons x r ih => rw [List.filterMap_cons, List.filterMap_cons, h x (List.mem_cons_self ..), ih fun m hm => h m (List.mem_cons_of_mem _ hm)]
    refine cg _ _ _ fun m hm => ?_
    have hlt := List.mem_range.mp hm
    show _ = xs[xs.size - 1 - m]?
    congr 1
    omega
  rw [e, PySem.W.krv_range, List.filterMap_reverse, PySem.W.krv_all]
theorem get_revt {t sl : Addr} {items : Array Value} {vl vu vs : Value} {Q : Value → Shared → Prop} (ht : IsTup s.heap t items) (hs : s.heap.IsSliceOf sl vl vu vs) (pl : IsPart vl none) (pu : IsPart vu none) (ps : IsPart vs (some (-1)))
    (h : Q (.ref s.heap.objs.size) { s with heap := s.heap.push { cls := .type "tuple", data := .seq items.toList.reverse.toArray } }) (hz : items.size ≤ sizeLine) : wpAny (model prog w) A (getItem (.ref t) (.ref sl)) Q E s := by
  have hk : sizeOk (.seq items.toList.reverse.toArray) := by
    show items.toList.reverse.toArray.size ≤ sizeLine
    rw [List.size_toArray, List.length_reverse, Array.length_toList]
    exact hz
  obtain ⟨os, ho, hc, _⟩ := id hs
  have hTs : s.TypeIs (.ref sl) "slice" := ⟨os, ho, hc⟩
  unfold getItem
  try with_reducible refine wpAny_holding ?_
  first | refine wpAny_bind (wpAny_pure ?_) | skip
  refine wpAny_bind (wpAny_sequenceKey ht.typeIs (by decide) ?_)
  refine wpAny_bind (wpAny_callSpecial?_slot (name := Str.ofString "__getitem__") ht.typeIs PyProof.Rows.slot_tuple_getitem (wpAny_call_entry PyProof.Rows.slot_tuple_getitem ht.typeIs entry_tuple_getitem ?_ (args_tuple_getitem _ _)))
  show wpAny _ _ (Builtin.Tuple.tupleItemsOf (.ref t) >>= _) _ _ _
  refine wpAny_bind (tupleItemsOf_ ht ?_)
  refine wpAny_bind (wpAny_typeOf hTs ?_)
  rw [if_pos (by decide)]
  refine wpAny_bind (sl_neg hs pl pu ps ?_)
  have hno : ¬ ((((items.size : Int) - 1) == 0 && (-1 : Int) == 1 && items.size == items.size) = true) := by simp
  show wpAny _ _ (if (((items.size : Int) - 1) == 0 && (-1 : Int) == 1 && items.size == items.size) = true then _ else _) _ _ _
  rw [if_neg hno, pick_neg]
  first
    | exact wpAny_bind (m := Builtin.Tuple.tupleExact _) (wpAny_newObj_type (wpAny_pure ⟨_, rfl, wpAny_pure h⟩) hk)
    | exact wpAny_bind (m := Builtin.Tuple.tupleExact _) (wpAny_newObj_type (wpAny_bind (wpAny_pure (wpAny_pure ⟨_, rfl, wpAny_pure h⟩))) hk)
    | exact wpAny_bind (wpAny_bind (m := Builtin.Tuple.tupleExact _) (wpAny_newObj_type (wpAny_pure (wpAny_pure ⟨_, rfl, wpAny_pure h⟩)) hk))
    | exact wpAny_bind (wpAny_bind (m := Builtin.Tuple.tupleExact _) (wpAny_newObj_type (wpAny_pure ⟨_, rfl, wpAny_pure h⟩) hk))
end
section
variable {X : Cx} {Φ : Fns} {a : Expr} {ca : CE} {pos : Pos}
theorem pe_revT {e : Expr} {te : TE} {k : Nat} {p1 p2 p3 : Pos} (he : PE X e te) : PE X (.Subscript e (.Slice none none (some (.UnaryOp .USub (.Constant (.int 1) k p1) p2)) p3) pos) (fun σ H Q => te σ H fun x H1 => ∃ a xs, x = .ref a ∧ SqT X.K H1 a xs ∧ ∀ p, H1 p = none → Q (.ref p) (upd H1 p (.tup xs.reverse))) := by
  refine ⟨fun pins s σ H Q I h => ?_⟩
  refine Subscript_ (thn (he.run pins s σ H _ I h) fun v s1 ⟨x, H1, I1, r1, q1⟩ => ?_)
  obtain ⟨la, xs, ex, hx, q⟩ := q1
  subst ex
  cases r1
  have hst : PO X (some (.UnaryOp .USub (.Constant (.int 1) k p1) p2)) (tPart (tUn (rU fun i => .int (-i)) (tC (.int 1)))) := po_some (pe_un un_neg pe_int)
  refine wpAny_Slice (thn (po_none.run pins s1 σ H1 (fun o J => o = none ∧ J = H1) I1 ⟨rfl, rfl⟩) fun vl s2 ⟨l, H2, I2, pl, el, e2⟩ => ?_)
  subst el e2
  refine thn (po_none.run pins s2 σ H2 (fun o J => o = none ∧ J = H2) I2 ⟨rfl, rfl⟩) fun vu s3 ⟨u, H3, I3, pu, eu, e3⟩ => ?_
  subst eu e3
  refine thn (hst.run pins s3 σ H3 (fun o J => o = some (-1) ∧ J = H3) I3 ⟨1, rfl, -1, rfl, rfl, rfl⟩) fun vs s4 ⟨o, H4, I4, ps, eo, e4⟩ => ?_
  subst eo e4
  have I5 : Inv X pins σ H4 { s4 with heap := s4.heap.push { cls := .type "slice", data := .fields #[vl, vu, vs] } } := I4.kept (t' := s4.toks) fun b ob e => Heap.get?_push_of_some _ e
  obtain ⟨its, r, ht, hz⟩ := I5.tuple hx
  have hlen := r.length
  show wpAny (model X.prog X.w) X.A (subscriptTail e (.Slice none none (some (.UnaryOp .USub (.Constant (.int 1) k p1) p2)) p3) (.ref la) (.ref s4.heap.objs.size)) (EP X pins σ Q) X.xe { s4 with heap := s4.heap.push { cls := .type "slice", data := .fields #[vl, vu, vs] } }
  refine tail_any (ops := [.ref la, .ref s4.heap.objs.size]) ht.typeIs (PyProof.Rows.slot_tuple_getitem.lookup) ?_ (by with_unfolding_all rfl)
  refine get_revt ht (Heap.IsSliceOf.new _ vl vu vs) pl pu ps ?_ (by rw [List.size_toArray]; omega)
  refine ⟨.ref _, _, I5.laid (t' := s4.toks) (o := .tup xs.reverse) (fun b ob e => Heap.get?_push_of_some _ e) (Nat.le_refl _) ?_, rfl, q _ (I5.hok.fresh (Nat.le_refl _))⟩
  exact ⟨by rw [List.length_reverse]; exact hz, _, r.reverse, IsTup.new _ _⟩
theorem de_revt {k : Nat} {p1 p2 p3 : Pos} (ha : DE X Φ a ca) : DE X Φ (.Subscript a (.Slice none none (some (.UnaryOp .USub (.Constant (.int 1) k p1) p2)) p3) pos) (.bi .revt (.cons ca .nil)) := by
  refine peW (pe_revT ha) fun σ H Q h => ?_
  obtain ⟨μ, env, S, w, S', s, er, h1, h2⟩ := h
  simp only [ev, evs] at h1
  split at h1
  · rename_i xs S1 e1
    split at e1
    · rename_i x S2 e2
      cases e1
      refine ⟨μ, env, S, x, _, s, er, e2, fun v μ1 H1 x1 s1 r1 => ?_⟩
      cases x <;> simp only [opI] at h1 <;> try (cases h1; done)
      cases h1
      cases r1 with
      | tup q t => exact ⟨_, _, rfl, q, (h2.mono x1).tup s1 t.reverse⟩
    · cases e1
  · cases h1
end
end MP
/-! dicts that are made once and then read -/
namespace MP
open PySem PySem.Spec PyProof.Rows L2
section
variable {K : Fg} {μ : List Addr} {H : Hp}
theorem key_str {x y : Str} {l m : List Nat} (e : x.cps.toList = l) (e' : y.cps.toList = m) : decide ((Sum.inr x : Key) = Sum.inr y) = decide (l = m) := by
  have h := dec_str2 e e'
  rw [← h]
  refine decide_eq_decide.mpr ⟨fun q => ?_, fun q => ?_⟩
  · rw [Sum.inr.inj q]
  · rw [V.str.inj q]
theorem VWd.length : ∀ {ks : List (Key × V)} {ws : List (List Nat × W)}, VWd K μ H ks ws → ks.length = ws.length
  | _, _, .nil => rfl
  | _, _, .cons _ _ t => congrArg (· + 1) (VWd.length t)
theorem VWd.get {x : Str} {l : List Nat} (e : x.cps.toList = l) : ∀ {ks : List (Key × V)} {ws : List (List Nat × W)}, VWd K μ H ks ws → VW K μ H ((valV ks (Sum.inr x : Key)).getD .non) (atT ws l)
  | _, _, .nil => .non
  | _, _, .cons (x := y) (l := m) q r t => by
    have h := key_str q e
    rw [atT]
    by_cases c : m = l
    · rw [if_pos c.symm, valV_pos (of_decide_eq_true (by rw [h]; exact decide_eq_true c))]
      exact r
    · rw [if_neg (fun z => c z.symm), valV_neg (of_decide_eq_false (by rw [h]; exact decide_eq_false c))]
      exact VWd.get e t
theorem VWd.any {x : Str} {l : List Nat} (e : x.cps.toList = l) : ∀ {ks : List (Key × V)} {ws : List (List Nat × W)}, VWd K μ H ks ws → (ks.any fun p => decide (p.1 = (Sum.inr x : Key))) = (ws.any fun p => decide (p.1 = l))
  | _, _, .nil => rfl
  | _, _, .cons q _ t => by
    rw [List.any_cons, List.any_cons, VWd.any e t]
    congr 1
    exact key_str q e
theorem VWd.rep {x : Str} {l : List Nat} {v : V} {w : W} (e : x.cps.toList = l) (r : VW K μ H v w) : ∀ {ks : List (Key × V)} {ws : List (List Nat × W)}, VWd K μ H ks ws → VWd K μ H (ks.map fun p => if p.1 = (Sum.inr x : Key) then (p.1, v) else p) (ws.map fun p => if p.1 = l then (p.1, w) else p)
  | _, _, .nil => .nil
  | _, _, .cons (l := m) q s t => by
    have h := key_str q e
    rw [List.map_cons, List.map_cons]
    by_cases c : m = l
    · rw [if_pos c, if_pos (of_decide_eq_true (by rw [h]; exact decide_eq_true c))]
      exact .cons q r (VWd.rep e r t)
    · rw [if_neg c, if_neg (of_decide_eq_false (by rw [h]; exact decide_eq_false c))]
      exact .cons q s (VWd.rep e r t)
theorem VWd.snoc {x : Str} {l : List Nat} {v : V} {w : W} (e : x.cps.toList = l) (r : VW K μ H v w) : ∀ {ks : List (Key × V)} {ws : List (List Nat × W)}, VWd K μ H ks ws → VWd K μ H (ks ++ [(Sum.inr x, v)]) (ws ++ [(l, w)])
  | _, _, .nil => .cons e r .nil
  | _, _, .cons q s t => .cons q s (VWd.snoc e r t)
theorem VWd.put {x : Str} {l : List Nat} {v : V} {w : W} (e : x.cps.toList = l) (r : VW K μ H v w) {ks : List (Key × V)} {ws : List (List Nat × W)} (h : VWd K μ H ks ws) : VWd K μ H (putK ks (Sum.inr x : Key) v) (putD ws l w) := by
  unfold putK putD
  rw [h.any e]
  cases (ws.any fun p => decide (p.1 = l))
  · rw [if_neg Bool.false_ne_true, if_neg Bool.false_ne_true]
    exact h.snoc e r
  · rw [if_pos rfl, if_pos rfl]
    exact h.rep e r
end
section
variable {X : Cx} {Φ : Fns} {a b : Expr} {ca cb : CE} {pos apos cpos : Pos}
theorem tDget_of {σ : L2.St} {H : Hp} {Q : VK} (h : tD X.K Φ (.bi .dgt (.cons ca (.cons cb .nil))) σ H Q) : tDGet1 (tD X.K Φ ca) (tD X.K Φ cb) σ H Q := by
  obtain ⟨μ, env, S, w, S', s, er, h1, h2⟩ := h
  simp only [ev, evs] at h1
  split at h1 <;> try (cases h1; done)
  rename_i xs0 Sz hx
  split at hx <;> try (cases hx; done)
  rename_i wa S1 ea
  split at hx <;> try (cases hx; done)
  rename_i xs1 S2 hx1
  split at hx1 <;> try (cases hx1; done)
  rename_i wb S2x eb
  simp only [Option.some.injEq, Prod.mk.injEq] at hx1 hx
  obtain ⟨e1, e2⟩ := hx1
  obtain ⟨e3, e4⟩ := hx
  subst e1
  rw [← e3, ← e4, ← e2] at h1
  cases wa <;> cases wb <;> simp only [opI] at h1 <;> try (cases h1; done)
  cases h1
  refine ⟨μ, env, S, _, _, s, er, ea, fun v μ1 H1 x1 s1 r1 => ?_⟩
  cases r1 with
  | dic q t =>
    refine ⟨_, rfl, .inl ⟨_, .inr ⟨_, q⟩⟩, μ1, env, S1, _, _, s1, er.mono x1, eb, fun u μ2 H2 x2 s2 r2 => ?_⟩
    cases r2 with
    | str x l e =>
      have q2 := x2.dk _ _ _ q
      exact ⟨_, .inl ⟨_, Sum.inr x, .inr ⟨_, q2⟩, rfl, rfl⟩, h2 _ μ2 H2 (x1.trans x2) s2 ((t.mono x2).get e)⟩
theorem de_dgt {k : Nat} (hr : Room k X.A) (ha : DE X Φ a ca) (hb : DE X Φ b cb) (m : M1 X a "get" apos b cpos := by exact ⟨rfl, rfl, rfl, rfl⟩) : DE X Φ (.Call (.Attribute a "get" apos) [b] [] cpos) (.bi .dgt (.cons ca (.cons cb .nil))) :=
  peW (pe_dget1 (by have := hr.un; omega) ha hb m) fun _ _ _ h => tDget_of h
theorem pe_lock {e : Expr} {t : TE} (h : PE X e t) : PE X e (fun σ H Q => t σ H fun v J => ∃ d u, v = .ref d ∧ J d = some u ∧ Mut (some u) ∧ ∀ od, Q v (upd J d (.frz od u))) := by
  refine ⟨fun pins s σ H Q I hq => thn (h.run pins s σ H _ I hq) fun v s1 ⟨x, J, I1, r1, d, u, e1, e2, e3, q⟩ => ?_⟩
  obtain ⟨od, I2⟩ := I1.lock e2 e3
  exact ⟨x, _, I2, r1, q od⟩
theorem ev_dcomp {vs ts : List Nat} {s : CI} {t k e : CE} {env : Env} {S S' : Sto} {w : W} (h : ev Φ (.dcomp vs ts s t k e) env S = some (w, S')) :
    ∃ J S1 n acc n', evi Φ s env S = some (J, S1) ∧ J.len S1 = some n ∧ dictGo (turnD Φ vs ts t k e env J) 0 n [] S1 = some (acc, S') ∧ J.len S' = some n' ∧ n' ≤ n ∧ w = .dic acc := by
  rw [ev_dcomp_eq] at h
  split at h
  · rename_i J S1 e1
    split at h
    · rename_i n e2
      split at h
      · rename_i acc S4 e3
        split at h
        · rename_i n' e4
          split at h
          · rename_i e5
            cases h
            exact ⟨J, S1, n, acc, n', e1, e2, e3, e4, e5, rfl⟩
          · cases h
        · cases h
      · cases h
    · cases h
  · cases h
theorem tDc_of {K : Fg} {vs ts : List Nat} {s : CI} {t k e : CE} {g : TG} (hg : GOk K ts g) (ht : ∀ i ∈ ts, i ∈ vs) {σ : L2.St} {H : Hp} {Q : VK} (h : tD K Φ (.dcomp vs ts s t k e) σ H Q) :
    tDc (tDI K Φ s) g (tDT K Φ t) (tD K Φ k) (tD K Φ e) vs σ H fun v J => ∃ d u, v = .ref d ∧ J d = some u ∧ Mut (some u) ∧ ∀ od, Q v (upd J d (.frz od u)) := by
  obtain ⟨μ, env, S, w, S', sr, er, h1, h2⟩ := h
  obtain ⟨J, S1, n, accF, n', e1, e2, e3, e4, e5, rfl⟩ := ev_dcomp h1
  refine ⟨μ, env, S, J, S1, sr, er, e1, fun _ μ1 H1 T x1 s1 it => ?_, n, e2⟩
  intro D hD
  have nD : ∀ j : Nat, μ1[j]? ≠ some D := fun j hj => by
    obtain ⟨u, hu, _⟩ := s1.trk hj
    rw [hD] at hu
    cases hu
  refine ⟨fun i m H2 => ∃ μ2 S2 acc us, Ex K μ1 H1 μ2 H2 ∧ SR K μ2 H2 S2 ∧ H2 D = some (.dK us) ∧ VWd K μ2 H2 us acc ∧ dictGo (turnD Φ vs ts t k e env J) i m acc S2 = some (accF, S') ∧ i + m = n ∧ ∀ j : Nat, μ2[j]? ≠ some D, ⟨n, μ1, S1, [], [], ex_fresh hD, s1.fresh hD, upd_same, .nil, e3, Nat.zero_add n, nD⟩, ?_⟩
  rintro i m H2 ⟨μ2, S2, acc, us, x2, s2, hDl, hv, hgo, him, nd0⟩
  have ito := it μ2 H2 S2 x2.toEy s2
  cases m with
  | zero =>
    simp only [dictGo] at hgo
    cases hgo
    refine .inl ⟨ito.2 i n' e4 (by omega), D, _, rfl, hDl, trivial, fun od => ?_⟩
    have nd := nd0
    have ee : Ey K μ2 H2 μ2 (upd H2 D (.frz od (.dK us))) := ey_upd (fun u e => by
      rw [hDl] at e
      cases e
      exact ⟨fun _ z => (nomatch z), fun _ _ z => (nomatch z)⟩) (fun j hj => absurd hj (nd j))
    have s3 : SR K μ2 (upd H2 D (.frz od (.dK us))) S' := by
      refine ⟨s2.len, s2.nd, fun j a so h1 h2 => ?_⟩
      have q := s2.at_ j a so h1 h2
      have ne : a ≠ D := fun e => by
        subst e
        exact nd j h1
      cases so with
      | lst ws => obtain ⟨zs, e, hz⟩ := q; exact ⟨zs, by rw [upd_ne ne]; exact e, hz.monoY ee⟩
      | dct ws => obtain ⟨zs, e, hz⟩ := q; exact ⟨zs, by rw [upd_ne ne]; exact e, hz.monoY ee⟩
    exact h2 _ μ2 _ (x1.trans (x2.mut hD)) s3 (.dic upd_same (hv.monoY ee))
  | succ m =>
    simp only [dictGo] at hgo
    have key : ∃ x, J.item S2 i = some x := by
      cases hx : J.item S2 i with
      | some x => exact ⟨x, rfl⟩
      | none =>
        simp only [turnD, hx] at hgo
        cases hgo
    obtain ⟨x, hx⟩ := key
    obtain ⟨hgo1, hyl⟩ := ito.1 i x hx
    refine .inr ⟨hgo1, fun H' => ∃ μ3 S3 acc' us', Ex K μ1 H1 μ3 H' ∧ SR K μ3 H' S3 ∧ H' D = some (.dK us') ∧ VWd K μ3 H' us' acc' ∧ dictGo (turnD Φ vs ts t k e env J) (i + 1) m acc' S3 = some (accF, S') ∧ ∀ j : Nat, μ3[j]? ≠ some D, fun H' hN => ?_, fun v H' y => ?_⟩
    · obtain ⟨μ3, S3, acc', us', a1, a2, a3, a4, a5, a6⟩ := hN
      exact ⟨m, by omega, μ3, S3, acc', us', a1, a2, a3, a4, a5, by omega, a6⟩
    · obtain ⟨xy, sy, rv⟩ := hyl v H' y
      have x2 := x2.trans xy
      obtain ⟨hDl, hDn⟩ := xy.fr D _ hDl nd0
      have hv := hv.mono xy
      have s2 := sy
      cases hb : bindT S2 (MP.wipe env vs) ts x with
      | none =>
        simp only [turnD, hx, hb] at hgo
        cases hgo
      | some env' =>
        refine hg μ2 H' S2 _ _ env' v x _ s2 (((er.mono x1).mono x2).wipe vs) rv hb fun σ' er' hl hs => ⟨?_, ?_⟩
        · exact wipe_same (by rw [hl, L2.wipe_length]) ht hs
        · have fin3 : ∀ {μa : List Addr} {Ha : Hp}, Ex K μ2 H' μa Ha → Ha D = some (.dK us) ∧ ∀ k : Nat, μa[k]? ≠ some D := fun xa => xa.fr D _ hDl hDn
          cases ht1 : ev Φ t env' S2 with
          | none =>
            simp only [turnD, hx, hb, ht1] at hgo
            cases hgo
          | some p =>
            obtain ⟨wt, S3⟩ := p
            have hbl : ∃ k, wt = .bl k := by
              cases wt with
              | bl k => exact ⟨k, rfl⟩
              | _ => simp only [turnD, hx, hb, ht1] at hgo; cases hgo
            obtain ⟨c, rfl⟩ := hbl
            refine ⟨μ2, env', S2, c, S3, s2, er', ht1, fun μ3 H3 x3 s3 => ?_⟩
            cases c with
            | false =>
              refine iteF ?_
              simp only [turnD, hx, hb, ht1] at hgo
              obtain ⟨d1, d2⟩ := fin3 x3
              exact ⟨μ3, S3, acc, us, x2.trans x3, s3, d1, hv.mono x3, hgo, d2⟩
            | true =>
              refine iteT ?_
              cases hk1 : ev Φ k env' S3 with
              | none =>
                simp only [turnD, hx, hb, ht1, hk1] at hgo
                cases hgo
              | some p =>
                obtain ⟨wk, S5⟩ := p
                refine ⟨μ3, env', S3, wk, S5, s3, er'.mono x3, hk1, fun yk μ4 H4 x4 s4 r4 => ?_⟩
                cases he1 : ev Φ e env' S5 with
                | none =>
                  simp only [turnD, hx, hb, ht1, hk1, he1] at hgo
                  cases hgo
                | some p =>
                  obtain ⟨we, S6⟩ := p
                  simp only [turnD, hx, hb, ht1, hk1, he1] at hgo
                  cases wk <;> simp only at hgo <;> try (cases hgo; done)
                  split at hgo
                  · rename_i l hlim
                    refine ⟨μ4, env', S5, we, S6, s4, er'.mono (x3.trans x4), he1, fun yv μ5 H5 x5 s5 r5 => ?_⟩
                    cases r4 with
                    | str z _ ez =>
                      obtain ⟨d1, d2⟩ := fin3 ((x3.trans x4).trans x5)
                      have ee : Ey K μ5 H5 μ5 (upd H5 D (.dK (putK us (Sum.inr z) yv))) := ey_upd (fun u e => by
                        rw [d1] at e
                        cases e
                        exact ⟨fun _ z => (nomatch z), fun _ _ z => (nomatch z)⟩) (fun j hj => absurd hj (d2 j))
                      have s6 : SR K μ5 (upd H5 D (.dK (putK us (Sum.inr z) yv))) S6 := by
                        refine ⟨s5.len, s5.nd, fun j a so h1 h2 => ?_⟩
                        have q := s5.at_ j a so h1 h2
                        have ne : a ≠ D := fun e => by
                          subst e
                          exact d2 j h1
                        cases so with
                        | lst ws => obtain ⟨zs, e, hz⟩ := q; exact ⟨zs, by rw [upd_ne ne]; exact e, hz.monoY ee⟩
                        | dct ws => obtain ⟨zs, e, hz⟩ := q; exact ⟨zs, by rw [upd_ne ne]; exact e, hz.monoY ee⟩
                      have lv := hv.length
                      refine ⟨us, Sum.inr z, rfl, d1, by rw [lv]; exact lim_lt hlim, μ5, S6, _, _, (((x2.trans x3).trans x4).trans x5).mut hD, s6, upd_same, ?_, hgo, d2⟩
                      exact VWd.put ez (r5.monoY ee) (((hv.mono ((x3.trans x4).trans x5))).monoY ee)
                  · cases hgo
theorem de_dcomp {kx vx iter tg : Expr} {ifs : List Expr} {scope : Scope} {own : List (Str × Nat)} {ts : List Nat} {g : TG} {s : CI} {t ck ce : CE} (gk : GOk X.K ts g) (hN : X.N.Nodup) (hi : DI X Φ tg iter s) (ok : BlkOk X.N X.env.scope scope own)
    (hg : ∀ (s : Shared) (H : Hp) (C : Addr) (cl : List (Str × Addr)) (fp : List Addr), PG (X.blk s H scope (compEnvC scope cl C X.env) fp) tg g)
    (ht : ∀ (s : Shared) (H : Hp) (C : Addr) (cl : List (Str × Addr)) (fp : List Addr), DTs (X.blk s H scope (compEnvC scope cl C X.env) fp) Φ ifs t)
    (hk : ∀ (s : Shared) (H : Hp) (C : Addr) (cl : List (Str × Addr)) (fp : List Addr), DE (X.blk s H scope (compEnvC scope cl C X.env) fp) Φ kx ck)
    (he : ∀ (s : Shared) (H : Hp) (C : Addr) (cl : List (Str × Addr)) (fp : List Addr), DE (X.blk s H scope (compEnvC scope cl C X.env) fp) Φ vx ce) (hsub : ∀ i ∈ ts, i ∈ own.map (·.2) := by decide) (hc : X.calm = true := by rfl) (hs : ∀ x, foldedSetIterable iter X.env x = pure x := by intro _; rfl) :
    DE X Φ (.DictComp kx vx [⟨tg, iter, ifs, 0⟩] scope pos) (.dcomp (own.map (·.2)) ts s t ck ce) :=
  peW (pe_lock (pe_dc hc hN hi ok hg ht hk he hs)) fun _ _ _ h => tDc_of gk hsub h
end
end MP
/-! dicts that are changed; the last of a list taken out; texts put together -/
namespace MP
open PySem PySem.Spec PyProof.Rows L2
section
variable {X : Cx} {Φ : Fns} {pos : Pos} {a b e : Expr} {ca cb ce : CE}
theorem de_dnew : DE X Φ (.Dict [] [] pos) (.bi .dnew .nil) := by
  refine peW pe_dnewK fun σ H Q h => ?_
  obtain ⟨μ, env, S, w, S', s, er, h1, h2⟩ := h
  simp only [ev, evs, opI] at h1
  cases h1
  intro p hp
  have nn : ∀ k : Nat, μ[k]? ≠ some p := fun k hk => by
    obtain ⟨u, hu, _⟩ := s.trk hk
    rw [hp] at hu
    cases hu
  refine h2 _ (μ ++ [p]) _ (ex_new hp) ((s.fresh hp).adoptD upd_same nn .nil) (.dref ?_ ⟨_, upd_same⟩)
  rw [← s.len, List.getElem?_append_right (Nat.le_refl _), Nat.sub_self]
  rfl
theorem ev_one {f : BI} {env : Env} {S S' : Sto} {w : W} (h : ev Φ (.bi f (.cons ca .nil)) env S = some (w, S')) : ∃ x S1, ev Φ ca env S = some (x, S1) ∧ opI f [x] S1 = some (w, S') := by
  simp only [ev, evs] at h
  split at h
  · rename_i xs S1 e1
    split at e1
    · rename_i x S2 e2
      cases e1
      exact ⟨x, _, e2, h⟩
    · cases e1
  · cases h
theorem cs_dlen {K : Fg} : ClS K (opI .dlen) (fun xs H Q => ∃ a kvs, xs = [V.ref a] ∧ H a = some (.dK kvs) ∧ Q (.int kvs.length) H) := by
  intro μ H S ws vs w S' Q s rv h q
  cases rv with
  | nil => simp only [opI] at h; cases h
  | cons r t =>
    cases t with
    | cons _ _ => cases r <;> simp only [opI] at h <;> cases h
    | nil =>
      cases r <;> simp only [opI] at h <;> try (cases h; done)
      rename_i A k hk hd
      rw [Option.map_eq_some_iff] at h
      obtain ⟨z, h1, h2⟩ := h
      cases h2
      obtain ⟨q0, ks, q1, q2⟩ := s.rdd hk h1
      refine ⟨_, ks, rfl, q1, ?_⟩
      rw [q2.length]
      exact q.now s (.int _)
theorem de_popl {apos : Pos} (ha : DE X Φ a ca) (h1 : attributeBase a "pop" X.env (eval a X.env) = eval a X.env := by rfl) (h3 : (apos.endLine == pos.line) = true := by rfl) :
    DE X Φ (.Call (.Attribute a "pop" apos) [] [] pos) (.bi .popl (.cons ca .nil)) := by
  refine peW (pe_bm0 PySem.F.plainAttrs_list PySem.F.slot_list_pop PySem.F.type_list_pop mt_pop ha h1 h3) fun σ H Q h => ?_
  obtain ⟨μ, env, S, w, S', s, er, h1, h2⟩ := h
  obtain ⟨x, S1, e1, e3⟩ := ev_one h1
  cases x <;> simp only [opI] at e3 <;> try (cases e3; done)
  rename_i k
  refine ⟨μ, env, S, _, S1, s, er, e1, fun v μ1 H1 x1 s1 r1 => ?_⟩
  cases r1 with
  | ref hk hkl =>
    refine ⟨.inl ⟨rfl, s1.isL hk hkl⟩, ?_⟩
    split at e3
    · rename_i zs hz
      split at e3
      · rename_i y hy
        cases e3
        obtain ⟨q0, vs, q1, t1⟩ := s1.rm hk hz
        have hy2 : zs[zs.length - 1]? = some w := by rw [← List.getLast?_eq_getElem?]; exact hy
        obtain ⟨vy, v1, v2⟩ := t1.get hy2
        have tt : VWs X.K μ1 H1 vs.dropLast zs.dropLast := by
          have l := t1.length
          rw [List.dropLast_eq_take, List.dropLast_eq_take, l]
          exact t1.take _
        obtain ⟨s3, x3⟩ := s1.write hk q0 tt
        exact ⟨_, vs, vy, rfl, rfl, q1, by rw [t1.length]; exact v1, h2 _ μ1 _ (x1.trans x3) s3 (v2.mono x3)⟩
      · cases e3
    · cases e3
theorem ds_dset {k : Nat} {o i : Expr} {co ci : CE} {p2 : Pos} (hr : Room k X.A) (ho : DE X Φ o co) (hi : DE X Φ i ci) (he : DE X Φ e ce) (hs : swapsWith e (some (.Subscript o i p2)) pos.line X.env = pure false := by rfl) : DS X Φ (.Assign [.Subscript o i p2] e pos) (.dset co ci ce) := by
  refine psW (ps_dput (by have := u65 hr; omega) ho hi he hs) fun D σ H h => ?_
  obtain ⟨μ, env, S, r, sr, er, e0, f⟩ := h
  simp only [ex] at e0
  split at e0
  · rename_i w S1 e1
    split at e0
    · rename_i k S2 e2
      split at e0
      · rename_i x S3 e3
        split at e0
        · rename_i kvs e4
          split at e0
          · rename_i hl
            cases e0
            refine ⟨μ, env, S, w, S1, sr, er, e1, fun v μ1 H1 x1 s1 r1 => ⟨μ1, env, S1, _, S2, s1, er.mono x1, e2, fun v2 μ2 H2 x2 s2 r2 => ⟨μ2, env, S2, _, S3, s2, er.mono (x1.trans x2), e3, fun v3 μ3 H3 x3 s3 r3 => ?_⟩⟩⟩
            cases r3 with
            | str z _ ez =>
              cases r2 with
              | dref hk hkd =>
                have hk3 := x3.pre _ _ hk
                obtain ⟨q0, ks, q1, q2⟩ := s3.rdd hk3 e4
                obtain ⟨s4, x4⟩ := s3.writeD hk3 q0 (VWd.put ez (r1.mono (x2.trans x3)) q2)
                refine ⟨_, _, rfl, DPut.k (k := Sum.inr z) q1 (by rw [q2.length]; exact lim_lt hl), ?_⟩
                exact f σ μ3 _ (((x1.trans x2).trans x3).trans x4) s4 (er.mono (((x1.trans x2).trans x3).trans x4))
          · cases e0
        · cases e0
      · cases e0
    · cases e0
  · cases e0
/-! f-strings: parts that are texts -/
inductive DJ (X : Cx) (Φ : Fns) : List Expr → CEs → List TE → Prop where
  | nil : DJ X Φ [] .nil []
  | str {e : Expr} {c : CE} {es : List Expr} {cs : CEs} {ts : List TE} (h : DE X Φ e c) (r : DJ X Φ es cs ts) : DJ X Φ (e :: es) (.cons c cs) (tD X.K Φ c :: ts)
  | fmt {e : Expr} {p : Pos} {c : CE} {es : List Expr} {cs : CEs} {ts : List TE} (h : DE X Φ e c) (r : DJ X Φ es cs ts) : DJ X Φ (.FormattedValue e (-1) none p :: es) (.cons c cs) (tFmt (tD X.K Φ c) :: ts)
theorem DJ.pj {es : List Expr} {cs : CEs} {ts : List TE} (h : DJ X Φ es cs ts) : PJ X es ts := by
  induction h with
  | nil => exact .nil
  | str h _ ih => exact .cons h ih
  | fmt h _ ih => exact .cons (pe_fmt h) ih
theorem DJ.go {es : List Expr} {cs : CEs} {ts : List TE} (h : DJ X Φ es cs ts) {σ : L2.St} : ∀ {μ : List Addr} {H : Hp} {env : Env} {S S' : Sto} {ws : List W} {ys : List (List Nat)} (acc : Str) (Q : Str → Hp → Prop), SR X.K μ H S → ER X.K μ H σ env → evs Φ cs env S = some (ws, S') → txts ws = some ys → acc.length + lens ys ≤ LIM →
    (∀ out μ' H', Ex X.K μ H μ' H' → SR X.K μ' H' S' → out.cps.toList = acc.cps.toList ++ ys.flatten → Q out H') → tJs ts acc σ H Q := by
  induction h with
  | nil =>
    intro μ H env S S' ws ys acc Q s er e1 e2 hl f
    simp only [evs] at e1
    cases e1
    simp only [txts] at e2
    cases e2
    exact f acc μ H .refl s (by simp)
  | @str e c es cs ts h r ih =>
    intro μ H env S S' ws ys acc Q s er e1 e2 hl f
    simp only [evs] at e1
    split at e1
    · rename_i x S2 q1
      split at e1
      · rename_i xs S3 q2
        cases e1
        cases x <;> simp only [txts] at e2 <;> try (cases e2; done)
        rename_i l
        rw [Option.map_eq_some_iff] at e2
        obtain ⟨zs, e3, e4⟩ := e2
        subst e4
        refine ⟨μ, env, S, _, S2, s, er, q1, fun v μ1 H1 x1 s1 r1 => ?_⟩
        cases r1 with
        | str z _ ez =>
          have hz : z.length = l.length := by rw [← ez]; rfl
          have ha : (acc ++ z).length = acc.length + l.length := by
            show (acc ++ z).cps.toList.length = acc.cps.toList.length + _
            rw [cps_toList_append, List.length_append, ez]
          simp only [lens] at hl
          refine ⟨z, rfl, by rw [ha]; exact lim_ok (by omega), ih (acc ++ z) Q s1 (er.mono x1) q2 e3 (by rw [ha]; omega) fun out μ2 H2 x2 s2 eo => f out μ2 H2 (x1.trans x2) s2 ?_⟩
          rw [eo, cps_toList_append, ez, List.flatten_cons, List.append_assoc]
      · cases e1
    · cases e1
  | @fmt e p c es cs ts h r ih =>
    intro μ H env S S' ws ys acc Q s er e1 e2 hl f
    simp only [evs] at e1
    split at e1
    · rename_i x S2 q1
      split at e1
      · rename_i xs S3 q2
        cases e1
        cases x <;> simp only [txts] at e2 <;> try (cases e2; done)
        rename_i l
        rw [Option.map_eq_some_iff] at e2
        obtain ⟨zs, e3, e4⟩ := e2
        subst e4
        refine ⟨μ, env, S, _, S2, s, er, q1, fun v μ1 H1 x1 s1 r1 => ?_⟩
        cases r1 with
        | str z _ ez =>
          have hz : z.length = l.length := by rw [← ez]; rfl
          have ha : (acc ++ z).length = acc.length + l.length := by
            show (acc ++ z).cps.toList.length = acc.cps.toList.length + _
            rw [cps_toList_append, List.length_append, ez]
          simp only [lens] at hl
          refine .inl ⟨z, rfl, by rw [hz]; exact lim_ok (by omega), z, rfl, by rw [ha]; exact lim_ok (by omega), ih (acc ++ z) Q s1 (er.mono x1) q2 e3 (by rw [ha]; omega) fun out μ2 H2 x2 s2 eo => f out μ2 H2 (x1.trans x2) s2 ?_⟩
          rw [eo, cps_toList_append, ez, List.flatten_cons, List.append_assoc]
      · cases e1
    · cases e1
theorem de_fstr {v1 v2 : Expr} {rest : List Expr} {cs : CEs} {ts : List TE} (h : DJ X Φ (v1 :: v2 :: rest) cs ts) : DE X Φ (.JoinedStr (v1 :: v2 :: rest) pos) (.bi .fcat cs) := by
  refine peW (pe_joined h.pj) fun σ H Q q => ?_
  obtain ⟨μ, env, S, w, S', s, er, h1, h2⟩ := q
  simp only [ev] at h1
  split at h1
  · rename_i xs S1 e1
    simp only [opI] at h1
    split at h1
    · rename_i ys hy
      split at h1
      · rename_i hl
        cases h1
        refine h.go Str.empty _ s er e1 hy (by show 0 + _ ≤ _; omega) fun out μ' H' x1 s1 eo => h2 _ μ' H' x1 s1 (.str _ _ ?_)
        rw [eo]
        rfl
      · cases h1
    · cases h1
  · cases h1
end
end MP
/-! promises of defs that are called while nothing is being shown (guards: none): with them repr can be told -/
namespace MP
open PySem PySem.Spec PyProof.Rows L2
structure FnG (P : Program) (w : World) (K : Fg) (mg : Str → Option Value) (base : Heap) (k : Nat) (f : Addr) (fd : FuncData) (ps : List Str) (sp : Sp) : Prop where
  sz : ∀ vs H Q E, sp vs H Q E → vs.length = ps.length
  go : ∀ (B : Around) (out : List PySem.Env) (t : Shared) (H : Hp) (ar : Args) (us : List Value) (vs : List V) (Q : VK) (E : XK), B.guards = some [] → Room k B → Env0 P w K mg base B out t H → BindsTo t fd ar (ps.zip us) → Vals vs us → sp vs H Q E →
    codeAny (model P w) B (.call (.ref f) ar) (CR CX0 out P w H t Q E) t
section
variable {X : Cx} {f : Addr} {fd : FuncData} {ps : List Str} {k : Nat} {sp : Sp}
theorem grd_run {pins : List (Addr × Obj)} {σ : L2.St} {H : Hp} {t : Shared} {Q : VK} {us : List Value} {vs : List V} (F : FnG X.prog X.w X.K X.mg X.base k f fd ps sp) (gd : X.A.guards = some []) (hr : Room k X.A) (hb : Binds X.K fd ps [])
    (I : L2.Inv X pins σ H t) (r : Vals vs us) (q : sp vs H Q E0) : wpAny (model X.prog X.w) X.A (call (.ref f) us) (EP X pins σ Q) X.xe t := by
  have hl : us.length = ps.length := by rw [← r.length]; exact F.sz _ _ _ _ q
  have b := hb t us I.kIn (by rw [List.append_nil]; exact hl)
  rw [List.append_nil] at b
  refine wpAny_call (codeAny_mono (F.go X.A X.stack t H ⟨us, []⟩ us vs Q E0 gd hr I.env0 b r q) fun res t2 z => ?_)
  cases res with
  | error e => exact False.elim z
  | ok fl =>
    cases fl with
    | ret u => exact I.after z
    | _ => exact False.elim z
theorem pe_callG {x : Str} {e : Expr} {es : List Expr} {p pos : Pos} {ta : TA} (F : FnG X.prog X.w X.K X.mg X.base k f fd ps sp) (gd : X.A.guards = some []) (hr : Room k X.A) (hg : Gl X x) (hm : X.mg x = some (.ref f)) (hk : PySem.W.keepIn X.K (.ref f) = true) (hb : Binds X.K fd ps [])
    (ha : PA X (e :: es) ta) (hdb : (x == ("__debug__" : Str)) = false) (he : starEach (e :: es) X.env = (false, eval e X.env) :: starEach es X.env) (hpl : (backTo pos (starEach es X.env)).any (·.1) = false) :
    PE X (.Call (.Name x p) (e :: es) [] pos) (fun σ H Q => ta σ H fun vs H1 => sp vs H1 Q E0) := by
  refine ⟨fun pins t σ H Q I z => wpAny_Call_Name_kw (ld_glob I hg hm ?_ hdb)⟩
  exact PySem.W.callWith_K (h₀ := X.base) I.ok.mod.kin hk (thn (ha.run pos pins t σ H _ I z) fun us t1 ⟨vs, H1, I1, r, q⟩ => ⟨I1.kIn, grd_run F gd hr hb I1 r q⟩) he hpl
end
theorem fnG_of {P : Program} {w : World} {K : Fg} {mg : Str → Option Value} {base : Heap} {x : Str} {st : Stmt} {f : Addr} {fd : FuncData} {N ps : List Str} {k : Nat} {sp : Sp} (F : Fun K x x st f fd) (Sc : FnScope N ps (defScope st)) (len : ∀ vs H Q E, sp vs H Q E → vs.length = ps.length)
    (hbody : ∀ (cdv : Value) (A : Around) (outer : List PySem.Env) (s : Shared) (H : Hp) (vs : List V) (Q : VK) (E : XK), A.guards = some [] → Room k (A.deeper (envOfC x (defScope st) s.heap.objs.size f cdv)) → sp vs H Q E →
      ∃ t, PSs (cxOf CX0 P w K mg base N x (defScope st) f cdv A outer s H E).nox (defBody st) t ∧ t { nx := fun _ H' => Q .non H', rt := Q } (L2.start N vs) H) : FnG P w K mg base (k + 1) f fd ps sp := by
  obtain ⟨oc, od, kV, doc, pm, an, cdv, ct, osl, rfl, lk, hcd⟩ := F.ex
  refine ⟨len, fun B out t H ar us vs Q E gd hr v0 hb r hsp => ?_⟩
  have lv := len _ _ _ _ hsp
  have KT : K.In t.heap := v0.mod.kin.keeps fun b o z => (v0.bs b o z).1
  have nl : t.heap.NoLimit := v0.mod.nolimit.keeps fun b o z => (v0.bs b o z).1
  have kinds : ∀ y ∈ ps.zip us, (defScope st).names.lookup y.1 = some .local ∨ ((defScope st).names.lookup y.1 = some .cell ∧ ((cellsFrom (t.heap.objs.size + 1) (defScope st).names []).lookup y.1).isSome = true) := fun ⟨nm, u⟩ hy => (Sc.par nm (List.of_mem_zip hy).1).imp id fun z => ⟨z, PySem.W.cellsFrom_some _ _ _ (.inl z)⟩
  refine codeAny_call_function hr.depth (KT _ _ lk) rfl Sc.co Sc.gen rfl (PySem.W.codeRec_of KT hcd) (hb _ _ _ _ ?_)
  refine wpAny_newFunctionEnv_cells Sc.kind kinds fun en hen t1 z => ?_
  subst hen
  refine ⟨nl.keeps z.toInCall.keep, codeAny_func ?_⟩
  obtain ⟨tt, h1, h2⟩ := hbody cdv B out t H vs Q E gd (hr.deeper _) hsp
  have I0 : L2.Inv (cxOf CX0 P w K mg base N x (defScope st) f cdv B out t H E) [] (L2.start N vs) H t1 := inv_start Sc hr.hd v0 lv r z
  refine wpAny_mono (h1.nox.run [] t1 (L2.start N vs) H _ I0 h2) (fun fl t2 hs => ?_) fun _ _ hs => hs
  cases fl with
  | ret u =>
    obtain ⟨v, _, H2, J, rv, q⟩ := hs
    exact ⟨v, H2, J.os, J.bare, J.base, J.hok, rv, q⟩
  | next =>
    obtain ⟨_, H2, J, q⟩ := hs
    exact ⟨V.non, H2, J.os, J.bare, J.base, J.hok, rfl, q⟩
  | brk =>
    obtain ⟨_, _, _, q⟩ := hs
    exact False.elim q
  | cont =>
    obtain ⟨_, _, _, q⟩ := hs
    exact False.elim q
/-- the law's call, by such a promise -/
theorem lawG_call {P : Program} {w : World} {K : Fg} {mg mb : Str → Option Value} {k : Nat} {fa a : Addr} {fd : FuncData} {x : Str} {sp : Sp} {t : Shared} {vs : List Value} {ns : List Int}
    (KT : K.In t.heap) (n1 : t.heap.Ns mainGlobals mg) (n2 : t.heap.Ns builtinsNs mb) (n3 : ∀ x : Str, x ≠ "__name__" → mb x = bootBuiltins x) (nl : t.heap.NoLimit) (gz : t.gens = #[])
    (ha : t.heap.get? a = some { cls := .type "list", data := .seq vs.toArray }) (hi : IntsAre vs ns) (hl : ns.length ≤ sizeLine) (hr : Room k callerA)
    (F : ∀ base : Heap, K.In base → base.Ns mainGlobals mg → FnG P w K mg base k fa fd [x] sp) (hb : ∀ (s : Shared) (u : Value), BindsTo s fd ⟨[u], []⟩ [(x, u)])
    (hsp : ∀ H : Hp, Only H → SqL K H a (ns.map V.int) → sp [.ref a] H (fun v _ => v = .bl true) fun _ _ _ => False) :
    codeAny (model P w) callerA (.call (.ref fa) ⟨[.ref a], []⟩) (fun r t2 => r = .ok (.ret (.bool true)) ∧ OldK t.heap t2.heap ∧ t2.os = t.os ∧ AllBare t2.gens) t := by
  have rv := vals_ints hi
  have lv := hi.length
  have main : ∀ H : Hp, Only H → SqL K H a (ns.map V.int) → HOk P w H t.heap → (∀ b, H b ≠ none → b = a) → (H a ≠ none → K.lookup a = none) →
      codeAny (model P w) callerA (.call (.ref fa) ⟨[.ref a], []⟩) (fun r t2 => r = .ok (.ret (.bool true)) ∧ OldK t.heap t2.heap ∧ t2.os = t.os ∧ AllBare t2.gens) t := by
    intro H h1 h2 h3 h4 h5
    have hid : ∀ {b : Addr} {o : Obj}, t.heap.get? b = some o → H b = none → (hidT t.heap H).get? b = some o := fun z n => hidT_get z n
    have out1 : ∀ {b : Addr} {u : HO}, H b = some u → b = a := fun {b u} q => h4 b (by rw [q]; exact fun z => nomatch z)
    have nd : ∀ {b : Addr} {o : Obj} {es : Array DictEntry} {ep : Nat}, t.heap.get? b = some o → o.data = .dict es ep → H b = none := fun {b o es ep} z d => by
      cases q : H b with
      | none => rfl
      | some u =>
        rw [out1 q, ha] at z
        cases z
        exact nomatch (show Data.seq vs.toArray _ = Data.dict es ep from d)
    have nsH : ∀ {b : Addr} {m : Str → Option Value}, t.heap.Ns b m → (hidT t.heap H).Ns b m := fun {b m} ⟨o, es, ep, z, d, r⟩ => ⟨o, es, ep, hid z (nd z d), d, r⟩
    have KH : K.In (hidT t.heap H) := fun b o z => hid (KT b o z) (by
      cases q : H b with
      | none => rfl
      | some u =>
        have e1 := out1 q
        subst e1
        rw [h5 (by rw [q]; exact fun z => nomatch z)] at z
        cases z)
    have MH : Mod K mg (hidT t.heap H) := ⟨KH, nsH n1, ⟨mb, nsH n2, n3⟩, let ⟨mc, z1, z2⟩ := nl; ⟨mc, nsH z1, z2⟩⟩
    have v0 : Env0 P w K mg (hidT t.heap H) callerA [] t H := ⟨rfl, MH, fun b o z => of_hidT z, Nat.le_of_eq (hidT_size _ _), trivial, fun b hb => absurd (show b ∈ ([] : List Addr) from hb) (by simp), h3, .of_eq gz⟩
    refine codeAny_mono ((F _ KH (nsH n1)).go callerA [] t H ⟨[.ref a], []⟩ [.ref a] [.ref a] _ _ rfl hr v0 (hb t (.ref a)) (.cons rfl .nil) (hsp H h1 h2)) fun res t2 z => ?_
    cases res with
    | error e => exact False.elim z
    | ok fl =>
      cases fl with
      | ret u =>
        obtain ⟨v, H2, os, bare, un, hok2, rr, q⟩ := z
        obtain rfl : v = .bl true := q
        obtain rfl : u = Value.bool true := rr
        refine ⟨rfl, OldK.of_keep fun b o e => ?_, os, bare⟩
        cases q : H b with
        | none => exact un.keep b o e q (fun z => absurd (show b ∈ ([] : List Addr) from z) (by simp)) (by simp)
        | some u =>
          rcases h1 b with z | ⟨ob, xs, z⟩
          · rw [q] at z
            cases z
          · obtain ⟨y1, _⟩ := h3 b _ z
            obtain ⟨y2, _⟩ := hok2 b _ (un.frzs b ob _ z)
            rw [e] at y1
            cases y1
            exact y2
      | _ => exact False.elim z
  cases hk : K.lookup a with
  | some o =>
    have z := KT a o hk
    rw [ha] at z
    cases z
    exact main (fun _ => none) (fun _ => .inl rfl) (.inr ⟨_, vs.toArray, _, hk, rfl, rfl, rfl, by rw [List.size_toArray, lv]; exact hl, by simpa using rv⟩) (fun b u z => nomatch z) (fun b z => absurd rfl z) fun z => absurd rfl z
  | none =>
    refine main (fun b => if b = a then some (.frz { cls := .type "list", data := .seq vs.toArray } (.lst (ns.map V.int))) else none) (fun b => ?_) (.inl (.inr ⟨{ cls := .type "list", data := .seq vs.toArray }, if_pos rfl⟩)) (fun b u z => ?_) (fun b z => ?_) fun _ => hk
    · by_cases c : b = a
      · exact .inr ⟨_, _, if_pos c⟩
      · exact .inl (if_neg c)
    · by_cases c : b = a
      · have y := (if_pos c).symm.trans z
        cases y
        subst c
        exact ⟨ha, by rw [List.length_map]; exact hl, vs, _, rv, ha⟩
      · have y := (if_neg c).symm.trans z
        cases y
    · by_cases c : b = a
      · exact c
      · exact absurd (if_neg c) z
theorem walkG {l : PySem.W.OpenLaw} {n k : Nat} {q : Program} {loose : List Str} {XP : (Str → Option Value) → Heap → Prop} {YP : World → Heap → Prop} {d : DefRec} {K : Params → Fg} {sp : Fg → Sp} {x : Str}
    (hn : l.most = some n) (hn2 : n ≤ sizeLine) (hdf : d.params.defaults = []) (hr : Room k callerA)
    (hY : ∀ (w : World) (h : Heap), YP w h → (K w.params).In h)
    (F : ∀ (w : World) (mg : Str → Option Value) (fa : Addr) (h : Heap), (K w.params).In h → h.Ns mainGlobals mg → mg d.name = some (.ref fa) →
      ∃ fd : FuncData, (∀ (s : Shared) (u : Value), BindsTo s fd ⟨[u], []⟩ [(x, u)]) ∧ ∀ base : Heap, (K w.params).In base → base.Ns mainGlobals mg → FnG l.prog w (K w.params) mg base k fa fd [x] (sp (K w.params)))
    (hsp : ∀ (K : Fg) (H : Hp) (a : Addr) (ns : List Int), ns.length ≤ n → Only H → SqL K H a (ns.map V.int) → sp K [.ref a] H (fun v _ => v = .bl true) fun _ _ _ => False) :
    PySem.W.WalkO q loose XP YP l.row.toRowW d [] (fun f vs => PySem.call f vs) := by
  refine Att.attach_call hn hdf fun w t0 t1 mg mb fa o pm cd doc a vs ns G Y ho hd hcd hmg hobj hints hlen hg => ?_
  have KX := hY w _ Y
  obtain ⟨fd, b1, b2⟩ := F w mg fa _ KX G.T.g hmg
  exact lawG_call KX G.T.g G.T.b G.T.builtins G.T.nolimit hg hobj hints (Nat.le_trans hlen hn2) hr b2 b1 fun H z1 z2 => hsp (K w.params) H a ns hlen z1 z2
/-! ### the reader's rules with it -/
structure CalG (P : Program) (w : World) (K : Fg) (mg : Str → Option Value) (base : Heap) (k : Nat) (Φ : Fns) (x : Str) (i n : Nat) : Prop where
  ex : ∃ (f : Addr) (fd : FuncData) (ps : List Str), FnG P w K mg base k f fd ps (spD K Φ i n) ∧ mg x = some (.ref f) ∧ PySem.W.keepIn K (.ref f) = true ∧ Binds K fd ps []
section
variable {X : Cx} {Φ : Fns} {e : Expr} {es : List Expr} {cs : CEs} {pos : Pos}
theorem de_callG {x : Str} {i n k : Nat} {p : Pos} (G : CalG X.prog X.w X.K X.mg X.base k Φ x i n) (gd : X.A.guards = some []) (hr : Room k X.A) (ha : DA X Φ (e :: es) cs) (hn : cs.len = n := by rfl) (hg : Gl X x := by rfl) (hdb : (x == ("__debug__" : Str)) = false := by decide)
    (he : starEach (e :: es) X.env = (false, eval e X.env) :: starEach es X.env := by rfl) (hpl : (backTo pos (starEach es X.env)).any (·.1) = false := by rfl) : DE X Φ (.Call (.Name x p) (e :: es) [] pos) (.call i cs) := by
  obtain ⟨f, fd, ps, F, hm, hk, hb⟩ := G.ex
  refine peW (pe_callG F gd hr hg hm hk hb ha hdb he hpl) fun σ H Q h => ?_
  obtain ⟨μ, env, S, w, S', s, er, h1, h2⟩ := h
  simp only [ev] at h1
  split at h1
  · rename_i xs S1 e1
    exact ⟨μ, env, S, xs, S1, s, er, e1, fun vs μ1 H1 x1 s1 r1 => ⟨by rw [r1.length, evs_len cs e1]; exact hn, μ1, S1, xs, w, S', s1, r1, h1, h2.mono x1⟩⟩
  · cases h1
end
theorem fn_okG {P : Program} {w : World} {K : Fg} {mg : Str → Option Value} {base : Heap} {x : Str} {st : Stmt} {f : Addr} {fd : FuncData} {N ps : List Str} {k i n : Nat} {ds : Nat → Option Def} {body : CSs} (F : Fun K x x st f fd) (Sc : FnScope N ps (defScope st)) (hd : ds i = some ⟨n, N.length, body⟩) (hn : ps.length = n)
    (hbody : ∀ (cdv : Value) (A : Around) (outer : List PySem.Env) (s : Shared) (H : Hp) (E : XK), A.guards = some [] → Room k (A.deeper (envOfC x (defScope st) s.heap.objs.size f cdv)) → DSs (cxOf CX0 P w K mg base N x (defScope st) f cdv A outer s H E).nox (callF ds k) (defBody st) body) : FnG P w K mg base (k + 1) f fd ps (spD K (callF ds (k + 1)) i n) := by
  refine fnG_of F Sc (fun vs H Q E h => h.1.trans hn.symm) (fun cdv A outer s H vs Q E gd hr h => ⟨_, hbody cdv A outer s H E gd hr, ?_⟩)
  obtain ⟨hl, μ, S, ws, w', S', sr, hv, h1, h2⟩ := h
  simp only [callF, hd] at h1
  split at h1
  · cases hr : exs (callF ds k) body (MP.start N.length ws) S with
    | none =>
      rw [hr] at h1
      cases h1
    | some r =>
      rw [hr] at h1
      refine ⟨μ, _, S, r, sr, hv.start, hr, ?_⟩
      cases r with
      | nx env S2 =>
        cases h1
        exact fun σ' μ' H' x' s' _ => h2 _ μ' H' x' s' .non
      | rt w2 S2 =>
        cases h1
        exact h2
      | bk env S2 => cases h1
      | ct env S2 => cases h1
  · cases h1
theorem fn_zeroG {P : Program} {w : World} {K : Fg} {mg : Str → Option Value} {base : Heap} {f : Addr} {fd : FuncData} {ps : List Str} {i n : Nat} {ds : Nat → Option Def} (h : ps.length = n) : FnG P w K mg base 0 f fd ps (spD K (callF ds 0) i n) :=
  ⟨fun vs H Q E q => q.1.trans h.symm, fun B out t H ar us vs Q E gd hr he hb hv q => by
    obtain ⟨_, μ, S, ws, w', S', _, _, h1, _⟩ := q
    cases h1⟩
/-! ### repr of tuples -/
mutual
theorem rep_len : ∀ d : D, repOk d = true → d.py.shown.length ≤ repN d ∧ d.py.showable = true ∧ d.py.hasDict = false
  | .non, _ => ⟨by simp only [D.py, PyData.shown, repN]; decide, by simp only [D.py, PyData.showable], by simp only [D.py, PyData.hasDict]⟩
  | .bl b, _ => ⟨by simp only [D.py, PyData.shown, repN]; cases b <;> decide, by simp only [D.py, PyData.showable], by simp only [D.py, PyData.hasDict]⟩
  | .int i, h => by
    simp only [repOk] at h
    refine ⟨?_, by simpa only [D.py, PyData.showable] using h, by simp only [D.py, PyData.hasDict]⟩
    simp only [D.py, PyData.shown, repN]
    exact int_text_len_1921 (of_decide_eq_true h)
  | .str x, h => by
    simp only [repOk] at h
    refine ⟨?_, by simp only [D.py, PyData.showable], by simp only [D.py, PyData.hasDict]⟩
    simp only [D.py, PyData.shown, repN]
    have q := StrLaws.reprText_len ⟨x.toArray⟩ fun c hc => by
      have := of_decide_eq_true (List.all_eq_true.mp h c (by simpa using hc))
      omega
    simpa [Str.length] using q
  | .lst xs, h => by simp [repOk] at h
  | .tup xs, h => by
    simp only [repOk] at h
    obtain ⟨h1, h2, h3⟩ := reps_len xs h
    refine ⟨?_, by simpa only [D.py, PyData.showable] using h2, by simpa only [D.py, PyData.hasDict] using h3⟩
    simp only [D.py, PyData.shown, repN]
    have q := fmt_text (PyData.shownAll (D.pys xs))
    omega
theorem reps_len : ∀ xs : List D, repOks xs = true → piled (PyData.shownAll (D.pys xs)) ≤ repNs xs ∧ PyData.showableAll (D.pys xs) = true ∧ PyData.hasDictAll (D.pys xs) = false
  | [], _ => ⟨by simp [D.pys, PyData.shownAll, piled, repNs], by simp only [D.pys, PyData.showableAll], by simp only [D.pys, PyData.hasDictAll]⟩
  | d :: ds, h => by
    simp only [repOks, Bool.and_eq_true] at h
    obtain ⟨a1, a2, a3⟩ := rep_len d h.1
    obtain ⟨b1, b2, b3⟩ := reps_len ds h.2
    refine ⟨?_, by simp only [D.pys, PyData.showableAll, a2, b2, Bool.and_self], by simp only [D.pys, PyData.hasDictAll, a3, b3, Bool.or_self]⟩
    simp only [D.pys, PyData.shownAll, piled_cons, repNs]
    omega
end
def rRepr (K : Fg) : List V → Hp → VK → Prop := fun vs H Q => ∃ (a : Addr) (d : D), vs = [.ref a] ∧ Dp K H (.ref a) d.py ∧ SeqAt.shaped d.py = true ∧ repOk d = true ∧ repN d ≤ LIM ∧ Q (.str d.py.shown) H
theorem cr_repr {X : Cx} {k : Nat} (gd : X.A.guards = some []) (hr : Room k X.A) : CallR X (.builtin "repr") (rRepr X.K) := by
  intro pins s σ H vs us Q I r h
  obtain ⟨a, d, rfl, hd, sh, ok, hl, q⟩ := h
  obtain ⟨u, rfl, ru⟩ := vals1 r
  obtain ⟨l, rd⟩ := Dp.reads I d.py (.ref a) u hd ru
  obtain ⟨b1, b2, b3⟩ := rep_len d ok
  cases ru
  have dp : d.py.depth ≤ 64 := by
    unfold SeqAt.shaped at sh
    simp only [Bool.and_eq_true, decide_eq_true_eq] at sh
    omega
  have un := hr.un
  refine repr_of_reads' (h₀ := s.heap) rd b2 (PyData.noDict_hsm b3) gd (by omega) (fun _ _ z => z) (fun h' t tk hk => ⟨.str d.py.shown, H, I.kept (t' := tk) hk, ⟨t, rfl⟩, q⟩) (Nat.le_trans b1 (lim_ok hl))
theorem cs_repr {K : Fg} : ClS K (opI .repr) (rRepr K) := by
  intro μ H S ws vs w S' Q s rv h q
  cases rv with
  | nil => simp only [opI] at h; cases h
  | cons r t =>
    cases t with
    | cons _ _ => cases r <;> simp only [opI] at h <;> cases h
    | nil =>
      cases r <;> simp only [opI] at h <;> try (cases h; done)
      rename_i a xs ys p t
      split at h
      · rename_i d hd
        split at h
        · rename_i c
          cases h
          exact ⟨a, d, rfl, dat_dp s 60 _ _ _ hd (.tup p t), dat_shaped (Nat.le_refl _) hd, c.1, c.2, q.now s (.str _ _ rfl)⟩
        · cases h
      · cases h
end MP
/-! a written dict keyed by written tuples of numbers and None, asked at once -/
namespace MP
open PySem PySem.Spec PyProof.Rows L2
def kvV : Option Int → V
  | some i => .int i
  | none => .non
def kvN : Option Int → NestedKey
  | some i => .num i
  | none => .none
def keyN (k : List (Option Int)) : NestedKey := .tup (k.map kvN)
theorem kvN_inj {a b : Option Int} (h : kvN a = kvN b) : a = b := by
  cases a <;> cases b <;> simp_all [kvN]
theorem keyN_inj : ∀ {a b : List (Option Int)}, keyN a = keyN b → a = b := by
  intro a b h
  have h : a.map kvN = b.map kvN := by
    unfold keyN at h
    injection h
  exact (List.map_inj_right fun _ _ q => kvN_inj q).mp h
theorem nest_all {h : Heap} : ∀ {k : List (Option Int)} {us : List Value}, Vals (k.map kvV) us → NestedAll h (k.map kvN) us
  | [], _, .nil => .nil
  | some i :: r, _, .cons ⟨t, e⟩ b => by
    subst e
    exact .cons (.int i t) (nest_all b)
  | none :: r, _, .cons a b => by
    have e : _ = Value.none := a
    subst e
    exact .cons .none (nest_all b)
theorem depth_keyN (k : List (Option Int)) : (keyN k).depth ≤ 8 := by
  have g : ∀ l : List (Option Int), NestedKey.depthAll (l.map kvN) = 0 := by
    intro l
    induction l with
    | nil => rfl
    | cons a r ih =>
      cases a <;> simp [kvN, NestedKey.depthAll, NestedKey.depth, ih]
  simp [keyN, NestedKey.depth, g]
/-- a written key -/
def LitK (X : Cx) (e : Expr) (k : List (Option Int)) : Prop := PE X e (fun _ H Q => ∀ p, H p = none → Q (.ref p) (upd H p (.tup (k.map kvV))))
section
variable {X : Cx} {pos : Pos}
theorem lit_ii {i j : Int} {a b : Nat} {q1 q2 : Pos} {c} : LitK X (.Tuple [.Constant (.int i) a q1, .Constant (.int j) b q2] c pos) [some i, some j] :=
  peW (pe_tup (pa_cons pe_int (pa_cons pe_int pa_nil))) fun _ _ _ h => ⟨by show 2 ≤ sizeLine; decide, fun t ht => h t ht⟩
theorem lit_in {i : Int} {a b : Nat} {q1 q2 : Pos} {c} : LitK X (.Tuple [.Constant (.int i) a q1, .Constant .none b q2] c pos) [some i, none] :=
  peW (pe_tup (pa_cons pe_int (pa_cons pe_non pa_nil))) fun _ _ _ h => ⟨by show 2 ≤ sizeLine; decide, fun t ht => h t ht⟩
end
/-- the pairs as they are written: the key's text, the key, the value's text, the value -/
abbrev LitP := Expr × List (Option Int) × Expr × Str
def litSems (L : List LitP) (env : PySem.Env) (pos : Pos) : List (Sem Value × Sem Value) := L.map fun x => (eval x.1 env, do let y ← eval x.2.2.1 env; standAt pos; pure y)
/-- what the pairs have come to -/
inductive LitD (H : Hp) : List LitP → List (Value × Value) → List (NestedKey × Addr × Value) → Prop
  | nil : LitD H [] [] []
  | cons {x : LitP} {L : List LitP} {a : Addr} {t : Tok} {vs : List (Value × Value)} {ps : List (NestedKey × Addr × Value)} : H a = some (.tup (x.2.1.map kvV)) → LitD H L vs ps → LitD H (x :: L) ((.ref a, .str x.2.2.2 t) :: vs) ((keyN x.2.1, a, .str x.2.2.2 t) :: ps)
theorem LitD.mono {H H' : Hp} (g : ∀ b o, H b = some o → H' b = some o) : ∀ {L : List LitP} {vs : List (Value × Value)} {ps : List (NestedKey × Addr × Value)}, LitD H L vs ps → LitD H' L vs ps
  | _, _, _, .nil => .nil
  | _, _, _, .cons e r => .cons (g _ _ e) (LitD.mono g r)
section
variable {X : Cx} {pins : List (Addr × Obj)} {σ : L2.St} {pos : Pos}
theorem lit_pairs : ∀ (L : List LitP), (∀ x ∈ L, LitK X x.1 x.2.1 ∧ ∃ j q, x.2.2.1 = .Constant (.str x.2.2.2) j q) → ∀ {s : Shared} {H : Hp} (R : List (Value × Value) → Shared → Prop), L2.Inv X pins σ H s →
    (∀ vs ps H' s', L2.Inv X pins σ H' s' → (∀ b o, H b = some o → H' b = some o) → LitD H' L vs ps → (∀ z ∈ ps, H z.2.1 = none) → R vs s') → wpAny (model X.prog X.w) X.A (evalPairs (litSems L X.env pos)) R X.xe s
  | [], _, s, H, R, I, h => evalPairs_nil (h [] [] H s I (fun _ _ e => e) .nil fun _ z => nomatch z)
  | x :: L, hL, s, H, R, I, h => by
    obtain ⟨hk, j, q, hv⟩ := hL x (by simp)
    refine evalPairs_cons (thn (hk.run pins s σ H (fun v H1 => ∃ p, v = .ref p ∧ H p = none ∧ H1 = upd H p (.tup (x.2.1.map kvV))) I fun p hp => ⟨p, rfl, hp, rfl⟩) fun u s1 hu => ?_)
    obtain ⟨v, H1, I1, r1, p, rfl, hp, rfl⟩ := hu
    cases r1
    show wpAny _ _ (eval x.2.2.1 X.env >>= _) _ _ _
    rw [hv]
    refine wpAny_bind (thn ((pe_str (X := X) (x := x.2.2.2) (j := j) (pos := q)).run pins s1 σ _ (fun v H2 => v = .str x.2.2.2 ∧ H2 = upd H p (.tup (x.2.1.map kvV))) I1 ⟨rfl, rfl⟩) fun u s2 hu => ?_)
    obtain ⟨v, H2, I2, r2, rfl, rfl⟩ := hu
    obtain ⟨t, rfl⟩ := r2
    refine wpAny_bind (wpAny_standAt (wpAny_pure ?_))
    refine lit_pairs L (fun y hy => hL y (by simp [hy])) _ I2 fun vs ps H3 s3 I3 g d f => ?_
    refine h _ ((keyN x.2.1, p, .str x.2.2.2 t) :: ps) H3 s3 I3 (fun b o e => g b o ?_) (.cons (g p _ upd_same) d) fun z hz => ?_
    · rw [upd_ne (ne_of_none e hp)]
      exact e
    · rcases List.mem_cons.mp hz with e | e
      · rw [e]; exact hp
      · have q := f z e
        by_cases c : z.2.1 = p
        · rw [c]; exact hp
        · rw [upd_ne c] at q; exact q
theorem ex_grow {K : Fg} {μ : List Addr} {H H' : Hp} (g : ∀ b o, H b = some o → H' b = some o) : Ex K μ H μ H' :=
  ⟨⟨fun _ _ z => z, fun a xs z => by
      rcases z with (z | ⟨ob, z⟩) | z
      · exact .inl (.inl (g _ _ z))
      · exact .inl (.inr ⟨ob, g _ _ z⟩)
      · exact .inr z, fun a xs z => by
      rcases z with ⟨o, z⟩ | z
      · exact .inl ⟨o, g _ _ z⟩
      · exact .inr z, fun a o ks z => g _ _ z, fun _ _ _ ⟨vs, z⟩ => ⟨vs, g _ _ z⟩, fun _ _ _ ⟨ks, z⟩ => ⟨ks, g _ _ z⟩⟩, fun a o z q => ⟨g _ _ z, q⟩⟩
theorem SR.grow {K : Fg} {μ : List Addr} {H H' : Hp} {S : Sto} (s : SR K μ H S) (g : ∀ b o, H b = some o → H' b = some o) : SR K μ H' S :=
  ⟨s.len, s.nd, fun k a o z1 z2 => by
    have q := s.at_ k a o z1 z2
    cases o with
    | lst ws => obtain ⟨vs, e, hv⟩ := q; exact ⟨vs, g _ _ e, hv.mono (ex_grow g)⟩
    | dct ws => obtain ⟨vs, e, hv⟩ := q; exact ⟨vs, g _ _ e, hv.mono (ex_grow g)⟩⟩
theorem keyW_ok {K : Fg} {μ : List Addr} {H : Hp} : ∀ {ws : List W} {k : List (Option Int)} {vs : List V}, keyW ws = some k → VWs K μ H vs ws → vs = k.map kvV
  | [], k, _, h, .nil => by
    simp only [keyW] at h
    cases h
    rfl
  | w :: r, k, _, h, .cons a b => by
    cases a <;> simp only [keyW] at h <;> try (cases h; done)
    · rw [Option.map_eq_some_iff] at h
      obtain ⟨k2, h1, rfl⟩ := h
      rw [keyW_ok h1 b]
      rfl
    · rw [Option.map_eq_some_iff] at h
      obtain ⟨k2, h1, rfl⟩ := h
      rw [keyW_ok h1 b]
      rfl
theorem key_is {H : Hp} {s : Shared} {a : Addr} {k : List (Option Int)} (I : L2.Inv X pins σ H s) (h : SqT X.K H a (k.map kvV)) : (nestedKind X.prog X.w).is s.heap (keyN k) a := by
  obtain ⟨its, rv, ⟨o, ho, hc, n, hd⟩, _⟩ := I.tuple h
  exact ⟨.tup ho hc hd (by simpa using nest_all rv), depth_keyN k⟩
theorem lit_carries {H : Hp} {s : Shared} (I : L2.Inv X pins σ H s) : ∀ {L : List LitP} {vs : List (Value × Value)} {ps : List (NestedKey × Addr × Value)}, LitD H L vs ps → CarriesH (nestedKind X.prog X.w) s.heap vs ps
  | _, _, _, .nil => trivial
  | _, _, _, .cons e r => ⟨rfl, rfl, key_is I (.inl (.inl e)), lit_carries I r⟩
theorem lit_keys {H : Hp} : ∀ {L : List LitP} {vs : List (Value × Value)} {ps : List (NestedKey × Addr × Value)}, LitD H L vs ps → ps.map (·.1) = L.map fun x => keyN x.2.1
  | _, _, _, .nil => rfl
  | _, _, _, .cons e r => by rw [List.map_cons, List.map_cons, lit_keys r]
theorem lit_find {H : Hp} {k : List (Option Int)} : ∀ {L : List LitP} {vs : List (Value × Value)} {ps : List (NestedKey × Addr × Value)} {x : LitP}, LitD H L vs ps → (L.find? fun y => decide (y.2.1 = k)) = some x → ∃ a t, atKey ps (keyN k) = some (a, .str x.2.2.2 t)
  | _, _, _, x, .nil, h => nomatch h
  | _, _, _, x, .cons (x := y) (a := a) (t := t) e r, h => by
    by_cases c : y.2.1 = k
    · rw [List.find?_cons_of_pos (by simpa using c)] at h
      cases h
      exact ⟨a, t, by simp [atKey, c]⟩
    · rw [List.find?_cons_of_neg (by simpa using c)] at h
      obtain ⟨b, u, q⟩ := lit_find r h
      refine ⟨b, u, ?_⟩
      have c2 : keyN y.2.1 ≠ keyN k := fun z => c (keyN_inj z)
      unfold atKey at q ⊢
      rw [List.find?_cons_of_neg (by simpa using c2)]
      exact q
theorem lit_at {H : Hp} : ∀ {L : List LitP} {vs : List (Value × Value)} {ps : List (NestedKey × Addr × Value)}, LitD H L vs ps → ∀ z ∈ ps, ∃ k, z.1 = keyN k ∧ H z.2.1 = some (.tup (k.map kvV))
  | _, _, _, .nil, z, hz => nomatch hz
  | _, _, _, .cons (x := y) e r, z, hz => by
    rcases List.mem_cons.mp hz with q | q
    · rw [q]; exact ⟨y.2.1, rfl, e⟩
    · exact lit_at r z q
variable {Φ : Fns} {e : Expr} {ce : CE}
theorem de_dlit {k : Nat} {keys : List (Option Expr)} {vals : List Expr} {p1 : Pos} (L : List LitP) (hr : Room k X.A) (hsh : (evalEachOpt keys X.env).zip ((evalEach vals X.env).map fun v => do let x ← v; standAt p1; pure x) = (litSems L X.env p1).map fun p => (some p.1, p.2))
    (hL : ∀ x ∈ L, LitK X x.1 x.2.1 ∧ ∃ j q, x.2.2.1 = .Constant (.str x.2.2.2) j q) (h0 : L ≠ []) (hlen : L.length ≤ 15) (hnd : (L.map fun x => x.2.1).Nodup) (he : DE X Φ e ce) (hs : NoSl e) :
    DE X Φ (.Subscript (.Dict keys vals p1) e pos) (.bi (.dlit (L.map fun x => (x.2.1, x.2.2.2.cps.toList))) (.cons ce .nil)) := by
  refine ⟨fun pins s σ H Q I h => subD_of PySem.F.slot_dict_getitem.lookup hs ?_⟩
  obtain ⟨μ, env, S, w, S', sr, er, h1, h2⟩ := h
  obtain ⟨x, S1, e1, e3⟩ := ev_one h1
  have un := hr.un
  rw [arm_eval_Dict, hsh, dictDisplay_pairs (litSems L X.env p1) (by unfold litSems; simpa using h0) (by unfold litSems; rw [List.length_map]; omega)]
  have hd0 : H s.heap.objs.size = none := I.hok.fresh (Nat.le_refl _)
  have fp : ∀ H2 : Hp, H2 s.heap.objs.size = none → FpOk X pins H2 s.heap.objs.size := fun H2 z => I.fpOk (Nat.le_refl _) z
  refine wpAny_bind (wpAny_standAt (wpAny_bind (wpAny_subDictH (knd := nestedKind X.prog X.w) (show X.A.units + 8 < cLine by omega) (by unfold litSems; rw [List.length_map]; omega) ?_)))
  have I0 : L2.Inv X pins σ H { s with heap := s.heap.push { cls := .type "dict", data := .dict #[] } } := I.kept (t' := s.toks) fun b u z => Heap.get?_push_of_some _ z
  have I1 : L2.Inv X ((s.heap.objs.size, { cls := .type "dict", data := .dict #[] }) :: pins) σ H { s with heap := s.heap.push { cls := .type "dict", data := .dict #[] } } := I0.pins_of fun p hp => by
    rcases List.mem_cons.mp hp with z | z
    · rw [z]
      obtain ⟨f0, f1, f2, _⟩ := fp H hd0
      exact ⟨Heap.get?_push_size _ rfl, f0, f1, f2, fun v q => nomatch q⟩
    · exact I0.pin p (List.mem_append_right _ z)
  refine lit_pairs L hL _ I1 fun vs ps H1 s1 J g dd fr => ?_
  obtain ⟨g1, g2, _⟩ := J.pin (s.heap.objs.size, { cls := .type "dict", data := .dict #[] }) (List.mem_append_right _ List.mem_cons_self)
  refine ⟨ps, lit_carries J dd, ⟨_, #[], _, g1, ⟨rfl, rfl, rfl⟩, rfl, rfl, (fun _ z => nomatch z), List.nodup_nil⟩, fun h' tk dk sb => wpAny_pure ?_⟩
  have nk : (ps.map (·.1)).Nodup := by
    rw [lit_keys dd, show (L.map fun x => keyN x.2.1) = (L.map fun x => x.2.1).map keyN by rw [List.map_map]; rfl]
    exact List.Pairwise.map _ (fun _ _ q z => q (keyN_inj z)) hnd
  rw [storedAllH_nil_of_nodup ps nk] at dk
  obtain ⟨od, es, ep, k1, k2, k3, k4, k5, k6⟩ := dk
  have J0 : L2.Inv X pins σ H1 s1 := J.pins_of fun p hp => J.pin p (List.mem_append_right _ (List.mem_cons_of_mem _ hp))
  have J1 : L2.Inv X pins σ H1 { s1 with heap := h', toks := tk } := J0.turnedL (ch := [s.heap.objs.size]) (fun b o hb z => (sb.2 b (fun q => hb (by simp [q]))).trans z) fun b hb => by rw [List.mem_singleton.mp hb]; exact fp H1 g2
  have J2 : L2.Inv X ((s.heap.objs.size, od) :: pins) σ H1 { s1 with heap := h', toks := tk } := J1.pins_of fun p hp => by
    rcases List.mem_cons.mp hp with z | z
    · rw [z]
      obtain ⟨f0, f1, f2, _⟩ := fp H1 g2
      exact ⟨k1, f0, f1, f2, fun v q => by rw [k3] at q; cases q⟩
    · exact J1.pin p (List.mem_append_right _ z)
  have eg : Ex X.K μ H μ H1 := ex_grow g
  refine thn (he.run _ _ σ H1 (fun v H2 => ∃ μ2, Ex X.K μ H1 μ2 H2 ∧ SR X.K μ2 H2 S1 ∧ VW X.K μ2 H2 v x) J2 ⟨μ, env, S, x, S1, sr.grow g, er.mono eg, e1, fun v μ2 H2 x2 s2 r2 => ⟨μ2, x2, s2, r2⟩⟩) fun u s2 hu => ?_
  obtain ⟨v, H2, J3, rv, μ2, x2, sr2, r2⟩ := hu
  cases x <;> simp only [opI] at e3 <;> try (cases e3; done)
  rename_i ws
  cases r2 with
  | tup q t =>
    cases rv
    split at e3
    · rename_i kk hkk
      split at e3
      · rename_i pr hpr
        cases e3
        rw [List.find?_map, Option.map_eq_some_iff] at hpr
        obtain ⟨y, y1, y2⟩ := hpr
        have vk := keyW_ok hkk t
        subst vk
        obtain ⟨d1, _⟩ := J3.pin (s.heap.objs.size, od) (List.mem_append_right _ List.mem_cons_self)
        have dn : s2.heap.DictOfH (nestedKind X.prog X.w) s.heap.objs.size ps := ⟨od, es, ep, d1, k2, k3, k4, fun z hz => by
          obtain ⟨kz, z1, z2⟩ := lit_at dd z hz
          have nm : ∀ j : Nat, μ[j]? ≠ some z.2.1 := fun j hj => by
            obtain ⟨o, ho, _⟩ := sr.trk hj
            rw [fr z hz] at ho
            cases ho
          rw [z1]
          exact key_is J3 (.inl (.inl (x2.fr _ _ z2 nm).1)), nk⟩
        obtain ⟨ka, kt, fk⟩ := lit_find dd y1
        refine ⟨dn.typeIs, wpAny_getItem_heap (show X.A.units + 1 + 8 < cLine by omega) (key_is J3 q) dn fk ?_⟩
        have J4 : L2.Inv X pins σ H2 s2 := J3.pins_of fun p hp => J3.pin p (List.mem_append_right _ (List.mem_cons_of_mem _ hp))
        refine ⟨.str y.2.2.2, H2, J4.tok _, ⟨_, rfl⟩, h2 _ μ2 H2 (eg.trans x2) sr2 (.str _ _ ?_)⟩
        rw [← y2]
      · cases e3
    · cases e3
end
end MP
namespace MP
open PySem PySem.Spec PyProof.Rows L2
section
variable {X : Cx} {Φ : Fns} {e : Expr} {ce : CE} {pos : Pos}
theorem de_dlit3 {k : Nat} {ka kb kc : Expr} {k1 k2 k3 : List (Option Int)} {s1 s2 s3 : Str} {l1 l2 l3 : List Nat} {j1 j2 j3 : Nat} {q1 q2 q3 p1 : Pos} (hr : Room k X.A) (a1 : LitK X ka k1) (a2 : LitK X kb k2) (a3 : LitK X kc k3) (he : DE X Φ e ce)
    (hnd : [k1, k2, k3].Nodup := by decide) (h1 : s1.cps.toList = l1 := by decide +kernel) (h2 : s2.cps.toList = l2 := by decide +kernel) (h3 : s3.cps.toList = l3 := by decide +kernel) (hs : NoSl e := by intro _ _; rfl) :
    DE X Φ (.Subscript (.Dict [some ka, some kb, some kc] [.Constant (.str s1) j1 q1, .Constant (.str s2) j2 q2, .Constant (.str s3) j3 q3] p1) e pos) (.bi (.dlit [(k1, l1), (k2, l2), (k3, l3)]) (.cons ce .nil)) := by
  subst h1 h2 h3
  refine de_dlit [(ka, k1, .Constant (.str s1) j1 q1, s1), (kb, k2, .Constant (.str s2) j2 q2, s2), (kc, k3, .Constant (.str s3) j3 q3, s3)] hr rfl (fun x hx => ?_) (List.cons_ne_nil _ _) (by simp) hnd he hs
  simp only [List.mem_cons, List.not_mem_nil, or_false] at hx
  rcases hx with rfl | rfl | rfl
  · exact ⟨a1, _, _, rfl⟩
  · exact ⟨a2, _, _, rfl⟩
  · exact ⟨a3, _, _, rfl⟩
end
end MP
namespace MP
/-! ### reading the reader: what holds of an answer -/
/-- an answer of which P holds -/
structure Wp {α : Type} (r : Option α) (P : α → Prop) : Prop where
  ex : ∃ a, r = some a ∧ P a
theorem wp_none {α : Type} (P : α → Prop) : Wp none P = False := eq_false fun h => by
  obtain ⟨a, h, _⟩ := h.ex
  cases h
theorem wp_some {α : Type} (a : α) (P : α → Prop) : Wp (some a) P = P a := propext ⟨fun h => by
  obtain ⟨b, h, q⟩ := h.ex
  cases h
  exact q, fun h => ⟨a, rfl, h⟩⟩
/-- the answer is some (w, S') of which P holds -/
def Is (r : R) (P : W → Sto → Prop) : Prop := Wp r fun p => P p.1 p.2
def IsA (r : Option (List W × Sto)) (P : List W → Sto → Prop) : Prop := Wp r fun p => P p.1 p.2
def IsP (r : Option (Option Int × Sto)) (P : Option Int → Sto → Prop) : Prop := Wp r fun p => P p.1 p.2
def IsI (r : Option (Src × Sto)) (P : Src → Sto → Prop) : Prop := Wp r fun p => P p.1 p.2
def IsB (r : Option Bool) (P : Bool → Prop) : Prop := Wp r P
/-- of a statement: what holds behind it, what of a returned value -/
def endS (N : Env → Sto → Prop) (Q : W → Sto → Prop) : Fl → Prop
  | .nx env S => N env S
  | .rt w S => Q w S
  | _ => False
def IsS (r : Option Fl) (N : Env → Sto → Prop) (Q : W → Sto → Prop) : Prop := Wp r (endS N Q)
@[simp] theorem is_some (w : W) (S : Sto) (P : W → Sto → Prop) : Is (some (w, S)) P = P w S := wp_some _ _
theorem is_none (P : W → Sto → Prop) : Is none P = False := wp_none _
theorem isA_some (w : List W) (S : Sto) (P : List W → Sto → Prop) : IsA (some (w, S)) P = P w S := wp_some _ _
theorem isA_none (P : List W → Sto → Prop) : IsA none P = False := wp_none _
theorem isP_some (w : Option Int) (S : Sto) (P : Option Int → Sto → Prop) : IsP (some (w, S)) P = P w S := wp_some _ _
theorem isP_none (P : Option Int → Sto → Prop) : IsP none P = False := wp_none _
theorem isI_some (w : Src) (S : Sto) (P : Src → Sto → Prop) : IsI (some (w, S)) P = P w S := wp_some _ _
theorem isI_none (P : Src → Sto → Prop) : IsI none P = False := wp_none _
@[simp] theorem isB_some (k : Bool) (P : Bool → Prop) : IsB (some k) P = P k := wp_some _ _
theorem isB_none (P : Bool → Prop) : IsB none P = False := wp_none _
theorem isS_nx (env : Env) (S : Sto) (N : Env → Sto → Prop) (Q : W → Sto → Prop) : IsS (some (.nx env S)) N Q = N env S := wp_some _ _
theorem isS_rt (w : W) (S : Sto) (N : Env → Sto → Prop) (Q : W → Sto → Prop) : IsS (some (.rt w S)) N Q = Q w S := wp_some _ _
theorem isS_bk (env : Env) (S : Sto) (N : Env → Sto → Prop) (Q : W → Sto → Prop) : IsS (some (.bk env S)) N Q = False := wp_some _ _
theorem isS_ct (env : Env) (S : Sto) (N : Env → Sto → Prop) (Q : W → Sto → Prop) : IsS (some (.ct env S)) N Q = False := wp_some _ _
theorem isS_none (N : Env → Sto → Prop) (Q : W → Sto → Prop) : IsS none N Q = False := wp_none _
/-- by a truth value -/
def ByB (w : W) (t f : Prop) : Prop := match w with
  | .bl true => t
  | .bl false => f
  | _ => False
theorem is_sq (q : W × Sto) (P : W → Sto → Prop) : Is (some q) P = P q.1 q.2 := wp_some _ _
theorem isA_sq (q : List W × Sto) (P : List W → Sto → Prop) : IsA (some q) P = P q.1 q.2 := wp_some _ _
theorem isP_sq (q : Option Int × Sto) (P : Option Int → Sto → Prop) : IsP (some q) P = P q.1 q.2 := wp_some _ _
theorem isI_sq (q : Src × Sto) (P : Src → Sto → Prop) : IsI (some q) P = P q.1 q.2 := wp_some _ _
theorem Is.imp {r : R} {P Q : W → Sto → Prop} (h : Is r P) (i : ∀ w S, P w S → Q w S) : Is r Q := by
  obtain ⟨a, h1, h2⟩ := h.ex
  exact ⟨a, h1, i _ _ h2⟩
theorem Is.ex {r : R} {P : W → Sto → Prop} (h : Is r P) : ∃ w S, r = some (w, S) ∧ P w S := by
  obtain ⟨a, h1, h2⟩ := Wp.ex h
  exact ⟨a.1, a.2, h1, h2⟩
theorem IsS.imp {r : Option Fl} {N N' : Env → Sto → Prop} {P Q : W → Sto → Prop} (h : IsS r N P) (j : ∀ w S, N w S → N' w S) (i : ∀ w S, P w S → Q w S) : IsS r N' Q := by
  obtain ⟨a, h1, h2⟩ := h.ex
  refine ⟨a, h1, ?_⟩
  cases a with
  | nx env S => exact j _ _ h2
  | rt w S => exact i _ _ h2
  | bk _ _ => exact h2.elim
  | ct _ _ => exact h2.elim
section
variable {Φ : Fns} {env : Env} {S : Sto} {P : W → Sto → Prop} {a b c d e : CE} {es : CEs} {N : Env → Sto → Prop}
@[simp] theorem w_var (i : Nat) : Is (ev Φ (.var i) env S) P = match env[i]? with | some (some w) => P w S | _ => False := by
  simp only [ev]
  cases env[i]? with
  | none => first | rfl | (simp only [is_none, is_sq, isA_none, isA_sq, isP_none, isP_sq, isI_none, isI_sq, isB_none, isB_some, isS_none, isS_nx, isS_rt, isS_bk, isS_ct, ByB, Option.map_none, Option.map_some]; done) | (simp only [is_none, is_sq, isA_none, isA_sq, isP_none, isP_sq, isI_none, isI_sq, isB_none, isB_some, isS_none, isS_nx, isS_rt, isS_bk, isS_ct, ByB, Option.map_none, Option.map_some]; rfl)
  | some o => cases o <;> first | rfl | (simp only [is_none, is_sq, isA_none, isA_sq, isP_none, isP_sq, isI_none, isI_sq, isB_none, isB_some, isS_none, isS_nx, isS_rt, isS_bk, isS_ct, ByB, Option.map_none, Option.map_some]; done) | (simp only [is_none, is_sq, isA_none, isA_sq, isP_none, isP_sq, isI_none, isI_sq, isB_none, isB_some, isS_none, isS_nx, isS_rt, isS_bk, isS_ct, ByB, Option.map_none, Option.map_some]; rfl)
@[simp] theorem w_c (w : W) : Is (ev Φ (.c w) env S) P = P w S := by simp only [ev]; first | rfl | (simp only [is_none, is_sq, isA_none, isA_sq, isP_none, isP_sq, isI_none, isI_sq, isB_none, isB_some, isS_none, isS_nx, isS_rt, isS_bk, isS_ct, ByB, Option.map_none, Option.map_some]; done) | (simp only [is_none, is_sq, isA_none, isA_sq, isP_none, isP_sq, isI_none, isI_sq, isB_none, isB_some, isS_none, isS_nx, isS_rt, isS_bk, isS_ct, ByB, Option.map_none, Option.map_some]; rfl)
@[simp] theorem w_bin (o : BO) : Is (ev Φ (.bin o a b) env S) P = Is (ev Φ a env S) fun x S1 => Is (ev Φ b env S1) fun y S2 => Is (opB o x y S2) P := by
  simp only [ev]
  cases ev Φ a env S with
  | none => first | rfl | (simp only [is_none, is_sq, isA_none, isA_sq, isP_none, isP_sq, isI_none, isI_sq, isB_none, isB_some, isS_none, isS_nx, isS_rt, isS_bk, isS_ct, ByB, Option.map_none, Option.map_some]; done) | (simp only [is_none, is_sq, isA_none, isA_sq, isP_none, isP_sq, isI_none, isI_sq, isB_none, isB_some, isS_none, isS_nx, isS_rt, isS_bk, isS_ct, ByB, Option.map_none, Option.map_some]; rfl)
  | some p =>
    obtain ⟨x, S1⟩ := p
    simp only [is_some]
    cases ev Φ b env S1 with
    | none => first | rfl | (simp only [is_none, is_sq, isA_none, isA_sq, isP_none, isP_sq, isI_none, isI_sq, isB_none, isB_some, isS_none, isS_nx, isS_rt, isS_bk, isS_ct, ByB, Option.map_none, Option.map_some]; done) | (simp only [is_none, is_sq, isA_none, isA_sq, isP_none, isP_sq, isI_none, isI_sq, isB_none, isB_some, isS_none, isS_nx, isS_rt, isS_bk, isS_ct, ByB, Option.map_none, Option.map_some]; rfl)
    | some q => first | rfl | (simp only [is_none, is_sq, isA_none, isA_sq, isP_none, isP_sq, isI_none, isI_sq, isB_none, isB_some, isS_none, isS_nx, isS_rt, isS_bk, isS_ct, ByB, Option.map_none, Option.map_some]; done) | (simp only [is_none, is_sq, isA_none, isA_sq, isP_none, isP_sq, isI_none, isI_sq, isB_none, isB_some, isS_none, isS_nx, isS_rt, isS_bk, isS_ct, ByB, Option.map_none, Option.map_some]; rfl)
@[simp] theorem w_cmp (o : CO) : Is (ev Φ (.cmp o a b) env S) P = Is (ev Φ a env S) fun x S1 => Is (ev Φ b env S1) fun y S2 => IsB (opC o x y S2) fun k => P (.bl k) S2 := by
  simp only [ev]
  cases ev Φ a env S with
  | none => first | rfl | (simp only [is_none, is_sq, isA_none, isA_sq, isP_none, isP_sq, isI_none, isI_sq, isB_none, isB_some, isS_none, isS_nx, isS_rt, isS_bk, isS_ct, ByB, Option.map_none, Option.map_some]; done) | (simp only [is_none, is_sq, isA_none, isA_sq, isP_none, isP_sq, isI_none, isI_sq, isB_none, isB_some, isS_none, isS_nx, isS_rt, isS_bk, isS_ct, ByB, Option.map_none, Option.map_some]; rfl)
  | some p =>
    obtain ⟨x, S1⟩ := p
    simp only [is_some]
    cases ev Φ b env S1 with
    | none => first | rfl | (simp only [is_none, is_sq, isA_none, isA_sq, isP_none, isP_sq, isI_none, isI_sq, isB_none, isB_some, isS_none, isS_nx, isS_rt, isS_bk, isS_ct, ByB, Option.map_none, Option.map_some]; done) | (simp only [is_none, is_sq, isA_none, isA_sq, isP_none, isP_sq, isI_none, isI_sq, isB_none, isB_some, isS_none, isS_nx, isS_rt, isS_bk, isS_ct, ByB, Option.map_none, Option.map_some]; rfl)
    | some q =>
      obtain ⟨y, S2⟩ := q
      simp only [is_some]
      cases opC o x y S2 <;> first | rfl | (simp only [is_none, is_sq, isA_none, isA_sq, isP_none, isP_sq, isI_none, isI_sq, isB_none, isB_some, isS_none, isS_nx, isS_rt, isS_bk, isS_ct, ByB, Option.map_none, Option.map_some]; done) | (simp only [is_none, is_sq, isA_none, isA_sq, isP_none, isP_sq, isI_none, isI_sq, isB_none, isB_some, isS_none, isS_nx, isS_rt, isS_bk, isS_ct, ByB, Option.map_none, Option.map_some]; rfl)
@[simp] theorem w_chain (o o' : CO) : Is (ev Φ (.chain o o' a b d) env S) P = Is (ev Φ a env S) fun x S1 => Is (ev Φ b env S1) fun y S2 => IsB (opC o x y S2) fun k => if k = true then Is (ev Φ d env S2) fun z S3 => IsB (opC o' y z S3) fun k => P (.bl k) S3 else P (.bl false) S2 := by
  simp only [ev]
  cases ev Φ a env S with
  | none => first | rfl | (simp only [is_none, is_sq, isA_none, isA_sq, isP_none, isP_sq, isI_none, isI_sq, isB_none, isB_some, isS_none, isS_nx, isS_rt, isS_bk, isS_ct, ByB, Option.map_none, Option.map_some]; done) | (simp only [is_none, is_sq, isA_none, isA_sq, isP_none, isP_sq, isI_none, isI_sq, isB_none, isB_some, isS_none, isS_nx, isS_rt, isS_bk, isS_ct, ByB, Option.map_none, Option.map_some]; rfl)
  | some p =>
    obtain ⟨x, S1⟩ := p
    simp only [is_some]
    cases ev Φ b env S1 with
    | none => first | rfl | (simp only [is_none, is_sq, isA_none, isA_sq, isP_none, isP_sq, isI_none, isI_sq, isB_none, isB_some, isS_none, isS_nx, isS_rt, isS_bk, isS_ct, ByB, Option.map_none, Option.map_some]; done) | (simp only [is_none, is_sq, isA_none, isA_sq, isP_none, isP_sq, isI_none, isI_sq, isB_none, isB_some, isS_none, isS_nx, isS_rt, isS_bk, isS_ct, ByB, Option.map_none, Option.map_some]; rfl)
    | some q =>
      obtain ⟨y, S2⟩ := q
      simp only [is_some]
      cases opC o x y S2 with
      | none => first | rfl | (simp only [is_none, is_sq, isA_none, isA_sq, isP_none, isP_sq, isI_none, isI_sq, isB_none, isB_some, isS_none, isS_nx, isS_rt, isS_bk, isS_ct, ByB, Option.map_none, Option.map_some]; done) | (simp only [is_none, is_sq, isA_none, isA_sq, isP_none, isP_sq, isI_none, isI_sq, isB_none, isB_some, isS_none, isS_nx, isS_rt, isS_bk, isS_ct, ByB, Option.map_none, Option.map_some]; rfl)
      | some k =>
        cases k with
        | false => first | rfl | (simp only [is_none, is_sq, isA_none, isA_sq, isP_none, isP_sq, isI_none, isI_sq, isB_none, isB_some, isS_none, isS_nx, isS_rt, isS_bk, isS_ct, ByB, Option.map_none, Option.map_some]; done) | (simp only [is_none, is_sq, isA_none, isA_sq, isP_none, isP_sq, isI_none, isI_sq, isB_none, isB_some, isS_none, isS_nx, isS_rt, isS_bk, isS_ct, ByB, Option.map_none, Option.map_some]; rfl)
        | true =>
          simp only [isB_some, if_true]
          cases ev Φ d env S2 with
          | none => first | rfl | (simp only [is_none, is_sq, isA_none, isA_sq, isP_none, isP_sq, isI_none, isI_sq, isB_none, isB_some, isS_none, isS_nx, isS_rt, isS_bk, isS_ct, ByB, Option.map_none, Option.map_some]; done) | (simp only [is_none, is_sq, isA_none, isA_sq, isP_none, isP_sq, isI_none, isI_sq, isB_none, isB_some, isS_none, isS_nx, isS_rt, isS_bk, isS_ct, ByB, Option.map_none, Option.map_some]; rfl)
          | some r =>
            obtain ⟨z, S3⟩ := r
            simp only [is_some]
            cases opC o' y z S3 <;> first | rfl | (simp only [is_none, is_sq, isA_none, isA_sq, isP_none, isP_sq, isI_none, isI_sq, isB_none, isB_some, isS_none, isS_nx, isS_rt, isS_bk, isS_ct, ByB, Option.map_none, Option.map_some]; done) | (simp only [is_none, is_sq, isA_none, isA_sq, isP_none, isP_sq, isI_none, isI_sq, isB_none, isB_some, isS_none, isS_nx, isS_rt, isS_bk, isS_ct, ByB, Option.map_none, Option.map_some]; rfl)
@[simp] theorem byB_true (t f : Prop) : ByB (.bl true) t f = t := rfl
@[simp] theorem byB_false (t f : Prop) : ByB (.bl false) t f = f := rfl
theorem byB_dec (k : Bool) (t f : Prop) (h1 : k = true → t) (h2 : k = false → f) : ByB (.bl k) t f := by
  cases k with
  | true => exact h1 rfl
  | false => exact h2 rfl
@[simp] theorem w_and : Is (ev Φ (.and a b) env S) P = Is (ev Φ a env S) fun x S1 => ByB x (Is (ev Φ b env S1) P) (P (.bl false) S1) := by
  simp only [ev]
  cases ev Φ a env S with
  | none => first | rfl | (simp only [is_none, is_sq, isA_none, isA_sq, isP_none, isP_sq, isI_none, isI_sq, isB_none, isB_some, isS_none, isS_nx, isS_rt, isS_bk, isS_ct, ByB, Option.map_none, Option.map_some]; done) | (simp only [is_none, is_sq, isA_none, isA_sq, isP_none, isP_sq, isI_none, isI_sq, isB_none, isB_some, isS_none, isS_nx, isS_rt, isS_bk, isS_ct, ByB, Option.map_none, Option.map_some]; rfl)
  | some p =>
    obtain ⟨x, S1⟩ := p
    cases x with
    | bl k => cases k <;> first | rfl | (simp only [is_none, is_sq, isA_none, isA_sq, isP_none, isP_sq, isI_none, isI_sq, isB_none, isB_some, isS_none, isS_nx, isS_rt, isS_bk, isS_ct, ByB, Option.map_none, Option.map_some]; done) | (simp only [is_none, is_sq, isA_none, isA_sq, isP_none, isP_sq, isI_none, isI_sq, isB_none, isB_some, isS_none, isS_nx, isS_rt, isS_bk, isS_ct, ByB, Option.map_none, Option.map_some]; rfl)
    | _ => first | rfl | (simp only [is_none, is_sq, isA_none, isA_sq, isP_none, isP_sq, isI_none, isI_sq, isB_none, isB_some, isS_none, isS_nx, isS_rt, isS_bk, isS_ct, ByB, Option.map_none, Option.map_some]; done) | (simp only [is_none, is_sq, isA_none, isA_sq, isP_none, isP_sq, isI_none, isI_sq, isB_none, isB_some, isS_none, isS_nx, isS_rt, isS_bk, isS_ct, ByB, Option.map_none, Option.map_some]; rfl)
@[simp] theorem w_or : Is (ev Φ (.or a b) env S) P = Is (ev Φ a env S) fun x S1 => ByB x (P (.bl true) S1) (Is (ev Φ b env S1) P) := by
  simp only [ev]
  cases ev Φ a env S with
  | none => first | rfl | (simp only [is_none, is_sq, isA_none, isA_sq, isP_none, isP_sq, isI_none, isI_sq, isB_none, isB_some, isS_none, isS_nx, isS_rt, isS_bk, isS_ct, ByB, Option.map_none, Option.map_some]; done) | (simp only [is_none, is_sq, isA_none, isA_sq, isP_none, isP_sq, isI_none, isI_sq, isB_none, isB_some, isS_none, isS_nx, isS_rt, isS_bk, isS_ct, ByB, Option.map_none, Option.map_some]; rfl)
  | some p =>
    obtain ⟨x, S1⟩ := p
    cases x with
    | bl k => cases k <;> first | rfl | (simp only [is_none, is_sq, isA_none, isA_sq, isP_none, isP_sq, isI_none, isI_sq, isB_none, isB_some, isS_none, isS_nx, isS_rt, isS_bk, isS_ct, ByB, Option.map_none, Option.map_some]; done) | (simp only [is_none, is_sq, isA_none, isA_sq, isP_none, isP_sq, isI_none, isI_sq, isB_none, isB_some, isS_none, isS_nx, isS_rt, isS_bk, isS_ct, ByB, Option.map_none, Option.map_some]; rfl)
    | _ => first | rfl | (simp only [is_none, is_sq, isA_none, isA_sq, isP_none, isP_sq, isI_none, isI_sq, isB_none, isB_some, isS_none, isS_nx, isS_rt, isS_bk, isS_ct, ByB, Option.map_none, Option.map_some]; done) | (simp only [is_none, is_sq, isA_none, isA_sq, isP_none, isP_sq, isI_none, isI_sq, isB_none, isB_some, isS_none, isS_nx, isS_rt, isS_bk, isS_ct, ByB, Option.map_none, Option.map_some]; rfl)
@[simp] theorem w_ite : Is (ev Φ (.ite c a b) env S) P = Is (ev Φ c env S) fun x S1 => ByB x (Is (ev Φ a env S1) P) (Is (ev Φ b env S1) P) := by
  simp only [ev]
  cases ev Φ c env S with
  | none => first | rfl | (simp only [is_none, is_sq, isA_none, isA_sq, isP_none, isP_sq, isI_none, isI_sq, isB_none, isB_some, isS_none, isS_nx, isS_rt, isS_bk, isS_ct, ByB, Option.map_none, Option.map_some]; done) | (simp only [is_none, is_sq, isA_none, isA_sq, isP_none, isP_sq, isI_none, isI_sq, isB_none, isB_some, isS_none, isS_nx, isS_rt, isS_bk, isS_ct, ByB, Option.map_none, Option.map_some]; rfl)
  | some p =>
    obtain ⟨x, S1⟩ := p
    cases x with
    | bl k => cases k <;> first | rfl | (simp only [is_none, is_sq, isA_none, isA_sq, isP_none, isP_sq, isI_none, isI_sq, isB_none, isB_some, isS_none, isS_nx, isS_rt, isS_bk, isS_ct, ByB, Option.map_none, Option.map_some]; done) | (simp only [is_none, is_sq, isA_none, isA_sq, isP_none, isP_sq, isI_none, isI_sq, isB_none, isB_some, isS_none, isS_nx, isS_rt, isS_bk, isS_ct, ByB, Option.map_none, Option.map_some]; rfl)
    | _ => first | rfl | (simp only [is_none, is_sq, isA_none, isA_sq, isP_none, isP_sq, isI_none, isI_sq, isB_none, isB_some, isS_none, isS_nx, isS_rt, isS_bk, isS_ct, ByB, Option.map_none, Option.map_some]; done) | (simp only [is_none, is_sq, isA_none, isA_sq, isP_none, isP_sq, isI_none, isI_sq, isB_none, isB_some, isS_none, isS_nx, isS_rt, isS_bk, isS_ct, ByB, Option.map_none, Option.map_some]; rfl)
@[simp] theorem w_not : Is (ev Φ (.not a) env S) P = Is (ev Φ a env S) fun x S1 => ByB x (P (.bl false) S1) (P (.bl true) S1) := by
  simp only [ev]
  cases ev Φ a env S with
  | none => first | rfl | (simp only [is_none, is_sq, isA_none, isA_sq, isP_none, isP_sq, isI_none, isI_sq, isB_none, isB_some, isS_none, isS_nx, isS_rt, isS_bk, isS_ct, ByB, Option.map_none, Option.map_some]; done) | (simp only [is_none, is_sq, isA_none, isA_sq, isP_none, isP_sq, isI_none, isI_sq, isB_none, isB_some, isS_none, isS_nx, isS_rt, isS_bk, isS_ct, ByB, Option.map_none, Option.map_some]; rfl)
  | some p =>
    obtain ⟨x, S1⟩ := p
    cases x with
    | bl k => cases k <;> first | rfl | (simp only [is_none, is_sq, isA_none, isA_sq, isP_none, isP_sq, isI_none, isI_sq, isB_none, isB_some, isS_none, isS_nx, isS_rt, isS_bk, isS_ct, ByB, Option.map_none, Option.map_some]; done) | (simp only [is_none, is_sq, isA_none, isA_sq, isP_none, isP_sq, isI_none, isI_sq, isB_none, isB_some, isS_none, isS_nx, isS_rt, isS_bk, isS_ct, ByB, Option.map_none, Option.map_some]; rfl)
    | _ => first | rfl | (simp only [is_none, is_sq, isA_none, isA_sq, isP_none, isP_sq, isI_none, isI_sq, isB_none, isB_some, isS_none, isS_nx, isS_rt, isS_bk, isS_ct, ByB, Option.map_none, Option.map_some]; done) | (simp only [is_none, is_sq, isA_none, isA_sq, isP_none, isP_sq, isI_none, isI_sq, isB_none, isB_some, isS_none, isS_nx, isS_rt, isS_bk, isS_ct, ByB, Option.map_none, Option.map_some]; rfl)
@[simp] theorem w_nil {P : List W → Sto → Prop} : IsA (evs Φ .nil env S) P = P [] S := by simp only [evs]; first | rfl | (simp only [is_none, is_sq, isA_none, isA_sq, isP_none, isP_sq, isI_none, isI_sq, isB_none, isB_some, isS_none, isS_nx, isS_rt, isS_bk, isS_ct, ByB, Option.map_none, Option.map_some]; done) | (simp only [is_none, is_sq, isA_none, isA_sq, isP_none, isP_sq, isI_none, isI_sq, isB_none, isB_some, isS_none, isS_nx, isS_rt, isS_bk, isS_ct, ByB, Option.map_none, Option.map_some]; rfl)
@[simp] theorem w_cons {P : List W → Sto → Prop} : IsA (evs Φ (.cons e es) env S) P = Is (ev Φ e env S) fun x S1 => IsA (evs Φ es env S1) fun xs S2 => P (x :: xs) S2 := by
  simp only [evs]
  cases ev Φ e env S with
  | none => first | rfl | (simp only [is_none, is_sq, isA_none, isA_sq, isP_none, isP_sq, isI_none, isI_sq, isB_none, isB_some, isS_none, isS_nx, isS_rt, isS_bk, isS_ct, ByB, Option.map_none, Option.map_some]; done) | (simp only [is_none, is_sq, isA_none, isA_sq, isP_none, isP_sq, isI_none, isI_sq, isB_none, isB_some, isS_none, isS_nx, isS_rt, isS_bk, isS_ct, ByB, Option.map_none, Option.map_some]; rfl)
  | some p =>
    obtain ⟨x, S1⟩ := p
    simp only [is_some]
    cases evs Φ es env S1 with
    | none => first | rfl | (simp only [is_none, is_sq, isA_none, isA_sq, isP_none, isP_sq, isI_none, isI_sq, isB_none, isB_some, isS_none, isS_nx, isS_rt, isS_bk, isS_ct, ByB, Option.map_none, Option.map_some]; done) | (simp only [is_none, is_sq, isA_none, isA_sq, isP_none, isP_sq, isI_none, isI_sq, isB_none, isB_some, isS_none, isS_nx, isS_rt, isS_bk, isS_ct, ByB, Option.map_none, Option.map_some]; rfl)
    | some q => first | rfl | (simp only [is_none, is_sq, isA_none, isA_sq, isP_none, isP_sq, isI_none, isI_sq, isB_none, isB_some, isS_none, isS_nx, isS_rt, isS_bk, isS_ct, ByB, Option.map_none, Option.map_some]; done) | (simp only [is_none, is_sq, isA_none, isA_sq, isP_none, isP_sq, isI_none, isI_sq, isB_none, isB_some, isS_none, isS_nx, isS_rt, isS_bk, isS_ct, ByB, Option.map_none, Option.map_some]; rfl)
@[simp] theorem w_tup : Is (ev Φ (.tup es) env S) P = IsA (evs Φ es env S) fun xs S1 => xs.length ≤ LIM ∧ P (.tup xs) S1 := by
  simp only [ev]
  cases evs Φ es env S with
  | none => first | rfl | (simp only [is_none, is_sq, isA_none, isA_sq, isP_none, isP_sq, isI_none, isI_sq, isB_none, isB_some, isS_none, isS_nx, isS_rt, isS_bk, isS_ct, ByB, Option.map_none, Option.map_some]; done) | (simp only [is_none, is_sq, isA_none, isA_sq, isP_none, isP_sq, isI_none, isI_sq, isB_none, isB_some, isS_none, isS_nx, isS_rt, isS_bk, isS_ct, ByB, Option.map_none, Option.map_some]; rfl)
  | some p =>
    obtain ⟨xs, S1⟩ := p
    simp only [isA_some]
    by_cases h : xs.length ≤ LIM
    · simp only [h, if_true, true_and]; first | rfl | (simp only [is_none, is_sq, isA_none, isA_sq, isP_none, isP_sq, isI_none, isI_sq, isB_none, isB_some, isS_none, isS_nx, isS_rt, isS_bk, isS_ct, ByB, Option.map_none, Option.map_some]; done) | (simp only [is_none, is_sq, isA_none, isA_sq, isP_none, isP_sq, isI_none, isI_sq, isB_none, isB_some, isS_none, isS_nx, isS_rt, isS_bk, isS_ct, ByB, Option.map_none, Option.map_some]; rfl)
    · simp only [h, if_false, false_and]; first | rfl | (simp only [is_none, is_sq, isA_none, isA_sq, isP_none, isP_sq, isI_none, isI_sq, isB_none, isB_some, isS_none, isS_nx, isS_rt, isS_bk, isS_ct, ByB, Option.map_none, Option.map_some]; done) | (simp only [is_none, is_sq, isA_none, isA_sq, isP_none, isP_sq, isI_none, isI_sq, isB_none, isB_some, isS_none, isS_nx, isS_rt, isS_bk, isS_ct, ByB, Option.map_none, Option.map_some]; rfl)
theorem w_new (xs : List W) : Is (new S xs) P = (xs.length ≤ LIM ∧ P (.ref S.length) (S ++ [.lst xs])) := by
  unfold new
  by_cases h : xs.length ≤ LIM
  · simp only [h, if_true, true_and]; first | rfl | (simp only [is_none, is_sq, isA_none, isA_sq, isP_none, isP_sq, isI_none, isI_sq, isB_none, isB_some, isS_none, isS_nx, isS_rt, isS_bk, isS_ct, ByB, Option.map_none, Option.map_some]; done) | (simp only [is_none, is_sq, isA_none, isA_sq, isP_none, isP_sq, isI_none, isI_sq, isB_none, isB_some, isS_none, isS_nx, isS_rt, isS_bk, isS_ct, ByB, Option.map_none, Option.map_some]; rfl)
  · simp only [h, if_false, false_and]; first | rfl | (simp only [is_none, is_sq, isA_none, isA_sq, isP_none, isP_sq, isI_none, isI_sq, isB_none, isB_some, isS_none, isS_nx, isS_rt, isS_bk, isS_ct, ByB, Option.map_none, Option.map_some]; done) | (simp only [is_none, is_sq, isA_none, isA_sq, isP_none, isP_sq, isI_none, isI_sq, isB_none, isB_some, isS_none, isS_nx, isS_rt, isS_bk, isS_ct, ByB, Option.map_none, Option.map_some]; rfl)
@[simp] theorem w_lst : Is (ev Φ (.lst es) env S) P = IsA (evs Φ es env S) fun xs S1 => xs.length ≤ LIM ∧ P (.ref S1.length) (S1 ++ [.lst xs]) := by
  simp only [ev]
  cases evs Φ es env S with
  | none => first | rfl | (simp only [is_none, is_sq, isA_none, isA_sq, isP_none, isP_sq, isI_none, isI_sq, isB_none, isB_some, isS_none, isS_nx, isS_rt, isS_bk, isS_ct, ByB, Option.map_none, Option.map_some]; done) | (simp only [is_none, is_sq, isA_none, isA_sq, isP_none, isP_sq, isI_none, isI_sq, isB_none, isB_some, isS_none, isS_nx, isS_rt, isS_bk, isS_ct, ByB, Option.map_none, Option.map_some]; rfl)
  | some p =>
    obtain ⟨xs, S1⟩ := p
    simp only [isA_some, w_new]
@[simp] theorem w_ix : Is (ev Φ (.ix a b) env S) P = Is (ev Φ a env S) fun x S1 => Is (ev Φ b env S1) fun y S2 => Is (opIx x y S2) P := by
  simp only [ev]
  cases ev Φ a env S with
  | none => first | rfl | (simp only [is_none, is_sq, isA_none, isA_sq, isP_none, isP_sq, isI_none, isI_sq, isB_none, isB_some, isS_none, isS_nx, isS_rt, isS_bk, isS_ct, ByB, Option.map_none, Option.map_some]; done) | (simp only [is_none, is_sq, isA_none, isA_sq, isP_none, isP_sq, isI_none, isI_sq, isB_none, isB_some, isS_none, isS_nx, isS_rt, isS_bk, isS_ct, ByB, Option.map_none, Option.map_some]; rfl)
  | some p =>
    obtain ⟨x, S1⟩ := p
    simp only [is_some]
    cases ev Φ b env S1 with
    | none => first | rfl | (simp only [is_none, is_sq, isA_none, isA_sq, isP_none, isP_sq, isI_none, isI_sq, isB_none, isB_some, isS_none, isS_nx, isS_rt, isS_bk, isS_ct, ByB, Option.map_none, Option.map_some]; done) | (simp only [is_none, is_sq, isA_none, isA_sq, isP_none, isP_sq, isI_none, isI_sq, isB_none, isB_some, isS_none, isS_nx, isS_rt, isS_bk, isS_ct, ByB, Option.map_none, Option.map_some]; rfl)
    | some q => first | rfl | (simp only [is_none, is_sq, isA_none, isA_sq, isP_none, isP_sq, isI_none, isI_sq, isB_none, isB_some, isS_none, isS_nx, isS_rt, isS_bk, isS_ct, ByB, Option.map_none, Option.map_some]; done) | (simp only [is_none, is_sq, isA_none, isA_sq, isP_none, isP_sq, isI_none, isI_sq, isB_none, isB_some, isS_none, isS_nx, isS_rt, isS_bk, isS_ct, ByB, Option.map_none, Option.map_some]; rfl)
@[simp] theorem w_no {P : Option Int → Sto → Prop} : IsP (evp Φ .no env S) P = P none S := by simp only [evp]; first | rfl | (simp only [is_none, is_sq, isA_none, isA_sq, isP_none, isP_sq, isI_none, isI_sq, isB_none, isB_some, isS_none, isS_nx, isS_rt, isS_bk, isS_ct, ByB, Option.map_none, Option.map_some]; done) | (simp only [is_none, is_sq, isA_none, isA_sq, isP_none, isP_sq, isI_none, isI_sq, isB_none, isB_some, isS_none, isS_nx, isS_rt, isS_bk, isS_ct, ByB, Option.map_none, Option.map_some]; rfl)
@[simp] theorem w_yes {P : Option Int → Sto → Prop} : IsP (evp Φ (.yes e) env S) P = Is (ev Φ e env S) fun x S1 => match x with | .int i => P (some i) S1 | _ => False := by
  simp only [evp]
  cases ev Φ e env S with
  | none => first | rfl | (simp only [is_none, is_sq, isA_none, isA_sq, isP_none, isP_sq, isI_none, isI_sq, isB_none, isB_some, isS_none, isS_nx, isS_rt, isS_bk, isS_ct, ByB, Option.map_none, Option.map_some]; done) | (simp only [is_none, is_sq, isA_none, isA_sq, isP_none, isP_sq, isI_none, isI_sq, isB_none, isB_some, isS_none, isS_nx, isS_rt, isS_bk, isS_ct, ByB, Option.map_none, Option.map_some]; rfl)
  | some p =>
    obtain ⟨x, S1⟩ := p
    cases x <;> first | rfl | (simp only [is_none, is_sq, isA_none, isA_sq, isP_none, isP_sq, isI_none, isI_sq, isB_none, isB_some, isS_none, isS_nx, isS_rt, isS_bk, isS_ct, ByB, Option.map_none, Option.map_some]; done) | (simp only [is_none, is_sq, isA_none, isA_sq, isP_none, isP_sq, isI_none, isI_sq, isB_none, isB_some, isS_none, isS_nx, isS_rt, isS_bk, isS_ct, ByB, Option.map_none, Option.map_some]; rfl)
@[simp] theorem w_sl {l h : CP} : Is (ev Φ (.sl a l h) env S) P = Is (ev Φ a env S) fun x S1 => IsP (evp Φ l env S1) fun lo S2 => IsP (evp Φ h env S2) fun hi S3 => Is (opSl x lo hi S3) P := by
  simp only [ev]
  cases ev Φ a env S with
  | none => first | rfl | (simp only [is_none, is_sq, isA_none, isA_sq, isP_none, isP_sq, isI_none, isI_sq, isB_none, isB_some, isS_none, isS_nx, isS_rt, isS_bk, isS_ct, ByB, Option.map_none, Option.map_some]; done) | (simp only [is_none, is_sq, isA_none, isA_sq, isP_none, isP_sq, isI_none, isI_sq, isB_none, isB_some, isS_none, isS_nx, isS_rt, isS_bk, isS_ct, ByB, Option.map_none, Option.map_some]; rfl)
  | some p =>
    obtain ⟨x, S1⟩ := p
    simp only [is_some]
    cases evp Φ l env S1 with
    | none => first | rfl | (simp only [is_none, is_sq, isA_none, isA_sq, isP_none, isP_sq, isI_none, isI_sq, isB_none, isB_some, isS_none, isS_nx, isS_rt, isS_bk, isS_ct, ByB, Option.map_none, Option.map_some]; done) | (simp only [is_none, is_sq, isA_none, isA_sq, isP_none, isP_sq, isI_none, isI_sq, isB_none, isB_some, isS_none, isS_nx, isS_rt, isS_bk, isS_ct, ByB, Option.map_none, Option.map_some]; rfl)
    | some q =>
      obtain ⟨lo, S2⟩ := q
      simp only [isP_some]
      cases evp Φ h env S2 with
      | none => first | rfl | (simp only [is_none, is_sq, isA_none, isA_sq, isP_none, isP_sq, isI_none, isI_sq, isB_none, isB_some, isS_none, isS_nx, isS_rt, isS_bk, isS_ct, ByB, Option.map_none, Option.map_some]; done) | (simp only [is_none, is_sq, isA_none, isA_sq, isP_none, isP_sq, isI_none, isI_sq, isB_none, isB_some, isS_none, isS_nx, isS_rt, isS_bk, isS_ct, ByB, Option.map_none, Option.map_some]; rfl)
      | some r => first | rfl | (simp only [is_none, is_sq, isA_none, isA_sq, isP_none, isP_sq, isI_none, isI_sq, isB_none, isB_some, isS_none, isS_nx, isS_rt, isS_bk, isS_ct, ByB, Option.map_none, Option.map_some]; done) | (simp only [is_none, is_sq, isA_none, isA_sq, isP_none, isP_sq, isI_none, isI_sq, isB_none, isB_some, isS_none, isS_nx, isS_rt, isS_bk, isS_ct, ByB, Option.map_none, Option.map_some]; rfl)
@[simp] theorem w_call (f : Nat) : Is (ev Φ (.call f es) env S) P = IsA (evs Φ es env S) fun xs S1 => Is (Φ f xs S1) P := by
  simp only [ev]
  cases evs Φ es env S with
  | none => first | rfl | (simp only [is_none, is_sq, isA_none, isA_sq, isP_none, isP_sq, isI_none, isI_sq, isB_none, isB_some, isS_none, isS_nx, isS_rt, isS_bk, isS_ct, ByB, Option.map_none, Option.map_some]; done) | (simp only [is_none, is_sq, isA_none, isA_sq, isP_none, isP_sq, isI_none, isI_sq, isB_none, isB_some, isS_none, isS_nx, isS_rt, isS_bk, isS_ct, ByB, Option.map_none, Option.map_some]; rfl)
  | some p => first | rfl | (simp only [is_none, is_sq, isA_none, isA_sq, isP_none, isP_sq, isI_none, isI_sq, isB_none, isB_some, isS_none, isS_nx, isS_rt, isS_bk, isS_ct, ByB, Option.map_none, Option.map_some]; done) | (simp only [is_none, is_sq, isA_none, isA_sq, isP_none, isP_sq, isI_none, isI_sq, isB_none, isB_some, isS_none, isS_nx, isS_rt, isS_bk, isS_ct, ByB, Option.map_none, Option.map_some]; rfl)
theorem w_callv (f : Nat) {x : List Nat} {j : Nat} (hv : env[j]? = some (some (.fn x))) : Is (ev Φ (.callv f x j es) env S) P = IsA (evs Φ es env S) fun xs S1 => Is (Φ f xs S1) P := by
  simp only [ev, hv, if_true]
  cases evs Φ es env S with
  | none => first | rfl | (simp only [is_none, is_sq, isA_none, isA_sq]; done) | (simp only [is_none, is_sq, isA_none, isA_sq]; rfl)
  | some p => first | rfl | (simp only [is_none, is_sq, isA_none, isA_sq]; done) | (simp only [is_none, is_sq, isA_none, isA_sq]; rfl)
@[simp] theorem w_bi (f : BI) : Is (ev Φ (.bi f es) env S) P = IsA (evs Φ es env S) fun xs S1 => Is (opI f xs S1) P := by
  simp only [ev]
  cases evs Φ es env S with
  | none => first | rfl | (simp only [is_none, is_sq, isA_none, isA_sq, isP_none, isP_sq, isI_none, isI_sq, isB_none, isB_some, isS_none, isS_nx, isS_rt, isS_bk, isS_ct, ByB, Option.map_none, Option.map_some]; done) | (simp only [is_none, is_sq, isA_none, isA_sq, isP_none, isP_sq, isI_none, isI_sq, isB_none, isB_some, isS_none, isS_nx, isS_rt, isS_bk, isS_ct, ByB, Option.map_none, Option.map_some]; rfl)
  | some p => first | rfl | (simp only [is_none, is_sq, isA_none, isA_sq, isP_none, isP_sq, isI_none, isI_sq, isB_none, isB_some, isS_none, isS_nx, isS_rt, isS_bk, isS_ct, ByB, Option.map_none, Option.map_some]; done) | (simp only [is_none, is_sq, isA_none, isA_sq, isP_none, isP_sq, isI_none, isI_sq, isB_none, isB_some, isS_none, isS_nx, isS_rt, isS_bk, isS_ct, ByB, Option.map_none, Option.map_some]; rfl)
/-! sources -/
@[simp] theorem w_val {P : Src → Sto → Prop} : IsI (evi Φ (.val e) env S) P = Is (ev Φ e env S) fun x S1 => P (.seq x) S1 := by
  simp only [evi]
  cases ev Φ e env S with
  | none => first | rfl | (simp only [is_none, is_sq, isA_none, isA_sq, isP_none, isP_sq, isI_none, isI_sq, isB_none, isB_some, isS_none, isS_nx, isS_rt, isS_bk, isS_ct, ByB, Option.map_none, Option.map_some]; done) | (simp only [is_none, is_sq, isA_none, isA_sq, isP_none, isP_sq, isI_none, isI_sq, isB_none, isB_some, isS_none, isS_nx, isS_rt, isS_bk, isS_ct, ByB, Option.map_none, Option.map_some]; rfl)
  | some p => first | rfl | (simp only [is_none, is_sq, isA_none, isA_sq, isP_none, isP_sq, isI_none, isI_sq, isB_none, isB_some, isS_none, isS_nx, isS_rt, isS_bk, isS_ct, ByB, Option.map_none, Option.map_some]; done) | (simp only [is_none, is_sq, isA_none, isA_sq, isP_none, isP_sq, isI_none, isI_sq, isB_none, isB_some, isS_none, isS_nx, isS_rt, isS_bk, isS_ct, ByB, Option.map_none, Option.map_some]; rfl)
@[simp] theorem w_rng1 {P : Src → Sto → Prop} : IsI (evi Φ (.rng1 e) env S) P = Is (ev Φ e env S) fun x S1 => match x with | .int j => rngOk j = true ∧ P (.rng 0 j.toNat) S1 | _ => False := by
  simp only [evi]
  cases ev Φ e env S with
  | none => first | rfl | (simp only [is_none, is_sq, isA_none, isA_sq, isP_none, isP_sq, isI_none, isI_sq, isB_none, isB_some, isS_none, isS_nx, isS_rt, isS_bk, isS_ct, ByB, Option.map_none, Option.map_some]; done) | (simp only [is_none, is_sq, isA_none, isA_sq, isP_none, isP_sq, isI_none, isI_sq, isB_none, isB_some, isS_none, isS_nx, isS_rt, isS_bk, isS_ct, ByB, Option.map_none, Option.map_some]; rfl)
  | some p =>
    obtain ⟨x, S1⟩ := p
    cases x with
    | int j =>
      by_cases h : rngOk j = true
      · simp only [h, if_true, is_some, true_and]; first | rfl | (simp only [is_none, is_sq, isA_none, isA_sq, isP_none, isP_sq, isI_none, isI_sq, isB_none, isB_some, isS_none, isS_nx, isS_rt, isS_bk, isS_ct, ByB, Option.map_none, Option.map_some]; done) | (simp only [is_none, is_sq, isA_none, isA_sq, isP_none, isP_sq, isI_none, isI_sq, isB_none, isB_some, isS_none, isS_nx, isS_rt, isS_bk, isS_ct, ByB, Option.map_none, Option.map_some]; rfl)
      · simp only [is_some]; rw [if_neg h, isI_none]; simp only [eq_false h, false_and]
    | _ => first | rfl | (simp only [is_none, is_sq, isA_none, isA_sq, isP_none, isP_sq, isI_none, isI_sq, isB_none, isB_some, isS_none, isS_nx, isS_rt, isS_bk, isS_ct, ByB, Option.map_none, Option.map_some]; done) | (simp only [is_none, is_sq, isA_none, isA_sq, isP_none, isP_sq, isI_none, isI_sq, isB_none, isB_some, isS_none, isS_nx, isS_rt, isS_bk, isS_ct, ByB, Option.map_none, Option.map_some]; rfl)
@[simp] theorem w_rng2 {P : Src → Sto → Prop} : IsI (evi Φ (.rng2 a b) env S) P = Is (ev Φ a env S) fun x S1 => match x with
    | .int i => Is (ev Φ b env S1) fun y S2 => match y with | .int j => (rngOk i && rngOk j) = true ∧ P (.rng i (j - i).toNat) S2 | _ => False
    | _ => False := by
  simp only [evi]
  cases ev Φ a env S with
  | none => first | rfl | (simp only [is_none, is_sq, isA_none, isA_sq, isP_none, isP_sq, isI_none, isI_sq, isB_none, isB_some, isS_none, isS_nx, isS_rt, isS_bk, isS_ct, ByB, Option.map_none, Option.map_some]; done) | (simp only [is_none, is_sq, isA_none, isA_sq, isP_none, isP_sq, isI_none, isI_sq, isB_none, isB_some, isS_none, isS_nx, isS_rt, isS_bk, isS_ct, ByB, Option.map_none, Option.map_some]; rfl)
  | some p =>
    obtain ⟨x, S1⟩ := p
    cases x with
    | int i =>
      simp only [is_some]
      cases ev Φ b env S1 with
      | none => first | rfl | (simp only [is_none, is_sq, isA_none, isA_sq, isP_none, isP_sq, isI_none, isI_sq, isB_none, isB_some, isS_none, isS_nx, isS_rt, isS_bk, isS_ct, ByB, Option.map_none, Option.map_some]; done) | (simp only [is_none, is_sq, isA_none, isA_sq, isP_none, isP_sq, isI_none, isI_sq, isB_none, isB_some, isS_none, isS_nx, isS_rt, isS_bk, isS_ct, ByB, Option.map_none, Option.map_some]; rfl)
      | some q =>
        obtain ⟨y, S2⟩ := q
        cases y with
        | int j =>
          by_cases h : (rngOk i && rngOk j) = true
          · simp only [h, if_true, is_some, true_and]; first | rfl | (simp only [is_none, is_sq, isA_none, isA_sq, isP_none, isP_sq, isI_none, isI_sq, isB_none, isB_some, isS_none, isS_nx, isS_rt, isS_bk, isS_ct, ByB, Option.map_none, Option.map_some]; done) | (simp only [is_none, is_sq, isA_none, isA_sq, isP_none, isP_sq, isI_none, isI_sq, isB_none, isB_some, isS_none, isS_nx, isS_rt, isS_bk, isS_ct, ByB, Option.map_none, Option.map_some]; rfl)
          · simp only [is_some]; rw [if_neg h, isI_none]; simp only [eq_false h, false_and]
        | _ => first | rfl | (simp only [is_none, is_sq, isA_none, isA_sq, isP_none, isP_sq, isI_none, isI_sq, isB_none, isB_some, isS_none, isS_nx, isS_rt, isS_bk, isS_ct, ByB, Option.map_none, Option.map_some]; done) | (simp only [is_none, is_sq, isA_none, isA_sq, isP_none, isP_sq, isI_none, isI_sq, isB_none, isB_some, isS_none, isS_nx, isS_rt, isS_bk, isS_ct, ByB, Option.map_none, Option.map_some]; rfl)
    | _ => first | rfl | (simp only [is_none, is_sq, isA_none, isA_sq, isP_none, isP_sq, isI_none, isI_sq, isB_none, isB_some, isS_none, isS_nx, isS_rt, isS_bk, isS_ct, ByB, Option.map_none, Option.map_some]; done) | (simp only [is_none, is_sq, isA_none, isA_sq, isP_none, isP_sq, isI_none, isI_sq, isB_none, isB_some, isS_none, isS_nx, isS_rt, isS_bk, isS_ct, ByB, Option.map_none, Option.map_some]; rfl)
/-! ### statements -/
@[simp] theorem w_enum {P : Src → Sto → Prop} : IsI (evi Φ (.enum e) env S) P = Is (ev Φ e env S) fun x S1 => match x with | .tup z => P (.seq (.tup (enumT 0 z))) S1 | _ => False := by
  simp only [evi]
  cases ev Φ e env S with
  | none => first | rfl | (simp only [is_none, is_sq, isA_none, isA_sq, isP_none, isP_sq, isI_none, isI_sq, isB_none, isB_some, isS_none, isS_nx, isS_rt, isS_bk, isS_ct, ByB, Option.map_none, Option.map_some]; done) | (simp only [is_none, is_sq, isA_none, isA_sq, isP_none, isP_sq, isI_none, isI_sq, isB_none, isB_some, isS_none, isS_nx, isS_rt, isS_bk, isS_ct, ByB, Option.map_none, Option.map_some]; rfl)
  | some q =>
    obtain ⟨x, S1⟩ := q
    cases x <;> first | rfl | (simp only [is_none, is_sq, isA_none, isA_sq, isP_none, isP_sq, isI_none, isI_sq, isB_none, isB_some, isS_none, isS_nx, isS_rt, isS_bk, isS_ct, ByB, Option.map_none, Option.map_some]; done) | (simp only [is_none, is_sq, isA_none, isA_sq, isP_none, isP_sq, isI_none, isI_sq, isB_none, isB_some, isS_none, isS_nx, isS_rt, isS_bk, isS_ct, ByB, Option.map_none, Option.map_some]; rfl)
@[simp] theorem w_zip {P : Src → Sto → Prop} : IsI (evi Φ (.zip a b) env S) P = Is (ev Φ a env S) fun x S1 => match x with | .tup z => (Is (ev Φ b env S1) fun y S2 => match y with | .tup u => P (.seq (.tup (zipT z u))) S2 | _ => False) | .str z => (Is (ev Φ b env S1) fun y S2 => match y with | .str u => P (.seq (.tup (zipT (sgns z) (sgns u)))) S2 | _ => False) | _ => False := by
  simp only [evi]
  cases ev Φ a env S with
  | none => first | rfl | (simp only [is_none, is_sq, isA_none, isA_sq, isP_none, isP_sq, isI_none, isI_sq, isB_none, isB_some, isS_none, isS_nx, isS_rt, isS_bk, isS_ct, ByB, Option.map_none, Option.map_some]; done) | (simp only [is_none, is_sq, isA_none, isA_sq, isP_none, isP_sq, isI_none, isI_sq, isB_none, isB_some, isS_none, isS_nx, isS_rt, isS_bk, isS_ct, ByB, Option.map_none, Option.map_some]; rfl)
  | some q =>
    obtain ⟨x, S1⟩ := q
    cases x with
    | tup z =>
      simp only [is_some]
      cases ev Φ b env S1 with
      | none => first | rfl | (simp only [is_none, is_sq, isA_none, isA_sq, isP_none, isP_sq, isI_none, isI_sq, isB_none, isB_some, isS_none, isS_nx, isS_rt, isS_bk, isS_ct, ByB, Option.map_none, Option.map_some]; done) | (simp only [is_none, is_sq, isA_none, isA_sq, isP_none, isP_sq, isI_none, isI_sq, isB_none, isB_some, isS_none, isS_nx, isS_rt, isS_bk, isS_ct, ByB, Option.map_none, Option.map_some]; rfl)
      | some r =>
        obtain ⟨y, S2⟩ := r
        cases y <;> first | rfl | (simp only [is_none, is_sq, isA_none, isA_sq, isP_none, isP_sq, isI_none, isI_sq, isB_none, isB_some, isS_none, isS_nx, isS_rt, isS_bk, isS_ct, ByB, Option.map_none, Option.map_some]; done) | (simp only [is_none, is_sq, isA_none, isA_sq, isP_none, isP_sq, isI_none, isI_sq, isB_none, isB_some, isS_none, isS_nx, isS_rt, isS_bk, isS_ct, ByB, Option.map_none, Option.map_some]; rfl)
    | str z =>
      simp only [is_some]
      cases ev Φ b env S1 with
      | none => first | rfl | (simp only [is_none, is_sq, isA_none, isA_sq, isP_none, isP_sq, isI_none, isI_sq, isB_none, isB_some, isS_none, isS_nx, isS_rt, isS_bk, isS_ct, ByB, Option.map_none, Option.map_some]; done) | (simp only [is_none, is_sq, isA_none, isA_sq, isP_none, isP_sq, isI_none, isI_sq, isB_none, isB_some, isS_none, isS_nx, isS_rt, isS_bk, isS_ct, ByB, Option.map_none, Option.map_some]; rfl)
      | some r =>
        obtain ⟨y, S2⟩ := r
        cases y <;> first | rfl | (simp only [is_none, is_sq, isA_none, isA_sq, isP_none, isP_sq, isI_none, isI_sq, isB_none, isB_some, isS_none, isS_nx, isS_rt, isS_bk, isS_ct, ByB, Option.map_none, Option.map_some]; done) | (simp only [is_none, is_sq, isA_none, isA_sq, isP_none, isP_sq, isI_none, isI_sq, isB_none, isB_some, isS_none, isS_nx, isS_rt, isS_bk, isS_ct, ByB, Option.map_none, Option.map_some]; rfl)
    | _ => first | rfl | (simp only [is_none, is_sq, isA_none, isA_sq, isP_none, isP_sq, isI_none, isI_sq, isB_none, isB_some, isS_none, isS_nx, isS_rt, isS_bk, isS_ct, ByB, Option.map_none, Option.map_some]; done) | (simp only [is_none, is_sq, isA_none, isA_sq, isP_none, isP_sq, isI_none, isI_sq, isB_none, isB_some, isS_none, isS_nx, isS_rt, isS_bk, isS_ct, ByB, Option.map_none, Option.map_some]; rfl)
@[simp] theorem s_nil {Q : W → Sto → Prop} : IsS (exs Φ .nil env S) N Q = N env S := by simp only [exs]; first | rfl | (simp only [is_none, is_sq, isA_none, isA_sq, isP_none, isP_sq, isI_none, isI_sq, isB_none, isB_some, isS_none, isS_nx, isS_rt, isS_bk, isS_ct, ByB, Option.map_none, Option.map_some]; done) | (simp only [is_none, is_sq, isA_none, isA_sq, isP_none, isP_sq, isI_none, isI_sq, isB_none, isB_some, isS_none, isS_nx, isS_rt, isS_bk, isS_ct, ByB, Option.map_none, Option.map_some]; rfl)
@[simp] theorem s_cons {Q : W → Sto → Prop} {s : CS} {ss : CSs} : IsS (exs Φ (.cons s ss) env S) N Q = IsS (ex Φ s env S) (fun env' S' => IsS (exs Φ ss env' S') N Q) Q := by
  simp only [exs]
  cases ex Φ s env S with
  | none => first | rfl | (simp only [is_none, is_sq, isA_none, isA_sq, isP_none, isP_sq, isI_none, isI_sq, isB_none, isB_some, isS_none, isS_nx, isS_rt, isS_bk, isS_ct, ByB, Option.map_none, Option.map_some]; done) | (simp only [is_none, is_sq, isA_none, isA_sq, isP_none, isP_sq, isI_none, isI_sq, isB_none, isB_some, isS_none, isS_nx, isS_rt, isS_bk, isS_ct, ByB, Option.map_none, Option.map_some]; rfl)
  | some f => cases f <;> first | rfl | (simp only [is_none, is_sq, isA_none, isA_sq, isP_none, isP_sq, isI_none, isI_sq, isB_none, isB_some, isS_none, isS_nx, isS_rt, isS_bk, isS_ct, ByB, Option.map_none, Option.map_some]; done) | (simp only [is_none, is_sq, isA_none, isA_sq, isP_none, isP_sq, isI_none, isI_sq, isB_none, isB_some, isS_none, isS_nx, isS_rt, isS_bk, isS_ct, ByB, Option.map_none, Option.map_some]; rfl)
@[simp] theorem s_ret {Q : W → Sto → Prop} : IsS (ex Φ (.ret e) env S) N Q = Is (ev Φ e env S) Q := by
  simp only [ex]
  cases ev Φ e env S with
  | none => first | rfl | (simp only [is_none, is_sq, isA_none, isA_sq, isP_none, isP_sq, isI_none, isI_sq, isB_none, isB_some, isS_none, isS_nx, isS_rt, isS_bk, isS_ct, ByB, Option.map_none, Option.map_some]; done) | (simp only [is_none, is_sq, isA_none, isA_sq, isP_none, isP_sq, isI_none, isI_sq, isB_none, isB_some, isS_none, isS_nx, isS_rt, isS_bk, isS_ct, ByB, Option.map_none, Option.map_some]; rfl)
  | some p => first | rfl | (simp only [is_none, is_sq, isA_none, isA_sq, isP_none, isP_sq, isI_none, isI_sq, isB_none, isB_some, isS_none, isS_nx, isS_rt, isS_bk, isS_ct, ByB, Option.map_none, Option.map_some]; done) | (simp only [is_none, is_sq, isA_none, isA_sq, isP_none, isP_sq, isI_none, isI_sq, isB_none, isB_some, isS_none, isS_nx, isS_rt, isS_bk, isS_ct, ByB, Option.map_none, Option.map_some]; rfl)
@[simp] theorem s_expr {Q : W → Sto → Prop} : IsS (ex Φ (.expr e) env S) N Q = Is (ev Φ e env S) fun _ S' => N env S' := by
  simp only [ex]
  cases ev Φ e env S with
  | none => first | rfl | (simp only [is_none, is_sq, isA_none, isA_sq, isP_none, isP_sq, isI_none, isI_sq, isB_none, isB_some, isS_none, isS_nx, isS_rt, isS_bk, isS_ct, ByB, Option.map_none, Option.map_some]; done) | (simp only [is_none, is_sq, isA_none, isA_sq, isP_none, isP_sq, isI_none, isI_sq, isB_none, isB_some, isS_none, isS_nx, isS_rt, isS_bk, isS_ct, ByB, Option.map_none, Option.map_some]; rfl)
  | some p => first | rfl | (simp only [is_none, is_sq, isA_none, isA_sq, isP_none, isP_sq, isI_none, isI_sq, isB_none, isB_some, isS_none, isS_nx, isS_rt, isS_bk, isS_ct, ByB, Option.map_none, Option.map_some]; done) | (simp only [is_none, is_sq, isA_none, isA_sq, isP_none, isP_sq, isI_none, isI_sq, isB_none, isB_some, isS_none, isS_nx, isS_rt, isS_bk, isS_ct, ByB, Option.map_none, Option.map_some]; rfl)
@[simp] theorem s_set {Q : W → Sto → Prop} {ts : List Nat} : IsS (ex Φ (.set ts e) env S) N Q = Is (ev Φ e env S) fun w S' => match bindT S' env ts w with | some env' => N env' S' | none => False := by
  simp only [ex]
  cases ev Φ e env S with
  | none => first | rfl | (simp only [is_none, is_sq, isA_none, isA_sq, isP_none, isP_sq, isI_none, isI_sq, isB_none, isB_some, isS_none, isS_nx, isS_rt, isS_bk, isS_ct, ByB, Option.map_none, Option.map_some]; done) | (simp only [is_none, is_sq, isA_none, isA_sq, isP_none, isP_sq, isI_none, isI_sq, isB_none, isB_some, isS_none, isS_nx, isS_rt, isS_bk, isS_ct, ByB, Option.map_none, Option.map_some]; rfl)
  | some p =>
    obtain ⟨w, S1⟩ := p
    simp only [is_some]
    cases bindT S1 env ts w <;> first | rfl | (simp only [is_none, is_sq, isA_none, isA_sq, isP_none, isP_sq, isI_none, isI_sq, isB_none, isB_some, isS_none, isS_nx, isS_rt, isS_bk, isS_ct, ByB, Option.map_none, Option.map_some]; done) | (simp only [is_none, is_sq, isA_none, isA_sq, isP_none, isP_sq, isI_none, isI_sq, isB_none, isB_some, isS_none, isS_nx, isS_rt, isS_bk, isS_ct, ByB, Option.map_none, Option.map_some]; rfl)
@[simp] theorem s_if {Q : W → Sto → Prop} {A B : CSs} : IsS (ex Φ (.ifs c A B) env S) N Q = Is (ev Φ c env S) fun x S1 => ByB x (IsS (exs Φ A env S1) N Q) (IsS (exs Φ B env S1) N Q) := by
  simp only [ex]
  cases ev Φ c env S with
  | none => first | rfl | (simp only [is_none, is_sq, isA_none, isA_sq, isP_none, isP_sq, isI_none, isI_sq, isB_none, isB_some, isS_none, isS_nx, isS_rt, isS_bk, isS_ct, ByB, Option.map_none, Option.map_some]; done) | (simp only [is_none, is_sq, isA_none, isA_sq, isP_none, isP_sq, isI_none, isI_sq, isB_none, isB_some, isS_none, isS_nx, isS_rt, isS_bk, isS_ct, ByB, Option.map_none, Option.map_some]; rfl)
  | some p =>
    obtain ⟨x, S1⟩ := p
    cases x with
    | bl k => cases k <;> first | rfl | (simp only [is_none, is_sq, isA_none, isA_sq, isP_none, isP_sq, isI_none, isI_sq, isB_none, isB_some, isS_none, isS_nx, isS_rt, isS_bk, isS_ct, ByB, Option.map_none, Option.map_some]; done) | (simp only [is_none, is_sq, isA_none, isA_sq, isP_none, isP_sq, isI_none, isI_sq, isB_none, isB_some, isS_none, isS_nx, isS_rt, isS_bk, isS_ct, ByB, Option.map_none, Option.map_some]; rfl)
    | _ => first | rfl | (simp only [is_none, is_sq, isA_none, isA_sq, isP_none, isP_sq, isI_none, isI_sq, isB_none, isB_some, isS_none, isS_nx, isS_rt, isS_bk, isS_ct, ByB, Option.map_none, Option.map_some]; done) | (simp only [is_none, is_sq, isA_none, isA_sq, isP_none, isP_sq, isI_none, isI_sq, isB_none, isB_some, isS_none, isS_nx, isS_rt, isS_bk, isS_ct, ByB, Option.map_none, Option.map_some]; rfl)
@[simp] theorem s_pass {Q : W → Sto → Prop} : IsS (ex Φ .pass env S) N Q = N env S := by simp only [ex]; first | rfl | (simp only [is_none, is_sq, isA_none, isA_sq, isP_none, isP_sq, isI_none, isI_sq, isB_none, isB_some, isS_none, isS_nx, isS_rt, isS_bk, isS_ct, ByB, Option.map_none, Option.map_some]; done) | (simp only [is_none, is_sq, isA_none, isA_sq, isP_none, isP_sq, isI_none, isI_sq, isB_none, isB_some, isS_none, isS_nx, isS_rt, isS_bk, isS_ct, ByB, Option.map_none, Option.map_some]; rfl)
@[simp] theorem s_setix {Q : W → Sto → Prop} {o i : CE} : IsS (ex Φ (.setix o i e) env S) N Q = Is (ev Φ e env S) fun w S1 => Is (ev Φ o env S1) fun x S2 => match x with
    | .ref k => Is (ev Φ i env S2) fun y S3 => match y with
      | .int j => match rdL S3 k with
        | some xs => match ixN xs.length j with
          | some n => N env (S3.set k (.lst (xs.set n w)))
          | none => False
        | none => False
      | _ => False
    | _ => False := by
  simp only [ex]
  cases ev Φ e env S with
  | none => first | rfl | (simp only [is_none, is_sq, isA_none, isA_sq, isP_none, isP_sq, isI_none, isI_sq, isB_none, isB_some, isS_none, isS_nx, isS_rt, isS_bk, isS_ct, ByB, Option.map_none, Option.map_some]; done) | (simp only [is_none, is_sq, isA_none, isA_sq, isP_none, isP_sq, isI_none, isI_sq, isB_none, isB_some, isS_none, isS_nx, isS_rt, isS_bk, isS_ct, ByB, Option.map_none, Option.map_some]; rfl)
  | some p =>
    obtain ⟨w, S1⟩ := p
    simp only [is_some]
    cases ev Φ o env S1 with
    | none => first | rfl | (simp only [is_none, is_sq, isA_none, isA_sq, isP_none, isP_sq, isI_none, isI_sq, isB_none, isB_some, isS_none, isS_nx, isS_rt, isS_bk, isS_ct, ByB, Option.map_none, Option.map_some]; done) | (simp only [is_none, is_sq, isA_none, isA_sq, isP_none, isP_sq, isI_none, isI_sq, isB_none, isB_some, isS_none, isS_nx, isS_rt, isS_bk, isS_ct, ByB, Option.map_none, Option.map_some]; rfl)
    | some q =>
      obtain ⟨x, S2⟩ := q
      cases x with
      | ref k =>
        simp only [is_some]
        cases ev Φ i env S2 with
        | none => first | rfl | (simp only [is_none, is_sq, isA_none, isA_sq, isP_none, isP_sq, isI_none, isI_sq, isB_none, isB_some, isS_none, isS_nx, isS_rt, isS_bk, isS_ct, ByB, Option.map_none, Option.map_some]; done) | (simp only [is_none, is_sq, isA_none, isA_sq, isP_none, isP_sq, isI_none, isI_sq, isB_none, isB_some, isS_none, isS_nx, isS_rt, isS_bk, isS_ct, ByB, Option.map_none, Option.map_some]; rfl)
        | some r =>
          obtain ⟨y, S3⟩ := r
          cases y with
          | int j =>
            simp only [is_some, rdM]
            cases rdL S3 k with
            | none => first | rfl | (simp only [is_none, is_sq, isA_none, isA_sq, isP_none, isP_sq, isI_none, isI_sq, isB_none, isB_some, isS_none, isS_nx, isS_rt, isS_bk, isS_ct, ByB, Option.map_none, Option.map_some]; done) | (simp only [is_none, is_sq, isA_none, isA_sq, isP_none, isP_sq, isI_none, isI_sq, isB_none, isB_some, isS_none, isS_nx, isS_rt, isS_bk, isS_ct, ByB, Option.map_none, Option.map_some]; rfl)
            | some xs =>
              simp only
              cases ixN xs.length j <;> first | rfl | (simp only [is_none, is_sq, isA_none, isA_sq, isP_none, isP_sq, isI_none, isI_sq, isB_none, isB_some, isS_none, isS_nx, isS_rt, isS_bk, isS_ct, ByB, Option.map_none, Option.map_some]; done) | (simp only [is_none, is_sq, isA_none, isA_sq, isP_none, isP_sq, isI_none, isI_sq, isB_none, isB_some, isS_none, isS_nx, isS_rt, isS_bk, isS_ct, ByB, Option.map_none, Option.map_some]; rfl)
          | _ => first | rfl | (simp only [is_none, is_sq, isA_none, isA_sq, isP_none, isP_sq, isI_none, isI_sq, isB_none, isB_some, isS_none, isS_nx, isS_rt, isS_bk, isS_ct, ByB, Option.map_none, Option.map_some]; done) | (simp only [is_none, is_sq, isA_none, isA_sq, isP_none, isP_sq, isI_none, isI_sq, isB_none, isB_some, isS_none, isS_nx, isS_rt, isS_bk, isS_ct, ByB, Option.map_none, Option.map_some]; rfl)
      | _ => first | rfl | (simp only [is_none, is_sq, isA_none, isA_sq, isP_none, isP_sq, isI_none, isI_sq, isB_none, isB_some, isS_none, isS_nx, isS_rt, isS_bk, isS_ct, ByB, Option.map_none, Option.map_some]; done) | (simp only [is_none, is_sq, isA_none, isA_sq, isP_none, isP_sq, isI_none, isI_sq, isB_none, isB_some, isS_none, isS_nx, isS_rt, isS_bk, isS_ct, ByB, Option.map_none, Option.map_some]; rfl)
@[simp] theorem s_app {Q : W → Sto → Prop} {o : CE} : IsS (ex Φ (.app o e) env S) N Q = Is (ev Φ o env S) fun x S1 => match x with
    | .ref k => Is (ev Φ e env S1) fun w S2 => match rdL S2 k with
      | some xs => xs.length < LIM ∧ N env (S2.set k (.lst (xs ++ [w])))
      | none => False
    | _ => False := by
  simp only [ex]
  cases ev Φ o env S with
  | none => first | rfl | (simp only [is_none, is_sq, isA_none, isA_sq, isP_none, isP_sq, isI_none, isI_sq, isB_none, isB_some, isS_none, isS_nx, isS_rt, isS_bk, isS_ct, ByB, Option.map_none, Option.map_some]; done) | (simp only [is_none, is_sq, isA_none, isA_sq, isP_none, isP_sq, isI_none, isI_sq, isB_none, isB_some, isS_none, isS_nx, isS_rt, isS_bk, isS_ct, ByB, Option.map_none, Option.map_some]; rfl)
  | some q =>
    obtain ⟨x, S2⟩ := q
    cases x with
    | ref k =>
      simp only [is_some]
      cases ev Φ e env S2 with
      | none => first | rfl | (simp only [is_none, is_sq, isA_none, isA_sq, isP_none, isP_sq, isI_none, isI_sq, isB_none, isB_some, isS_none, isS_nx, isS_rt, isS_bk, isS_ct, ByB, Option.map_none, Option.map_some]; done) | (simp only [is_none, is_sq, isA_none, isA_sq, isP_none, isP_sq, isI_none, isI_sq, isB_none, isB_some, isS_none, isS_nx, isS_rt, isS_bk, isS_ct, ByB, Option.map_none, Option.map_some]; rfl)
      | some r =>
        obtain ⟨y, S3⟩ := r
        simp only [is_some, rdM]
        cases rdL S3 k with
        | none => first | rfl | (simp only [is_none, is_sq, isA_none, isA_sq, isP_none, isP_sq, isI_none, isI_sq, isB_none, isB_some, isS_none, isS_nx, isS_rt, isS_bk, isS_ct, ByB, Option.map_none, Option.map_some]; done) | (simp only [is_none, is_sq, isA_none, isA_sq, isP_none, isP_sq, isI_none, isI_sq, isB_none, isB_some, isS_none, isS_nx, isS_rt, isS_bk, isS_ct, ByB, Option.map_none, Option.map_some]; rfl)
        | some xs =>
          simp only
          by_cases h : xs.length < LIM
          · simp only [h, if_true, true_and]; first | rfl | (simp only [is_none, is_sq, isA_none, isA_sq, isP_none, isP_sq, isI_none, isI_sq, isB_none, isB_some, isS_none, isS_nx, isS_rt, isS_bk, isS_ct, ByB, Option.map_none, Option.map_some]; done) | (simp only [is_none, is_sq, isA_none, isA_sq, isP_none, isP_sq, isI_none, isI_sq, isB_none, isB_some, isS_none, isS_nx, isS_rt, isS_bk, isS_ct, ByB, Option.map_none, Option.map_some]; rfl)
          · simp only [h, if_false, false_and]; first | rfl | (simp only [is_none, is_sq, isA_none, isA_sq, isP_none, isP_sq, isI_none, isI_sq, isB_none, isB_some, isS_none, isS_nx, isS_rt, isS_bk, isS_ct, ByB, Option.map_none, Option.map_some]; done) | (simp only [is_none, is_sq, isA_none, isA_sq, isP_none, isP_sq, isI_none, isI_sq, isB_none, isB_some, isS_none, isS_nx, isS_rt, isS_bk, isS_ct, ByB, Option.map_none, Option.map_some]; rfl)
    | _ => first | rfl | (simp only [is_none, is_sq, isA_none, isA_sq, isP_none, isP_sq, isI_none, isI_sq, isB_none, isB_some, isS_none, isS_nx, isS_rt, isS_bk, isS_ct, ByB, Option.map_none, Option.map_some]; done) | (simp only [is_none, is_sq, isA_none, isA_sq, isP_none, isP_sq, isI_none, isI_sq, isB_none, isB_some, isS_none, isS_nx, isS_rt, isS_bk, isS_ct, ByB, Option.map_none, Option.map_some]; rfl)
theorem seqW_ref (k : Nat) : seqW S (.ref k) = rdL S k := rfl
theorem seqW_tup (xs : List W) : seqW S (.tup xs) = some xs := rfl
@[simp] theorem s_ext {Q : W → Sto → Prop} {o : CE} : IsS (ex Φ (.ext o e) env S) N Q = Is (ev Φ o env S) fun x S1 => match x with
    | .ref k => Is (ev Φ e env S1) fun w S2 => match rdL S2 k, seqW S2 w with
        | some xs, some ys => xs.length + ys.length ≤ LIM ∧ N env (S2.set k (.lst (xs ++ ys)))
        | _, _ => False
    | _ => False := by
  simp only [ex]
  cases ev Φ o env S with
  | none => first | rfl | (simp only [is_none, is_sq, isA_none, isA_sq, isP_none, isP_sq, isI_none, isI_sq, isB_none, isB_some, isS_none, isS_nx, isS_rt, isS_bk, isS_ct, ByB, Option.map_none, Option.map_some]; done) | (simp only [is_none, is_sq, isA_none, isA_sq, isP_none, isP_sq, isI_none, isI_sq, isB_none, isB_some, isS_none, isS_nx, isS_rt, isS_bk, isS_ct, ByB, Option.map_none, Option.map_some]; rfl)
  | some q =>
    obtain ⟨x, S2⟩ := q
    cases x with
    | ref k =>
      simp only [is_some]
      cases ev Φ e env S2 with
      | none => first | rfl | (simp only [is_none, is_sq, isA_none, isA_sq, isP_none, isP_sq, isI_none, isI_sq, isB_none, isB_some, isS_none, isS_nx, isS_rt, isS_bk, isS_ct, ByB, Option.map_none, Option.map_some]; done) | (simp only [is_none, is_sq, isA_none, isA_sq, isP_none, isP_sq, isI_none, isI_sq, isB_none, isB_some, isS_none, isS_nx, isS_rt, isS_bk, isS_ct, ByB, Option.map_none, Option.map_some]; rfl)
      | some r =>
        obtain ⟨y, S3⟩ := r
        simp only [is_some, rdM]
        cases rdL S3 k with
        | none => first | rfl | (simp only [is_none, is_sq, isA_none, isA_sq, isP_none, isP_sq, isI_none, isI_sq, isB_none, isB_some, isS_none, isS_nx, isS_rt, isS_bk, isS_ct, ByB, Option.map_none, Option.map_some]; done) | (simp only [is_none, is_sq, isA_none, isA_sq, isP_none, isP_sq, isI_none, isI_sq, isB_none, isB_some, isS_none, isS_nx, isS_rt, isS_bk, isS_ct, ByB, Option.map_none, Option.map_some]; rfl)
        | some xs =>
          cases seqW S3 y with
          | none => first | rfl | (simp only [is_none, is_sq, isA_none, isA_sq, isP_none, isP_sq, isI_none, isI_sq, isB_none, isB_some, isS_none, isS_nx, isS_rt, isS_bk, isS_ct, ByB, Option.map_none, Option.map_some]; done) | (simp only [is_none, is_sq, isA_none, isA_sq, isP_none, isP_sq, isI_none, isI_sq, isB_none, isB_some, isS_none, isS_nx, isS_rt, isS_bk, isS_ct, ByB, Option.map_none, Option.map_some]; rfl)
          | some ys =>
            simp only
            by_cases h : xs.length + ys.length ≤ LIM
            · simp only [h, if_true, true_and]; first | rfl | (simp only [is_none, is_sq, isA_none, isA_sq, isP_none, isP_sq, isI_none, isI_sq, isB_none, isB_some, isS_none, isS_nx, isS_rt, isS_bk, isS_ct, ByB, Option.map_none, Option.map_some]; done) | (simp only [is_none, is_sq, isA_none, isA_sq, isP_none, isP_sq, isI_none, isI_sq, isB_none, isB_some, isS_none, isS_nx, isS_rt, isS_bk, isS_ct, ByB, Option.map_none, Option.map_some]; rfl)
            · simp only [h, if_false, false_and]; first | rfl | (simp only [is_none, is_sq, isA_none, isA_sq, isP_none, isP_sq, isI_none, isI_sq, isB_none, isB_some, isS_none, isS_nx, isS_rt, isS_bk, isS_ct, ByB, Option.map_none, Option.map_some]; done) | (simp only [is_none, is_sq, isA_none, isA_sq, isP_none, isP_sq, isI_none, isI_sq, isB_none, isB_some, isS_none, isS_nx, isS_rt, isS_bk, isS_ct, ByB, Option.map_none, Option.map_some]; rfl)
    | _ => first | rfl | (simp only [is_none, is_sq, isA_none, isA_sq, isP_none, isP_sq, isI_none, isI_sq, isB_none, isB_some, isS_none, isS_nx, isS_rt, isS_bk, isS_ct, ByB, Option.map_none, Option.map_some]; done) | (simp only [is_none, is_sq, isA_none, isA_sq, isP_none, isP_sq, isI_none, isI_sq, isB_none, isB_some, isS_none, isS_nx, isS_rt, isS_bk, isS_ct, ByB, Option.map_none, Option.map_some]; rfl)
end
/-! ### loops by what holds between their turns -/
theorem w_for {Φ : Fns} {env : Env} {S : Sto} {N : Env → Sto → Prop} {Q : W → Sto → Prop} {ts : List Nat} {s : CI} {b : CSs} {n : Nat} (Inv : Nat → Env → Sto → Prop)
    (h : IsI (evi Φ s env S) fun J S1 => J.len S1 = some n ∧ Inv 0 env S1 ∧ (∀ i env S, i < n → Inv i env S → ∃ x env', J.item S i = some x ∧ bindT S env ts x = some env' ∧ IsS (exs Φ b env' S) (Inv (i + 1)) Q) ∧ ∀ env S, Inv n env S → (∃ n', n' ≤ n ∧ J.len S = some n') ∧ N env S) :
    IsS (ex Φ (.for_ ts s b) env S) N Q := by
  rw [ex_for_eq]
  cases he : evi Φ s env S with
  | none => rw [he, isI_none] at h; exact h.elim
  | some p =>
    obtain ⟨J, S1⟩ := p
    rw [he, isI_some] at h
    obtain ⟨h1, h2, h3, h4⟩ := h
    simp only [h1]
    have go : ∀ m i env S, i + m = n → Inv i env S → IsS (forGo (turnF Φ ts b J) i m env S) (Inv n) Q := by
      intro m
      induction m with
      | zero =>
        intro i env S him hi
        have e : i = n := by omega
        subst e
        rw [forGo, isS_nx]
        exact hi
      | succ m ih =>
        intro i env S him hi
        obtain ⟨x, env', e1, e2, e3⟩ := h3 i env S (by omega) hi
        simp only [forGo, turnF, e1, e2]
        cases hr : exs Φ b env' S with
        | none => rw [hr, isS_none] at e3; exact e3.elim
        | some f =>
          rw [hr] at e3
          cases f with
          | nx env2 S2 => rw [isS_nx] at e3; exact ih (i + 1) env2 S2 (by omega) e3
          | rt w S2 => rw [isS_rt] at e3; simp only [isS_rt]; exact e3
          | bk _ _ => rw [isS_bk] at e3; exact e3.elim
          | ct _ _ => rw [isS_ct] at e3; exact e3.elim
    have r := go n 0 env S1 (by omega) h2
    revert r
    generalize forGo (turnF Φ ts b J) 0 n env S1 = q
    intro r
    cases q with
    | none => rw [isS_none] at r; exact r.elim
    | some f =>
      cases f with
      | nx env2 S2 =>
        rw [isS_nx] at r
        obtain ⟨⟨n', a1, a2⟩, a3⟩ := h4 env2 S2 r
        simp only [a2, a1, if_true, isS_nx]
        exact a3
      | rt w S2 => rw [isS_rt] at r; simp only [isS_rt]; exact r
      | bk _ _ => rw [isS_bk] at r; exact r.elim
      | ct _ _ => rw [isS_ct] at r; exact r.elim
theorem w_comp {Φ : Fns} {env : Env} {S : Sto} {P : W → Sto → Prop} {vs ts : List Nat} {s : CI} {t e : CE} {n : Nat} (hn : n ≤ LIM) (Inv : Nat → List W → Sto → Prop)
    (h : IsI (evi Φ s env S) fun J S1 => J.len S1 = some n ∧ Inv 0 [] S1 ∧ (∀ i acc S, i < n → Inv i acc S → ∃ x env', J.item S i = some x ∧ bindT S (wipe env vs) ts x = some env' ∧ Is (ev Φ t env' S) fun k S' => ByB k (Is (ev Φ e env' S') fun w S2 => Inv (i + 1) (acc ++ [w]) S2) (Inv (i + 1) acc S')) ∧
      ∀ acc S, acc.length ≤ n → Inv n acc S → (∃ n', n' ≤ n ∧ J.len S = some n') ∧ P (.ref S.length) (S ++ [.lst acc])) :
    Is (ev Φ (.comp vs ts s t e) env S) P := by
  rw [ev_comp_eq]
  cases he : evi Φ s env S with
  | none => rw [he, isI_none] at h; exact h.elim
  | some p =>
    obtain ⟨J, S1⟩ := p
    rw [he, isI_some] at h
    obtain ⟨h1, h2, h3, h4⟩ := h
    simp only [h1]
    have go : ∀ m i acc S, i + m = n → acc.length ≤ i → Inv i acc S → ∃ acc' S', compGo (turnC Φ vs ts t e env J) i m acc S = some (acc', S') ∧ acc'.length ≤ n ∧ Inv n acc' S' := by
      intro m
      induction m with
      | zero =>
        intro i acc S him hl hi
        have e : i = n := by omega
        subst e
        exact ⟨acc, S, rfl, hl, hi⟩
      | succ m ih =>
        intro i acc S him hl hi
        obtain ⟨x, env', e1, e2, e3⟩ := h3 i acc S (by omega) hi
        obtain ⟨k, S', e4, e5⟩ := Is.ex e3
        simp only [compGo, turnC, e1, e2, e4]
        cases k with
        | bl k =>
          cases k with
          | true =>
            rw [byB_true] at e5
            obtain ⟨w, S2, e6, e7⟩ := Is.ex e5
            simp only [e6]
            rw [if_pos (by omega)]
            exact ih (i + 1) _ S2 (by omega) (by rw [List.length_append, List.length_singleton]; omega) e7
          | false => exact ih (i + 1) _ S' (by omega) (by omega) e5
        | _ => exact e5.elim
    obtain ⟨acc', S', r1, r2, r3⟩ := go n 0 [] S1 (by omega) (by simp) h2
    obtain ⟨⟨n', a1, a2⟩, a3⟩ := h4 acc' S' r2 r3
    simp only [r1, a2, a1, if_true]
    rw [w_new]
    exact ⟨by omega, a3⟩
/-! ### calls -/
theorem w_while {Φ : Fns} {N : Env → Sto → Prop} {Q : W → Sto → Prop} {n : Nat} {t : CE} {b : CSs} (Inv : Nat → Env → Sto → Prop)
    (step : ∀ m env S, Inv m env S → Is (ev Φ t env S) fun x S1 => ByB x (∃ m', m = m' + 1 ∧ IsS (exs Φ b env S1) (Inv m') Q) (N env S1)) :
    ∀ (M : Nat) {env : Env} {S : Sto}, Inv M env S → M < n → IsS (ex Φ (.whl n t b) env S) N Q := by
  have go : ∀ (n M : Nat) (env : Env) (S : Sto), Inv M env S → M < n → IsS (whlGo (ev Φ t) (exs Φ b) n env S) N Q := by
    intro n
    induction n with
    | zero => intro M env S _ h; omega
    | succ n ih =>
      intro M env S h0 hM
      obtain ⟨x, S1, e1, h1⟩ := (step M env S h0).ex
      rw [whlGo, e1]
      cases x with
      | bl c =>
        cases c with
        | true =>
          obtain ⟨m', rfl, h2⟩ := h1
          obtain ⟨r, e2, h3⟩ := Wp.ex h2
          simp only [e2]
          cases r with
          | nx env' S' => exact ih m' env' S' h3 (by omega)
          | rt w S' => exact ⟨_, rfl, h3⟩
          | bk _ _ => exact h3.elim
          | ct _ _ => exact h3.elim
        | false => exact ⟨_, rfl, h1⟩
      | _ => exact h1.elim
  intro M env S h0 hM
  exact go n M env S h0 hM
theorem w_callF {ds : Nat → Option Def} {k f : Nat} {ws : List W} {S : Sto} {P : W → Sto → Prop} {d : Def} (hd : ds f = some d) (hn : ws.length = d.ar) (h : IsS (exs (callF ds k) d.body (start d.sl ws) S) (fun _ S' => P .non S') P) : Is (callF ds (k + 1) f ws S) P := by
  simp only [callF, hd, hn, if_true]
  revert h
  cases exs (callF ds k) d.body (start d.sl ws) S with
  | none => intro h; rw [isS_none] at h; exact h.elim
  | some f =>
    cases f with
    | nx env S2 => intro h; rw [isS_nx] at h; simp only [fin, is_some]; exact h
    | rt w S2 => intro h; rw [isS_rt] at h; simp only [fin, is_some]; exact h
    | bk _ _ => intro h; rw [isS_bk] at h; exact h.elim
    | ct _ _ => intro h; rw [isS_ct] at h; exact h.elim

/-! ### the store -/
/-- all that stood in the store stands -/
def Kp (S S' : Sto) : Prop := S.length ≤ S'.length ∧ ∀ k, k < S.length → S'[k]? = S[k]?
theorem Kp.refl (S : Sto) : Kp S S := ⟨Nat.le_refl _, fun _ _ => rfl⟩
theorem Kp.trans {S S1 S2 : Sto} (a : Kp S S1) (b : Kp S1 S2) : Kp S S2 := ⟨Nat.le_trans a.1 b.1, fun k h => (b.2 k (Nat.lt_of_lt_of_le h a.1)).trans (a.2 k h)⟩
theorem Kp.app (S T : Sto) : Kp S (S ++ T) := ⟨by rw [List.length_append]; omega, fun k h => List.getElem?_append_left h⟩
theorem Kp.get {S S' : Sto} (h : Kp S S') {k : Nat} {o : SO} (e : S[k]? = some o) : S'[k]? = some o := (h.2 k (List.getElem?_eq_some_iff.mp e).1).trans e
theorem Kp.snoc {S S' : Sto} (h : Kp S S') (o : SO) : Kp S (S' ++ [o]) := h.trans (.app _ _)
@[simp] theorem rdL_new (S : Sto) (xs : List W) : rdL (S ++ [.lst xs]) S.length = some xs := by
  unfold rdL
  rw [List.getElem?_append_right (Nat.le_refl _), Nat.sub_self]
  rfl
theorem rdL_of {S : Sto} {k : Nat} {xs : List W} (h : S[k]? = some (.lst xs)) : rdL S k = some xs := by
  unfold rdL
  rw [h]
theorem rdL_iff {S : Sto} {k : Nat} {xs : List W} : rdL S k = some xs ↔ S[k]? = some (.lst xs) := by
  constructor
  · intro h
    unfold rdL at h
    split at h
    · rename_i e
      cases h
      exact e
    · cases h
  · exact rdL_of
end MP
namespace MP
/-! ### what a source has -/
def Src.items (S : Sto) : Src → Option (List W)
  | .rng lo n => some ((List.range n).map fun i => .int (lo + (i : Nat)))
  | .seq (.tup xs) => some xs
  | .seq (.str xs) => some (xs.map fun c => .str [c])
  | .seq (.ref k) => rdL S k
  | .seq _ => none
theorem items_len {J : Src} {S : Sto} {its : List W} (h : J.items S = some its) : J.len S = some its.length := by
  cases J with
  | rng lo n => simp only [Src.items] at h; cases h; simp [Src.len]
  | seq w => cases w <;> simp only [Src.items] at h <;> first | (cases h; simp [Src.len]; done) | (simp [Src.len, h]; done) | cases h
theorem items_at {J : Src} {S : Sto} {its : List W} (h : J.items S = some its) (i : Nat) : J.item S i = its[i]? := by
  cases J with
  | rng lo n =>
    simp only [Src.items] at h
    cases h
    simp only [Src.item]
    by_cases hi : i < n
    · simp [hi]
    · simp [hi]
  | seq w => cases w <;> simp only [Src.items] at h <;> first | (cases h; simp [Src.item]; done) | (simp [Src.item, h]; done) | cases h
/-- a comprehension whose turns leave the store as it is -/
theorem w_compP {Φ : Fns} {env : Env} {S : Sto} {P : W → Sto → Prop} {vs ts : List Nat} {s : CI} {t e : CE} (its : List W) (p : W → Bool) (f : W → W) (hl : its.length ≤ LIM)
    (h : IsI (evi Φ s env S) fun J S1 => J.items S1 = some its ∧ (∀ x ∈ its, ∃ env', bindT S1 (wipe env vs) ts x = some env' ∧ Is (ev Φ t env' S1) fun k S' => k = .bl (p x) ∧ S' = S1 ∧ (p x = true → Is (ev Φ e env' S1) fun w S2 => w = f x ∧ S2 = S1)) ∧
      P (.ref S1.length) (S1 ++ [.lst ((its.filter p).map f)])) : Is (ev Φ (.comp vs ts s t e) env S) P := by
  cases he : evi Φ s env S with
  | none => rw [he, isI_none] at h; exact h.elim
  | some q =>
    obtain ⟨J, S1⟩ := q
    rw [he, isI_some] at h
    obtain ⟨h1, h2, h3⟩ := h
    refine w_comp (n := its.length) hl (fun i acc S' => acc = ((its.take i).filter p).map f ∧ S' = S1) ?_
    rw [he, isI_some]
    refine ⟨items_len h1, ⟨by simp, rfl⟩, fun i acc S' hi hI => ?_, fun acc S' _ hI => ?_⟩
    · obtain ⟨rfl, rfl⟩ := hI
      have hx : its[i]? = some its[i] := List.getElem?_eq_getElem hi
      obtain ⟨env', b1, b2⟩ := h2 its[i] (List.getElem_mem hi)
      refine ⟨its[i], env', by rw [items_at h1, hx], b1, b2.imp fun k S2 hk => ?_⟩
      obtain ⟨rfl, rfl, h5⟩ := hk
      have ht : its.take (i + 1) = its.take i ++ [its[i]] := by rw [List.take_add_one, hx]; rfl
      cases hp : p its[i] with
      | true =>
        rw [byB_true]
        refine (h5 hp).imp fun w S3 hw => ?_
        obtain ⟨rfl, rfl⟩ := hw
        refine ⟨?_, rfl⟩
        rw [ht, List.filter_append, List.map_append]
        simp [hp]
      | false =>
        rw [byB_false]
        refine ⟨?_, rfl⟩
        rw [ht, List.filter_append, List.map_append]
        simp [hp]
    · obtain ⟨rfl, rfl⟩ := hI
      rw [List.take_length]
      exact ⟨⟨_, Nat.le_refl _, items_len h1⟩, h3⟩
end MP
namespace MP
section
variable {S : Sto} {P : W → Sto → Prop} {Q : Bool → Prop} {i j : Int} {x y : List Nat} {a b : Bool} {u v : List W} {k l : Nat} {w : W}
theorem isI_ite (c : Prop) [Decidable c] (r : W × Sto) : Is (if c then some r else none) P = (c ∧ P r.1 r.2) := by
  by_cases h : c
  · simp only [h, if_true, true_and]; first | rfl | (simp only [is_none, is_sq, isB_none, isB_some, Option.map_none, Option.map_some]; done) | (simp only [is_none, is_sq, isB_none, isB_some, Option.map_none, Option.map_some]; rfl)
  · simp only [h, if_false, false_and]; first | rfl | (simp only [is_none, is_sq, isB_none, isB_some, Option.map_none, Option.map_some]; done) | (simp only [is_none, is_sq, isB_none, isB_some, Option.map_none, Option.map_some]; rfl)
theorem o_addI : Is (opB .add (.int i) (.int j) S) P = P (.int (i + j)) S := is_some _ _ _
theorem o_addS : Is (opB .add (.str x) (.str y) S) P = (x.length + y.length ≤ LIM ∧ P (.str (x ++ y)) S) := by simp only [opB]; exact isI_ite _ _
theorem o_addT : Is (opB .add (.tup u) (.tup v) S) P = (u.length + v.length ≤ LIM ∧ P (.tup (u ++ v)) S) := by simp only [opB]; exact isI_ite _ _
theorem o_addL : Is (opB .add (.ref k) (.ref l) S) P = match rdL S k, rdL S l with | some u, some v => (u ++ v).length ≤ LIM ∧ P (.ref S.length) (S ++ [.lst (u ++ v)]) | _, _ => False := by
  simp only [opB, rdM]
  cases rdL S k with
  | none => first | rfl | (simp only [is_none, is_sq, isB_none, isB_some, Option.map_none, Option.map_some]; done) | (simp only [is_none, is_sq, isB_none, isB_some, Option.map_none, Option.map_some]; rfl)
  | some u =>
    cases rdL S l with
    | none => first | rfl | (simp only [is_none, is_sq, isB_none, isB_some, Option.map_none, Option.map_some]; done) | (simp only [is_none, is_sq, isB_none, isB_some, Option.map_none, Option.map_some]; rfl)
    | some v => exact w_new _
theorem o_sub : Is (opB .sub (.int i) (.int j) S) P = P (.int (i - j)) S := is_some _ _ _
theorem o_mulI : Is (opB .mul (.int i) (.int j) S) P = (((-(2 ^ 64) < i ∧ i < 2 ^ 64) ∨ (-(2 ^ 64) < j ∧ j < 2 ^ 64)) ∧ P (.int (i * j)) S) := by simp only [opB]; exact isI_ite _ _
theorem o_mulS : Is (opB .mul (.str x) (.int j) S) P = ((j ≤ 1000000 ∧ -1000000 ≤ j ∧ x.length * j.toNat ≤ LIM) ∧ P (.str (List.replicate j.toNat x).flatten) S) := by simp only [opB]; exact isI_ite _ _
theorem o_mulL : Is (opB .mul (.ref k) (.int j) S) P = match rdL S k with | some x => (j ≤ 1000000 ∧ -1000000 ≤ j ∧ x.length * j.toNat ≤ LIM) ∧ (List.replicate j.toNat x).flatten.length ≤ LIM ∧ P (.ref S.length) (S ++ [.lst (List.replicate j.toNat x).flatten]) | none => False := by
  simp only [opB, rdM]
  cases rdL S k with
  | none => first | rfl | (simp only [is_none, is_sq, isB_none, isB_some, Option.map_none, Option.map_some]; done) | (simp only [is_none, is_sq, isB_none, isB_some, Option.map_none, Option.map_some]; rfl)
  | some u =>
    simp only
    by_cases h : j ≤ 1000000 ∧ -1000000 ≤ j ∧ u.length * j.toNat ≤ LIM
    · rw [if_pos h, w_new]
      simp only [h, true_and, and_self]
    · rw [if_neg h]
      simp only [eq_false h, false_and]
      first | rfl | (simp only [is_none, is_sq, isB_none, isB_some, Option.map_none, Option.map_some]; done) | (simp only [is_none, is_sq, isB_none, isB_some, Option.map_none, Option.map_some]; rfl)
theorem o_fdiv : Is (opB .fdiv (.int i) (.int j) S) P = ((0 < j ∧ j < 1073741824) ∧ P (.int (i / j)) S) := by simp only [opB]; exact isI_ite _ _
theorem o_mod : Is (opB .mod (.int i) (.int j) S) P = (0 < j ∧ P (.int (i % j)) S) := by simp only [opB]; exact isI_ite _ _
theorem o_pow : Is (opB .pow (.int i) (.int j) S) P = ((0 ≤ j ∧ j ≤ 1000000 ∧ i.natAbs < 2 ^ 64) ∧ P (.int (i ^ j.toNat)) S) := by simp only [opB]; exact isI_ite _ _
theorem c_ltI : IsB (opC .lt (.int i) (.int j) S) Q = Q (decide (i < j)) := isB_some _ _
theorem c_ltS : IsB (opC .lt (.str x) (.str y) S) Q = Q (decide (x < y)) := isB_some _ _
theorem c_leS : IsB (opC .le (.str x) (.str y) S) Q = Q (!decide (y < x)) := isB_some _ _
theorem c_le : IsB (opC .le (.int i) (.int j) S) Q = Q (decide (i ≤ j)) := isB_some _ _
theorem c_gt : IsB (opC .gt (.int i) (.int j) S) Q = Q (decide (j < i)) := isB_some _ _
theorem c_ge : IsB (opC .ge (.int i) (.int j) S) Q = Q (decide (j ≤ i)) := isB_some _ _
theorem c_eq (x y : W) : IsB (opC .eq x y S) Q = IsB (eqW S x y) Q := rfl
theorem c_ne (x y : W) : IsB (opC .ne x y S) Q = IsB (eqW S x y) fun k => Q (!k) := by
  simp only [opC]
  cases eqW S x y <;> first | rfl | (simp only [is_none, is_sq, isB_none, isB_some, Option.map_none, Option.map_some]; done) | (simp only [is_none, is_sq, isB_none, isB_some, Option.map_none, Option.map_some]; rfl)
theorem e_ii : eqW S (.int i) (.int j) = some (decide (i = j)) := rfl
theorem e_ss : eqW S (.str x) (.str y) = some (decide (x = y)) := rfl
theorem e_bb : eqW S (.bl a) (.bl b) = some (decide (a = b)) := rfl
theorem c_inS (c : Nat) : IsB (opC .isIn (.str [c]) (.str x) S) Q = Q (decide (c ∈ x)) := isB_some _ _
theorem c_notS (c : Nat) : IsB (opC .notIn (.str [c]) (.str x) S) Q = Q (!decide (c ∈ x)) := isB_some _ _
theorem i_str : Is (opIx (.str x) (.int i) S) P = (x.length ≤ LIM ∧ match atI x i with | some c => P (.str [c]) S | none => False) := by
  simp only [opIx]
  by_cases h : x.length ≤ LIM
  · simp only [h, if_true, true_and]
    cases atI x i <;> first | rfl | (simp only [is_none, is_sq, isB_none, isB_some, Option.map_none, Option.map_some]; done) | (simp only [is_none, is_sq, isB_none, isB_some, Option.map_none, Option.map_some]; rfl)
  · simp only [h, if_false, false_and]
    first | rfl | (simp only [is_none, is_sq, isB_none, isB_some, Option.map_none, Option.map_some]; done) | (simp only [is_none, is_sq, isB_none, isB_some, Option.map_none, Option.map_some]; rfl)
theorem i_tup : Is (opIx (.tup u) (.int i) S) P = match atI u i with | some c => P c S | none => False := by
  simp only [opIx]
  cases atI u i <;> first | rfl | (simp only [is_none, is_sq, isB_none, isB_some, Option.map_none, Option.map_some]; done) | (simp only [is_none, is_sq, isB_none, isB_some, Option.map_none, Option.map_some]; rfl)
theorem i_ref : Is (opIx (.ref k) (.int i) S) P = match rdL S k with | some u => (match atI u i with | some c => P c S | none => False) | none => False := by
  simp only [opIx]
  cases rdL S k with
  | none => first | rfl | (simp only [is_none, is_sq, isB_none, isB_some, Option.map_none, Option.map_some]; done) | (simp only [is_none, is_sq, isB_none, isB_some, Option.map_none, Option.map_some]; rfl)
  | some u =>
    simp only
    cases atI u i <;> first | rfl | (simp only [is_none, is_sq, isB_none, isB_some, Option.map_none, Option.map_some]; done) | (simp only [is_none, is_sq, isB_none, isB_some, Option.map_none, Option.map_some]; rfl)
theorem atI_lit {α : Type} (xs : List α) (n : Nat) : atI xs (n : Int) = xs[n]? := by
  unfold atI ixN
  rw [if_pos (by omega)]
  by_cases h : n < xs.length
  · rw [if_pos (by omega)]
    simp
  · rw [if_neg (by omega), List.getElem?_eq_none (by omega)]
    first | rfl | (simp only [is_none, is_sq, isB_none, isB_some, Option.map_none, Option.map_some]; done) | (simp only [is_none, is_sq, isB_none, isB_some, Option.map_none, Option.map_some]; rfl)
theorem atI_0 {α : Type} (xs : List α) : atI xs 0 = xs[0]? := atI_lit xs 0
theorem atI_1 {α : Type} (xs : List α) : atI xs 1 = xs[1]? := atI_lit xs 1
theorem atI_2 {α : Type} (xs : List α) : atI xs 2 = xs[2]? := atI_lit xs 2
theorem atI_3 {α : Type} (xs : List α) : atI xs 3 = xs[3]? := atI_lit xs 3
theorem atI_nn {α : Type} (xs : List α) (h : 0 ≤ i) : atI xs i = xs[i.toNat]? := by
  obtain ⟨n, rfl⟩ : ∃ n : Nat, i = (n : Int) := ⟨i.toNat, by omega⟩
  rw [atI_lit]
  simp
theorem ixN_nn {n : Nat} (h : 0 ≤ i) (h2 : i < n) : ixN n i = some i.toNat := by
  unfold ixN
  rw [if_pos h, if_pos h2]
theorem ixN_0 {n : Nat} : ixN (n + 1) 0 = some 0 := ixN_nn (by omega) (by omega)
theorem ixN_1 {n : Nat} : ixN (n + 1 + 1) 1 = some 1 := ixN_nn (by omega) (by omega)
variable {lo hi : Option Int}
theorem l_str : Is (opSl (.str x) lo hi S) P = (x.length ≤ LIM ∧ P (.str (cut x lo hi)) S) := by simp only [opSl]; exact isI_ite _ _
theorem l_tup : Is (opSl (.tup u) lo hi S) P = P (.tup (cut u lo hi)) S := is_some _ _ _
theorem l_rol : Is (opSl (.rol u) lo hi S) P = ((cut u lo hi).length ≤ LIM ∧ P (.ref S.length) (S ++ [.lst (cut u lo hi)])) := by simp only [opSl]; exact w_new _
theorem l_ref : Is (opSl (.ref k) lo hi S) P = match rdL S k with | some u => (cut u lo hi).length ≤ LIM ∧ P (.ref S.length) (S ++ [.lst (cut u lo hi)]) | none => False := by
  simp only [opSl]
  cases rdL S k with
  | none => first | rfl | (simp only [is_none, is_sq, isB_none, isB_some, Option.map_none, Option.map_some]; done) | (simp only [is_none, is_sq, isB_none, isB_some, Option.map_none, Option.map_some]; rfl)
  | some u => exact w_new _
theorem b_lenS : Is (opI .len [.str x] S) P = (x.length ≤ LIM ∧ P (.int x.length) S) := by simp only [opI]; exact isI_ite _ _
theorem b_lenT : Is (opI .len [.tup u] S) P = P (.int u.length) S := is_some _ _ _
theorem b_lenR : Is (opI .len [.ref k] S) P = match rdL S k with | some u => P (.int u.length) S | none => False := by
  simp only [opI]
  cases rdL S k <;> first | rfl | (simp only [is_none, is_sq, isB_none, isB_some, Option.map_none, Option.map_some]; done) | (simp only [is_none, is_sq, isB_none, isB_some, Option.map_none, Option.map_some]; rfl)
theorem b_abs : Is (opI .abs [.int i] S) P = P (.int (if i < 0 then -i else i)) S := is_some _ _ _
theorem b_tupR : Is (opI .tuple [.ref k] S) P = match rdL S k with | some u => P (.tup u) S | none => False := by
  simp only [opI]
  cases rdL S k <;> first | rfl | (simp only [is_none, is_sq, isB_none, isB_some, Option.map_none, Option.map_some]; done) | (simp only [is_none, is_sq, isB_none, isB_some, Option.map_none, Option.map_some]; rfl)
theorem b_tupT : Is (opI .tuple [.tup u] S) P = P (.tup u) S := is_some _ _ _
theorem b_listR : Is (opI .list [.ref k] S) P = match rdL S k with | some u => u.length ≤ LIM ∧ P (.ref S.length) (S ++ [.lst u]) | none => False := by
  simp only [opI]
  cases rdL S k with
  | none => first | rfl | (simp only [is_none, is_sq, isB_none, isB_some, Option.map_none, Option.map_some]; done) | (simp only [is_none, is_sq, isB_none, isB_some, Option.map_none, Option.map_some]; rfl)
  | some u => exact w_new _
theorem b_listT : Is (opI .list [.tup u] S) P = (u.length ≤ LIM ∧ P (.ref S.length) (S ++ [.lst u])) := by simp only [opI]; exact w_new _
theorem b_all : Is (opI .all [.ref k] S) P = match rdL S k with | some u => (match bls u with | some bs => P (.bl (bs.all id)) S | none => False) | none => False := by
  simp only [opI]
  cases rdL S k with
  | none => first | rfl | (simp only [is_none, is_sq, isB_none, isB_some, Option.map_none, Option.map_some]; done) | (simp only [is_none, is_sq, isB_none, isB_some, Option.map_none, Option.map_some]; rfl)
  | some u =>
    simp only
    cases bls u <;> first | rfl | (simp only [is_none, is_sq, isB_none, isB_some, Option.map_none, Option.map_some]; done) | (simp only [is_none, is_sq, isB_none, isB_some, Option.map_none, Option.map_some]; rfl)
theorem b_any : Is (opI .any [.ref k] S) P = match rdL S k with | some u => (match bls u with | some bs => P (.bl (bs.any id)) S | none => False) | none => False := by
  simp only [opI]
  cases rdL S k with
  | none => first | rfl | (simp only [is_none, is_sq, isB_none, isB_some, Option.map_none, Option.map_some]; done) | (simp only [is_none, is_sq, isB_none, isB_some, Option.map_none, Option.map_some]; rfl)
  | some u =>
    simp only
    cases bls u <;> first | rfl | (simp only [is_none, is_sq, isB_none, isB_some, Option.map_none, Option.map_some]; done) | (simp only [is_none, is_sq, isB_none, isB_some, Option.map_none, Option.map_some]; rfl)
theorem b_intI : Is (opI .int [.int i] S) P = P (.int i) S := is_some _ _ _
theorem b_intB : Is (opI .int [.bl a] S) P = P (.int (if a then 1 else 0)) S := is_some _ _ _
theorem b_isiN (t : Nat) : Is (opI (.isi t) [.non] S) P = P (.bl (isT t .non)) S := is_some _ _ _
theorem b_isiB (t : Nat) (a : Bool) : Is (opI (.isi t) [(.bl a)] S) P = P (.bl (isT t (.bl a))) S := is_some _ _ _
theorem b_isiI (t : Nat) (i : Int) : Is (opI (.isi t) [(.int i)] S) P = P (.bl (isT t (.int i))) S := is_some _ _ _
theorem b_isiS (t : Nat) (x : List Nat) : Is (opI (.isi t) [(.str x)] S) P = P (.bl (isT t (.str x))) S := is_some _ _ _
theorem b_isiT (t : Nat) (u : List W) : Is (opI (.isi t) [(.tup u)] S) P = P (.bl (isT t (.tup u))) S := is_some _ _ _
theorem b_isiR (t : Nat) (k : Nat) : Is (opI (.isi t) [(.ref k)] S) P = P (.bl (isT t (.ref k))) S := is_some _ _ _
theorem b_isiL (t : Nat) (u : List W) : Is (opI (.isi t) [(.rol u)] S) P = P (.bl (isT t (.rol u))) S := is_some _ _ _
theorem b_isi (t : Nat) (h : isFn w = false) : Is (opI (.isi t) [w] S) P = P (.bl (isT t w)) S := by
  cases w <;> first | exact is_some _ _ _ | cases h
theorem b_isN : Is (opI .isN [w] S) P = P (.bl (isNon w)) S := is_some _ _ _
theorem b_notN : Is (opI .notN [w] S) P = P (.bl (!isNon w)) S := is_some _ _ _
theorem b_iaddI : Is (opI .iadd [.int i, .int j] S) P = P (.int (i + j)) S := is_some _ _ _
theorem b_iaddS : Is (opI .iadd [.str x, .str y] S) P = (x.length + y.length ≤ LIM ∧ P (.str (x ++ y)) S) := by simp only [opI]; exact isI_ite _ _
theorem b_isub : Is (opI .isub [.int i, .int j] S) P = P (.int (i - j)) S := is_some _ _ _
theorem b_neg : Is (opI .neg [.int i] S) P = P (.int (-i)) S := is_some _ _ _
theorem b_rev : Is (opI .rev [.ref k] S) P = match rdL S k with | some u => u.reverse.length ≤ LIM ∧ P (.ref S.length) (S ++ [.lst u.reverse]) | none => False := by
  simp only [opI]
  cases rdL S k with
  | none => first | rfl | (simp only [is_none, is_sq, isB_none, isB_some, Option.map_none, Option.map_some]; done) | (simp only [is_none, is_sq, isB_none, isB_some, Option.map_none, Option.map_some]; rfl)
  | some u => exact w_new _
theorem b_join : Is (opI .join [.str x, .ref k] S) P = match rdL S k with | some u => (match txts u with | some ys => lens ys + ys.length * x.length ≤ LIM ∧ P (.str (joinL x ys)) S | none => False) | none => False := by
  simp only [opI]
  cases rdL S k with
  | none => first | rfl | (simp only [is_none, is_sq, isB_none, isB_some, Option.map_none, Option.map_some]; done) | (simp only [is_none, is_sq, isB_none, isB_some, Option.map_none, Option.map_some]; rfl)
  | some u =>
    simp only
    cases txts u with
    | none => first | rfl | (simp only [is_none, is_sq, isB_none, isB_some, Option.map_none, Option.map_some]; done) | (simp only [is_none, is_sq, isB_none, isB_some, Option.map_none, Option.map_some]; rfl)
    | some ys => exact isI_ite _ _
theorem t_str : isT 0 (.str x) = true := rfl
theorem joinL_nil : ∀ ys : List (List Nat), joinL [] ys = ys.flatten
  | [] => rfl
  | [x] => by simp [joinL]
  | x :: y :: r => by
    rw [joinL, joinL_nil (y :: r)]
    simp
    intro h
    cases h
theorem txts_map (ys : List (List Nat)) : txts (ys.map .str) = some ys := by
  induction ys with
  | nil => rfl
  | cons y r ih => simp [txts, ih]
theorem bls_map (bs : List Bool) : bls (bs.map .bl) = some bs := by
  induction bs with
  | nil => rfl
  | cons y r ih => simp [bls, ih]
theorem lens_sum (ys : List (List Nat)) : lens ys = ys.flatten.length := by
  induction ys with
  | nil => rfl
  | cons y r ih => simp [lens, ih]
theorem rng_small {j : Int} (h1 : -1000000000 ≤ j) (h2 : j ≤ 1000000000) : rngOk j = true := decide_eq_true (by omega)
theorem flat_ones (x : List Nat) : (x.map fun c => [c]).flatten = x := by
  induction x with
  | nil => rfl
  | cons a r ih => simp [ih]
theorem ones_str (x : List Nat) : (x.map fun c => W.str [c]) = (x.map fun c => [c]).map W.str := by rw [List.map_map]; rfl
/-! == of a list of texts and an empty list -/
theorem dats_len {f : W → Option D} : ∀ {ws : List W} {ds : List D}, dats f ws = some ds → ds.length = ws.length
  | [], ds, h => by cases h; rfl
  | w :: ws, ds, h => by
    unfold dats at h
    split at h
    · rename_i d ds' h1 h2
      cases h
      rw [List.length_cons, List.length_cons, dats_len h2]
    · cases h
theorem eqvs_nil (ds : List D) : D.eqvs ds [] = ds.isEmpty := by cases ds <;> simp [D.eqvs]
theorem eqW_nil {S : Sto} {a b : Nat} {ws : List W} {ds : List D} (ha : rdL S a = some ws) (hd : dats (dat S 59) ws = some ds) (hb : rdL S b = some []) : eqW S (.ref a) (.ref b) = some ws.isEmpty := by
  have e1 : dat S 60 (.ref a) = some (.lst ds) := by simp only [dat, ha, hd]; rfl
  have e2 : dat S 60 (.ref b) = some (.lst []) := by simp only [dat, hb, dats]; rfl
  simp only [eqW, e1, e2, D.eqv, eqvs_nil]
  have := dats_len hd
  cases ds <;> cases ws <;> simp_all
theorem dats_strs {S : Sto} {n : Nat} : ∀ (ys : List (List Nat)), (∀ y ∈ ys, ∀ c ∈ y, c < 1114112) → ∃ ds, dats (dat S n) (ys.map .str) = some ds
  | [], _ => ⟨[], rfl⟩
  | y :: r, h => by
    obtain ⟨ds, e⟩ := dats_strs (S := S) (n := n) r fun z hz => h z (List.mem_cons_of_mem _ hz)
    have q : dat S n (.str y) = some (.str y) := by
      have : (y.all fun c => decide (c < 1114112)) = true := List.all_eq_true.mpr fun c hc => decide_eq_true (h y List.mem_cons_self c hc)
      cases n <;> simp only [dat, this, if_true]
    exact ⟨.str y :: ds, by simp only [List.map_cons, dats, q, e]⟩
/-! the store behind a step -/
theorem rdL_app {xs : List W} {o : SO} (h : rdL S k = some xs) : rdL (S ++ [o]) k = some xs := by
  rw [rdL_iff] at *
  rw [List.getElem?_append_left (List.getElem?_eq_some_iff.mp h).1]
  exact h
theorem rdL_set_same {xs ys : List W} (h : rdL S k = some xs) : rdL (S.set k (.lst ys)) k = some ys := by
  rw [rdL_iff] at *
  rw [List.getElem?_set_self (List.getElem?_eq_some_iff.mp h).1]
theorem rdL_set_ne {o : SO} (h : k ≠ l) : rdL (S.set k o) l = rdL S l := by
  unfold rdL
  rw [List.getElem?_set_ne h]
end
end MP
namespace Pg
open MP
def c_SIGNS : List Nat := [32, 97, 98, 99, 100, 101, 102, 103, 104, 105, 106, 107, 108, 109, 110, 111, 112, 113, 114, 115, 116, 117, 118, 119, 120, 121, 122]
/-- write: 0 pattern, 1 kind, 2 part -/
def b_write : CSs := (.cons (.set [1] (.ix (.var 0) (.c (.int 0)))) (.cons (.ifs (.cmp .eq (.var 1) (.c (.str [115, 105, 103, 110]))) (.cons (.ret (.call 72 (.cons (.ix (.var 0) (.c (.int 1))) .nil))) .nil) .nil) (.cons (.ifs (.cmp .eq (.var 1) (.c (.str [114, 111, 119]))) (.cons (.ret (.bi .join (.cons (.c (.str [])) (.cons (.comp [2] [2] (.val (.ix (.var 0) (.c (.int 1)))) (.c (.bl true)) (.call 73 (.cons (.var 2) (.cons (.tup (.cons (.c (.str [97, 110, 121])) .nil)) .nil)))) .nil)))) .nil) .nil) (.cons (.ifs (.cmp .eq (.var 1) (.c (.str [97, 110, 121]))) (.cons (.ret (.bi .join (.cons (.c (.str [124])) (.cons (.comp [2] [2] (.val (.ix (.var 0) (.c (.int 1)))) (.c (.bl true)) (.call 71 (.cons (.var 2) .nil))) .nil)))) .nil) .nil) (.cons (.ifs (.cmp .eq (.var 1) (.c (.str [115, 111, 109, 101]))) (.cons (.ret (.bin .add (.call 73 (.cons (.ix (.var 0) (.c (.int 3))) (.cons (.tup (.cons (.c (.str [114, 111, 119])) (.cons (.c (.str [97, 110, 121])) (.cons (.c (.str [115, 111, 109, 101])) .nil)))) .nil))) (.call 74 (.cons (.ix (.var 0) (.c (.int 1))) (.cons (.ix (.var 0) (.c (.int 2))) .nil))))) .nil) .nil) (.cons (.ret (.bi .fcat (.cons (.c (.str [60])) (.cons (.ix (.var 0) (.c (.int 1))) (.cons (.c (.str [58])) (.cons (.call 71 (.cons (.ix (.var 0) (.c (.int 2))) .nil)) (.cons (.c (.str [62])) .nil))))))) .nil))))))
/-- write_signs: 0 signs -/
def b_write_signs : CSs := (.cons (.ifs (.cmp .eq (.bi .len (.cons (.var 0) .nil)) (.c (.int 1))) (.cons (.ret (.var 0)) .nil) .nil) (.cons (.ifs (.cmp .eq (.var 0) (.c (.str c_SIGNS))) (.cons (.ret (.c (.str [46]))) .nil) .nil) (.cons (.ret (.bi .fcat (.cons (.c (.str [91])) (.cons (.var 0) (.cons (.c (.str [93])) .nil))))) .nil)))
/-- bracketed: 0 pattern, 1 kinds -/
def b_bracketed : CSs := (.cons (.ifs (.cmp .isIn (.ix (.var 0) (.c (.int 0))) (.var 1)) (.cons (.ret (.bi .fcat (.cons (.c (.str [40])) (.cons (.call 71 (.cons (.var 0) .nil)) (.cons (.c (.str [41])) .nil))))) .nil) .nil) (.cons (.ret (.call 71 (.cons (.var 0) .nil))) .nil))
/-- write_times: 0 low, 1 high -/
def b_write_times : CSs := (.cons (.ifs (.cmp .eq (.var 1) (.c (.int 1))) (.cons (.ret (.c (.str [63]))) .nil) .nil) (.cons (.ret (.ite (.cmp .eq (.var 0) (.c (.int 0))) (.c (.str [42])) (.c (.str [43])))) .nil))
/-- _law_deck: 0 _law_script, 1 _law_cell -/
def b_law_deck : CSs := (.cons (.ret (.lst (.cons (.comp [1] [1] (.val (.sl (.var 0) .no (.yes (.c (.int 63))))) (.c (.bl true)) (.bi .abs (.cons (.var 1) .nil))) (.cons (.c (.int 0)) .nil)))) .nil)
/-- _law_draw: 0 _law_deck_here, 1 _law_many, 2 _law_cell, 3 _law_place -/
def b_law_draw : CSs := (.cons (.setix (.var 0) (.c (.int 1)) (.bin .add (.ix (.var 0) (.c (.int 1))) (.c (.int 1)))) (.cons (.set [2] (.c (.int 0))) (.cons (.set [3] (.bi .neg (.cons (.c (.int 1)) .nil))) (.cons (.ifs (.cmp .gt (.bi .len (.cons (.ix (.var 0) (.c (.int 0))) .nil)) (.c (.int 0))) (.cons (.set [3] (.bin .mod (.ix (.var 0) (.c (.int 1))) (.bi .len (.cons (.ix (.var 0) (.c (.int 0))) .nil)))) (.cons (.set [2] (.ix (.ix (.var 0) (.c (.int 0))) (.var 3))) .nil)) .nil) (.cons (.ifs (.cmp .ge (.var 2) (.bin .pow (.c (.int 10)) (.c (.int 18)))) (.cons (.setix (.ix (.var 0) (.c (.int 0))) (.var 3) (.bin .fdiv (.var 2) (.var 1))) (.cons (.ret (.bin .mod (.var 2) (.var 1))) .nil)) .nil) (.cons (.ret (.bin .mod (.bin .mod (.bin .pow (.bin .add (.bin .add (.bin .mod (.var 2) (.c (.int 2147483587))) (.bin .mul (.c (.int 7919)) (.ix (.var 0) (.c (.int 1))))) (.c (.int 1))) (.c (.int 5))) (.c (.int 2147483647))) (.var 1))) .nil))))))
/-- _law_letters: 0 _law_deck_here, 1 _law_many, 2 _law_k -/
def b_law_letters : CSs := (.cons (.ret (.bi .join (.cons (.c (.str [])) (.cons (.comp [2] [2] (.rng1 (.var 1)) (.c (.bl true)) (.ix (.c (.str [97, 98, 99, 100, 101, 102, 103, 104, 105, 106, 107, 108, 109, 110, 111, 112, 113, 114, 115, 116, 117, 118, 119, 120, 121, 122])) (.call 4 (.cons (.var 0) (.cons (.c (.int 26)) .nil))))) .nil)))) .nil)
/-- _law_names: 0 _law_deck_here, 1 _law_many, 2 _law_letters_here, 3 _law_stem, 4 _law_at, 5 _law_first, 6 _law_step, 7 _law_k -/
def b_law_names : CSs := (.cons (.set [2] (.c (.str [97, 98, 99, 100, 101, 102, 103, 104, 105, 106, 107, 108, 109, 110, 111, 112, 113, 114, 115, 116, 117, 118, 119, 120, 121, 122]))) (.cons (.set [3] (.call 5 (.cons (.var 0) (.cons (.ix (.lst (.cons (.c (.int 0)) (.cons (.c (.int 0)) (.cons (.c (.int 1)) (.cons (.c (.int 2)) (.cons (.c (.int 3)) (.cons (.c (.int 5)) (.cons (.c (.int 6)) (.cons (.c (.int 7)) .nil))))))))) (.call 4 (.cons (.var 0) (.cons (.c (.int 8)) .nil)))) .nil)))) (.cons (.set [4] (.call 4 (.cons (.var 0) (.cons (.bin .add (.bi .len (.cons (.var 3) .nil)) (.c (.int 1))) .nil)))) (.cons (.set [5] (.call 4 (.cons (.var 0) (.cons (.c (.int 26)) .nil)))) (.cons (.set [6] (.ix (.lst (.cons (.c (.int 1)) (.cons (.c (.int 3)) (.cons (.c (.int 5)) (.cons (.c (.int 7)) (.cons (.c (.int 9)) (.cons (.c (.int 11)) (.cons (.c (.int 15)) (.cons (.c (.int 17)) .nil))))))))) (.call 4 (.cons (.var 0) (.cons (.c (.int 8)) .nil))))) (.cons (.ret (.comp [7] [7] (.rng1 (.var 1)) (.c (.bl true)) (.bin .add (.bin .add (.sl (.var 3) .no (.yes (.var 4))) (.ix (.var 2) (.bin .mod (.bin .add (.var 5) (.bin .mul (.var 6) (.var 7))) (.c (.int 26))))) (.sl (.var 3) (.yes (.var 4)) .no)))) .nil))))))
/-- _law_signs: 0 _law_deck_here, 1 _law_some, 2 _law_way, 3 _law_first, 4 _law_found, 5 _law_sign -/
def b_law_signs : CSs := (.cons (.set [1] (.c (.str [32, 97, 98, 99, 100, 101, 102, 103, 104, 105, 106, 107, 108, 109, 110, 111, 112, 113, 114, 115, 116, 117, 118, 119, 120, 121, 122]))) (.cons (.set [2] (.call 4 (.cons (.var 0) (.cons (.c (.int 5)) .nil)))) (.cons (.set [3] (.call 4 (.cons (.var 0) (.cons (.c (.int 27)) .nil)))) (.cons (.ifs (.cmp .lt (.var 2) (.c (.int 2))) (.cons (.ret (.ix (.var 1) (.var 3))) .nil) .nil) (.cons (.ifs (.cmp .eq (.var 2) (.c (.int 2))) (.cons (.ret (.var 1)) .nil) .nil) (.cons (.ifs (.cmp .eq (.var 2) (.c (.int 3))) (.cons (.ret (.sl (.var 1) (.yes (.var 3)) (.yes (.bin .add (.bin .add (.var 3) (.c (.int 1))) (.call 4 (.cons (.var 0) (.cons (.c (.int 27)) .nil))))))) .nil) .nil) (.cons (.set [4] (.comp [5] [5] (.val (.var 1)) (.cmp .eq (.call 4 (.cons (.var 0) (.cons (.c (.int 3)) .nil))) (.c (.int 0))) (.var 5))) (.cons (.ret (.bi .join (.cons (.c (.str [])) (.cons (.bin .add (.var 4) (.bin .mul (.lst (.cons (.ix (.var 1) (.var 3)) .nil)) (.bi .int (.cons (.cmp .eq (.var 4) (.lst .nil)) .nil)))) .nil)))) .nil))))))))
/-- _law_flat: 0 _law_parts, 1 _law_word, 2 _law_found, 3 _law_part -/
def b_law_flat : CSs := (.cons (.set [2] (.lst .nil)) (.cons (.for_ [3] (.val (.var 0)) (.cons (.ifs (.cmp .eq (.ix (.var 3) (.c (.int 0))) (.var 1)) (.cons (.set [2] (.bin .add (.var 2) (.bi .list (.cons (.ix (.var 3) (.c (.int 1))) .nil)))) .nil) (.cons (.app (.var 2) (.var 3)) .nil)) .nil)) (.cons (.ret (.var 2)) .nil)))
/-- _law_form: 0 _law_deck_here, 1 _law_left, 2 _law_deep, 3 _law_names_here, 4 _law_way, 5 _law_many, 6 _law_count, 7 _law_signs_here, 8 _law_word, 9 _law_parts, 10 _law_k -/
def b_law_form : CSs := (.cons (.set [4] (.call 4 (.cons (.var 0) (.cons (.c (.int 10)) .nil)))) (.cons (.set [5] (.ix (.lst (.cons (.c (.int 2)) (.cons (.c (.int 2)) (.cons (.c (.int 3)) (.cons (.c (.int 4)) .nil))))) (.call 4 (.cons (.var 0) (.cons (.c (.int 4)) .nil))))) (.cons (.set [6] (.ix (.lst (.cons (.tup (.cons (.c (.int 0)) (.cons (.c (.int 1)) .nil))) (.cons (.tup (.cons (.c (.int 0)) (.cons (.c .non) .nil))) (.cons (.tup (.cons (.c (.int 1)) (.cons (.c .non) .nil))) .nil)))) (.call 4 (.cons (.var 0) (.cons (.c (.int 3)) .nil))))) (.cons (.set [7] (.call 22 (.cons (.var 0) .nil))) (.cons (.ifs (.cmp .eq (.var 4) (.c (.int 9))) (.cons (.ret (.tup (.cons (.c (.str [114, 111, 119])) (.cons (.tup .nil) .nil)))) .nil) .nil) (.cons (.ifs (.or (.cmp .lt (.var 4) (.c (.int 2))) (.or (.cmp .lt (.var 2) (.c (.int 2))) (.cmp .lt (.ix (.var 1) (.c (.int 0))) (.c (.int 4))))) (.cons (.ret (.tup (.cons (.c (.str [115, 105, 103, 110])) (.cons (.var 7) .nil)))) .nil) .nil) (.cons (.ifs (.cmp .gt (.var 4) (.c (.int 6))) (.cons (.setix (.var 1) (.c (.int 0)) (.bin .sub (.ix (.var 1) (.c (.int 0))) (.c (.int 1)))) (.cons (.ret (.tup (.cons (.c (.str [109, 97, 114, 107])) (.cons (.ix (.var 3) (.call 4 (.cons (.var 0) (.cons (.bi .len (.cons (.var 3) .nil)) .nil)))) (.cons (.call 24 (.cons (.var 0) (.cons (.var 1) (.cons (.bin .sub (.var 2) (.c (.int 1))) (.cons (.var 3) .nil))))) .nil))))) .nil)) .nil) (.cons (.ifs (.cmp .gt (.var 4) (.c (.int 4))) (.cons (.setix (.var 1) (.c (.int 0)) (.bin .sub (.ix (.var 1) (.c (.int 0))) (.c (.int 1)))) (.cons (.ret (.tup (.cons (.c (.str [115, 111, 109, 101])) (.cons (.ix (.var 6) (.c (.int 0))) (.cons (.ix (.var 6) (.c (.int 1))) (.cons (.call 24 (.cons (.var 0) (.cons (.var 1) (.cons (.bin .sub (.var 2) (.c (.int 1))) (.cons (.var 3) .nil))))) .nil)))))) .nil)) .nil) (.cons (.setix (.var 1) (.c (.int 0)) (.bin .sub (.ix (.var 1) (.c (.int 0))) (.var 5))) (.cons (.set [8] (.ix (.lst (.cons (.c (.str [114, 111, 119])) (.cons (.c (.str [97, 110, 121])) .nil))) (.bin .mod (.var 4) (.c (.int 2))))) (.cons (.set [9] (.call 23 (.cons (.comp [10] [10] (.rng1 (.var 5)) (.c (.bl true)) (.call 24 (.cons (.var 0) (.cons (.var 1) (.cons (.bin .sub (.var 2) (.c (.int 1))) (.cons (.var 3) .nil)))))) (.cons (.var 8) .nil)))) (.cons (.ifs (.cmp .eq (.bi .len (.cons (.var 9) .nil)) (.c (.int 1))) (.cons (.ret (.ix (.var 9) (.c (.int 0)))) .nil) .nil) (.cons (.ifs (.and (.cmp .eq (.var 9) (.lst .nil)) (.cmp .eq (.var 8) (.c (.str [97, 110, 121])))) (.cons (.ret (.tup (.cons (.c (.str [115, 105, 103, 110])) (.cons (.var 7) .nil)))) .nil) .nil) (.cons (.ret (.tup (.cons (.var 8) (.cons (.bi .tuple (.cons (.var 9) .nil)) .nil)))) .nil))))))))))))))
/-- _law_pattern: 0 _law_deck_here, 1 _law_most, 2 _law_deep, 3 _law_names_here -/
def b_law_pattern : CSs := (.cons (.set [3] (.call 21 (.cons (.var 0) (.cons (.bin .add (.c (.int 1)) (.call 4 (.cons (.var 0) (.cons (.c (.int 4)) .nil)))) .nil)))) (.cons (.ret (.call 24 (.cons (.var 0) (.cons (.lst (.cons (.call 4 (.cons (.var 0) (.cons (.var 1) .nil))) .nil)) (.cons (.bin .add (.c (.int 1)) (.call 4 (.cons (.var 0) (.cons (.var 2) .nil)))) (.cons (.var 3) .nil)))))) .nil))
/-- _law_written: 0 _law_form_here, 1 _law_texts, 2 _law_part, 3 _law_count, 4 _law_text -/
def b_law_written : CSs := (.cons (.ifs (.cmp .eq (.ix (.var 0) (.c (.int 0))) (.c (.str [115, 105, 103, 110]))) (.cons (.ifs (.cmp .eq (.ix (.var 0) (.c (.int 1))) (.c (.str [32, 97, 98, 99, 100, 101, 102, 103, 104, 105, 106, 107, 108, 109, 110, 111, 112, 113, 114, 115, 116, 117, 118, 119, 120, 121, 122]))) (.cons (.ret (.c (.str [46]))) .nil) .nil) (.cons (.ifs (.cmp .eq (.bi .len (.cons (.ix (.var 0) (.c (.int 1))) .nil)) (.c (.int 1))) (.cons (.ret (.ix (.var 0) (.c (.int 1)))) .nil) .nil) (.cons (.ret (.bin .add (.bin .add (.c (.str [91])) (.ix (.var 0) (.c (.int 1)))) (.c (.str [93])))) .nil))) .nil) (.cons (.ifs (.cmp .eq (.ix (.var 0) (.c (.int 0))) (.c (.str [109, 97, 114, 107]))) (.cons (.ret (.bin .add (.bin .add (.bin .add (.bin .add (.c (.str [60])) (.ix (.var 0) (.c (.int 1)))) (.c (.str [58]))) (.call 75 (.cons (.ix (.var 0) (.c (.int 2))) .nil))) (.c (.str [62])))) .nil) .nil) (.cons (.ifs (.cmp .eq (.ix (.var 0) (.c (.int 0))) (.c (.str [115, 111, 109, 101]))) (.cons (.set [3] (.bi (.dlit [([some 0, some 1], [63]), ([some 0, none], [42]), ([some 1, none], [43])]) (.cons (.sl (.var 0) (.yes (.c (.int 1))) (.yes (.c (.int 3)))) .nil))) (.cons (.ifs (.or (.cmp .eq (.ix (.ix (.var 0) (.c (.int 3))) (.c (.int 0))) (.c (.str [115, 105, 103, 110]))) (.cmp .eq (.ix (.ix (.var 0) (.c (.int 3))) (.c (.int 0))) (.c (.str [109, 97, 114, 107])))) (.cons (.ret (.bin .add (.call 75 (.cons (.ix (.var 0) (.c (.int 3))) .nil)) (.var 3))) .nil) .nil) (.cons (.ret (.bin .add (.bin .add (.bin .add (.c (.str [40])) (.call 75 (.cons (.ix (.var 0) (.c (.int 3))) .nil))) (.c (.str [41]))) (.var 3))) .nil))) .nil) (.cons (.set [1] (.lst .nil)) (.cons (.for_ [2] (.val (.ix (.var 0) (.c (.int 1)))) (.cons (.set [4] (.call 75 (.cons (.var 2) .nil))) (.cons (.ifs (.and (.cmp .eq (.ix (.var 0) (.c (.int 0))) (.c (.str [114, 111, 119]))) (.cmp .eq (.ix (.var 2) (.c (.int 0))) (.c (.str [97, 110, 121])))) (.cons (.set [4] (.bin .add (.bin .add (.c (.str [40])) (.var 4)) (.c (.str [41])))) .nil) .nil) (.cons (.app (.var 1) (.var 4)) .nil)))) (.cons (.ret (.bi .join (.cons (.ix (.lst (.cons (.c (.str [])) (.cons (.c (.str [124])) .nil))) (.bi .int (.cons (.cmp .eq (.ix (.var 0) (.c (.int 0))) (.c (.str [97, 110, 121]))) .nil))) (.cons (.var 1) .nil)))) .nil))))))
/-- _law_right: 0 _law_pattern_here, 1 _law_kept, 2 _law_found -/
def b_law_right_v5 : CSs := (.cons (.set [1] (.bi .repr (.cons (.var 0) .nil))) (.cons (.set [2] (.call 71 (.cons (.var 0) .nil))) (.cons (.ret (.and (.bi (.isi 0) (.cons (.var 2) .nil)) (.and (.cmp .eq (.var 2) (.call 75 (.cons (.var 0) .nil))) (.cmp .eq (.bi .repr (.cons (.var 0) .nil)) (.var 1))))) .nil)))
/-- law: 0 _law_script, 1 _law_deck_here, 2 _law_patterns, 3 _law_k, 4 _law_pattern_here -/
def b_law_v7 : CSs := (.cons (.set [1] (.call 3 (.cons (.var 0) .nil))) (.cons (.set [2] (.comp [3] [3] (.rng1 (.c (.int 5))) (.c (.bl true)) (.call 25 (.cons (.var 1) (.cons (.c (.int 59)) (.cons (.c (.int 10)) .nil)))))) (.cons (.ret (.cmp .eq (.comp [4] [4] (.val (.bin .add (.var 2) (.bi .rev (.cons (.var 2) .nil)))) (.not (.call 76 (.cons (.var 4) .nil))) (.var 4)) (.lst .nil))) .nil)))
def ds : Nat → Option Def
  | 71 => some ⟨1, 3, b_write⟩
  | 72 => some ⟨1, 1, b_write_signs⟩
  | 73 => some ⟨2, 2, b_bracketed⟩
  | 74 => some ⟨2, 2, b_write_times⟩
  | 3 => some ⟨1, 2, b_law_deck⟩
  | 4 => some ⟨2, 4, b_law_draw⟩
  | 5 => some ⟨2, 3, b_law_letters⟩
  | 21 => some ⟨2, 8, b_law_names⟩
  | 22 => some ⟨1, 6, b_law_signs⟩
  | 23 => some ⟨2, 4, b_law_flat⟩
  | 24 => some ⟨4, 11, b_law_form⟩
  | 25 => some ⟨3, 4, b_law_pattern⟩
  | 75 => some ⟨1, 5, b_law_written⟩
  | 76 => some ⟨1, 3, b_law_right_v5⟩
  | 77 => some ⟨1, 5, b_law_v7⟩
  | _ => none
abbrev n_write : Nat := 71
abbrev n_write_signs : Nat := 72
abbrev n_bracketed : Nat := 73
abbrev n_write_times : Nat := 74
abbrev n_law_deck : Nat := 3
abbrev n_law_draw : Nat := 4
abbrev n_law_letters : Nat := 5
abbrev n_law_names : Nat := 21
abbrev n_law_signs : Nat := 22
abbrev n_law_flat : Nat := 23
abbrev n_law_form : Nat := 24
abbrev n_law_pattern : Nat := 25
abbrev n_law_written : Nat := 75
abbrev n_law_right_v5 : Nat := 76
abbrev n_law_v7 : Nat := 77
end Pg
namespace Pg
open MP
/-- the deck stands at d, its cells at c; at most n draws so far -/
structure Dk (d c n : Nat) (S : Sto) : Prop where
  ne : d ≠ c
  hd : ∃ cnt : Int, 0 ≤ cnt ∧ cnt ≤ n ∧ S[d]? = some (.lst [.ref c, .int cnt])
  hc : ∃ cells : List Int, cells.length ≤ 63 ∧ (∀ x ∈ cells, 0 ≤ x) ∧ S[c]? = some (.lst (cells.map W.int))
/-- all but the deck stands -/
def Kx (d c : Nat) (S S' : Sto) : Prop := S.length ≤ S'.length ∧ ∀ k, k < S.length → k ≠ d → k ≠ c → S'[k]? = S[k]?
theorem Kx.refl (d c : Nat) (S : Sto) : Kx d c S S := ⟨Nat.le_refl _, fun _ _ _ _ => rfl⟩
theorem Kx.trans {d c : Nat} {S S1 S2 : Sto} (a : Kx d c S S1) (b : Kx d c S1 S2) : Kx d c S S2 := ⟨Nat.le_trans a.1 b.1, fun k h h1 h2 => (b.2 k (Nat.lt_of_lt_of_le h a.1) h1 h2).trans (a.2 k h h1 h2)⟩
theorem Kx.of {d c : Nat} {S S' : Sto} (h : Kp S S') : Kx d c S S' := ⟨h.1, fun k hk _ _ => h.2 k hk⟩
theorem Kx.get {d c : Nat} {S S' : Sto} (h : Kx d c S S') {k : Nat} {o : SO} (e : S[k]? = some o) (h1 : k ≠ d) (h2 : k ≠ c) : S'[k]? = some o := (h.2 k (List.getElem?_eq_some_iff.mp e).1 h1 h2).trans e
theorem Dk.mono {d c n m : Nat} {S : Sto} (h : Dk d c n S) (hm : n ≤ m) : Dk d c m S := by
  obtain ⟨cnt, a, b, e⟩ := h.hd
  exact ⟨h.ne, ⟨cnt, a, by omega, e⟩, h.hc⟩
theorem Dk.kp {d c n : Nat} {S S' : Sto} (h : Dk d c n S) (k : Kp S S') : Dk d c n S' := by
  obtain ⟨cnt, a, b, e⟩ := h.hd
  obtain ⟨cs, x, y, z⟩ := h.hc
  exact ⟨h.ne, ⟨cnt, a, b, k.get e⟩, ⟨cs, x, y, k.get z⟩⟩
theorem Dk.lt {d c n : Nat} {S : Sto} (h : Dk d c n S) : d < S.length ∧ c < S.length := by
  obtain ⟨cnt, a, b, e⟩ := h.hd
  obtain ⟨cs, x, y, z⟩ := h.hc
  exact ⟨(List.getElem?_eq_some_iff.mp e).1, (List.getElem?_eq_some_iff.mp z).1⟩
section
variable {ds : Nat → Option Def}
theorem deck_spec (hds : ds 3 = some ⟨1, 2, b_law_deck⟩) (k : Nat) (S : Sto) (ns : List Int) (hl : ns.length ≤ 63) : Is (callF ds (k + 1) 3 [.rol (ns.map .int)] S) fun w S' => w = .ref (S.length + 2) ∧ Dk (S.length + 2) (S.length + 1) 0 S' ∧ Kp S S' := by
  refine w_callF hds rfl ?_
  simp only [b_law_deck, w_var, w_c, w_bin, w_cmp, w_chain, w_and, w_or, w_ite, w_not, w_nil, w_cons, w_tup, w_lst, w_ix, w_no, w_yes, w_sl, w_call, w_bi, w_val, w_rng1, w_rng2, s_nil, s_cons, s_ret, s_expr, s_set, s_if, s_pass, s_setix, s_app, s_ext, o_addI, o_addS, o_addT, o_addL, o_sub, o_mulI, o_mulS, o_mulL, o_fdiv, o_mod, o_pow, c_ltI, c_ltS, c_le, c_gt, c_ge, c_eq, c_ne, e_ii, e_ss, e_bb, c_inS, c_notS, i_str, i_tup, i_ref, l_str, l_tup, l_rol, l_ref, b_lenS, b_lenT, b_lenR, b_abs, b_tupR, b_tupT, b_listR, b_listT, b_all, b_any, b_intI, b_intB, b_isiN, b_isiB, b_isiI, b_isiS, b_isiT, b_isiR, b_isiL, b_isN, b_notN, b_neg, b_rev, b_join, t_str, is_some, isB_some, byB_true, byB_false, start, wipe, bindT, List.map_cons, List.map_nil, List.cons_append, List.nil_append, List.append_nil, List.getElem?_cons_zero, List.getElem?_cons_succ, List.length_cons, List.length_nil, List.set_cons_zero, List.set_cons_succ, atI_0, atI_1, atI_2, atI_3, List.replicate, Nat.zero_add, Nat.reduceAdd, Nat.reduceSub, seqW_ref, seqW_tup, c_leS, b_iaddI, b_iaddS, b_isub, w_enum, w_zip, w_callv]
  have hcut : cut (ns.map W.int) none (some 63) = ns.map W.int := by
    unfold cut
    simp only [sIx]
    rw [List.length_map]
    simp only [List.drop_zero, Nat.sub_zero]
    rw [if_neg (by decide)]
    exact List.take_of_length_le (by rw [List.length_map]; omega)
  refine w_compP (ns.map .int) (fun _ => true) (fun w => match w with | .int i => .int (if i < 0 then -i else i) | w => w) (by rw [List.length_map]; simp only [LIM]; omega) ?_
  try simp only [w_var, w_c, w_bin, w_cmp, w_chain, w_and, w_or, w_ite, w_not, w_nil, w_cons, w_tup, w_lst, w_ix, w_no, w_yes, w_sl, w_call, w_bi, w_val, w_rng1, w_rng2, s_nil, s_cons, s_ret, s_expr, s_set, s_if, s_pass, s_setix, s_app, s_ext, o_addI, o_addS, o_addT, o_addL, o_sub, o_mulI, o_mulS, o_mulL, o_fdiv, o_mod, o_pow, c_ltI, c_ltS, c_le, c_gt, c_ge, c_eq, c_ne, e_ii, e_ss, e_bb, c_inS, c_notS, i_str, i_tup, i_ref, l_str, l_tup, l_rol, l_ref, b_lenS, b_lenT, b_lenR, b_abs, b_tupR, b_tupT, b_listR, b_listT, b_all, b_any, b_intI, b_intB, b_isiN, b_isiB, b_isiI, b_isiS, b_isiT, b_isiR, b_isiL, b_isN, b_notN, b_neg, b_rev, b_join, t_str, is_some, isB_some, byB_true, byB_false, start, wipe, bindT, List.map_cons, List.map_nil, List.cons_append, List.nil_append, List.append_nil, List.getElem?_cons_zero, List.getElem?_cons_succ, List.length_cons, List.length_nil, List.set_cons_zero, List.set_cons_succ, atI_0, atI_1, atI_2, atI_3, List.replicate, Nat.zero_add, Nat.reduceAdd, Nat.reduceSub, seqW_ref, seqW_tup, c_leS, b_iaddI, b_iaddS, b_isub, w_enum, w_zip, w_callv, hcut, Src.items]
  refine ⟨by rw [List.length_map]; simp only [LIM]; omega, rdL_new _ _, fun x hx => ?_, ?_⟩
  · obtain ⟨i, hi, rfl⟩ := List.mem_map.mp hx
    refine ⟨_, rfl, ?_⟩
    try simp only [w_var, w_c, w_bin, w_cmp, w_chain, w_and, w_or, w_ite, w_not, w_nil, w_cons, w_tup, w_lst, w_ix, w_no, w_yes, w_sl, w_call, w_bi, w_val, w_rng1, w_rng2, s_nil, s_cons, s_ret, s_expr, s_set, s_if, s_pass, s_setix, s_app, s_ext, o_addI, o_addS, o_addT, o_addL, o_sub, o_mulI, o_mulS, o_mulL, o_fdiv, o_mod, o_pow, c_ltI, c_ltS, c_le, c_gt, c_ge, c_eq, c_ne, e_ii, e_ss, e_bb, c_inS, c_notS, i_str, i_tup, i_ref, l_str, l_tup, l_rol, l_ref, b_lenS, b_lenT, b_lenR, b_abs, b_tupR, b_tupT, b_listR, b_listT, b_all, b_any, b_intI, b_intB, b_isiN, b_isiB, b_isiI, b_isiS, b_isiT, b_isiR, b_isiL, b_isN, b_notN, b_neg, b_rev, b_join, t_str, is_some, isB_some, byB_true, byB_false, start, wipe, bindT, List.map_cons, List.map_nil, List.cons_append, List.nil_append, List.append_nil, List.getElem?_cons_zero, List.getElem?_cons_succ, List.length_cons, List.length_nil, List.set_cons_zero, List.set_cons_succ, atI_0, atI_1, atI_2, atI_3, List.replicate, Nat.zero_add, Nat.reduceAdd, Nat.reduceSub, seqW_ref, seqW_tup, c_leS, b_iaddI, b_iaddS, b_isub, w_enum, w_zip, w_callv]
    exact ⟨trivial, trivial, fun _ => ⟨trivial, trivial⟩⟩
  · refine ⟨by simp [LIM], by simp, ⟨by omega, ⟨0, by omega, by omega, ?_⟩, ⟨ns.map fun i => if i < 0 then -i else i, by simpa using hl, fun x hx => ?_, ?_⟩⟩, ?_⟩
    · rw [List.getElem?_append_right (by simp)]
      simp
    · obtain ⟨i, hi, rfl⟩ := List.mem_map.mp hx
      split <;> omega
    · rw [List.getElem?_append_left (by simp), List.getElem?_append_right (by simp)]
      simp [List.map_map, List.filter_eq_self.mpr]
    · exact ((Kp.app S _).snoc _).snoc _
theorem draw_spec (hds : ds 4 = some ⟨2, 4, b_law_draw⟩) (k : Nat) {S : Sto} {d c n : Nat} (h : Dk d c n S) (hn : n ≤ 1000000000) (m : Int) (hm : 0 < m) (hm2 : m < 1073741824) :
    Is (callF ds (k + 1) 4 [.ref d, .int m] S) fun w S' => ∃ v : Int, w = .int v ∧ 0 ≤ v ∧ v < m ∧ Dk d c (n + 1) S' ∧ Kx d c S S' ∧ S'.length = S.length := by
  refine w_callF hds rfl ?_
  obtain ⟨cnt, c1, c2, c3⟩ := h.hd
  obtain ⟨cs, d1, d2, d3⟩ := h.hc
  obtain ⟨hdl, hcl⟩ := h.lt
  have hne := h.ne
  have e1 : rdL S d = some [.ref c, .int cnt] := rdL_of c3
  have e2 : rdL (S.set d (.lst [.ref c, .int (cnt + 1)])) d = some [.ref c, .int (cnt + 1)] := rdL_set_same e1
  have e3 : rdL (S.set d (.lst [.ref c, .int (cnt + 1)])) c = some (cs.map W.int) := by
    rw [rdL_set_ne hne]
    exact rdL_of d3
  simp only [b_law_draw, w_var, w_c, w_bin, w_cmp, w_chain, w_and, w_or, w_ite, w_not, w_nil, w_cons, w_tup, w_lst, w_ix, w_no, w_yes, w_sl, w_call, w_bi, w_val, w_rng1, w_rng2, s_nil, s_cons, s_ret, s_expr, s_set, s_if, s_pass, s_setix, s_app, s_ext, o_addI, o_addS, o_addT, o_addL, o_sub, o_mulI, o_mulS, o_mulL, o_fdiv, o_mod, o_pow, c_ltI, c_ltS, c_le, c_gt, c_ge, c_eq, c_ne, e_ii, e_ss, e_bb, c_inS, c_notS, i_str, i_tup, i_ref, l_str, l_tup, l_rol, l_ref, b_lenS, b_lenT, b_lenR, b_abs, b_tupR, b_tupT, b_listR, b_listT, b_all, b_any, b_intI, b_intB, b_isiN, b_isiB, b_isiI, b_isiS, b_isiT, b_isiR, b_isiL, b_isN, b_notN, b_neg, b_rev, b_join, t_str, is_some, isB_some, byB_true, byB_false, start, wipe, bindT, List.map_cons, List.map_nil, List.cons_append, List.nil_append, List.append_nil, List.getElem?_cons_zero, List.getElem?_cons_succ, List.length_cons, List.length_nil, List.set_cons_zero, List.set_cons_succ, atI_0, atI_1, atI_2, atI_3, List.replicate, Nat.zero_add, Nat.reduceAdd, Nat.reduceSub, seqW_ref, seqW_tup, c_leS, b_iaddI, b_iaddS, b_isub, w_enum, w_zip, w_callv, e1, ixN_1]
  generalize hS1 : S.set d (.lst [.ref c, .int (cnt + 1)]) = S1 at *
  have l1 : S1.length = S.length := by rw [← hS1, List.length_set]
  have kx1 : Kx d c S S1 := ⟨by omega, fun j hj h1 _ => by rw [← hS1, List.getElem?_set_ne (fun e => h1 e.symm)]⟩
  have dk1 : Dk d c (n + 1) S1 := ⟨hne, ⟨cnt + 1, by omega, by omega, rdL_iff.mp e2⟩, ⟨cs, d1, d2, rdL_iff.mp e3⟩⟩
  have pw : ∀ cell : Int, (cell % 2147483587 + 7919 * (cnt + 1) + 1).natAbs < 2 ^ 64 := by
    intro cell
    have a1 : 0 ≤ cell % 2147483587 := Int.emod_nonneg _ (by omega)
    have a2 : cell % 2147483587 < 2147483587 := Int.emod_lt_of_pos _ (by omega)
    omega
  try simp only [w_var, w_c, w_bin, w_cmp, w_chain, w_and, w_or, w_ite, w_not, w_nil, w_cons, w_tup, w_lst, w_ix, w_no, w_yes, w_sl, w_call, w_bi, w_val, w_rng1, w_rng2, s_nil, s_cons, s_ret, s_expr, s_set, s_if, s_pass, s_setix, s_app, s_ext, o_addI, o_addS, o_addT, o_addL, o_sub, o_mulI, o_mulS, o_mulL, o_fdiv, o_mod, o_pow, c_ltI, c_ltS, c_le, c_gt, c_ge, c_eq, c_ne, e_ii, e_ss, e_bb, c_inS, c_notS, i_str, i_tup, i_ref, l_str, l_tup, l_rol, l_ref, b_lenS, b_lenT, b_lenR, b_abs, b_tupR, b_tupT, b_listR, b_listT, b_all, b_any, b_intI, b_intB, b_isiN, b_isiB, b_isiI, b_isiS, b_isiT, b_isiR, b_isiL, b_isN, b_notN, b_neg, b_rev, b_join, t_str, is_some, isB_some, byB_true, byB_false, start, wipe, bindT, List.map_cons, List.map_nil, List.cons_append, List.nil_append, List.append_nil, List.getElem?_cons_zero, List.getElem?_cons_succ, List.length_cons, List.length_nil, List.set_cons_zero, List.set_cons_succ, atI_0, atI_1, atI_2, atI_3, List.replicate, Nat.zero_add, Nat.reduceAdd, Nat.reduceSub, seqW_ref, seqW_tup, c_leS, b_iaddI, b_iaddS, b_isub, w_enum, w_zip, w_callv, e2, e3, List.length_map]
  refine byB_dec _ _ _ (fun hk => ?_) (fun hk => ?_)
  · have hlen : (0 : Int) < cs.length := of_decide_eq_true hk
    refine ⟨hlen, ?_⟩
    have p1 : 0 ≤ (cnt + 1) % (cs.length : Int) := Int.emod_nonneg _ (by omega)
    have p2 : (cnt + 1) % (cs.length : Int) < cs.length := Int.emod_lt_of_pos _ hlen
    rw [atI_nn _ p1, List.getElem?_map, List.getElem?_eq_getElem (by omega)]
    generalize hcell : cs[((cnt + 1) % (cs.length : Int)).toNat]'(by omega) = cell
    have hc0 : 0 ≤ cell := by rw [← hcell]; exact d2 _ (List.getElem_mem _)
    try simp only [w_var, w_c, w_bin, w_cmp, w_chain, w_and, w_or, w_ite, w_not, w_nil, w_cons, w_tup, w_lst, w_ix, w_no, w_yes, w_sl, w_call, w_bi, w_val, w_rng1, w_rng2, s_nil, s_cons, s_ret, s_expr, s_set, s_if, s_pass, s_setix, s_app, s_ext, o_addI, o_addS, o_addT, o_addL, o_sub, o_mulI, o_mulS, o_mulL, o_fdiv, o_mod, o_pow, c_ltI, c_ltS, c_le, c_gt, c_ge, c_eq, c_ne, e_ii, e_ss, e_bb, c_inS, c_notS, i_str, i_tup, i_ref, l_str, l_tup, l_rol, l_ref, b_lenS, b_lenT, b_lenR, b_abs, b_tupR, b_tupT, b_listR, b_listT, b_all, b_any, b_intI, b_intB, b_isiN, b_isiB, b_isiI, b_isiS, b_isiT, b_isiR, b_isiL, b_isN, b_notN, b_neg, b_rev, b_join, t_str, is_some, isB_some, byB_true, byB_false, start, wipe, bindT, List.map_cons, List.map_nil, List.cons_append, List.nil_append, List.append_nil, List.getElem?_cons_zero, List.getElem?_cons_succ, List.length_cons, List.length_nil, List.set_cons_zero, List.set_cons_succ, atI_0, atI_1, atI_2, atI_3, List.replicate, Nat.zero_add, Nat.reduceAdd, Nat.reduceSub, seqW_ref, seqW_tup, c_leS, b_iaddI, b_iaddS, b_isub, w_enum, w_zip, w_callv, e2, e3, List.length_map, Option.map_some]
    refine ⟨⟨by decide, by decide, by decide⟩, byB_dec _ _ _ (fun hg => ?_) (fun hg => ?_)⟩
    · refine ⟨⟨hm, hm2⟩, ?_⟩
      rw [ixN_nn p1 p2]
      refine ⟨hm, _, rfl, Int.emod_nonneg _ (by omega), Int.emod_lt_of_pos _ hm, ⟨hne, ⟨cnt + 1, by omega, by omega, ?_⟩, ⟨cs.set ((cnt + 1) % (cs.length : Int)).toNat (cell / m), by rw [List.length_set]; exact d1, fun x hx => ?_, ?_⟩⟩, ?_, ?_⟩
      · rw [List.getElem?_set_ne (Ne.symm hne)]
        exact rdL_iff.mp e2
      · rcases List.mem_or_eq_of_mem_set hx with q | q
        · exact d2 x q
        · rw [q]
          exact Int.ediv_nonneg hc0 (by omega)
      · rw [List.getElem?_set_self (by omega), List.map_set]
      · refine kx1.trans ⟨by rw [List.length_set]; exact Nat.le_refl _, fun j hj _ h2 => by rw [List.getElem?_set_ne (fun e => h2 e.symm)]⟩
      · rw [List.length_set]
        exact l1
    · exact ⟨by decide, .inl ⟨by decide, by decide⟩, ⟨by decide, by decide, pw cell⟩, by decide, hm, _, rfl, Int.emod_nonneg _ (by omega), Int.emod_lt_of_pos _ hm, dk1, kx1, l1⟩
  · refine ⟨⟨by decide, by decide, by decide⟩, byB_dec _ _ _ (fun hg => absurd (of_decide_eq_true hg) (by decide)) (fun hg => ?_)⟩
    exact ⟨by decide, .inl ⟨by decide, by decide⟩, ⟨by decide, by decide, pw 0⟩, by decide, hm, _, rfl, Int.emod_nonneg _ (by omega), Int.emod_lt_of_pos _ hm, dk1, kx1, l1⟩
theorem draw_w (h4 : ds 4 = some ⟨2, 4, b_law_draw⟩) (k : Nat) {S S0 : Sto} {d c n : Nat} (h : Dk d c n S) (hk : Kx d c S0 S) (hn : n ≤ 1000000000) (m : Int) (hm : 0 < m) (hm2 : m < 1073741824) {P : W → Sto → Prop}
    (go : ∀ (v : Int) S', 0 ≤ v → v < m → Dk d c (n + 1) S' → Kx d c S0 S' → Kx d c S S' → P (.int v) S') : Is (callF ds (k + 1) 4 [.ref d, .int m] S) P :=
  (draw_spec h4 k h hn m hm hm2).imp fun w S' hw => by
    obtain ⟨v, rfl, v1, v2, v3, v4, v5⟩ := hw
    exact go v S' v1 v2 v3 (hk.trans v4) v4
theorem Dk.ne_of {d c n j : Nat} {S : Sto} (h : Dk d c n S) (hj : S.length ≤ j) : j ≠ d ∧ j ≠ c := ⟨fun e => by have := h.lt.1; omega, fun e => by have := h.lt.2; omega⟩
/-- a list that was laid behind the deck is read further on -/
theorem rd_kx {d c j : Nat} {S S' : Sto} {xs : List W} (h : rdL S j = some xs) (k : Kx d c S S') (h1 : j ≠ d) (h2 : j ≠ c) : rdL S' j = some xs := rdL_of (k.get (rdL_iff.mp h) h1 h2)
/-- signs that a text of the laws has -/
def Sg (x : List Nat) : Prop := ∀ c ∈ x, c < 128
theorem letters_spec (h4 : ds 4 = some ⟨2, 4, b_law_draw⟩) (h5 : ds 5 = some ⟨2, 3, b_law_letters⟩) (k : Nat) {S : Sto} {d c n : Nat} (h : Dk d c n S) (m : Nat) (hn : n + m ≤ 1000000000) (hm : m ≤ 1000) :
    Is (callF ds (k + 2) 5 [.ref d, .int m] S) fun w S' => ∃ x : List Nat, w = .str x ∧ x.length = m ∧ (∀ c ∈ x, 97 ≤ c ∧ c ≤ 122) ∧ Dk d c (n + m) S' ∧ Kx d c S S' := by
  refine w_callF (k := k + 1) h5 rfl ?_
  simp only [b_law_letters, w_var, w_c, w_bin, w_cmp, w_chain, w_and, w_or, w_ite, w_not, w_nil, w_cons, w_tup, w_lst, w_ix, w_no, w_yes, w_sl, w_call, w_bi, w_val, w_rng1, w_rng2, s_nil, s_cons, s_ret, s_expr, s_set, s_if, s_pass, s_setix, s_app, s_ext, o_addI, o_addS, o_addT, o_addL, o_sub, o_mulI, o_mulS, o_mulL, o_fdiv, o_mod, o_pow, c_ltI, c_ltS, c_le, c_gt, c_ge, c_eq, c_ne, e_ii, e_ss, e_bb, c_inS, c_notS, i_str, i_tup, i_ref, l_str, l_tup, l_rol, l_ref, b_lenS, b_lenT, b_lenR, b_abs, b_tupR, b_tupT, b_listR, b_listT, b_all, b_any, b_intI, b_intB, b_isiN, b_isiB, b_isiI, b_isiS, b_isiT, b_isiR, b_isiL, b_isN, b_notN, b_neg, b_rev, b_join, t_str, is_some, isB_some, byB_true, byB_false, start, wipe, bindT, List.map_cons, List.map_nil, List.cons_append, List.nil_append, List.append_nil, List.getElem?_cons_zero, List.getElem?_cons_succ, List.length_cons, List.length_nil, List.set_cons_zero, List.set_cons_succ, atI_0, atI_1, atI_2, atI_3, List.replicate, Nat.zero_add, Nat.reduceAdd, Nat.reduceSub, seqW_ref, seqW_tup, c_leS, b_iaddI, b_iaddS, b_isub, w_enum, w_zip, w_callv]
  have hLim : m ≤ LIM := by simp only [LIM]; omega
  refine w_comp hLim (fun i acc S' => ∃ x : List Nat, acc = x.map (fun c => W.str [c]) ∧ x.length = i ∧ (∀ c ∈ x, 97 ≤ c ∧ c ≤ 122) ∧ Dk d c (n + i) S' ∧ Kx d c S S') ?_
  try simp only [w_var, w_c, w_bin, w_cmp, w_chain, w_and, w_or, w_ite, w_not, w_nil, w_cons, w_tup, w_lst, w_ix, w_no, w_yes, w_sl, w_call, w_bi, w_val, w_rng1, w_rng2, s_nil, s_cons, s_ret, s_expr, s_set, s_if, s_pass, s_setix, s_app, s_ext, o_addI, o_addS, o_addT, o_addL, o_sub, o_mulI, o_mulS, o_mulL, o_fdiv, o_mod, o_pow, c_ltI, c_ltS, c_le, c_gt, c_ge, c_eq, c_ne, e_ii, e_ss, e_bb, c_inS, c_notS, i_str, i_tup, i_ref, l_str, l_tup, l_rol, l_ref, b_lenS, b_lenT, b_lenR, b_abs, b_tupR, b_tupT, b_listR, b_listT, b_all, b_any, b_intI, b_intB, b_isiN, b_isiB, b_isiI, b_isiS, b_isiT, b_isiR, b_isiL, b_isN, b_notN, b_neg, b_rev, b_join, t_str, is_some, isB_some, byB_true, byB_false, start, wipe, bindT, List.map_cons, List.map_nil, List.cons_append, List.nil_append, List.append_nil, List.getElem?_cons_zero, List.getElem?_cons_succ, List.length_cons, List.length_nil, List.set_cons_zero, List.set_cons_succ, atI_0, atI_1, atI_2, atI_3, List.replicate, Nat.zero_add, Nat.reduceAdd, Nat.reduceSub, seqW_ref, seqW_tup, c_leS, b_iaddI, b_iaddS, b_isub, w_enum, w_zip, w_callv, Src.len]
  refine ⟨rng_small (by omega) (by omega), by simp, ⟨[], rfl, rfl, (fun _ h => nomatch h), h, Kx.refl _ _ _⟩, fun i acc S' hi hI => ?_, fun acc S' _ hI => ?_⟩
  · obtain ⟨x, rfl, x1, x2, x3, x4⟩ := hI
    refine ⟨.int (0 + (i : Nat)), _, by simp only [Src.item, Int.toNat_natCast, hi, if_true], rfl, ?_⟩
    try simp only [w_var, w_c, w_bin, w_cmp, w_chain, w_and, w_or, w_ite, w_not, w_nil, w_cons, w_tup, w_lst, w_ix, w_no, w_yes, w_sl, w_call, w_bi, w_val, w_rng1, w_rng2, s_nil, s_cons, s_ret, s_expr, s_set, s_if, s_pass, s_setix, s_app, s_ext, o_addI, o_addS, o_addT, o_addL, o_sub, o_mulI, o_mulS, o_mulL, o_fdiv, o_mod, o_pow, c_ltI, c_ltS, c_le, c_gt, c_ge, c_eq, c_ne, e_ii, e_ss, e_bb, c_inS, c_notS, i_str, i_tup, i_ref, l_str, l_tup, l_rol, l_ref, b_lenS, b_lenT, b_lenR, b_abs, b_tupR, b_tupT, b_listR, b_listT, b_all, b_any, b_intI, b_intB, b_isiN, b_isiB, b_isiI, b_isiS, b_isiT, b_isiR, b_isiL, b_isN, b_notN, b_neg, b_rev, b_join, t_str, is_some, isB_some, byB_true, byB_false, start, wipe, bindT, List.map_cons, List.map_nil, List.cons_append, List.nil_append, List.append_nil, List.getElem?_cons_zero, List.getElem?_cons_succ, List.length_cons, List.length_nil, List.set_cons_zero, List.set_cons_succ, atI_0, atI_1, atI_2, atI_3, List.replicate, Nat.zero_add, Nat.reduceAdd, Nat.reduceSub, seqW_ref, seqW_tup, c_leS, b_iaddI, b_iaddS, b_isub, w_enum, w_zip, w_callv]
    refine (draw_spec h4 k x3 (by omega) 26 (by omega) (by omega)).imp fun w S2 hw => ?_
    obtain ⟨v, rfl, v1, v2, v3, v4, v5⟩ := hw
    try simp only [w_var, w_c, w_bin, w_cmp, w_chain, w_and, w_or, w_ite, w_not, w_nil, w_cons, w_tup, w_lst, w_ix, w_no, w_yes, w_sl, w_call, w_bi, w_val, w_rng1, w_rng2, s_nil, s_cons, s_ret, s_expr, s_set, s_if, s_pass, s_setix, s_app, s_ext, o_addI, o_addS, o_addT, o_addL, o_sub, o_mulI, o_mulS, o_mulL, o_fdiv, o_mod, o_pow, c_ltI, c_ltS, c_le, c_gt, c_ge, c_eq, c_ne, e_ii, e_ss, e_bb, c_inS, c_notS, i_str, i_tup, i_ref, l_str, l_tup, l_rol, l_ref, b_lenS, b_lenT, b_lenR, b_abs, b_tupR, b_tupT, b_listR, b_listT, b_all, b_any, b_intI, b_intB, b_isiN, b_isiB, b_isiI, b_isiS, b_isiT, b_isiR, b_isiL, b_isN, b_notN, b_neg, b_rev, b_join, t_str, is_some, isB_some, byB_true, byB_false, start, wipe, bindT, List.map_cons, List.map_nil, List.cons_append, List.nil_append, List.append_nil, List.getElem?_cons_zero, List.getElem?_cons_succ, List.length_cons, List.length_nil, List.set_cons_zero, List.set_cons_succ, atI_0, atI_1, atI_2, atI_3, List.replicate, Nat.zero_add, Nat.reduceAdd, Nat.reduceSub, seqW_ref, seqW_tup, c_leS, b_iaddI, b_iaddS, b_isub, w_enum, w_zip, w_callv]
    rw [atI_nn _ v1]
    have hv : ∃ j : Nat, v = (j : Int) ∧ j < 26 := ⟨v.toNat, by omega, by omega⟩
    obtain ⟨j, rfl, hj⟩ := hv
    have hg : ([97, 98, 99, 100, 101, 102, 103, 104, 105, 106, 107, 108, 109, 110, 111, 112, 113, 114, 115, 116, 117, 118, 119, 120, 121, 122] : List Nat)[((j : Nat) : Int).toNat]? = some (97 + j) := by
      rw [Int.toNat_natCast]
      revert j
      decide
    rw [hg]
    refine ⟨by decide, x ++ [97 + j], by rw [List.map_append]; rfl, by rw [List.length_append, x1]; rfl, fun c hc => ?_, v3, x4.trans v4⟩
    rcases List.mem_append.mp hc with q | q
    · exact x2 c q
    · rw [List.mem_singleton.mp q]
      omega
  · obtain ⟨x, rfl, x1, x2, x3, x4⟩ := hI
    refine ⟨⟨m, Nat.le_refl _, by simp⟩, ?_⟩
    rw [rdL_new]
    simp only
    rw [ones_str, txts_map]
    simp only
    rw [joinL_nil, lens_sum, flat_ones]
    refine ⟨by simp [LIM]; omega, x, rfl, x1, x2, x3.kp (.app _ _), x4.trans (.of (.app _ _))⟩
theorem cut_len {α : Type} (x : List α) (lo hi : Option Int) : (cut x lo hi).length ≤ x.length := by
  unfold cut
  rw [List.length_take, List.length_drop]
  omega
theorem cut_mem {α : Type} {x : List α} {lo hi : Option Int} {c : α} (h : c ∈ cut x lo hi) : c ∈ x := by
  unfold cut at h
  exact List.mem_of_mem_drop (List.mem_of_mem_take h)
end
end Pg
namespace Pg
open MP
/-! ### patterns as data -/
inductive Pt where
  | sign (s : List Nat)
  | row (ps : List Pt)
  | any (ps : List Pt)
  | some (lo : Int) (hi : W) (p : Pt)
  | mark (n : List Nat) (p : Pt)
abbrev kSign : List Nat := [115, 105, 103, 110]
abbrev kRow : List Nat := [114, 111, 119]
abbrev kAny : List Nat := [97, 110, 121]
abbrev kSome : List Nat := [115, 111, 109, 101]
abbrev kMark : List Nat := [109, 97, 114, 107]
mutual
def enc : Pt → W
  | .sign s => .tup [.str kSign, .str s]
  | .row ps => .tup [.str kRow, .tup (encs ps)]
  | .any ps => .tup [.str kAny, .tup (encs ps)]
  | .some lo hi p => .tup [.str kSome, .int lo, hi, enc p]
  | .mark n p => .tup [.str kMark, .str n, enc p]
def encs : List Pt → List W
  | [] => []
  | p :: r => enc p :: encs r
end
theorem encs_map : ∀ ps : List Pt, encs ps = ps.map enc
  | [] => rfl
  | p :: r => by rw [encs, encs_map r, List.map_cons]
mutual
def size : Pt → Nat
  | .sign _ => 1
  | .row ps => 1 + sizes ps
  | .any ps => 1 + sizes ps
  | .some _ _ p => 1 + size p
  | .mark _ p => 1 + size p
def sizes : List Pt → Nat
  | [] => 0
  | p :: r => size p + sizes r
end
mutual
def deep : Pt → Nat
  | .sign _ => 1
  | .row ps => 1 + deeps ps
  | .any ps => 1 + deeps ps
  | .some _ _ p => 1 + deep p
  | .mark _ p => 1 + deep p
def deeps : List Pt → Nat
  | [] => 0
  | p :: r => max (deep p) (deeps r)
end
/-- a number or None -/
def isHi : W → Bool
  | .int _ => true
  | .non => true
  | _ => false
mutual
def okP : Pt → Bool
  | .sign s => s.all fun c => decide (c < 128)
  | .row ps => okPs ps
  | .any ps => okPs ps
  | .some _ hi p => isHi hi && okP p
  | .mark n p => (n.all fun c => decide (c < 128)) && okP p
def okPs : List Pt → Bool
  | [] => true
  | p :: r => okP p && okPs r
end
theorem sizes_app : ∀ a b : List Pt, sizes (a ++ b) = sizes a + sizes b
  | [], b => by simp [sizes]
  | p :: r, b => by
    rw [List.cons_append, sizes, sizes, sizes_app r b]
    omega
theorem okPs_app : ∀ a b : List Pt, okPs (a ++ b) = (okPs a && okPs b)
  | [], b => by simp [okPs]
  | p :: r, b => by rw [List.cons_append, okPs, okPs, okPs_app r b, Bool.and_assoc]
theorem deeps_app : ∀ a b : List Pt, deeps (a ++ b) = max (deeps a) (deeps b)
  | [], b => by simp [deeps]
  | p :: r, b => by
    rw [List.cons_append, deeps, deeps, deeps_app r b]
    omega
theorem deep_pos : ∀ p : Pt, 1 ≤ deep p
  | .sign _ => Nat.le_refl _
  | .row _ => by simp [deep]
  | .any _ => by simp [deep]
  | .some _ _ _ => by simp [deep]
  | .mark _ _ => by simp [deep]
theorem size_pos : ∀ p : Pt, 1 ≤ size p
  | .sign _ => Nat.le_refl _
  | .row _ => by simp [size]
  | .any _ => by simp [size]
  | .some _ _ _ => by simp [size]
  | .mark _ _ => by simp [size]
theorem len_sizes : ∀ ps : List Pt, ps.length ≤ sizes ps
  | [] => Nat.le_refl _
  | p :: r => by
    have h1 := size_pos p
    have h2 := len_sizes r
    rw [List.length_cons, sizes]
    omega
/-! a pattern as data for == -/
theorem dat_str {S : Sto} {n : Nat} {x : List Nat} (h : (x.all fun c => decide (c < 128)) = true) : dat S n (.str x) = some (.str x) := by
  have : (x.all fun c => decide (c < 1114112)) = true := List.all_eq_true.mpr fun c hc => by
    have := of_decide_eq_true (List.all_eq_true.mp h c hc)
    exact decide_eq_true (by omega)
  cases n <;> simp only [dat, this, if_true]
mutual
theorem dat_enc {S : Sto} : ∀ (p : Pt) (n : Nat), okP p = true → 2 * deep p ≤ n → ∃ d, dat S n (enc p) = some d
  | .sign s, n + 1, h, _ => by
    simp only [okP] at h
    exact ⟨_, by simp only [enc, dat, dats, dat_str (show (kSign.all fun c => decide (c < 128)) = true from rfl), dat_str h]; rfl⟩
  | .sign s, 0, h, hn => by simp only [deep] at hn; omega
  | .row ps, n + 2, h, hn => by
    simp only [okP] at h
    simp only [deep] at hn
    obtain ⟨ds, e⟩ := dats_enc (S := S) ps n h (by omega)
    exact ⟨_, by simp only [enc, dat, dats, dat_str (show (kRow.all fun c => decide (c < 128)) = true from rfl), e, Option.map_some]; rfl⟩
  | .row ps, 0, h, hn => by simp only [deep] at hn; omega
  | .row ps, 1, h, hn => by simp only [deep] at hn; omega
  | .any ps, n + 2, h, hn => by
    simp only [okP] at h
    simp only [deep] at hn
    obtain ⟨ds, e⟩ := dats_enc (S := S) ps n h (by omega)
    exact ⟨_, by simp only [enc, dat, dats, dat_str (show (kAny.all fun c => decide (c < 128)) = true from rfl), e, Option.map_some]; rfl⟩
  | .any ps, 0, h, hn => by simp only [deep] at hn; omega
  | .any ps, 1, h, hn => by simp only [deep] at hn; omega
  | .some lo hi p, n + 1, h, hn => by
    simp only [okP, Bool.and_eq_true] at h
    simp only [deep] at hn
    obtain ⟨d, e⟩ := dat_enc (S := S) p n h.2 (by omega)
    have hh : ∃ d, dat S n hi = some d := by
      cases hi with
      | non => exact ⟨.non, by cases n <;> simp only [dat]⟩
      | int i => exact ⟨.int i, by cases n <;> simp only [dat]⟩
      | _ => simp [isHi] at h
    obtain ⟨dh, eh⟩ := hh
    have ei : dat S n (.int lo) = some (.int lo) := by cases n <;> simp only [dat]
    exact ⟨_, by simp only [enc, dat, dats, dat_str (show (kSome.all fun c => decide (c < 128)) = true from rfl), e, ei, eh]; rfl⟩
  | .some lo hi p, 0, h, hn => by simp only [deep] at hn; omega
  | .mark nm p, n + 1, h, hn => by
    simp only [okP, Bool.and_eq_true] at h
    simp only [deep] at hn
    obtain ⟨d, e⟩ := dat_enc (S := S) p n h.2 (by omega)
    exact ⟨_, by simp only [enc, dat, dats, dat_str (show (kMark.all fun c => decide (c < 128)) = true from rfl), dat_str h.1, e]; rfl⟩
  | .mark nm p, 0, h, hn => by simp only [deep] at hn; omega
theorem dats_enc {S : Sto} : ∀ (ps : List Pt) (n : Nat), okPs ps = true → 2 * deeps ps ≤ n → ∃ ds, dats (dat S n) (encs ps) = some ds
  | [], n, _, _ => ⟨[], rfl⟩
  | p :: r, n, h, hn => by
    simp only [okPs, Bool.and_eq_true] at h
    simp only [deeps] at hn
    obtain ⟨d, e⟩ := dat_enc (S := S) p n h.1 (by omega)
    obtain ⟨ds, es⟩ := dats_enc (S := S) r n h.2 (by omega)
    exact ⟨d :: ds, by simp only [encs, dats, e, es]⟩
end
/-- names of the law -/
def Nms (xs : List (List Nat)) : Prop := ∀ x ∈ xs, 1 ≤ x.length ∧ x.length ≤ 8 ∧ ∀ c ∈ x, 97 ≤ c ∧ c ≤ 122
theorem pick {v : Int} {L : List W} {n : Nat} (hl : L.length = n) (h1 : 0 ≤ v) (h2 : v < n) : ∃ w, w ∈ L ∧ atI L v = some w := by
  rw [atI_nn _ h1, List.getElem?_eq_getElem (by omega)]
  exact ⟨_, List.getElem_mem _, rfl⟩
end Pg
namespace Pg
open MP
section
variable {ds : Nat → Option Def}
theorem names_spec (h4 : ds 4 = some ⟨2, 4, b_law_draw⟩) (h5 : ds 5 = some ⟨2, 3, b_law_letters⟩) (h21 : ds 21 = some ⟨2, 8, b_law_names⟩) (k : Nat) {S : Sto} {d c n : Nat} (h : Dk d c n S) (m : Nat) (hm : m ≤ 10) (hn : n ≤ 100000000) :
    Is (callF ds (k + 3) 21 [.ref d, .int m] S) fun w S' => ∃ xs, w = .ref (S'.length - 1) ∧ 1 ≤ S'.length ∧ rdL S' (S'.length - 1) = some (xs.map .str) ∧ xs.length = m ∧ Nms xs ∧ Dk d c (n + 20) S' ∧ Kx d c S S' ∧ S.length < S'.length := by
  refine w_callF (k := k + 2) h21 rfl ?_
  simp only [b_law_names, w_var, w_c, w_bin, w_cmp, w_chain, w_and, w_or, w_ite, w_not, w_nil, w_cons, w_tup, w_lst, w_ix, w_no, w_yes, w_sl, w_call, w_bi, w_val, w_rng1, w_rng2, s_nil, s_cons, s_ret, s_expr, s_set, s_if, s_pass, s_setix, s_app, s_ext, o_addI, o_addS, o_addT, o_addL, o_sub, o_mulI, o_mulS, o_mulL, o_fdiv, o_mod, o_pow, c_ltI, c_ltS, c_le, c_gt, c_ge, c_eq, c_ne, e_ii, e_ss, e_bb, c_inS, c_notS, i_str, i_tup, i_ref, l_str, l_tup, l_rol, l_ref, b_lenS, b_lenT, b_lenR, b_abs, b_tupR, b_tupT, b_listR, b_listT, b_all, b_any, b_intI, b_intB, b_isiN, b_isiB, b_isiI, b_isiS, b_isiT, b_isiR, b_isiL, b_isN, b_notN, b_neg, b_rev, b_join, t_str, is_some, isB_some, byB_true, byB_false, start, wipe, bindT, List.map_cons, List.map_nil, List.cons_append, List.nil_append, List.append_nil, List.getElem?_cons_zero, List.getElem?_cons_succ, List.length_cons, List.length_nil, List.set_cons_zero, List.set_cons_succ, atI_0, atI_1, atI_2, atI_3, List.replicate, Nat.zero_add, Nat.reduceAdd, Nat.reduceSub, seqW_ref, seqW_tup, c_leS, b_iaddI, b_iaddS, b_isub, w_enum, w_zip, w_callv]
  refine ⟨by simp [LIM], ?_⟩
  have hj := h.ne_of (Nat.le_refl _)
  refine draw_w h4 (k + 1) (h.kp (.app _ _)) (Kx.of (d := d) (c := c) (Kp.app S _)) (by omega) 8 (by omega) (by omega) fun a1 S1 a2 a3 a4 a5 a6 => ?_
  try simp only [w_var, w_c, w_bin, w_cmp, w_chain, w_and, w_or, w_ite, w_not, w_nil, w_cons, w_tup, w_lst, w_ix, w_no, w_yes, w_sl, w_call, w_bi, w_val, w_rng1, w_rng2, s_nil, s_cons, s_ret, s_expr, s_set, s_if, s_pass, s_setix, s_app, s_ext, o_addI, o_addS, o_addT, o_addL, o_sub, o_mulI, o_mulS, o_mulL, o_fdiv, o_mod, o_pow, c_ltI, c_ltS, c_le, c_gt, c_ge, c_eq, c_ne, e_ii, e_ss, e_bb, c_inS, c_notS, i_str, i_tup, i_ref, l_str, l_tup, l_rol, l_ref, b_lenS, b_lenT, b_lenR, b_abs, b_tupR, b_tupT, b_listR, b_listT, b_all, b_any, b_intI, b_intB, b_isiN, b_isiB, b_isiI, b_isiS, b_isiT, b_isiR, b_isiL, b_isN, b_notN, b_neg, b_rev, b_join, t_str, is_some, isB_some, byB_true, byB_false, start, wipe, bindT, List.map_cons, List.map_nil, List.cons_append, List.nil_append, List.append_nil, List.getElem?_cons_zero, List.getElem?_cons_succ, List.length_cons, List.length_nil, List.set_cons_zero, List.set_cons_succ, atI_0, atI_1, atI_2, atI_3, List.replicate, Nat.zero_add, Nat.reduceAdd, Nat.reduceSub, seqW_ref, seqW_tup, c_leS, b_iaddI, b_iaddS, b_isub, w_enum, w_zip, w_callv, rd_kx (rdL_new S _) a6 hj.1 hj.2]
  obtain ⟨w1, p1, p2⟩ := pick (L := [W.int 0, W.int 0, W.int 1, W.int 2, W.int 3, W.int 5, W.int 6, W.int 7]) rfl a2 a3
  rw [p2]
  have hq : ∃ q : Nat, w1 = .int (q : Nat) ∧ q ≤ 7 := by
    simp only [List.mem_cons, List.not_mem_nil, or_false] at p1
    rcases p1 with r | r | r | r | r | r | r | r <;> subst r
    · exact ⟨0, rfl, by omega⟩
    · exact ⟨0, rfl, by omega⟩
    · exact ⟨1, rfl, by omega⟩
    · exact ⟨2, rfl, by omega⟩
    · exact ⟨3, rfl, by omega⟩
    · exact ⟨5, rfl, by omega⟩
    · exact ⟨6, rfl, by omega⟩
    · exact ⟨7, rfl, by omega⟩
  obtain ⟨q, rfl, hq⟩ := hq
  refine (letters_spec h4 h5 k a4 q (by omega) (by omega)).imp fun w S2 hw => ?_
  obtain ⟨x, rfl, x1, x2, x3, x4⟩ := hw
  try simp only [w_var, w_c, w_bin, w_cmp, w_chain, w_and, w_or, w_ite, w_not, w_nil, w_cons, w_tup, w_lst, w_ix, w_no, w_yes, w_sl, w_call, w_bi, w_val, w_rng1, w_rng2, s_nil, s_cons, s_ret, s_expr, s_set, s_if, s_pass, s_setix, s_app, s_ext, o_addI, o_addS, o_addT, o_addL, o_sub, o_mulI, o_mulS, o_mulL, o_fdiv, o_mod, o_pow, c_ltI, c_ltS, c_le, c_gt, c_ge, c_eq, c_ne, e_ii, e_ss, e_bb, c_inS, c_notS, i_str, i_tup, i_ref, l_str, l_tup, l_rol, l_ref, b_lenS, b_lenT, b_lenR, b_abs, b_tupR, b_tupT, b_listR, b_listT, b_all, b_any, b_intI, b_intB, b_isiN, b_isiB, b_isiI, b_isiS, b_isiT, b_isiR, b_isiL, b_isN, b_notN, b_neg, b_rev, b_join, t_str, is_some, isB_some, byB_true, byB_false, start, wipe, bindT, List.map_cons, List.map_nil, List.cons_append, List.nil_append, List.append_nil, List.getElem?_cons_zero, List.getElem?_cons_succ, List.length_cons, List.length_nil, List.set_cons_zero, List.set_cons_succ, atI_0, atI_1, atI_2, atI_3, List.replicate, Nat.zero_add, Nat.reduceAdd, Nat.reduceSub, seqW_ref, seqW_tup, c_leS, b_iaddI, b_iaddS, b_isub, w_enum, w_zip, w_callv]
  refine ⟨by simp only [LIM]; omega, ?_⟩
  refine draw_w h4 (k + 1) x3 (a5.trans x4) (by omega) ((x.length : Int) + 1) (by omega) (by omega) fun g1 S3 g2 g3 g4 g5 _ => ?_
  refine draw_w h4 (k + 1) g4 g5 (by omega) 26 (by omega) (by omega) fun f1 S4 f2 f3 f4 f5 _ => ?_
  try simp only [w_var, w_c, w_bin, w_cmp, w_chain, w_and, w_or, w_ite, w_not, w_nil, w_cons, w_tup, w_lst, w_ix, w_no, w_yes, w_sl, w_call, w_bi, w_val, w_rng1, w_rng2, s_nil, s_cons, s_ret, s_expr, s_set, s_if, s_pass, s_setix, s_app, s_ext, o_addI, o_addS, o_addT, o_addL, o_sub, o_mulI, o_mulS, o_mulL, o_fdiv, o_mod, o_pow, c_ltI, c_ltS, c_le, c_gt, c_ge, c_eq, c_ne, e_ii, e_ss, e_bb, c_inS, c_notS, i_str, i_tup, i_ref, l_str, l_tup, l_rol, l_ref, b_lenS, b_lenT, b_lenR, b_abs, b_tupR, b_tupT, b_listR, b_listT, b_all, b_any, b_intI, b_intB, b_isiN, b_isiB, b_isiI, b_isiS, b_isiT, b_isiR, b_isiL, b_isN, b_notN, b_neg, b_rev, b_join, t_str, is_some, isB_some, byB_true, byB_false, start, wipe, bindT, List.map_cons, List.map_nil, List.cons_append, List.nil_append, List.append_nil, List.getElem?_cons_zero, List.getElem?_cons_succ, List.length_cons, List.length_nil, List.set_cons_zero, List.set_cons_succ, atI_0, atI_1, atI_2, atI_3, List.replicate, Nat.zero_add, Nat.reduceAdd, Nat.reduceSub, seqW_ref, seqW_tup, c_leS, b_iaddI, b_iaddS, b_isub, w_enum, w_zip, w_callv]
  refine ⟨by simp [LIM], ?_⟩
  have hj4 := f4.ne_of (Nat.le_refl _)
  refine draw_w h4 (k + 1) (f4.kp (.app _ _)) (f5.trans (Kx.of (Kp.app S4 _))) (by omega) 8 (by omega) (by omega) fun b1 S5 b2 b3 b4 b5 b6 => ?_
  try simp only [w_var, w_c, w_bin, w_cmp, w_chain, w_and, w_or, w_ite, w_not, w_nil, w_cons, w_tup, w_lst, w_ix, w_no, w_yes, w_sl, w_call, w_bi, w_val, w_rng1, w_rng2, s_nil, s_cons, s_ret, s_expr, s_set, s_if, s_pass, s_setix, s_app, s_ext, o_addI, o_addS, o_addT, o_addL, o_sub, o_mulI, o_mulS, o_mulL, o_fdiv, o_mod, o_pow, c_ltI, c_ltS, c_le, c_gt, c_ge, c_eq, c_ne, e_ii, e_ss, e_bb, c_inS, c_notS, i_str, i_tup, i_ref, l_str, l_tup, l_rol, l_ref, b_lenS, b_lenT, b_lenR, b_abs, b_tupR, b_tupT, b_listR, b_listT, b_all, b_any, b_intI, b_intB, b_isiN, b_isiB, b_isiI, b_isiS, b_isiT, b_isiR, b_isiL, b_isN, b_notN, b_neg, b_rev, b_join, t_str, is_some, isB_some, byB_true, byB_false, start, wipe, bindT, List.map_cons, List.map_nil, List.cons_append, List.nil_append, List.append_nil, List.getElem?_cons_zero, List.getElem?_cons_succ, List.length_cons, List.length_nil, List.set_cons_zero, List.set_cons_succ, atI_0, atI_1, atI_2, atI_3, List.replicate, Nat.zero_add, Nat.reduceAdd, Nat.reduceSub, seqW_ref, seqW_tup, c_leS, b_iaddI, b_iaddS, b_isub, w_enum, w_zip, w_callv, rd_kx (rdL_new S4 _) b6 hj4.1 hj4.2]
  obtain ⟨w2, q1, q2⟩ := pick (L := [W.int 1, W.int 3, W.int 5, W.int 7, W.int 9, W.int 11, W.int 15, W.int 17]) rfl b2 b3
  rw [q2]
  have hz : ∃ z : Nat, w2 = .int (z : Nat) ∧ z ≤ 17 := by
    simp only [List.mem_cons, List.not_mem_nil, or_false] at q1
    rcases q1 with r | r | r | r | r | r | r | r <;> subst r
    · exact ⟨1, rfl, by omega⟩
    · exact ⟨3, rfl, by omega⟩
    · exact ⟨5, rfl, by omega⟩
    · exact ⟨7, rfl, by omega⟩
    · exact ⟨9, rfl, by omega⟩
    · exact ⟨11, rfl, by omega⟩
    · exact ⟨15, rfl, by omega⟩
    · exact ⟨17, rfl, by omega⟩
  obtain ⟨z, rfl, hz⟩ := hz
  have hL : m ≤ LIM := by simp only [LIM]; omega
  have hx8 : x.length ≤ 7 := by omega
  have hxl : x.length ≤ LIM := by simp only [LIM]; omega
  refine w_comp hL (fun i acc S' => ∃ xs : List (List Nat), acc = xs.map .str ∧ xs.length = i ∧ Nms xs ∧ S' = S5) ?_
  try simp only [w_var, w_c, w_bin, w_cmp, w_chain, w_and, w_or, w_ite, w_not, w_nil, w_cons, w_tup, w_lst, w_ix, w_no, w_yes, w_sl, w_call, w_bi, w_val, w_rng1, w_rng2, s_nil, s_cons, s_ret, s_expr, s_set, s_if, s_pass, s_setix, s_app, s_ext, o_addI, o_addS, o_addT, o_addL, o_sub, o_mulI, o_mulS, o_mulL, o_fdiv, o_mod, o_pow, c_ltI, c_ltS, c_le, c_gt, c_ge, c_eq, c_ne, e_ii, e_ss, e_bb, c_inS, c_notS, i_str, i_tup, i_ref, l_str, l_tup, l_rol, l_ref, b_lenS, b_lenT, b_lenR, b_abs, b_tupR, b_tupT, b_listR, b_listT, b_all, b_any, b_intI, b_intB, b_isiN, b_isiB, b_isiI, b_isiS, b_isiT, b_isiR, b_isiL, b_isN, b_notN, b_neg, b_rev, b_join, t_str, is_some, isB_some, byB_true, byB_false, start, wipe, bindT, List.map_cons, List.map_nil, List.cons_append, List.nil_append, List.append_nil, List.getElem?_cons_zero, List.getElem?_cons_succ, List.length_cons, List.length_nil, List.set_cons_zero, List.set_cons_succ, atI_0, atI_1, atI_2, atI_3, List.replicate, Nat.zero_add, Nat.reduceAdd, Nat.reduceSub, seqW_ref, seqW_tup, c_leS, b_iaddI, b_iaddS, b_isub, w_enum, w_zip, w_callv, Src.len]
  refine ⟨rng_small (by omega) (by omega), by simp, ⟨[], rfl, rfl, (fun _ h => nomatch h), trivial⟩, fun i acc S' hi hI => ?_, fun acc S' _ hI => ?_⟩
  · obtain ⟨xs, rfl, y1, y2, rfl⟩ := hI
    refine ⟨.int (0 + (i : Nat)), _, by simp only [Src.item, Int.toNat_natCast, hi, if_true], rfl, ?_⟩
    try simp only [w_var, w_c, w_bin, w_cmp, w_chain, w_and, w_or, w_ite, w_not, w_nil, w_cons, w_tup, w_lst, w_ix, w_no, w_yes, w_sl, w_call, w_bi, w_val, w_rng1, w_rng2, s_nil, s_cons, s_ret, s_expr, s_set, s_if, s_pass, s_setix, s_app, s_ext, o_addI, o_addS, o_addT, o_addL, o_sub, o_mulI, o_mulS, o_mulL, o_fdiv, o_mod, o_pow, c_ltI, c_ltS, c_le, c_gt, c_ge, c_eq, c_ne, e_ii, e_ss, e_bb, c_inS, c_notS, i_str, i_tup, i_ref, l_str, l_tup, l_rol, l_ref, b_lenS, b_lenT, b_lenR, b_abs, b_tupR, b_tupT, b_listR, b_listT, b_all, b_any, b_intI, b_intB, b_isiN, b_isiB, b_isiI, b_isiS, b_isiT, b_isiR, b_isiL, b_isN, b_notN, b_neg, b_rev, b_join, t_str, is_some, isB_some, byB_true, byB_false, start, wipe, bindT, List.map_cons, List.map_nil, List.cons_append, List.nil_append, List.append_nil, List.getElem?_cons_zero, List.getElem?_cons_succ, List.length_cons, List.length_nil, List.set_cons_zero, List.set_cons_succ, atI_0, atI_1, atI_2, atI_3, List.replicate, Nat.zero_add, Nat.reduceAdd, Nat.reduceSub, seqW_ref, seqW_tup, c_leS, b_iaddI, b_iaddS, b_isub, w_enum, w_zip, w_callv]
    generalize hA : ([97, 98, 99, 100, 101, 102, 103, 104, 105, 106, 107, 108, 109, 110, 111, 112, 113, 114, 115, 116, 117, 118, 119, 120, 121, 122] : List Nat) = L
    have hAl : L.length = 26 := by rw [← hA]; rfl
    have hAm : ∀ c ∈ L, 97 ≤ c ∧ c ≤ 122 := by rw [← hA]; decide
    have e0 : 0 ≤ (f1 + (z : Int) * (0 + (i : Int))) % 26 := Int.emod_nonneg _ (by omega)
    have e1 : (f1 + (z : Int) * (0 + (i : Int))) % 26 < 26 := Int.emod_lt_of_pos _ (by omega)
    rw [atI_nn _ e0, List.getElem?_eq_getElem (by omega)]
    have l1 := cut_len x none (some g1)
    have l2 := cut_len x (some g1) none
    have lt : (cut x none (some g1)).length + (cut x (some g1) none).length ≤ 7 := by
      have hc1 : cut x none (some g1) = x.take g1.toNat := by
        unfold cut sIx
        simp only [List.drop_zero, Nat.sub_zero]
        rw [if_neg (by omega)]
        congr 1
        omega
      have hc2 : cut x (some g1) none = x.drop g1.toNat := by
        unfold cut sIx
        simp only
        rw [if_neg (by omega)]
        have : min g1.toNat x.length = g1.toNat := by omega
        rw [this]
        exact List.take_of_length_le (by rw [List.length_drop]; omega)
      rw [hc1, hc2, List.length_take, List.length_drop]
      omega
    refine ⟨hxl, .inl ⟨by omega, by omega⟩, by omega, by simp only [LIM]; omega, ?_, hxl, ?_, ?_⟩
    · simp only [LIM, List.length_cons, List.length_nil]; omega
    · simp only [LIM, List.length_append, List.length_cons, List.length_nil]; omega
    · refine ⟨xs ++ [_], by rw [List.map_append]; rfl, by rw [List.length_append, y1]; rfl, fun u hu => ?_, trivial⟩
      rcases List.mem_append.mp hu with r | r
      · exact y2 u r
      · rw [List.mem_singleton.mp r]
        refine ⟨by simp only [List.length_append, List.length_cons, List.length_nil]; omega, by simp only [List.length_append, List.length_cons, List.length_nil]; omega, fun c hc => ?_⟩
        rw [List.mem_append, List.mem_append] at hc
        rcases hc with (r2 | r2) | r2
        · exact x2 c (cut_mem r2)
        · rw [List.mem_singleton.mp r2]
          exact hAm _ (List.getElem_mem _)
        · exact x2 c (cut_mem r2)
  · obtain ⟨xs, rfl, y1, y2, rfl⟩ := hI
    refine ⟨⟨m, Nat.le_refl _, by simp⟩, xs, ?_, by simp, ?_, y1, y2, (b4.kp (.app _ _)).mono (by omega), b5.trans (.of (.app _ _)), ?_⟩
    · simp
    · rw [List.length_append, List.length_singleton, Nat.add_sub_cancel]
      exact rdL_new _ _
    · have := b5.1
      rw [List.length_append]
      simp
      omega
end
end Pg
namespace Pg
open MP
/-! ### flat -/
def flat1 (w : List Nat) : Pt → List Pt
  | .row qs => if w = kRow then qs else [.row qs]
  | .any qs => if w = kAny then qs else [.any qs]
  | p => [p]
def flat (w : List Nat) (ps : List Pt) : List Pt := ps.flatMap (flat1 w)
theorem flat_cons (w : List Nat) (p : Pt) (r : List Pt) : flat w (p :: r) = flat1 w p ++ flat w r := by simp [flat]
theorem flat1_sizes (w : List Nat) (p : Pt) : sizes (flat1 w p) ≤ size p := by
  cases p <;> simp only [flat1] <;> first | (split <;> simp only [size, sizes] <;> omega) | (simp only [size, sizes]; omega)
theorem flat1_deeps (w : List Nat) (p : Pt) : deeps (flat1 w p) ≤ deep p := by
  cases p <;> simp only [flat1] <;> first | (split <;> simp only [deep, deeps] <;> omega) | (simp only [deep, deeps]; omega)
theorem flat1_ok (w : List Nat) (p : Pt) (h : okP p = true) : okPs (flat1 w p) = true := by
  cases p <;> simp only [flat1] <;> first | (split <;> simp_all [okP, okPs]) | simp_all [okP, okPs]
theorem flat_sizes (w : List Nat) : ∀ ps : List Pt, sizes (flat w ps) ≤ sizes ps
  | [] => by simp [flat, sizes]
  | p :: r => by
    have h1 := flat1_sizes w p
    have h2 := flat_sizes w r
    rw [flat_cons, sizes_app, sizes]
    omega
theorem flat_deeps (w : List Nat) : ∀ ps : List Pt, deeps (flat w ps) ≤ deeps ps
  | [] => by simp [flat, deeps]
  | p :: r => by
    have h1 := flat1_deeps w p
    have h2 := flat_deeps w r
    rw [flat_cons, deeps_app, deeps]
    omega
theorem flat_ok (w : List Nat) : ∀ ps : List Pt, okPs ps = true → okPs (flat w ps) = true
  | [], _ => by simp [flat, okPs]
  | p :: r, h => by
    simp only [okPs, Bool.and_eq_true] at h
    rw [flat_cons, okPs_app, flat1_ok w p h.1, flat_ok w r h.2]
    rfl
theorem encs_app (a b : List Pt) : encs (a ++ b) = encs a ++ encs b := by rw [encs_map, encs_map, encs_map, List.map_append]
theorem encs_len (a : List Pt) : (encs a).length = a.length := by rw [encs_map, List.length_map]
/-- a pattern's first word -/
def word : Pt → List Nat
  | .sign _ => kSign
  | .row _ => kRow
  | .any _ => kAny
  | .some _ _ _ => kSome
  | .mark _ _ => kMark
theorem enc_head (p : Pt) : ∃ r, enc p = .tup (.str (word p) :: r) := by cases p <;> exact ⟨_, rfl⟩
theorem Kp.set {S S1 : Sto} (h : Kp S S1) {f : Nat} (hf : S.length ≤ f) (o : SO) : Kp S (S1.set f o) := ⟨by rw [List.length_set]; exact h.1, fun k hk => by
  rw [List.getElem?_set_ne (by omega)]
  exact h.2 k hk⟩
end Pg
namespace Pg
open MP
section
variable {ds : Nat → Option Def}
theorem flat_spec (h23 : ds 23 = some ⟨2, 4, b_law_flat⟩) (k : Nat) {S : Sto} {j : Nat} {ps : List Pt} {w : List Nat} (hw : w = kRow ∨ w = kAny) (hr : rdL S j = some (encs ps)) (hs : sizes ps ≤ 1000) :
    Is (callF ds (k + 1) 23 [.ref j, .str w] S) fun r S' => ∃ f, r = .ref f ∧ S.length ≤ f ∧ rdL S' f = some (encs (flat w ps)) ∧ Kp S S' := by
  refine w_callF h23 rfl ?_
  simp only [b_law_flat, w_var, w_c, w_bin, w_cmp, w_chain, w_and, w_or, w_ite, w_not, w_nil, w_cons, w_tup, w_lst, w_ix, w_no, w_yes, w_sl, w_call, w_bi, w_val, w_rng1, w_rng2, s_nil, s_cons, s_ret, s_expr, s_set, s_if, s_pass, s_setix, s_app, s_ext, o_addI, o_addS, o_addT, o_addL, o_sub, o_mulI, o_mulS, o_mulL, o_fdiv, o_mod, o_pow, c_ltI, c_ltS, c_le, c_gt, c_ge, c_eq, c_ne, e_ii, e_ss, e_bb, c_inS, c_notS, i_str, i_tup, i_ref, l_str, l_tup, l_rol, l_ref, b_lenS, b_lenT, b_lenR, b_abs, b_tupR, b_tupT, b_listR, b_listT, b_all, b_any, b_intI, b_intB, b_isiN, b_isiB, b_isiI, b_isiS, b_isiT, b_isiR, b_isiL, b_isN, b_notN, b_neg, b_rev, b_join, t_str, is_some, isB_some, byB_true, byB_false, start, wipe, bindT, List.map_cons, List.map_nil, List.cons_append, List.nil_append, List.append_nil, List.getElem?_cons_zero, List.getElem?_cons_succ, List.length_cons, List.length_nil, List.set_cons_zero, List.set_cons_succ, atI_0, atI_1, atI_2, atI_3, List.replicate, Nat.zero_add, Nat.reduceAdd, Nat.reduceSub, seqW_ref, seqW_tup, c_leS, b_iaddI, b_iaddS, b_isub, w_enum, w_zip, w_callv]
  have hlen := len_sizes ps
  have hjl : j < S.length := (List.getElem?_eq_some_iff.mp (rdL_iff.mp hr)).1
  refine ⟨by simp [LIM], ?_⟩
  refine w_for (n := ps.length) (fun i env S' => ∃ f v, env = [some (.ref j), some (.str w), some (.ref f), v] ∧ S.length ≤ f ∧ rdL S' f = some (encs (flat w (ps.take i))) ∧ Kp S S') ?_
  have hr1 : rdL (S ++ [SO.lst []]) j = some (encs ps) := rdL_app hr
  try simp only [w_var, w_c, w_bin, w_cmp, w_chain, w_and, w_or, w_ite, w_not, w_nil, w_cons, w_tup, w_lst, w_ix, w_no, w_yes, w_sl, w_call, w_bi, w_val, w_rng1, w_rng2, s_nil, s_cons, s_ret, s_expr, s_set, s_if, s_pass, s_setix, s_app, s_ext, o_addI, o_addS, o_addT, o_addL, o_sub, o_mulI, o_mulS, o_mulL, o_fdiv, o_mod, o_pow, c_ltI, c_ltS, c_le, c_gt, c_ge, c_eq, c_ne, e_ii, e_ss, e_bb, c_inS, c_notS, i_str, i_tup, i_ref, l_str, l_tup, l_rol, l_ref, b_lenS, b_lenT, b_lenR, b_abs, b_tupR, b_tupT, b_listR, b_listT, b_all, b_any, b_intI, b_intB, b_isiN, b_isiB, b_isiI, b_isiS, b_isiT, b_isiR, b_isiL, b_isN, b_notN, b_neg, b_rev, b_join, t_str, is_some, isB_some, byB_true, byB_false, start, wipe, bindT, List.map_cons, List.map_nil, List.cons_append, List.nil_append, List.append_nil, List.getElem?_cons_zero, List.getElem?_cons_succ, List.length_cons, List.length_nil, List.set_cons_zero, List.set_cons_succ, atI_0, atI_1, atI_2, atI_3, List.replicate, Nat.zero_add, Nat.reduceAdd, Nat.reduceSub, seqW_ref, seqW_tup, c_leS, b_iaddI, b_iaddS, b_isub, w_enum, w_zip, w_callv, Src.len, hr1, Option.map_some, encs_len]
  refine ⟨trivial, ⟨S.length, none, rfl, Nat.le_refl _, by rw [rdL_new]; rfl, .app _ _⟩, fun i env S' hi hI => ?_, fun env S' hI => ?_⟩
  · obtain ⟨f, v, rfl, f1, f2, f3⟩ := hI
    have hr2 : rdL S' j = some (encs ps) := rdL_of (f3.get (rdL_iff.mp hr))
    have hx : (encs ps)[i]? = some (enc ps[i]) := by rw [encs_map, List.getElem?_map, List.getElem?_eq_getElem hi]; rfl
    refine ⟨enc ps[i], _, by simp only [Src.item, hr2, Option.bind_some]; exact hx, rfl, ?_⟩
    have ht : ps.take (i + 1) = ps.take i ++ [ps[i]] := by rw [List.take_add_one, List.getElem?_eq_getElem hi]; rfl
    have hflat : flat w (ps.take (i + 1)) = flat w (ps.take i) ++ flat1 w ps[i] := by
      rw [ht]
      unfold flat
      rw [List.flatMap_append]
      simp
    have hsz : sizes (flat w (ps.take (i + 1))) ≤ 1000 := by
      have q1 := flat_sizes w (ps.take (i + 1))
      have q2 : sizes (ps.take (i + 1)) + sizes (ps.drop (i + 1)) = sizes ps := by rw [← sizes_app, List.take_append_drop]
      omega
    have hl1 := len_sizes (flat w (ps.take (i + 1)))
    have hl2 : (flat w (ps.take (i + 1))).length = (flat w (ps.take i)).length + (flat1 w ps[i]).length := by rw [hflat, List.length_append]
    generalize ps[i] = p at *
    obtain ⟨r, hd⟩ := enc_head p
    try simp only [w_var, w_c, w_bin, w_cmp, w_chain, w_and, w_or, w_ite, w_not, w_nil, w_cons, w_tup, w_lst, w_ix, w_no, w_yes, w_sl, w_call, w_bi, w_val, w_rng1, w_rng2, s_nil, s_cons, s_ret, s_expr, s_set, s_if, s_pass, s_setix, s_app, s_ext, o_addI, o_addS, o_addT, o_addL, o_sub, o_mulI, o_mulS, o_mulL, o_fdiv, o_mod, o_pow, c_ltI, c_ltS, c_le, c_gt, c_ge, c_eq, c_ne, e_ii, e_ss, e_bb, c_inS, c_notS, i_str, i_tup, i_ref, l_str, l_tup, l_rol, l_ref, b_lenS, b_lenT, b_lenR, b_abs, b_tupR, b_tupT, b_listR, b_listT, b_all, b_any, b_intI, b_intB, b_isiN, b_isiB, b_isiI, b_isiS, b_isiT, b_isiR, b_isiL, b_isN, b_notN, b_neg, b_rev, b_join, t_str, is_some, isB_some, byB_true, byB_false, start, wipe, bindT, List.map_cons, List.map_nil, List.cons_append, List.nil_append, List.append_nil, List.getElem?_cons_zero, List.getElem?_cons_succ, List.length_cons, List.length_nil, List.set_cons_zero, List.set_cons_succ, atI_0, atI_1, atI_2, atI_3, List.replicate, Nat.zero_add, Nat.reduceAdd, Nat.reduceSub, seqW_ref, seqW_tup, c_leS, b_iaddI, b_iaddS, b_isub, w_enum, w_zip, w_callv, hd, e_ss]
    have app : word p ≠ w → IsS (exs (callF ds k) (.cons (.app (.var 2) (.var 3)) .nil) [some (.ref j), some (.str w), some (.ref f), some (.tup (.str (word p) :: r))] S') (fun env S' => ∃ f v, env = [some (.ref j), some (.str w), some (.ref f), v] ∧ S.length ≤ f ∧ rdL S' f = some (encs (flat w (ps.take (i + 1)))) ∧ Kp S S') (fun r S' => ∃ f, r = .ref f ∧ S.length ≤ f ∧ rdL S' f = some (encs (flat w ps)) ∧ Kp S S') := by
      intro hne
      try simp only [w_var, w_c, w_bin, w_cmp, w_chain, w_and, w_or, w_ite, w_not, w_nil, w_cons, w_tup, w_lst, w_ix, w_no, w_yes, w_sl, w_call, w_bi, w_val, w_rng1, w_rng2, s_nil, s_cons, s_ret, s_expr, s_set, s_if, s_pass, s_setix, s_app, s_ext, o_addI, o_addS, o_addT, o_addL, o_sub, o_mulI, o_mulS, o_mulL, o_fdiv, o_mod, o_pow, c_ltI, c_ltS, c_le, c_gt, c_ge, c_eq, c_ne, e_ii, e_ss, e_bb, c_inS, c_notS, i_str, i_tup, i_ref, l_str, l_tup, l_rol, l_ref, b_lenS, b_lenT, b_lenR, b_abs, b_tupR, b_tupT, b_listR, b_listT, b_all, b_any, b_intI, b_intB, b_isiN, b_isiB, b_isiI, b_isiS, b_isiT, b_isiR, b_isiL, b_isN, b_notN, b_neg, b_rev, b_join, t_str, is_some, isB_some, byB_true, byB_false, start, wipe, bindT, List.map_cons, List.map_nil, List.cons_append, List.nil_append, List.append_nil, List.getElem?_cons_zero, List.getElem?_cons_succ, List.length_cons, List.length_nil, List.set_cons_zero, List.set_cons_succ, atI_0, atI_1, atI_2, atI_3, List.replicate, Nat.zero_add, Nat.reduceAdd, Nat.reduceSub, seqW_ref, seqW_tup, c_leS, b_iaddI, b_iaddS, b_isub, w_enum, w_zip, w_callv, f2]
      have e1 : flat1 w p = [p] := by
        cases p <;> simp only [flat1] <;> first | rfl | (rw [if_neg]; exact fun q => hne q.symm)
      refine ⟨by rw [encs_len]; simp only [LIM]; omega, f, _, rfl, f1, ?_, Pg.Kp.set f3 f1 _⟩
      rw [rdL_set_same f2, hflat, e1, encs_app]
      simp only [encs, hd]
    by_cases hc : word p = w
    · rw [decide_eq_true hc]
      try simp only [w_var, w_c, w_bin, w_cmp, w_chain, w_and, w_or, w_ite, w_not, w_nil, w_cons, w_tup, w_lst, w_ix, w_no, w_yes, w_sl, w_call, w_bi, w_val, w_rng1, w_rng2, s_nil, s_cons, s_ret, s_expr, s_set, s_if, s_pass, s_setix, s_app, s_ext, o_addI, o_addS, o_addT, o_addL, o_sub, o_mulI, o_mulS, o_mulL, o_fdiv, o_mod, o_pow, c_ltI, c_ltS, c_le, c_gt, c_ge, c_eq, c_ne, e_ii, e_ss, e_bb, c_inS, c_notS, i_str, i_tup, i_ref, l_str, l_tup, l_rol, l_ref, b_lenS, b_lenT, b_lenR, b_abs, b_tupR, b_tupT, b_listR, b_listT, b_all, b_any, b_intI, b_intB, b_isiN, b_isiB, b_isiI, b_isiS, b_isiT, b_isiR, b_isiL, b_isN, b_notN, b_neg, b_rev, b_join, t_str, is_some, isB_some, byB_true, byB_false, start, wipe, bindT, List.map_cons, List.map_nil, List.cons_append, List.nil_append, List.append_nil, List.getElem?_cons_zero, List.getElem?_cons_succ, List.length_cons, List.length_nil, List.set_cons_zero, List.set_cons_succ, atI_0, atI_1, atI_2, atI_3, List.replicate, Nat.zero_add, Nat.reduceAdd, Nat.reduceSub, seqW_ref, seqW_tup, c_leS, b_iaddI, b_iaddS, b_isub, w_enum, w_zip, w_callv]
      rcases hw with e | e
      · subst e
        cases p <;> simp only [word] at hc <;> first | (cases hc; done) | skip
        rename_i qs
        simp only [enc] at hd
        cases hd
        have e1 : flat1 kRow (.row qs) = qs := by simp [flat1]
        rw [e1] at hflat hl2
        try simp only [w_var, w_c, w_bin, w_cmp, w_chain, w_and, w_or, w_ite, w_not, w_nil, w_cons, w_tup, w_lst, w_ix, w_no, w_yes, w_sl, w_call, w_bi, w_val, w_rng1, w_rng2, s_nil, s_cons, s_ret, s_expr, s_set, s_if, s_pass, s_setix, s_app, s_ext, o_addI, o_addS, o_addT, o_addL, o_sub, o_mulI, o_mulS, o_mulL, o_fdiv, o_mod, o_pow, c_ltI, c_ltS, c_le, c_gt, c_ge, c_eq, c_ne, e_ii, e_ss, e_bb, c_inS, c_notS, i_str, i_tup, i_ref, l_str, l_tup, l_rol, l_ref, b_lenS, b_lenT, b_lenR, b_abs, b_tupR, b_tupT, b_listR, b_listT, b_all, b_any, b_intI, b_intB, b_isiN, b_isiB, b_isiI, b_isiS, b_isiT, b_isiR, b_isiL, b_isN, b_notN, b_neg, b_rev, b_join, t_str, is_some, isB_some, byB_true, byB_false, start, wipe, bindT, List.map_cons, List.map_nil, List.cons_append, List.nil_append, List.append_nil, List.getElem?_cons_zero, List.getElem?_cons_succ, List.length_cons, List.length_nil, List.set_cons_zero, List.set_cons_succ, atI_0, atI_1, atI_2, atI_3, List.replicate, Nat.zero_add, Nat.reduceAdd, Nat.reduceSub, seqW_ref, seqW_tup, c_leS, b_iaddI, b_iaddS, b_isub, w_enum, w_zip, w_callv]
        refine ⟨by rw [encs_len]; simp only [LIM]; omega, ?_⟩
        rw [rdL_app f2, rdL_new]
        refine ⟨by rw [List.length_append, encs_len, encs_len]; simp only [LIM]; omega, _, _, rfl, ?_, ?_, ((f3.snoc _).snoc _)⟩
        · rw [List.length_append]
          have := f3.1
          omega
        · rw [rdL_new, hflat, encs_app]
      · subst e
        cases p <;> simp only [word] at hc <;> first | (cases hc; done) | skip
        rename_i qs
        simp only [enc] at hd
        cases hd
        have e1 : flat1 kAny (.any qs) = qs := by simp [flat1]
        rw [e1] at hflat hl2
        try simp only [w_var, w_c, w_bin, w_cmp, w_chain, w_and, w_or, w_ite, w_not, w_nil, w_cons, w_tup, w_lst, w_ix, w_no, w_yes, w_sl, w_call, w_bi, w_val, w_rng1, w_rng2, s_nil, s_cons, s_ret, s_expr, s_set, s_if, s_pass, s_setix, s_app, s_ext, o_addI, o_addS, o_addT, o_addL, o_sub, o_mulI, o_mulS, o_mulL, o_fdiv, o_mod, o_pow, c_ltI, c_ltS, c_le, c_gt, c_ge, c_eq, c_ne, e_ii, e_ss, e_bb, c_inS, c_notS, i_str, i_tup, i_ref, l_str, l_tup, l_rol, l_ref, b_lenS, b_lenT, b_lenR, b_abs, b_tupR, b_tupT, b_listR, b_listT, b_all, b_any, b_intI, b_intB, b_isiN, b_isiB, b_isiI, b_isiS, b_isiT, b_isiR, b_isiL, b_isN, b_notN, b_neg, b_rev, b_join, t_str, is_some, isB_some, byB_true, byB_false, start, wipe, bindT, List.map_cons, List.map_nil, List.cons_append, List.nil_append, List.append_nil, List.getElem?_cons_zero, List.getElem?_cons_succ, List.length_cons, List.length_nil, List.set_cons_zero, List.set_cons_succ, atI_0, atI_1, atI_2, atI_3, List.replicate, Nat.zero_add, Nat.reduceAdd, Nat.reduceSub, seqW_ref, seqW_tup, c_leS, b_iaddI, b_iaddS, b_isub, w_enum, w_zip, w_callv]
        refine ⟨by rw [encs_len]; simp only [LIM]; omega, ?_⟩
        rw [rdL_app f2, rdL_new]
        refine ⟨by rw [List.length_append, encs_len, encs_len]; simp only [LIM]; omega, _, _, rfl, ?_, ?_, ((f3.snoc _).snoc _)⟩
        · rw [List.length_append]
          have := f3.1
          omega
        · rw [rdL_new, hflat, encs_app]
    · rw [decide_eq_false hc]
      have q := app hc
      try simp only [w_var, w_c, w_bin, w_cmp, w_chain, w_and, w_or, w_ite, w_not, w_nil, w_cons, w_tup, w_lst, w_ix, w_no, w_yes, w_sl, w_call, w_bi, w_val, w_rng1, w_rng2, s_nil, s_cons, s_ret, s_expr, s_set, s_if, s_pass, s_setix, s_app, s_ext, o_addI, o_addS, o_addT, o_addL, o_sub, o_mulI, o_mulS, o_mulL, o_fdiv, o_mod, o_pow, c_ltI, c_ltS, c_le, c_gt, c_ge, c_eq, c_ne, e_ii, e_ss, e_bb, c_inS, c_notS, i_str, i_tup, i_ref, l_str, l_tup, l_rol, l_ref, b_lenS, b_lenT, b_lenR, b_abs, b_tupR, b_tupT, b_listR, b_listT, b_all, b_any, b_intI, b_intB, b_isiN, b_isiB, b_isiI, b_isiS, b_isiT, b_isiR, b_isiL, b_isN, b_notN, b_neg, b_rev, b_join, t_str, is_some, isB_some, byB_true, byB_false, start, wipe, bindT, List.map_cons, List.map_nil, List.cons_append, List.nil_append, List.append_nil, List.getElem?_cons_zero, List.getElem?_cons_succ, List.length_cons, List.length_nil, List.set_cons_zero, List.set_cons_succ, atI_0, atI_1, atI_2, atI_3, List.replicate, Nat.zero_add, Nat.reduceAdd, Nat.reduceSub, seqW_ref, seqW_tup, c_leS, b_iaddI, b_iaddS, b_isub, w_enum, w_zip, w_callv] at q ⊢
      exact q
  · obtain ⟨f, v, rfl, f1, f2, f3⟩ := hI
    have hr2 : rdL S' j = some (encs ps) := rdL_of (f3.get (rdL_iff.mp hr))
    rw [List.take_length] at f2
    try simp only [w_var, w_c, w_bin, w_cmp, w_chain, w_and, w_or, w_ite, w_not, w_nil, w_cons, w_tup, w_lst, w_ix, w_no, w_yes, w_sl, w_call, w_bi, w_val, w_rng1, w_rng2, s_nil, s_cons, s_ret, s_expr, s_set, s_if, s_pass, s_setix, s_app, s_ext, o_addI, o_addS, o_addT, o_addL, o_sub, o_mulI, o_mulS, o_mulL, o_fdiv, o_mod, o_pow, c_ltI, c_ltS, c_le, c_gt, c_ge, c_eq, c_ne, e_ii, e_ss, e_bb, c_inS, c_notS, i_str, i_tup, i_ref, l_str, l_tup, l_rol, l_ref, b_lenS, b_lenT, b_lenR, b_abs, b_tupR, b_tupT, b_listR, b_listT, b_all, b_any, b_intI, b_intB, b_isiN, b_isiB, b_isiI, b_isiS, b_isiT, b_isiR, b_isiL, b_isN, b_notN, b_neg, b_rev, b_join, t_str, is_some, isB_some, byB_true, byB_false, start, wipe, bindT, List.map_cons, List.map_nil, List.cons_append, List.nil_append, List.append_nil, List.getElem?_cons_zero, List.getElem?_cons_succ, List.length_cons, List.length_nil, List.set_cons_zero, List.set_cons_succ, atI_0, atI_1, atI_2, atI_3, List.replicate, Nat.zero_add, Nat.reduceAdd, Nat.reduceSub, seqW_ref, seqW_tup, c_leS, b_iaddI, b_iaddS, b_isub, w_enum, w_zip, w_callv]
    refine ⟨⟨_, Nat.le_refl _, by rw [hr2]; simp [encs_len]⟩, f, rfl, f1, f2, f3⟩
end
end Pg
namespace Pg
open MP
/-! ### what the program and the law tell of a pattern -/
def subs : Pt → List Pt
  | .sign _ => []
  | .row ps => ps
  | .any ps => ps
  | .some _ _ p => [p]
  | .mark _ p => [p]
mutual
def forms : Pt → List Pt
  | .sign s => [.sign s]
  | .row ps => .row ps :: formss ps
  | .any ps => .any ps :: formss ps
  | .some lo hi p => .some lo hi p :: forms p
  | .mark n p => .mark n p :: forms p
def formss : List Pt → List Pt
  | [] => []
  | p :: r => forms p ++ formss r
end
theorem forms_subs (p : Pt) : forms p = p :: formss (subs p) := by cases p <;> simp [forms, formss, subs]
theorem formss_app : ∀ a b : List Pt, formss (a ++ b) = formss a ++ formss b
  | [], b => by simp [formss]
  | p :: r, b => by rw [List.cons_append, formss, formss, formss_app r b, List.append_assoc]
mutual
theorem forms_len : ∀ p : Pt, (forms p).length = size p
  | .sign s => rfl
  | .row ps => by simp only [forms, size, List.length_cons, formss_len ps]; omega
  | .any ps => by simp only [forms, size, List.length_cons, formss_len ps]; omega
  | .some lo hi p => by simp only [forms, size, List.length_cons, forms_len p]; omega
  | .mark n p => by simp only [forms, size, List.length_cons, forms_len p]; omega
theorem formss_len : ∀ ps : List Pt, (formss ps).length = sizes ps
  | [] => rfl
  | p :: r => by rw [formss, sizes, List.length_append, forms_len p, formss_len r]
end
theorem subs_deeps (p : Pt) : deeps (subs p) + 1 ≤ deep p ∨ (∃ s, p = .sign s) := by
  cases p with
  | sign s => exact .inr ⟨s, rfl⟩
  | _ => left; simp only [subs, deeps, deep]; omega
theorem subs_sizes (p : Pt) : sizes (subs p) + 1 = size p := by cases p <;> simp only [subs, sizes, size] <;> omega
theorem subs_ok {p : Pt} (h : okP p = true) : okPs (subs p) = true := by cases p <;> simp_all [subs, okPs, okP]
theorem deep_mem : ∀ {ps : List Pt} {p : Pt}, p ∈ ps → deep p ≤ deeps ps
  | q :: r, p, h => by
    rw [deeps]
    rcases List.mem_cons.mp h with e | e
    · subst e; omega
    · have := deep_mem e; omega
theorem ok_mem : ∀ {ps : List Pt} {p : Pt}, p ∈ ps → okPs ps = true → okP p = true
  | q :: r, p, h, ho => by
    simp only [okPs, Bool.and_eq_true] at ho
    rcases List.mem_cons.mp h with e | e
    · subst e; exact ho.1
    · exact ok_mem e ho.2
theorem size_mem : ∀ {ps : List Pt} {p : Pt}, p ∈ ps → size p ≤ sizes ps
  | q :: r, p, h => by
    rw [sizes]
    rcases List.mem_cons.mp h with e | e
    · subst e; omega
    · have := size_mem e; omega
mutual
def marks : Pt → List (List Nat)
  | .sign _ => []
  | .row ps => markss ps
  | .any ps => markss ps
  | .some _ _ p => marks p
  | .mark n p => n :: marks p
def markss : List Pt → List (List Nat)
  | [] => []
  | p :: r => marks p ++ markss r
end
theorem markss_app : ∀ a b : List Pt, markss (a ++ b) = markss a ++ markss b
  | [], b => by simp [markss]
  | p :: r, b => by rw [List.cons_append, markss, markss, markss_app r b, List.append_assoc]
mutual
theorem marks_len : ∀ p : Pt, (marks p).length ≤ size p
  | .sign s => by simp [marks]
  | .row ps => by have := markss_len ps; simp only [marks, size]; omega
  | .any ps => by have := markss_len ps; simp only [marks, size]; omega
  | .some lo hi p => by have := marks_len p; simp only [marks, size]; omega
  | .mark n p => by have := marks_len p; simp only [marks, size, List.length_cons]; omega
theorem markss_len : ∀ ps : List Pt, (markss ps).length ≤ sizes ps
  | [] => by simp [markss]
  | p :: r => by have := marks_len p; have := markss_len r; rw [markss, sizes, List.length_append]; omega
end
def isMk : W → Bool
  | .tup (.str x :: _) => decide (x = kMark)
  | _ => false
def mkN : W → W
  | .tup (_ :: n :: _) => n
  | _ => .non
mutual
theorem marks_forms : ∀ p : Pt, (((forms p).map enc).filter isMk).map mkN = (marks p).map W.str
  | .sign s => rfl
  | .row ps => by
    rw [forms, marks, ← markss_forms ps, List.map_cons, List.filter_cons_of_neg (by simp [isMk, enc])]
  | .any ps => by
    rw [forms, marks, ← markss_forms ps, List.map_cons, List.filter_cons_of_neg (by simp [isMk, enc])]
  | .some lo hi p => by
    rw [forms, marks, ← marks_forms p, List.map_cons, List.filter_cons_of_neg (by simp [isMk, enc])]
  | .mark n p => by
    rw [forms, marks, List.map_cons, List.map_cons, ← marks_forms p, List.filter_cons_of_pos (by simp [isMk, enc]), List.map_cons]
    simp only [enc, mkN]
theorem markss_forms : ∀ ps : List Pt, (((formss ps).map enc).filter isMk).map mkN = (markss ps).map W.str
  | [] => rfl
  | p :: r => by rw [formss, markss, List.map_append, List.map_append, List.filter_append, List.map_append, marks_forms p, markss_forms r]
end
mutual
def blankP : Pt → Bool
  | .sign _ => false
  | .row ps => allB ps
  | .any ps => anyB ps
  | .some lo _ p => decide (lo = 0) || blankP p
  | .mark _ p => blankP p
def allB : List Pt → Bool
  | [] => true
  | p :: r => blankP p && allB r
def anyB : List Pt → Bool
  | [] => false
  | p :: r => blankP p || anyB r
end
theorem allB_eq : ∀ ps : List Pt, allB ps = ps.all blankP
  | [] => rfl
  | p :: r => by rw [allB, allB_eq r, List.all_cons]
theorem anyB_eq : ∀ ps : List Pt, anyB ps = ps.any blankP
  | [] => rfl
  | p :: r => by rw [anyB, anyB_eq r, List.any_cons]
theorem bls_map (f : Pt → Bool) : ∀ ps : List Pt, bls (ps.map fun p => W.bl (f p)) = some (ps.map f)
  | [] => rfl
  | p :: r => by simp only [List.map_cons, bls, bls_map f r, Option.map_some]
end Pg
namespace Pg
open MP
/-! ### a text from a place on -/
structure At (T : List Nat) (i : Int) (s : List Nat) : Prop where
  nn : 0 ≤ i
  len : (T.length : Int) = i + s.length
  dr : T.drop i.toNat = s
theorem At.start (T : List Nat) : At T 0 T := ⟨by omega, by omega, rfl⟩
section
variable {T s x : List Nat} {i : Int} {c : Nat}
theorem At.app (h : At T i (x ++ s)) : At T (i + x.length) s := by
  have h1 := h.nn
  have h2 := h.len
  rw [List.length_append] at h2
  refine ⟨by omega, by omega, ?_⟩
  have e : (i + x.length).toNat = i.toNat + x.length := by omega
  rw [e, ← List.drop_drop, h.dr, List.drop_left]
theorem At.cons (h : At T i (c :: s)) : At T (i + 1) s := At.app (x := [c]) h
theorem At.ix (h : At T i (c :: s)) : atI T i = some c := by
  rw [atI_nn _ h.nn, ← List.head?_drop, h.dr]
  rfl
theorem At.cut (h : At T i s) (n : Nat) {j : Int} (hj : j = i + n) : cut T (some i) (some j) = s.take n := by
  have h1 := h.nn
  have h2 := h.len
  subst hj
  unfold MP.cut
  simp only [sIx]
  rw [if_neg (by omega), if_neg (by omega)]
  have e1 : min i.toNat T.length = i.toNat := by omega
  rw [e1, h.dr]
  by_cases hn : n ≤ s.length
  · have e2 : min (i + (n : Int)).toNat T.length - i.toNat = n := by omega
    rw [e2]
  · have e2 : min (i + (n : Int)).toNat T.length - i.toNat = s.length := by omega
    rw [e2, List.take_length, List.take_of_length_le (by omega)]
end
theorem one_lt (a b : Nat) : (([a] : List Nat) < [b]) = (a < b) := by
  simp [List.cons_lt_cons_iff]
/-! ### rows and anys put together -/
def put (w : List Nat) (ps : List Pt) : Pt := match flat w ps with
  | [p] => p
  | l => if w = kRow then .row l else .any l
theorem put_size (w : List Nat) (ps : List Pt) : size (put w ps) ≤ 1 + sizes ps := by
  have h := flat_sizes w ps
  unfold put
  split
  · rename_i p e
    rw [e] at h
    simp only [sizes] at h
    omega
  · split <;> simp only [size] <;> omega
theorem put_deep (w : List Nat) (ps : List Pt) : deep (put w ps) ≤ 1 + deeps ps := by
  have h := flat_deeps w ps
  unfold put
  split
  · rename_i p e
    rw [e] at h
    simp only [deeps] at h
    omega
  · split <;> simp only [deep] <;> omega
theorem put_ok (w : List Nat) (ps : List Pt) (h : okPs ps = true) : okP (put w ps) = true := by
  have h := flat_ok w ps h
  unfold put
  split
  · rename_i p e
    rw [e] at h
    simp only [okPs, Bool.and_true] at h
    exact h
  · split <;> simp only [okP] <;> exact h
/-! ### texts of patterns -/
/-- what an item of a class is read as -/
def iTxt : Nat × Option Nat → List Nat
  | (c, none) => [c]
  | (c, some d) => [c, 45, d]
def iSig : Nat × Option Nat → List Nat
  | (c, none) => [c]
  | (c, some d) => c_SIGNS.filter fun z => decide (c ≤ z) && decide (z ≤ d)
def iOk : Nat × Option Nat → Prop
  | (c, none) => c ∈ c_SIGNS
  | (c, some d) => c ∈ c_SIGNS ∧ d ∈ c_SIGNS ∧ c ≤ d
def cTxt (tn : Bool) (its : List (Nat × Option Nat)) : List Nat := (if tn then [94] else []) ++ its.flatMap iTxt
def cSig (tn : Bool) (its : List (Nat × Option Nat)) : List Nat := c_SIGNS.filter fun z => decide (z ∈ its.flatMap iSig) != tn
structure Cls (tn : Bool) (its : List (Nat × Option Nat)) : Prop where
  ne : its ≠ []
  ok : ∀ a ∈ its, iOk a
  some : cSig tn its ≠ []
def Nm (n : List Nat) : Prop := 1 ≤ n.length ∧ n.length ≤ 8 ∧ ∀ c ∈ n, 97 ≤ c ∧ c ≤ 122
inductive Pce (A : List Nat → Pt → Prop) : List Nat → Pt → Prop
  | one {x : List Nat} {p : Pt} : A x p → Pce A x p
  | opt {x : List Nat} {p : Pt} : A x p → Pce A (x ++ [63]) (.some 0 (.int 1) p)
  | star {x : List Nat} {p : Pt} : A x p → Pce A (x ++ [42]) (.some 0 .non p)
  | plus {x : List Nat} {p : Pt} : A x p → Pce A (x ++ [43]) (.some 1 .non p)
inductive Brn (A : List Nat → Pt → Prop) : List Nat → List Pt → Prop
  | nil : Brn A [] []
  | cons {x y : List Nat} {p : Pt} {ps : List Pt} : Pce A x p → Brn A y ps → Brn A (x ++ y) (p :: ps)
inductive Pan (A : List Nat → Pt → Prop) : List Nat → List Pt → Prop
  | one {x : List Nat} {ps : List Pt} : Brn A x ps → Pan A x [put kRow ps]
  | more {x y : List Nat} {ps qs : List Pt} : Brn A x ps → Pan A y qs → Pan A (x ++ 124 :: y) (put kRow ps :: qs)
def Bas (x : List Nat) (p : Pt) : Prop := (∃ c, c ∈ c_SIGNS ∧ x = [c] ∧ p = .sign [c]) ∨ (x = [46] ∧ p = .sign c_SIGNS)
def Atm : Nat → List Nat → Pt → Prop
  | 0, x, p => Bas x p
  | h + 1, x, p => Bas x p ∨ (∃ tn its, Cls tn its ∧ x = 91 :: (cTxt tn its ++ [93]) ∧ p = .sign (cSig tn its)) ∨
      (∃ y bs, Pan (Atm h) y bs ∧ x = 40 :: (y ++ [41]) ∧ p = put kAny bs) ∨
      (∃ n y bs, Nm n ∧ Pan (Atm h) y bs ∧ x = 60 :: (n ++ 58 :: (y ++ [62])) ∧ p = .mark n (put kAny bs))
/-- signs with which an atom begins -/
def Beg (c : Nat) : Prop := c ∈ c_SIGNS ∨ c ∈ ([46, 91, 40, 60] : List Nat)
theorem bas_beg {x : List Nat} {p : Pt} (a : Bas x p) : ∃ c r, x = c :: r ∧ Beg c := by
  rcases a with ⟨c, hc, rfl, _⟩ | ⟨rfl, _⟩
  · exact ⟨c, [], rfl, .inl hc⟩
  · exact ⟨46, [], rfl, .inr (by decide)⟩
theorem atm_beg : ∀ {h : Nat} {x : List Nat} {p : Pt}, Atm h x p → ∃ c r, x = c :: r ∧ Beg c
  | 0, x, p, a => bas_beg a
  | h + 1, x, p, a => by
    rcases a with a | ⟨tn, its, _, rfl, _⟩ | ⟨y, bs, _, rfl, _⟩ | ⟨n, y, bs, _, _, rfl, _⟩
    · exact bas_beg a
    · exact ⟨_, _, rfl, .inr (by decide)⟩
    · exact ⟨_, _, rfl, .inr (by decide)⟩
    · exact ⟨_, _, rfl, .inr (by decide)⟩
theorem pce_beg {h : Nat} {x : List Nat} {p : Pt} (a : Pce (Atm h) x p) : ∃ c r, x = c :: r ∧ Beg c := by
  cases a with
  | one a => exact atm_beg a
  | opt a => obtain ⟨c, r, rfl, q⟩ := atm_beg a; exact ⟨c, r ++ [63], rfl, q⟩
  | star a => obtain ⟨c, r, rfl, q⟩ := atm_beg a; exact ⟨c, r ++ [42], rfl, q⟩
  | plus a => obtain ⟨c, r, rfl, q⟩ := atm_beg a; exact ⟨c, r ++ [43], rfl, q⟩
theorem beg_lt {c : Nat} (h : Beg c) : c = 32 ∨ c = 46 ∨ c = 91 ∨ c = 40 ∨ c = 60 ∨ (97 ≤ c ∧ c ≤ 122) := by
  rcases h with h | h
  · simp only [c_SIGNS, List.mem_cons, List.not_mem_nil, or_false] at h
    omega
  · simp only [List.mem_cons, List.not_mem_nil, or_false] at h
    omega
theorem sig_iff (c : Nat) : c ∈ c_SIGNS ↔ c = 32 ∨ (97 ≤ c ∧ c ≤ 122) := by
  simp only [c_SIGNS, List.mem_cons, List.not_mem_nil, or_false]
  omega
/-! sizes -/
theorem pce_size {A : List Nat → Pt → Prop} (hA : ∀ x p, A x p → 1 ≤ x.length ∧ size p ≤ 3 * x.length) {x : List Nat} {p : Pt} (a : Pce A x p) : 1 ≤ x.length ∧ size p ≤ 3 * x.length := by
  cases a with
  | one a => exact hA _ _ a
  | opt a => have := hA _ _ a; simp only [List.length_append, List.length_singleton, size]; omega
  | star a => have := hA _ _ a; simp only [List.length_append, List.length_singleton, size]; omega
  | plus a => have := hA _ _ a; simp only [List.length_append, List.length_singleton, size]; omega
theorem brn_size {A : List Nat → Pt → Prop} (hA : ∀ x p, A x p → 1 ≤ x.length ∧ size p ≤ 3 * x.length) {x : List Nat} {ps : List Pt} (a : Brn A x ps) : sizes ps ≤ 3 * x.length ∧ ps.length ≤ x.length := by
  induction a with
  | nil => simp [sizes]
  | cons p b ih => have := pce_size hA p; simp only [List.length_append, sizes, List.length_cons]; omega
theorem pan_size {A : List Nat → Pt → Prop} (hA : ∀ x p, A x p → 1 ≤ x.length ∧ size p ≤ 3 * x.length) {x : List Nat} {ps : List Pt} (a : Pan A x ps) : sizes ps ≤ 3 * x.length + 1 ∧ ps.length ≤ x.length + 1 := by
  induction a with
  | one b =>
    rename_i ps
    have h1 := brn_size hA b
    have h2 := put_size kRow ps
    simp only [sizes, List.length_cons, List.length_nil]
    omega
  | more b _ ih =>
    rename_i ps qs _
    have h1 := brn_size hA b
    have h2 := put_size kRow ps
    simp only [sizes, List.length_cons, List.length_append]
    omega
theorem atm_size : ∀ (h : Nat) (x : List Nat) (p : Pt), Atm h x p → 1 ≤ x.length ∧ size p ≤ 3 * x.length
  | 0, x, p, a => by
    rcases a with ⟨c, _, rfl, rfl⟩ | ⟨rfl, rfl⟩ <;> simp [size]
  | h + 1, x, p, a => by
    rcases a with a | ⟨tn, its, _, rfl, rfl⟩ | ⟨y, bs, a, rfl, rfl⟩ | ⟨n, y, bs, _, a, rfl, rfl⟩
    · rcases a with ⟨c, _, rfl, rfl⟩ | ⟨rfl, rfl⟩ <;> simp [size]
    · simp only [size, List.length_cons]; omega
    · have h1 := pan_size (atm_size h) a
      have h2 := put_size kAny bs
      simp only [List.length_cons, List.length_append, List.length_nil]
      omega
    · have h1 := pan_size (atm_size h) a
      have h2 := put_size kAny bs
      simp only [size, List.length_cons, List.length_append, List.length_nil]
      omega
end Pg
namespace Pg
open MP
/-! ### texts and forms: more of them -/
section
variable {A B : List Nat → Pt → Prop} (hAB : ∀ x p, A x p → B x p)
include hAB
theorem Pce.mono {x : List Nat} {p : Pt} (a : Pce A x p) : Pce B x p := by
  cases a with
  | one a => exact .one (hAB _ _ a)
  | opt a => exact .opt (hAB _ _ a)
  | star a => exact .star (hAB _ _ a)
  | plus a => exact .plus (hAB _ _ a)
theorem Brn.mono {x : List Nat} {ps : List Pt} (a : Brn A x ps) : Brn B x ps := by
  induction a with
  | nil => exact .nil
  | cons p _ ih => exact .cons (p.mono hAB) ih
theorem Pan.mono {x : List Nat} {ps : List Pt} (a : Pan A x ps) : Pan B x ps := by
  induction a with
  | one b => exact .one (b.mono hAB)
  | more b _ ih => exact .more (b.mono hAB) ih
end
theorem atm_succ : ∀ (h : Nat) (x : List Nat) (p : Pt), Atm h x p → Atm (h + 1) x p
  | 0, x, p, a => .inl a
  | h + 1, x, p, a => by
    rcases a with a | a | ⟨y, bs, a, e1, e2⟩ | ⟨n, y, bs, hn, a, e1, e2⟩
    · exact .inl a
    · exact .inr (.inl a)
    · exact .inr (.inr (.inl ⟨y, bs, a.mono (atm_succ h), e1, e2⟩))
    · exact .inr (.inr (.inr ⟨n, y, bs, hn, a.mono (atm_succ h), e1, e2⟩))
theorem atm_le {h h' : Nat} (hh : h ≤ h') {x : List Nat} {p : Pt} (a : Atm h x p) : Atm h' x p := by
  induction hh with
  | refl => exact a
  | step _ ih => exact atm_succ _ _ _ ih
/-- neither a row nor an any -/
def Pln : Pt → Prop
  | .row _ => False
  | .any _ => False
  | _ => True
theorem put_one {w : List Nat} {p : Pt} (h : Pln p) : put w [p] = p := by
  cases p <;> first | exact h.elim | rfl
theorem pan_one {h : Nat} {x : List Nat} {p : Pt} (a : Pce (Atm h) x p) (hp : Pln p) : Pan (Atm h) x [p] := by
  have b : Brn (Atm h) (x ++ []) [p] := .cons a .nil
  rw [List.append_nil] at b
  have q := Pan.one b
  rw [put_one hp] at q
  exact q
theorem atm_br {h : Nat} {x : List Nat} {p : Pt} (a : Pce (Atm h) x p) (hp : Pln p) : Atm (h + 1) (40 :: (x ++ [41])) p :=
  .inr (.inr (.inl ⟨x, [p], pan_one a hp, rfl, (put_one hp).symm⟩))
theorem atm_mk {h : Nat} {x n : List Nat} {p : Pt} (hn : Nm n) (a : Pce (Atm h) x p) (hp : Pln p) : Atm (h + 1) (60 :: (n ++ 58 :: (x ++ [62]))) (.mark n p) :=
  .inr (.inr (.inr ⟨n, x, [p], hn, pan_one a hp, rfl, by rw [put_one hp]⟩))
theorem atm_mk0 {h : Nat} {n : List Nat} (hn : Nm n) : Atm (h + 1) (60 :: (n ++ [58, 62])) (.mark n (.row [])) :=
  .inr (.inr (.inr ⟨n, [], [.row []], hn, Pan.one .nil, rfl, rfl⟩))
/-- the signs by their places -/
def sgn (n : Nat) : Nat := c_SIGNS.getD n 0
theorem sgn_at {v : Int} (h1 : 0 ≤ v) (h2 : v < 27) : atI c_SIGNS v = some (sgn v.toNat) := by
  rw [atI_nn _ h1]
  have h3 : v.toNat < 27 := by omega
  generalize v.toNat = n at *
  revert n
  decide
theorem sgn_mem {n : Nat} (h : n < 27) : sgn n ∈ c_SIGNS := by
  revert n
  decide
theorem sgn_cut {f l : Nat} (h1 : f ≤ l) (h2 : l < 27) : sgn f ≤ sgn l ∧ cut c_SIGNS (some (f : Int)) (some ((l : Int) + 1)) = c_SIGNS.filter fun z => decide (sgn f ≤ z) && decide (z ≤ sgn l) := by
  have : ∀ l, l < 27 → ∀ f, f < l + 1 → sgn f ≤ sgn l ∧ cut c_SIGNS (some (f : Int)) (some ((l : Int) + 1)) = c_SIGNS.filter fun z => decide (sgn f ≤ z) && decide (z ≤ sgn l) := by decide +kernel
  exact this l h2 f (by omega)
theorem sgn_cut1 {f : Nat} (h2 : f < 27) : cut c_SIGNS (some (f : Int)) (some ((f : Int) + 1)) = [sgn f] := by
  revert f
  decide +kernel
theorem okP_sign {s : List Nat} (h : ∀ c ∈ s, c ∈ c_SIGNS) : okP (.sign s) = true := by
  simp only [okP]
  refine List.all_eq_true.mpr fun c hc => decide_eq_true ?_
  have := (sig_iff c).mp (h c hc)
  omega
theorem nm_ok {n : List Nat} (h : Nm n) : (n.all fun c => decide (c < 128)) = true := List.all_eq_true.mpr fun c hc => decide_eq_true (by have := h.2.2 c hc; omega)
end Pg
namespace Pg
open MP
/-- all but the deck and one list stands -/
def Ky (d c l : Nat) (S S' : Sto) : Prop := S.length ≤ S'.length ∧ ∀ k, k < S.length → k ≠ d → k ≠ c → k ≠ l → S'[k]? = S[k]?
theorem Ky.refl (d c l : Nat) (S : Sto) : Ky d c l S S := ⟨Nat.le_refl _, fun _ _ _ _ _ => rfl⟩
theorem Ky.trans {d c l : Nat} {S S1 S2 : Sto} (a : Ky d c l S S1) (b : Ky d c l S1 S2) : Ky d c l S S2 := ⟨Nat.le_trans a.1 b.1, fun k h h1 h2 h3 => (b.2 k (Nat.lt_of_lt_of_le h a.1) h1 h2 h3).trans (a.2 k h h1 h2 h3)⟩
theorem Ky.of {d c l : Nat} {S S' : Sto} (h : Kx d c S S') : Ky d c l S S' := ⟨h.1, fun k hk h1 h2 _ => h.2 k hk h1 h2⟩
theorem Ky.get {d c l : Nat} {S S' : Sto} (h : Ky d c l S S') {k : Nat} {o : SO} (e : S[k]? = some o) (h1 : k ≠ d) (h2 : k ≠ c) (h3 : k ≠ l) : S'[k]? = some o := (h.2 k (List.getElem?_eq_some_iff.mp e).1 h1 h2 h3).trans e
/-- what stands while a form is drawn -/
structure Fm (d c lf nm n L : Nat) (xs : List (List Nat)) (S : Sto) : Prop where
  dk : Dk d c n S
  le : rdL S lf = some [.int (L : Nat)]
  ns : rdL S nm = some (xs.map .str)
  l1 : lf ≠ d
  l2 : lf ≠ c
  n1 : nm ≠ d
  n2 : nm ≠ c
  n3 : nm ≠ lf
theorem Fm.kx {d c lf nm n L n' : Nat} {xs : List (List Nat)} {S S' : Sto} (h : Fm d c lf nm n L xs S) (k : Kx d c S S') (hd : Dk d c n' S') : Fm d c lf nm n' L xs S' :=
  ⟨hd, rd_kx h.le k h.l1 h.l2, rd_kx h.ns k h.n1 h.n2, h.l1, h.l2, h.n1, h.n2, h.n3⟩
theorem Fm.mono {d c lf nm n L n' : Nat} {xs : List (List Nat)} {S : Sto} (h : Fm d c lf nm n L xs S) (hn : n ≤ n') : Fm d c lf nm n' L xs S := ⟨h.dk.mono hn, h.le, h.ns, h.l1, h.l2, h.n1, h.n2, h.n3⟩
theorem Fm.kp {d c lf nm n L : Nat} {xs : List (List Nat)} {S S' : Sto} (h : Fm d c lf nm n L xs S) (k : Kp S S') : Fm d c lf nm n L xs S' := h.kx (.of k) (h.dk.kp k)
theorem Fm.put {d c lf nm n L : Nat} {xs : List (List Nat)} {S : Sto} (h : Fm d c lf nm n L xs S) (L' : Nat) : Fm d c lf nm n L' xs (S.set lf (.lst [.int (L' : Nat)])) := by
  refine ⟨?_, rdL_set_same h.le, by rw [rdL_set_ne (Ne.symm h.n3)]; exact h.ns, h.l1, h.l2, h.n1, h.n2, h.n3⟩
  obtain ⟨cnt, a, b, e⟩ := h.dk.hd
  obtain ⟨cs, x, y, z⟩ := h.dk.hc
  exact ⟨h.dk.ne, ⟨cnt, a, b, by rw [List.getElem?_set_ne h.l1]; exact e⟩, ⟨cs, x, y, by rw [List.getElem?_set_ne h.l2]; exact z⟩⟩
theorem Ky.put (d c l : Nat) (S : Sto) (o : SO) : Ky d c l S (S.set l o) := ⟨by rw [List.length_set]; exact Nat.le_refl _, fun k _ _ _ h3 => by rw [List.getElem?_set_ne (Ne.symm h3)]⟩
/-- what a drawn form is -/
def FR (d c lf nm n L : Nat) (xs : List (List Nat)) (D : Nat) (S : Sto) (w : W) (S' : Sto) : Prop :=
  ∃ p L', w = enc p ∧ okP p = true ∧ L' ≤ L ∧ size p + L' ≤ L + 1 ∧ deep p ≤ max D 1 ∧ Fm d c lf nm (n + 50 * (L - L' + 1)) L' xs S' ∧ Ky d c lf S S'
end Pg
namespace Pg
open MP
/-! ### patterns as the document has them -/
def isRow : Pt → Bool
  | .row _ => true
  | _ => false
def isAny : Pt → Bool
  | .any _ => true
  | _ => false
def isSom : Pt → Bool
  | .some _ _ _ => true
  | _ => false
def Sgs (s : List Nat) : Prop := s ≠ [] ∧ s.Sublist c_SIGNS
def tms (lo : Int) (hi : W) : Prop := (lo = 0 ∧ hi = .int 1) ∨ (lo = 0 ∧ hi = .non) ∨ (lo = 1 ∧ hi = .non)
mutual
def WP : Pt → Prop
  | .sign s => Sgs s
  | .row ps => WPs ps ∧ ps.length ≠ 1 ∧ (ps.all fun q => !isRow q) = true
  | .any ps => WPs ps ∧ 2 ≤ ps.length ∧ (ps.all fun q => !isAny q) = true
  | .some lo hi p => tms lo hi ∧ WP p
  | .mark n p => Nm n ∧ WP p
def WPs : List Pt → Prop
  | [] => True
  | p :: r => WP p ∧ WPs r
end
theorem wps_mem : ∀ {ps : List Pt}, WPs ps ↔ ∀ q ∈ ps, WP q
  | [] => by simp [WPs]
  | p :: r => by simp only [WPs, wps_mem (ps := r), List.mem_cons, forall_eq_or_imp]
theorem all_not {f : Pt → Bool} {ps : List Pt} : (ps.all fun q => !f q) = true ↔ ∀ q ∈ ps, f q = false := by
  simp [List.all_eq_true]
theorem signs_nd : c_SIGNS.Nodup := by decide
theorem sub_filter : ∀ {s l : List Nat}, l.Nodup → s.Sublist l → l.filter (fun z => decide (z ∈ s)) = s
  | _, _, _, .slnil => rfl
  | s, a :: l, hn, .cons _ h => by
    have hn2 := List.nodup_cons.mp hn
    rw [List.filter_cons_of_neg (by simpa using fun q => hn2.1 (h.mem q))]
    exact sub_filter hn2.2 h
  | a :: s, _ :: l, hn, .cons₂ _ h => by
    have hn2 := List.nodup_cons.mp hn
    rw [List.filter_cons_of_pos (by simp)]
    congr 1
    rw [← sub_filter hn2.2 h]
    refine (List.filter_congr fun z hz => ?_)
    have : z ≠ a := fun e => hn2.1 (e ▸ hz)
    rw [sub_filter hn2.2 h]
    simp [this]
/-! put together -/
theorem flat1_row {p : Pt} (h : WP p) : ∀ q ∈ flat1 kRow p, WP q ∧ isRow q = false := by
  cases p with
  | row qs =>
    simp only [flat1, if_true]
    simp only [WP] at h
    exact fun q hq => ⟨wps_mem.mp h.1 q hq, all_not.mp h.2.2 q hq⟩
  | any qs =>
    simp only [flat1]
    rw [if_neg (by decide)]
    intro q hq
    rw [List.mem_singleton.mp hq]
    exact ⟨h, rfl⟩
  | _ =>
    intro q hq
    simp only [flat1, List.mem_singleton] at hq
    subst hq
    exact ⟨h, rfl⟩
theorem flat1_any {p : Pt} (h : WP p) : (∀ q ∈ flat1 kAny p, WP q ∧ isAny q = false) ∧ flat1 kAny p ≠ [] := by
  cases p with
  | any qs =>
    simp only [flat1, if_true]
    simp only [WP] at h
    exact ⟨fun q hq => ⟨wps_mem.mp h.1 q hq, all_not.mp h.2.2 q hq⟩, fun e => by rw [e] at h; simp at h⟩
  | row qs =>
    simp only [flat1]
    rw [if_neg (by decide)]
    refine ⟨fun q hq => ?_, by simp⟩
    rw [List.mem_singleton.mp hq]
    exact ⟨h, rfl⟩
  | _ =>
    refine ⟨fun q hq => ?_, by simp [flat1]⟩
    simp only [flat1, List.mem_singleton] at hq
    subst hq
    exact ⟨h, rfl⟩
theorem flat_row {ps : List Pt} (h : WPs ps) : ∀ q ∈ flat kRow ps, WP q ∧ isRow q = false := fun q hq => by
  obtain ⟨p, hp, hq⟩ := List.mem_flatMap.mp hq
  exact flat1_row (wps_mem.mp h p hp) q hq
theorem flat_any {ps : List Pt} (h : WPs ps) : ∀ q ∈ flat kAny ps, WP q ∧ isAny q = false := fun q hq => by
  obtain ⟨p, hp, hq⟩ := List.mem_flatMap.mp hq
  exact (flat1_any (wps_mem.mp h p hp)).1 q hq
theorem flat_any_ne {ps : List Pt} (h : WPs ps) (hn : ps ≠ []) : flat kAny ps ≠ [] := by
  cases ps with
  | nil => exact absurd rfl hn
  | cons p r =>
    rw [flat_cons]
    intro e
    exact (flat1_any (wps_mem.mp h p (by simp))).2 (List.append_eq_nil_iff.mp e).1
theorem wp_put_row {ps : List Pt} (h : WPs ps) : WP (put kRow ps) := by
  have hf := flat_row h
  unfold put
  split
  · rename_i p e
    exact (hf p (by rw [e]; simp)).1
  · rename_i l hl
    rw [if_pos rfl]
    simp only [WP]
    exact ⟨wps_mem.mpr fun q hq => (hf q hq).1, fun e => by
      obtain ⟨a, ha⟩ := List.length_eq_one_iff.mp e
      exact hl a ha, all_not.mpr fun q hq => (hf q hq).2⟩
theorem wp_put_any {ps : List Pt} (h : WPs ps) (hn : ps ≠ []) : WP (put kAny ps) := by
  have hf := flat_any h
  have hne := flat_any_ne h hn
  unfold put
  split
  · rename_i p e
    exact (hf p (by rw [e]; simp)).1
  · rename_i l hl
    rw [if_neg (by decide)]
    simp only [WP]
    refine ⟨wps_mem.mpr fun q hq => (hf q hq).1, ?_, all_not.mpr fun q hq => (hf q hq).2⟩
    match hfl : flat kAny ps, hne with
    | [], hne => exact absurd rfl hne
    | [a], _ => exact absurd hfl (hl a)
    | _ :: _ :: _, _ => simp
/-! what is read is a pattern -/
theorem wp_pce {A : List Nat → Pt → Prop} (hA : ∀ x p, A x p → WP p) {x : List Nat} {p : Pt} (h : Pce A x p) : WP p := by
  cases h with
  | one h => exact hA _ _ h
  | opt h => exact ⟨.inl ⟨rfl, rfl⟩, hA _ _ h⟩
  | star h => exact ⟨.inr (.inl ⟨rfl, rfl⟩), hA _ _ h⟩
  | plus h => exact ⟨.inr (.inr ⟨rfl, rfl⟩), hA _ _ h⟩
theorem wp_brn {A : List Nat → Pt → Prop} (hA : ∀ x p, A x p → WP p) {x : List Nat} {ps : List Pt} (h : Brn A x ps) : WPs ps := by
  induction h with
  | nil => trivial
  | cons h _ ih => exact ⟨wp_pce hA h, ih⟩
theorem wp_pan {A : List Nat → Pt → Prop} (hA : ∀ x p, A x p → WP p) {x : List Nat} {bs : List Pt} (h : Pan A x bs) : WPs bs ∧ bs ≠ [] := by
  induction h with
  | one h => exact ⟨⟨wp_put_row (wp_brn hA h), trivial⟩, by simp⟩
  | more h _ ih => exact ⟨⟨wp_put_row (wp_brn hA h), ih.1⟩, by simp⟩
theorem wp_bas {x : List Nat} {p : Pt} (h : Bas x p) : WP p := by
  rcases h with ⟨c, hc, _, rfl⟩ | ⟨_, rfl⟩
  · exact ⟨by simp, List.singleton_sublist.mpr hc⟩
  · exact ⟨by decide, List.Sublist.refl _⟩
theorem wp_atm : ∀ (D : Nat) (x : List Nat) (p : Pt), Atm D x p → WP p
  | 0, x, p, h => wp_bas h
  | D + 1, x, p, h => by
    rcases h with h | ⟨tn, its, h, _, rfl⟩ | ⟨y, bs, h, _, rfl⟩ | ⟨n, y, bs, hn, h, _, rfl⟩
    · exact wp_bas h
    · exact ⟨h.some, List.filter_sublist⟩
    · have q := wp_pan (wp_atm D) h
      exact wp_put_any q.1 q.2
    · have q := wp_pan (wp_atm D) h
      exact ⟨hn, wp_put_any q.1 q.2⟩
/-! ### what is written -/
def wSg (s : List Nat) : List Nat := if s.length = 1 then s else if s = c_SIGNS then [46] else 91 :: (s ++ [93])
def brk (b : Bool) (x : List Nat) : List Nat := if b then 40 :: (x ++ [41]) else x
def bk3 (p : Pt) : Bool := isRow p || isAny p || isSom p
def wTm (lo : Int) : W → List Nat
  | .int _ => [63]
  | _ => if lo = 0 then [42] else [43]
mutual
def wr : Pt → List Nat
  | .sign s => wSg s
  | .row ps => (wrR ps).flatten
  | .any ps => joinL [124] (wrs ps)
  | .some lo hi p => brk (bk3 p) (wr p) ++ wTm lo hi
  | .mark n p => 60 :: (n ++ 58 :: (wr p ++ [62]))
def wrR : List Pt → List (List Nat)
  | [] => []
  | p :: r => brk (isAny p) (wr p) :: wrR r
def wrs : List Pt → List (List Nat)
  | [] => []
  | p :: r => wr p :: wrs r
end
structure Fx (p : Pt) : Prop where
  pan : ∃ bs, Pan (Atm (deep p)) (wr p) bs ∧ put kAny bs = p
  brn : isAny p = false → ∃ ps, Brn (Atm (deep p)) (wr p) ps ∧ put kRow ps = p
  pce : isAny p = false → isRow p = false → Pce (Atm (deep p)) (wr p) p
  atm : bk3 p = false → Atm (deep p) (wr p) p
theorem put_row1 {p : Pt} (h : isRow p = false) : put kRow [p] = p := by
  cases p <;> simp_all [put, flat, flat1, isRow, kRow, kAny]
theorem put_any1 {p : Pt} (h : isAny p = false) : put kAny [p] = p := by
  cases p <;> simp_all [put, flat, flat1, isAny, kRow, kAny]
theorem fx_brn {p : Pt} (ha : isAny p = false) (hb : ∃ ps, Brn (Atm (deep p)) (wr p) ps ∧ put kRow ps = p) (hp : isRow p = false → Pce (Atm (deep p)) (wr p) p) (hA : bk3 p = false → Atm (deep p) (wr p) p) : Fx p := by
  refine ⟨?_, fun _ => hb, fun _ => hp, hA⟩
  obtain ⟨ps, h1, h2⟩ := hb
  refine ⟨[put kRow ps], .one h1, ?_⟩
  rw [h2]
  exact put_any1 ha
theorem fx_pce {p : Pt} (ha : isAny p = false) (hr : isRow p = false) (hp : Pce (Atm (deep p)) (wr p) p) (hA : bk3 p = false → Atm (deep p) (wr p) p) : Fx p := by
  refine fx_brn ha ⟨[p], ?_, put_row1 hr⟩ (fun _ => hp) hA
  have := Brn.cons hp (Brn.nil (A := Atm (deep p)))
  rwa [List.append_nil] at this
theorem fx_atm {p : Pt} (ha : isAny p = false) (hr : isRow p = false) (h : Atm (deep p) (wr p) p) : Fx p := fx_pce ha hr (.one h) fun _ => h
theorem flat_id {w : List Nat} {ps : List Pt} (h : ∀ q ∈ ps, flat1 w q = [q]) : flat w ps = ps := by
  induction ps with
  | nil => rfl
  | cons p r ih =>
    rw [flat_cons, h p (by simp), ih fun q hq => h q (by simp [hq])]
    rfl
theorem flat1_id_row {p : Pt} (h : isRow p = false) : flat1 kRow p = [p] := by
  cases p <;> simp_all [flat1, isRow, kRow, kAny]
theorem flat1_id_any {p : Pt} (h : isAny p = false) : flat1 kAny p = [p] := by
  cases p <;> simp_all [flat1, isAny, kRow, kAny]
theorem brk_atm {p : Pt} {n : Nat} (h : Fx p) (hn : deep p + 1 ≤ n) : Atm n (40 :: (wr p ++ [41])) p := by
  obtain ⟨bs, h1, h2⟩ := h.pan
  refine atm_le hn ?_
  exact .inr (.inr (.inl ⟨_, bs, h1, rfl, h2.symm⟩))
theorem fx_sign {s : List Nat} (h : Sgs s) : Fx (.sign s) := by
  refine fx_atm rfl rfl ?_
  show Atm 1 (wSg s) (.sign s)
  unfold wSg
  split
  · rename_i e
    obtain ⟨c, rfl⟩ := List.length_eq_one_iff.mp e
    exact .inl (.inl ⟨c, h.2.mem (by simp), rfl, rfl⟩)
  · split
    · rename_i e
      subst e
      exact .inl (.inr ⟨rfl, rfl⟩)
    · have e1 : ∀ l : List Nat, (l.map fun c => (c, (none : Option Nat))).flatMap iTxt = l := fun l => by induction l with
        | nil => rfl
        | cons a r ih => simp only [List.map_cons, List.flatMap_cons, ih, iTxt]; rfl
      have e2 : ∀ l : List Nat, (l.map fun c => (c, (none : Option Nat))).flatMap iSig = l := fun l => by induction l with
        | nil => rfl
        | cons a r ih => simp only [List.map_cons, List.flatMap_cons, ih, iSig]; rfl
      have e3 : cSig false (s.map fun c => (c, none)) = s := by
        unfold cSig
        rw [e2]
        have := sub_filter signs_nd h.2
        rw [← this]
        refine List.filter_congr fun z _ => ?_
        rw [this]
        simp
      refine .inr (.inl ⟨false, s.map fun c => (c, none), ⟨fun e => h.1 (List.map_eq_nil_iff.mp e), fun a ha => ?_, by rw [e3]; exact h.1⟩, ?_, by rw [e3]⟩)
      · obtain ⟨c, hc, rfl⟩ := List.mem_map.mp ha
        exact h.2.mem hc
      · unfold cTxt
        rw [e1]
        rfl
theorem fx_all : ∀ (n : Nat) (p : Pt), size p ≤ n → WP p → Fx p
  | 0, p, h, _ => by have := size_pos p; omega
  | n + 1, .sign s, _, hw => fx_sign hw
  | n + 1, .mark m q, h, hw => by
    simp only [size] at h
    have f := fx_all n q (by omega) hw.2
    obtain ⟨bs, h1, h2⟩ := f.pan
    refine fx_atm rfl rfl ?_
    show Atm (1 + deep q) _ _
    rw [Nat.add_comm]
    exact .inr (.inr (.inr ⟨m, _, bs, hw.1, h1, by simp only [wr], by rw [h2]⟩))
  | n + 1, .some lo hi q, h, hw => by
    simp only [size] at h
    have f := fx_all n q (by omega) hw.2
    refine fx_pce rfl rfl ?_ (fun e => by simp [bk3, isSom] at e)
    have ha : Atm (deep (.some lo hi q)) (brk (bk3 q) (wr q)) q := by
      unfold brk
      split
      · exact brk_atm f (by simp only [deep]; omega)
      · rename_i e
        exact atm_le (by simp only [deep]; omega) (f.atm (by simpa using e))
    simp only [wr]
    rcases hw.1 with ⟨rfl, rfl⟩ | ⟨rfl, rfl⟩ | ⟨rfl, rfl⟩
    · exact .opt ha
    · exact .star ha
    · exact .plus ha
  | n + 1, .row ps, h, hw => by
    simp only [size] at h
    have hm : ∀ l : List Pt, (∀ q ∈ l, q ∈ ps) → Brn (Atm (deep (.row ps))) (wrR l).flatten l := by
      intro l
      induction l with
      | nil => exact fun _ => .nil
      | cons q r ih =>
        intro hl
        have hq := hl q (by simp)
        have hsz : size q ≤ n := by
          have : ∀ (l : List Pt), q ∈ l → size q ≤ sizes l := fun l => by induction l with
            | nil => exact fun q => nomatch q
            | cons a b ihb =>
              intro hab
              simp only [sizes]
              rcases List.mem_cons.mp hab with e | e
              · subst e; omega
              · have := ihb e; omega
          have := this ps hq
          omega
        have hdp : deep q ≤ deeps ps := by
          have : ∀ (l : List Pt), q ∈ l → deep q ≤ deeps l := fun l => by induction l with
            | nil => exact fun q => nomatch q
            | cons a b ihb =>
              intro hab
              simp only [deeps]
              rcases List.mem_cons.mp hab with e | e
              · subst e; omega
              · have := ihb e; omega
          exact this ps hq
        have f := fx_all n q hsz (wps_mem.mp hw.1 q hq)
        simp only [wrR, List.flatten_cons]
        refine .cons ?_ (ih fun z hz => hl z (by simp [hz]))
        unfold brk
        split
        · exact .one (brk_atm f (by simp only [deep]; omega))
        · rename_i e
          exact (f.pce (by simpa using e) (all_not.mp hw.2.2 q hq)).mono fun _ _ z => atm_le (by simp only [deep]; omega) z
    refine fx_brn rfl ⟨ps, by simp only [wr]; exact hm ps fun _ h => h, ?_⟩ (fun e => by simp [isRow] at e) (fun e => by simp [bk3, isRow] at e)
    have hf : flat kRow ps = ps := flat_id fun q hq => flat1_id_row (all_not.mp hw.2.2 q hq)
    unfold put
    rw [hf]
    split
    · rename_i e
      have := hw.2.1
      simp at this
    · rw [if_pos rfl]
  | n + 1, .any ps, h, hw => by
    simp only [size] at h
    have hm : ∀ l : List Pt, l ≠ [] → (∀ q ∈ l, q ∈ ps) → Pan (Atm (deep (.any ps))) (joinL [124] (wrs l)) l := by
      intro l
      induction l with
      | nil => exact fun e => absurd rfl e
      | cons q r ih =>
        intro _ hl
        have hq := hl q (by simp)
        have hsz : size q ≤ n := by
          have : ∀ (l : List Pt), q ∈ l → size q ≤ sizes l := fun l => by induction l with
            | nil => exact fun q => nomatch q
            | cons a b ihb =>
              intro hab
              simp only [sizes]
              rcases List.mem_cons.mp hab with e | e
              · subst e; omega
              · have := ihb e; omega
          have := this ps hq
          omega
        have hdp : deep q ≤ deeps ps := by
          have : ∀ (l : List Pt), q ∈ l → deep q ≤ deeps l := fun l => by induction l with
            | nil => exact fun q => nomatch q
            | cons a b ihb =>
              intro hab
              simp only [deeps]
              rcases List.mem_cons.mp hab with e | e
              · subst e; omega
              · have := ihb e; omega
          exact this ps hq
        have f := fx_all n q hsz (wps_mem.mp hw.1 q hq)
        obtain ⟨zs, h1, h2⟩ := f.brn (all_not.mp hw.2.2 q hq)
        have h1 : Brn (Atm (deep (.any ps))) (wr q) zs := h1.mono fun _ _ z => atm_le (by simp only [deep]; omega) z
        cases r with
        | nil =>
          simp only [wrs, joinL]
          have := Pan.one h1
          rwa [h2] at this
        | cons q2 r2 =>
          have := Pan.more h1 (ih (by simp) fun z hz => hl z (by simp [hz]))
          rw [h2] at this
          simpa [wrs, joinL] using this
    have hl2 := hw.2.1
    refine ⟨⟨ps, by simp only [wr]; exact hm ps (fun e => by rw [e] at hl2; simp at hl2) fun _ h => h, ?_⟩, fun e => by simp [isAny] at e, fun e => by simp [isAny] at e, fun e => by simp [bk3, isAny] at e⟩
    have hf : flat kAny ps = ps := flat_id fun q hq => flat1_id_any (all_not.mp hw.2.2 q hq)
    unfold put
    rw [hf]
    split
    · rename_i e
      simp at hl2
    · rw [if_neg (by decide)]
theorem txts_strs (xs : List (List Nat)) : txts (xs.map W.str) = some xs := by
  induction xs with
  | nil => rfl
  | cons x r ih => simp only [List.map_cons, txts, ih, Option.map_some]
end Pg
namespace Pg
open MP
/-! ### writing -/
theorem sgs_len {s : List Nat} (h : Sgs s) : s.length ≤ 27 := by
  have := h.2.length_le
  simpa [c_SIGNS] using this
theorem lens_flat : ∀ ys : List (List Nat), lens ys = ys.flatten.length
  | [] => rfl
  | y :: r => by rw [lens, List.flatten_cons, List.length_append, lens_flat r]
theorem joinL_len (sep : List Nat) : ∀ ys : List (List Nat), (joinL sep ys).length ≤ lens ys + ys.length * sep.length
  | [] => by simp [joinL]
  | [x] => by simp [joinL, lens]
  | x :: y :: r => by
    have := joinL_len sep (y :: r)
    simp only [joinL, List.length_append, lens, List.length_cons, Nat.add_mul, Nat.one_mul] at this ⊢
    omega
theorem brk_len (b : Bool) (x : List Nat) : (brk b x).length ≤ x.length + 2 := by
  unfold brk
  split <;> simp
mutual
theorem wr_len : ∀ p : Pt, WP p → (wr p).length + 2 ≤ 45 * size p
  | .sign s, h => by
    have := sgs_len h
    simp only [wr, wSg, size]
    split
    · omega
    · split <;> simp <;> omega
  | .row ps, h => by
    have := wrR_len ps h.1
    simp only [wr, size]
    rw [← lens_flat]
    omega
  | .any ps, h => by
    have h1 := wrs_len ps h.1
    have h2 := joinL_len [124] (wrs ps)
    simp only [wr, size]
    simp only [List.length_cons, List.length_nil, Nat.mul_one] at h2
    omega
  | .some lo hi p, h => by
    have h1 := wr_len p h.2
    have h2 := brk_len (bk3 p) (wr p)
    have h3 : (wTm lo hi).length = 1 := by
      rcases h.1 with ⟨rfl, rfl⟩ | ⟨rfl, rfl⟩ | ⟨rfl, rfl⟩ <;> rfl
    simp only [wr, size, List.length_append]
    omega
  | .mark n p, h => by
    have h1 := wr_len p h.2
    have h2 := h.1.2.1
    simp only [wr, size, List.length_cons, List.length_append, List.length_nil]
    omega
theorem wrR_len : ∀ ps : List Pt, WPs ps → lens (wrR ps) ≤ 45 * sizes ps
  | [], _ => by simp [wrR, lens]
  | p :: r, h => by
    have h1 := wr_len p h.1
    have h2 := wrR_len r h.2
    have h3 := brk_len (isAny p) (wr p)
    simp only [wrR, lens, sizes]
    omega
theorem wrs_len : ∀ ps : List Pt, WPs ps → lens (wrs ps) + (wrs ps).length ≤ 45 * sizes ps
  | [], _ => by simp [wrs, lens]
  | p :: r, h => by
    have h1 := wr_len p h.1
    have h2 := wrs_len r h.2
    simp only [wrs, lens, sizes, List.length_cons]
    omega
end
theorem wrR_map : ∀ ps : List Pt, wrR ps = ps.map fun p => brk (isAny p) (wr p)
  | [] => rfl
  | p :: r => by rw [wrR, wrR_map r]; rfl
theorem wrs_map : ∀ ps : List Pt, wrs ps = ps.map wr
  | [] => rfl
  | p :: r => by rw [wrs, wrs_map r]; rfl
section
variable {S : Sto} {P : W → Sto → Prop}
theorem b_fc3 (a b c : List Nat) : Is (opI .fcat [.str a, .str b, .str c] S) P = (a.length + (b.length + c.length) ≤ LIM ∧ P (.str (a ++ (b ++ c))) S) := by
  simp only [opI, txts, Option.map_some, lens, List.flatten_cons, List.flatten_nil, List.append_nil, Nat.add_zero]
  split
  · rename_i h
    rw [is_some]
    exact propext ⟨fun q => ⟨h, q⟩, fun q => q.2⟩
  · rename_i h
    rw [is_none]
    exact propext ⟨fun q => q.elim, fun q => absurd q.1 h⟩
theorem b_fc5 (a b c d e : List Nat) : Is (opI .fcat [.str a, .str b, .str c, .str d, .str e] S) P = (a.length + (b.length + (c.length + (d.length + e.length))) ≤ LIM ∧ P (.str (a ++ (b ++ (c ++ (d ++ e))))) S) := by
  simp only [opI, txts, Option.map_some, lens, List.flatten_cons, List.flatten_nil, List.append_nil, Nat.add_zero]
  split
  · rename_i h
    rw [is_some]
    exact propext ⟨fun q => ⟨h, q⟩, fun q => q.2⟩
  · rename_i h
    rw [is_none]
    exact propext ⟨fun q => q.elim, fun q => absurd q.1 h⟩
theorem in_1 {Q : Bool → Prop} (p : Pt) : IsB (opC .isIn (.str (word p)) (.tup [.str kAny]) S) Q = Q (isAny p) := by
  cases p <;> exact isB_some _ _
theorem in_3 {Q : Bool → Prop} (p : Pt) : IsB (opC .isIn (.str (word p)) (.tup [.str kRow, .str kAny, .str kSome]) S) Q = Q (bk3 p) := by
  cases p <;> exact isB_some _ _
end
section
variable {ds : Nat → Option Def}
structure WrD (ds : Nat → Option Def) : Prop where
  h71 : ds 71 = some ⟨1, 3, b_write⟩
  h72 : ds 72 = some ⟨1, 1, b_write_signs⟩
  h73 : ds 73 = some ⟨2, 2, b_bracketed⟩
  h74 : ds 74 = some ⟨2, 2, b_write_times⟩
theorem wsg_spec (Z : WrD ds) (k : Nat) (S : Sto) {s : List Nat} (h : Sgs s) : Is (callF ds (k + 1) 72 [.str s] S) fun w S' => w = .str (wSg s) ∧ S' = S := by
  have hl := sgs_len h
  refine w_callF (k := k) Z.h72 rfl ?_
  simp only [b_write_signs, w_var, w_c, w_bin, w_cmp, w_chain, w_and, w_or, w_ite, w_not, w_nil, w_cons, w_tup, w_lst, w_ix, w_no, w_yes, w_sl, w_call, w_bi, w_val, w_rng1, w_rng2, s_nil, s_cons, s_ret, s_expr, s_set, s_if, s_pass, s_setix, s_app, s_ext, o_addI, o_addS, o_addT, o_addL, o_sub, o_mulI, o_mulS, o_mulL, o_fdiv, o_mod, o_pow, c_ltI, c_ltS, c_le, c_gt, c_ge, c_eq, c_ne, e_ii, e_ss, e_bb, c_inS, c_notS, i_str, i_tup, i_ref, l_str, l_tup, l_rol, l_ref, b_lenS, b_lenT, b_lenR, b_abs, b_tupR, b_tupT, b_listR, b_listT, b_all, b_any, b_intI, b_intB, b_isiN, b_isiB, b_isiI, b_isiS, b_isiT, b_isiR, b_isiL, b_isN, b_notN, b_neg, b_rev, b_join, t_str, is_some, isB_some, byB_true, byB_false, start, wipe, bindT, List.map_cons, List.map_nil, List.cons_append, List.nil_append, List.append_nil, List.getElem?_cons_zero, List.getElem?_cons_succ, List.length_cons, List.length_nil, List.set_cons_zero, List.set_cons_succ, atI_0, atI_1, atI_2, atI_3, List.replicate, Nat.zero_add, Nat.reduceAdd, Nat.reduceSub, seqW_ref, seqW_tup, c_leS, b_iaddI, b_iaddS, b_isub, w_enum, w_zip, w_callv, e_ii, e_ss]
  unfold wSg
  refine ⟨by simp only [LIM]; omega, ?_⟩
  refine byB_dec _ _ _ (fun h1 => ?_) (fun h1 => byB_dec _ _ _ (fun h2 => ?_) (fun h2 => ?_))
  · have h1 := of_decide_eq_true h1
    rw [if_pos (by omega)]
    exact ⟨rfl, trivial⟩
  · have h1 := of_decide_eq_false h1
    have h2 := of_decide_eq_true h2
    rw [if_neg (by omega), if_pos h2]
    exact ⟨rfl, trivial⟩
  · have h1 := of_decide_eq_false h1
    have h2 := of_decide_eq_false h2
    rw [if_neg (by omega), if_neg h2, b_fc3]
    refine ⟨by simp only [LIM, List.length_cons, List.length_nil]; omega, rfl, rfl⟩
theorem wtm_spec (Z : WrD ds) (k : Nat) (S : Sto) {lo : Int} {hi : W} (h : tms lo hi) : Is (callF ds (k + 1) 74 [.int lo, hi] S) fun w S' => w = .str (wTm lo hi) ∧ S' = S := by
  refine w_callF (k := k) Z.h74 rfl ?_
  rcases h with ⟨rfl, rfl⟩ | ⟨rfl, rfl⟩ | ⟨rfl, rfl⟩
  · simp only [b_write_times, w_var, w_c, w_bin, w_cmp, w_chain, w_and, w_or, w_ite, w_not, w_nil, w_cons, w_tup, w_lst, w_ix, w_no, w_yes, w_sl, w_call, w_bi, w_val, w_rng1, w_rng2, s_nil, s_cons, s_ret, s_expr, s_set, s_if, s_pass, s_setix, s_app, s_ext, o_addI, o_addS, o_addT, o_addL, o_sub, o_mulI, o_mulS, o_mulL, o_fdiv, o_mod, o_pow, c_ltI, c_ltS, c_le, c_gt, c_ge, c_eq, c_ne, e_ii, e_ss, e_bb, c_inS, c_notS, i_str, i_tup, i_ref, l_str, l_tup, l_rol, l_ref, b_lenS, b_lenT, b_lenR, b_abs, b_tupR, b_tupT, b_listR, b_listT, b_all, b_any, b_intI, b_intB, b_isiN, b_isiB, b_isiI, b_isiS, b_isiT, b_isiR, b_isiL, b_isN, b_notN, b_neg, b_rev, b_join, t_str, is_some, isB_some, byB_true, byB_false, start, wipe, bindT, List.map_cons, List.map_nil, List.cons_append, List.nil_append, List.append_nil, List.getElem?_cons_zero, List.getElem?_cons_succ, List.length_cons, List.length_nil, List.set_cons_zero, List.set_cons_succ, atI_0, atI_1, atI_2, atI_3, List.replicate, Nat.zero_add, Nat.reduceAdd, Nat.reduceSub, seqW_ref, seqW_tup, c_leS, b_iaddI, b_iaddS, b_isub, w_enum, w_zip, w_callv, e_ii]
    exact ⟨rfl, trivial⟩
  · simp only [b_write_times, w_var, w_c, w_bin, w_cmp, w_chain, w_and, w_or, w_ite, w_not, w_nil, w_cons, w_tup, w_lst, w_ix, w_no, w_yes, w_sl, w_call, w_bi, w_val, w_rng1, w_rng2, s_nil, s_cons, s_ret, s_expr, s_set, s_if, s_pass, s_setix, s_app, s_ext, o_addI, o_addS, o_addT, o_addL, o_sub, o_mulI, o_mulS, o_mulL, o_fdiv, o_mod, o_pow, c_ltI, c_ltS, c_le, c_gt, c_ge, c_eq, c_ne, e_ii, e_ss, e_bb, c_inS, c_notS, i_str, i_tup, i_ref, l_str, l_tup, l_rol, l_ref, b_lenS, b_lenT, b_lenR, b_abs, b_tupR, b_tupT, b_listR, b_listT, b_all, b_any, b_intI, b_intB, b_isiN, b_isiB, b_isiI, b_isiS, b_isiT, b_isiR, b_isiL, b_isN, b_notN, b_neg, b_rev, b_join, t_str, is_some, isB_some, byB_true, byB_false, start, wipe, bindT, List.map_cons, List.map_nil, List.cons_append, List.nil_append, List.append_nil, List.getElem?_cons_zero, List.getElem?_cons_succ, List.length_cons, List.length_nil, List.set_cons_zero, List.set_cons_succ, atI_0, atI_1, atI_2, atI_3, List.replicate, Nat.zero_add, Nat.reduceAdd, Nat.reduceSub, seqW_ref, seqW_tup, c_leS, b_iaddI, b_iaddS, b_isub, w_enum, w_zip, w_callv, show ∀ S, eqW S W.non (.int 1) = some false from fun _ => rfl, isB_some, byB_false, e_ii]
    exact ⟨rfl, trivial⟩
  · simp only [b_write_times, w_var, w_c, w_bin, w_cmp, w_chain, w_and, w_or, w_ite, w_not, w_nil, w_cons, w_tup, w_lst, w_ix, w_no, w_yes, w_sl, w_call, w_bi, w_val, w_rng1, w_rng2, s_nil, s_cons, s_ret, s_expr, s_set, s_if, s_pass, s_setix, s_app, s_ext, o_addI, o_addS, o_addT, o_addL, o_sub, o_mulI, o_mulS, o_mulL, o_fdiv, o_mod, o_pow, c_ltI, c_ltS, c_le, c_gt, c_ge, c_eq, c_ne, e_ii, e_ss, e_bb, c_inS, c_notS, i_str, i_tup, i_ref, l_str, l_tup, l_rol, l_ref, b_lenS, b_lenT, b_lenR, b_abs, b_tupR, b_tupT, b_listR, b_listT, b_all, b_any, b_intI, b_intB, b_isiN, b_isiB, b_isiI, b_isiS, b_isiT, b_isiR, b_isiL, b_isN, b_notN, b_neg, b_rev, b_join, t_str, is_some, isB_some, byB_true, byB_false, start, wipe, bindT, List.map_cons, List.map_nil, List.cons_append, List.nil_append, List.append_nil, List.getElem?_cons_zero, List.getElem?_cons_succ, List.length_cons, List.length_nil, List.set_cons_zero, List.set_cons_succ, atI_0, atI_1, atI_2, atI_3, List.replicate, Nat.zero_add, Nat.reduceAdd, Nat.reduceSub, seqW_ref, seqW_tup, c_leS, b_iaddI, b_iaddS, b_isub, w_enum, w_zip, w_callv, show ∀ S, eqW S W.non (.int 1) = some false from fun _ => rfl, isB_some, byB_false, e_ii]
    exact ⟨rfl, trivial⟩
theorem brk_spec (Z : WrD ds) (k : Nat) (S : Sto) (q : Pt) (b : Bool) (ks : W) (hk : ∀ S Q, IsB (opC .isIn (.str (word q)) ks S) Q = Q b) (hl : (wr q).length ≤ 100000) (h : Is (callF ds k 71 [enc q] S) fun w S' => w = .str (wr q) ∧ Kp S S') :
    Is (callF ds (k + 1) 73 [enc q, ks] S) fun w S' => w = .str (brk b (wr q)) ∧ Kp S S' := by
  refine w_callF (k := k) Z.h73 rfl ?_
  obtain ⟨r, hd⟩ := enc_head q
  generalize enc q = e at *
  subst hd
  simp only [b_bracketed, w_var, w_c, w_bin, w_cmp, w_chain, w_and, w_or, w_ite, w_not, w_nil, w_cons, w_tup, w_lst, w_ix, w_no, w_yes, w_sl, w_call, w_bi, w_val, w_rng1, w_rng2, s_nil, s_cons, s_ret, s_expr, s_set, s_if, s_pass, s_setix, s_app, s_ext, o_addI, o_addS, o_addT, o_addL, o_sub, o_mulI, o_mulS, o_mulL, o_fdiv, o_mod, o_pow, c_ltI, c_ltS, c_le, c_gt, c_ge, c_eq, c_ne, e_ii, e_ss, e_bb, c_inS, c_notS, i_str, i_tup, i_ref, l_str, l_tup, l_rol, l_ref, b_lenS, b_lenT, b_lenR, b_abs, b_tupR, b_tupT, b_listR, b_listT, b_all, b_any, b_intI, b_intB, b_isiN, b_isiB, b_isiI, b_isiS, b_isiT, b_isiR, b_isiL, b_isN, b_notN, b_neg, b_rev, b_join, t_str, is_some, isB_some, byB_true, byB_false, start, wipe, bindT, List.map_cons, List.map_nil, List.cons_append, List.nil_append, List.append_nil, List.getElem?_cons_zero, List.getElem?_cons_succ, List.length_cons, List.length_nil, List.set_cons_zero, List.set_cons_succ, atI_0, atI_1, atI_2, atI_3, List.replicate, Nat.zero_add, Nat.reduceAdd, Nat.reduceSub, seqW_ref, seqW_tup, c_leS, b_iaddI, b_iaddS, b_isub, w_enum, w_zip, w_callv, hk]
  cases b
  · simp only [byB_false]
    exact h.imp fun w S' hw => hw
  · simp only [byB_true]
    refine h.imp fun w S' hw => ?_
    obtain ⟨rfl, k1⟩ := hw
    rw [b_fc3]
    exact ⟨by simp only [LIM, List.length_cons, List.length_nil]; omega, rfl, k1⟩
theorem write_spec (Z : WrD ds) : ∀ (D k : Nat) (p : Pt) (S : Sto), deep p ≤ D → size p ≤ 1000 → WP p → Is (callF ds (k + 2 * D + 2) 71 [enc p] S) fun w S' => w = .str (wr p) ∧ Kp S S' := by
  intro D
  induction D with
  | zero => intro k p S hd; have := deep_pos p; omega
  | succ D IH =>
  intro k p S hd hs hw
  refine w_callF (k := k + 2 * D + 3) Z.h71 rfl ?_
  have hlen := wr_len p hw
  cases p with
  | sign s =>
    simp only [b_write, w_var, w_c, w_bin, w_cmp, w_chain, w_and, w_or, w_ite, w_not, w_nil, w_cons, w_tup, w_lst, w_ix, w_no, w_yes, w_sl, w_call, w_bi, w_val, w_rng1, w_rng2, s_nil, s_cons, s_ret, s_expr, s_set, s_if, s_pass, s_setix, s_app, s_ext, o_addI, o_addS, o_addT, o_addL, o_sub, o_mulI, o_mulS, o_mulL, o_fdiv, o_mod, o_pow, c_ltI, c_ltS, c_le, c_gt, c_ge, c_eq, c_ne, e_ii, e_ss, e_bb, c_inS, c_notS, i_str, i_tup, i_ref, l_str, l_tup, l_rol, l_ref, b_lenS, b_lenT, b_lenR, b_abs, b_tupR, b_tupT, b_listR, b_listT, b_all, b_any, b_intI, b_intB, b_isiN, b_isiB, b_isiI, b_isiS, b_isiT, b_isiR, b_isiL, b_isN, b_notN, b_neg, b_rev, b_join, t_str, is_some, isB_some, byB_true, byB_false, start, wipe, bindT, List.map_cons, List.map_nil, List.cons_append, List.nil_append, List.append_nil, List.getElem?_cons_zero, List.getElem?_cons_succ, List.length_cons, List.length_nil, List.set_cons_zero, List.set_cons_succ, atI_0, atI_1, atI_2, atI_3, List.replicate, Nat.zero_add, Nat.reduceAdd, Nat.reduceSub, seqW_ref, seqW_tup, c_leS, b_iaddI, b_iaddS, b_isub, w_enum, w_zip, w_callv, enc, e_ss]
    simp only [decide_true, byB_true]
    refine (wsg_spec Z (k + 2 * D + 2) S hw).imp fun w S' hw => ?_
    obtain ⟨rfl, rfl⟩ := hw
    exact ⟨by simp only [wr], .refl _⟩
  | row ps =>
    simp only [size] at hs
    simp only [deep] at hd
    have lm := len_sizes ps
    have hr := wrR_len ps hw.1
    have hL : ps.length ≤ LIM := by simp only [LIM]; omega
    simp only [b_write, w_var, w_c, w_bin, w_cmp, w_chain, w_and, w_or, w_ite, w_not, w_nil, w_cons, w_tup, w_lst, w_ix, w_no, w_yes, w_sl, w_call, w_bi, w_val, w_rng1, w_rng2, s_nil, s_cons, s_ret, s_expr, s_set, s_if, s_pass, s_setix, s_app, s_ext, o_addI, o_addS, o_addT, o_addL, o_sub, o_mulI, o_mulS, o_mulL, o_fdiv, o_mod, o_pow, c_ltI, c_ltS, c_le, c_gt, c_ge, c_eq, c_ne, e_ii, e_ss, e_bb, c_inS, c_notS, i_str, i_tup, i_ref, l_str, l_tup, l_rol, l_ref, b_lenS, b_lenT, b_lenR, b_abs, b_tupR, b_tupT, b_listR, b_listT, b_all, b_any, b_intI, b_intB, b_isiN, b_isiB, b_isiI, b_isiS, b_isiT, b_isiR, b_isiL, b_isN, b_notN, b_neg, b_rev, b_join, t_str, is_some, isB_some, byB_true, byB_false, start, wipe, bindT, List.map_cons, List.map_nil, List.cons_append, List.nil_append, List.append_nil, List.getElem?_cons_zero, List.getElem?_cons_succ, List.length_cons, List.length_nil, List.set_cons_zero, List.set_cons_succ, atI_0, atI_1, atI_2, atI_3, List.replicate, Nat.zero_add, Nat.reduceAdd, Nat.reduceSub, seqW_ref, seqW_tup, c_leS, b_iaddI, b_iaddS, b_isub, w_enum, w_zip, w_callv, enc, e_ss, show decide (kRow = [115, 105, 103, 110]) = false from rfl, decide_true, byB_true]
    refine w_comp hL (fun i acc S' => acc = ((ps.take i).map fun p => W.str (brk (isAny p) (wr p))) ∧ Kp S S') ?_
    try simp only [w_var, w_c, w_bin, w_cmp, w_chain, w_and, w_or, w_ite, w_not, w_nil, w_cons, w_tup, w_lst, w_ix, w_no, w_yes, w_sl, w_call, w_bi, w_val, w_rng1, w_rng2, s_nil, s_cons, s_ret, s_expr, s_set, s_if, s_pass, s_setix, s_app, s_ext, o_addI, o_addS, o_addT, o_addL, o_sub, o_mulI, o_mulS, o_mulL, o_fdiv, o_mod, o_pow, c_ltI, c_ltS, c_le, c_gt, c_ge, c_eq, c_ne, e_ii, e_ss, e_bb, c_inS, c_notS, i_str, i_tup, i_ref, l_str, l_tup, l_rol, l_ref, b_lenS, b_lenT, b_lenR, b_abs, b_tupR, b_tupT, b_listR, b_listT, b_all, b_any, b_intI, b_intB, b_isiN, b_isiB, b_isiI, b_isiS, b_isiT, b_isiR, b_isiL, b_isN, b_notN, b_neg, b_rev, b_join, t_str, is_some, isB_some, byB_true, byB_false, start, wipe, bindT, List.map_cons, List.map_nil, List.cons_append, List.nil_append, List.append_nil, List.getElem?_cons_zero, List.getElem?_cons_succ, List.length_cons, List.length_nil, List.set_cons_zero, List.set_cons_succ, atI_0, atI_1, atI_2, atI_3, List.replicate, Nat.zero_add, Nat.reduceAdd, Nat.reduceSub, seqW_ref, seqW_tup, c_leS, b_iaddI, b_iaddS, b_isub, w_enum, w_zip, w_callv]
    refine ⟨by simp only [Src.len, encs_len], ⟨rfl, .refl _⟩, fun i acc S' hi hI => ?_, fun acc S' _ hI => ?_⟩
    · obtain ⟨rfl, f3⟩ := hI
      have hx : (encs ps)[i]? = some (enc ps[i]) := by rw [encs_map, List.getElem?_map, List.getElem?_eq_getElem hi]; rfl
      refine ⟨enc ps[i], _, by simp only [Src.item]; exact hx, rfl, ?_⟩
      have hm : ps[i] ∈ ps := List.getElem_mem hi
      have q1 := deep_mem hm
      have q2 := size_mem hm
      have q3 := wps_mem.mp hw.1 _ hm
      have q4 := wr_len _ q3
      have ht : ps.take (i + 1) = ps.take i ++ [ps[i]] := by rw [List.take_add_one, List.getElem?_eq_getElem hi]; rfl
      try simp only [w_var, w_c, w_bin, w_cmp, w_chain, w_and, w_or, w_ite, w_not, w_nil, w_cons, w_tup, w_lst, w_ix, w_no, w_yes, w_sl, w_call, w_bi, w_val, w_rng1, w_rng2, s_nil, s_cons, s_ret, s_expr, s_set, s_if, s_pass, s_setix, s_app, s_ext, o_addI, o_addS, o_addT, o_addL, o_sub, o_mulI, o_mulS, o_mulL, o_fdiv, o_mod, o_pow, c_ltI, c_ltS, c_le, c_gt, c_ge, c_eq, c_ne, e_ii, e_ss, e_bb, c_inS, c_notS, i_str, i_tup, i_ref, l_str, l_tup, l_rol, l_ref, b_lenS, b_lenT, b_lenR, b_abs, b_tupR, b_tupT, b_listR, b_listT, b_all, b_any, b_intI, b_intB, b_isiN, b_isiB, b_isiI, b_isiS, b_isiT, b_isiR, b_isiL, b_isN, b_notN, b_neg, b_rev, b_join, t_str, is_some, isB_some, byB_true, byB_false, start, wipe, bindT, List.map_cons, List.map_nil, List.cons_append, List.nil_append, List.append_nil, List.getElem?_cons_zero, List.getElem?_cons_succ, List.length_cons, List.length_nil, List.set_cons_zero, List.set_cons_succ, atI_0, atI_1, atI_2, atI_3, List.replicate, Nat.zero_add, Nat.reduceAdd, Nat.reduceSub, seqW_ref, seqW_tup, c_leS, b_iaddI, b_iaddS, b_isub, w_enum, w_zip, w_callv]
      refine ⟨by simp [LIM], ?_⟩
      refine (brk_spec Z (k + 2 * D + 2) S' ps[i] (isAny ps[i]) _ (fun S Q => in_1 _) (by omega) (IH k ps[i] S' (by omega) (by omega) q3)).imp fun w S2 hw => ?_
      obtain ⟨rfl, g3⟩ := hw
      exact ⟨by rw [ht, List.map_append]; rfl, f3.trans g3⟩
    · obtain ⟨rfl, f3⟩ := hI
      rw [List.take_length]
      refine ⟨⟨_, Nat.le_refl _, by simp only [Src.len, encs_len]⟩, ?_⟩
      have e1 : (ps.map fun p => W.str (brk (isAny p) (wr p))) = (wrR ps).map W.str := by rw [wrR_map, List.map_map]; rfl
      rw [e1]
      simp only [rdL_new, txts_strs, joinL_nil]
      refine ⟨by simp only [LIM, List.length_nil, Nat.mul_zero]; omega, by simp only [wr], f3.snoc _⟩
  | any ps =>
    simp only [size] at hs
    simp only [deep] at hd
    have lm := len_sizes ps
    have hr := wrs_len ps hw.1
    have hL : ps.length ≤ LIM := by simp only [LIM]; omega
    simp only [b_write, w_var, w_c, w_bin, w_cmp, w_chain, w_and, w_or, w_ite, w_not, w_nil, w_cons, w_tup, w_lst, w_ix, w_no, w_yes, w_sl, w_call, w_bi, w_val, w_rng1, w_rng2, s_nil, s_cons, s_ret, s_expr, s_set, s_if, s_pass, s_setix, s_app, s_ext, o_addI, o_addS, o_addT, o_addL, o_sub, o_mulI, o_mulS, o_mulL, o_fdiv, o_mod, o_pow, c_ltI, c_ltS, c_le, c_gt, c_ge, c_eq, c_ne, e_ii, e_ss, e_bb, c_inS, c_notS, i_str, i_tup, i_ref, l_str, l_tup, l_rol, l_ref, b_lenS, b_lenT, b_lenR, b_abs, b_tupR, b_tupT, b_listR, b_listT, b_all, b_any, b_intI, b_intB, b_isiN, b_isiB, b_isiI, b_isiS, b_isiT, b_isiR, b_isiL, b_isN, b_notN, b_neg, b_rev, b_join, t_str, is_some, isB_some, byB_true, byB_false, start, wipe, bindT, List.map_cons, List.map_nil, List.cons_append, List.nil_append, List.append_nil, List.getElem?_cons_zero, List.getElem?_cons_succ, List.length_cons, List.length_nil, List.set_cons_zero, List.set_cons_succ, atI_0, atI_1, atI_2, atI_3, List.replicate, Nat.zero_add, Nat.reduceAdd, Nat.reduceSub, seqW_ref, seqW_tup, c_leS, b_iaddI, b_iaddS, b_isub, w_enum, w_zip, w_callv, enc, e_ss, show decide (kAny = [115, 105, 103, 110]) = false from rfl, show decide (kAny = [114, 111, 119]) = false from rfl, decide_true, byB_true]
    refine w_comp hL (fun i acc S' => acc = ((ps.take i).map fun p => W.str (wr p)) ∧ Kp S S') ?_
    try simp only [w_var, w_c, w_bin, w_cmp, w_chain, w_and, w_or, w_ite, w_not, w_nil, w_cons, w_tup, w_lst, w_ix, w_no, w_yes, w_sl, w_call, w_bi, w_val, w_rng1, w_rng2, s_nil, s_cons, s_ret, s_expr, s_set, s_if, s_pass, s_setix, s_app, s_ext, o_addI, o_addS, o_addT, o_addL, o_sub, o_mulI, o_mulS, o_mulL, o_fdiv, o_mod, o_pow, c_ltI, c_ltS, c_le, c_gt, c_ge, c_eq, c_ne, e_ii, e_ss, e_bb, c_inS, c_notS, i_str, i_tup, i_ref, l_str, l_tup, l_rol, l_ref, b_lenS, b_lenT, b_lenR, b_abs, b_tupR, b_tupT, b_listR, b_listT, b_all, b_any, b_intI, b_intB, b_isiN, b_isiB, b_isiI, b_isiS, b_isiT, b_isiR, b_isiL, b_isN, b_notN, b_neg, b_rev, b_join, t_str, is_some, isB_some, byB_true, byB_false, start, wipe, bindT, List.map_cons, List.map_nil, List.cons_append, List.nil_append, List.append_nil, List.getElem?_cons_zero, List.getElem?_cons_succ, List.length_cons, List.length_nil, List.set_cons_zero, List.set_cons_succ, atI_0, atI_1, atI_2, atI_3, List.replicate, Nat.zero_add, Nat.reduceAdd, Nat.reduceSub, seqW_ref, seqW_tup, c_leS, b_iaddI, b_iaddS, b_isub, w_enum, w_zip, w_callv]
    refine ⟨by simp only [Src.len, encs_len], ⟨rfl, .refl _⟩, fun i acc S' hi hI => ?_, fun acc S' _ hI => ?_⟩
    · obtain ⟨rfl, f3⟩ := hI
      have hx : (encs ps)[i]? = some (enc ps[i]) := by rw [encs_map, List.getElem?_map, List.getElem?_eq_getElem hi]; rfl
      refine ⟨enc ps[i], _, by simp only [Src.item]; exact hx, rfl, ?_⟩
      have hm : ps[i] ∈ ps := List.getElem_mem hi
      have q1 := deep_mem hm
      have q2 := size_mem hm
      have q3 := wps_mem.mp hw.1 _ hm
      have ht : ps.take (i + 1) = ps.take i ++ [ps[i]] := by rw [List.take_add_one, List.getElem?_eq_getElem hi]; rfl
      try simp only [w_var, w_c, w_bin, w_cmp, w_chain, w_and, w_or, w_ite, w_not, w_nil, w_cons, w_tup, w_lst, w_ix, w_no, w_yes, w_sl, w_call, w_bi, w_val, w_rng1, w_rng2, s_nil, s_cons, s_ret, s_expr, s_set, s_if, s_pass, s_setix, s_app, s_ext, o_addI, o_addS, o_addT, o_addL, o_sub, o_mulI, o_mulS, o_mulL, o_fdiv, o_mod, o_pow, c_ltI, c_ltS, c_le, c_gt, c_ge, c_eq, c_ne, e_ii, e_ss, e_bb, c_inS, c_notS, i_str, i_tup, i_ref, l_str, l_tup, l_rol, l_ref, b_lenS, b_lenT, b_lenR, b_abs, b_tupR, b_tupT, b_listR, b_listT, b_all, b_any, b_intI, b_intB, b_isiN, b_isiB, b_isiI, b_isiS, b_isiT, b_isiR, b_isiL, b_isN, b_notN, b_neg, b_rev, b_join, t_str, is_some, isB_some, byB_true, byB_false, start, wipe, bindT, List.map_cons, List.map_nil, List.cons_append, List.nil_append, List.append_nil, List.getElem?_cons_zero, List.getElem?_cons_succ, List.length_cons, List.length_nil, List.set_cons_zero, List.set_cons_succ, atI_0, atI_1, atI_2, atI_3, List.replicate, Nat.zero_add, Nat.reduceAdd, Nat.reduceSub, seqW_ref, seqW_tup, c_leS, b_iaddI, b_iaddS, b_isub, w_enum, w_zip, w_callv]
      refine (show k + 2 * D + 3 = (k + 1) + 2 * D + 2 by omega) ▸ (IH (k + 1) ps[i] S' (by omega) (by omega) q3).imp fun w S2 hw => ?_
      obtain ⟨rfl, g3⟩ := hw
      exact ⟨by rw [ht, List.map_append]; rfl, f3.trans g3⟩
    · obtain ⟨rfl, f3⟩ := hI
      rw [List.take_length]
      refine ⟨⟨_, Nat.le_refl _, by simp only [Src.len, encs_len]⟩, ?_⟩
      have e1 : (ps.map fun p => W.str (wr p)) = (wrs ps).map W.str := by rw [wrs_map, List.map_map]; rfl
      rw [e1]
      simp only [rdL_new, txts_strs]
      refine ⟨by simp only [LIM, List.length_nil, List.length_cons, Nat.mul_one]; omega, by simp only [wr], f3.snoc _⟩
  | some lo hi q =>
    simp only [size] at hs
    simp only [deep] at hd
    have q4 := wr_len q hw.2
    have q5 := brk_len (bk3 q) (wr q)
    have q6 : (wTm lo hi).length = 1 := by
      rcases hw.1 with ⟨rfl, rfl⟩ | ⟨rfl, rfl⟩ | ⟨rfl, rfl⟩ <;> rfl
    simp only [b_write, w_var, w_c, w_bin, w_cmp, w_chain, w_and, w_or, w_ite, w_not, w_nil, w_cons, w_tup, w_lst, w_ix, w_no, w_yes, w_sl, w_call, w_bi, w_val, w_rng1, w_rng2, s_nil, s_cons, s_ret, s_expr, s_set, s_if, s_pass, s_setix, s_app, s_ext, o_addI, o_addS, o_addT, o_addL, o_sub, o_mulI, o_mulS, o_mulL, o_fdiv, o_mod, o_pow, c_ltI, c_ltS, c_le, c_gt, c_ge, c_eq, c_ne, e_ii, e_ss, e_bb, c_inS, c_notS, i_str, i_tup, i_ref, l_str, l_tup, l_rol, l_ref, b_lenS, b_lenT, b_lenR, b_abs, b_tupR, b_tupT, b_listR, b_listT, b_all, b_any, b_intI, b_intB, b_isiN, b_isiB, b_isiI, b_isiS, b_isiT, b_isiR, b_isiL, b_isN, b_notN, b_neg, b_rev, b_join, t_str, is_some, isB_some, byB_true, byB_false, start, wipe, bindT, List.map_cons, List.map_nil, List.cons_append, List.nil_append, List.append_nil, List.getElem?_cons_zero, List.getElem?_cons_succ, List.length_cons, List.length_nil, List.set_cons_zero, List.set_cons_succ, atI_0, atI_1, atI_2, atI_3, List.replicate, Nat.zero_add, Nat.reduceAdd, Nat.reduceSub, seqW_ref, seqW_tup, c_leS, b_iaddI, b_iaddS, b_isub, w_enum, w_zip, w_callv, enc, e_ss, show decide (kSome = [115, 105, 103, 110]) = false from rfl, show decide (kSome = [114, 111, 119]) = false from rfl, show decide (kSome = [97, 110, 121]) = false from rfl, decide_true, byB_true]
    refine ⟨by simp [LIM], ?_⟩
    refine (brk_spec Z (k + 2 * D + 2) S q (bk3 q) _ (fun S Q => in_3 _) (by omega) (IH k q S (by omega) (by omega) hw.2)).imp fun w S2 h2 => ?_
    obtain ⟨rfl, g3⟩ := h2
    try simp only [w_var, w_c, w_bin, w_cmp, w_chain, w_and, w_or, w_ite, w_not, w_nil, w_cons, w_tup, w_lst, w_ix, w_no, w_yes, w_sl, w_call, w_bi, w_val, w_rng1, w_rng2, s_nil, s_cons, s_ret, s_expr, s_set, s_if, s_pass, s_setix, s_app, s_ext, o_addI, o_addS, o_addT, o_addL, o_sub, o_mulI, o_mulS, o_mulL, o_fdiv, o_mod, o_pow, c_ltI, c_ltS, c_le, c_gt, c_ge, c_eq, c_ne, e_ii, e_ss, e_bb, c_inS, c_notS, i_str, i_tup, i_ref, l_str, l_tup, l_rol, l_ref, b_lenS, b_lenT, b_lenR, b_abs, b_tupR, b_tupT, b_listR, b_listT, b_all, b_any, b_intI, b_intB, b_isiN, b_isiB, b_isiI, b_isiS, b_isiT, b_isiR, b_isiL, b_isN, b_notN, b_neg, b_rev, b_join, t_str, is_some, isB_some, byB_true, byB_false, start, wipe, bindT, List.map_cons, List.map_nil, List.cons_append, List.nil_append, List.append_nil, List.getElem?_cons_zero, List.getElem?_cons_succ, List.length_cons, List.length_nil, List.set_cons_zero, List.set_cons_succ, atI_0, atI_1, atI_2, atI_3, List.replicate, Nat.zero_add, Nat.reduceAdd, Nat.reduceSub, seqW_ref, seqW_tup, c_leS, b_iaddI, b_iaddS, b_isub, w_enum, w_zip, w_callv]
    refine (wtm_spec Z (k + 2 * D + 2) S2 hw.1).imp fun w S3 h3 => ?_
    obtain ⟨rfl, rfl⟩ := h3
    try simp only [w_var, w_c, w_bin, w_cmp, w_chain, w_and, w_or, w_ite, w_not, w_nil, w_cons, w_tup, w_lst, w_ix, w_no, w_yes, w_sl, w_call, w_bi, w_val, w_rng1, w_rng2, s_nil, s_cons, s_ret, s_expr, s_set, s_if, s_pass, s_setix, s_app, s_ext, o_addI, o_addS, o_addT, o_addL, o_sub, o_mulI, o_mulS, o_mulL, o_fdiv, o_mod, o_pow, c_ltI, c_ltS, c_le, c_gt, c_ge, c_eq, c_ne, e_ii, e_ss, e_bb, c_inS, c_notS, i_str, i_tup, i_ref, l_str, l_tup, l_rol, l_ref, b_lenS, b_lenT, b_lenR, b_abs, b_tupR, b_tupT, b_listR, b_listT, b_all, b_any, b_intI, b_intB, b_isiN, b_isiB, b_isiI, b_isiS, b_isiT, b_isiR, b_isiL, b_isN, b_notN, b_neg, b_rev, b_join, t_str, is_some, isB_some, byB_true, byB_false, start, wipe, bindT, List.map_cons, List.map_nil, List.cons_append, List.nil_append, List.append_nil, List.getElem?_cons_zero, List.getElem?_cons_succ, List.length_cons, List.length_nil, List.set_cons_zero, List.set_cons_succ, atI_0, atI_1, atI_2, atI_3, List.replicate, Nat.zero_add, Nat.reduceAdd, Nat.reduceSub, seqW_ref, seqW_tup, c_leS, b_iaddI, b_iaddS, b_isub, w_enum, w_zip, w_callv]
    exact ⟨by simp only [LIM]; omega, by simp only [wr], g3⟩
  | mark n q =>
    simp only [size] at hs
    simp only [deep] at hd
    have q4 := wr_len q hw.2
    have q5 := hw.1.2.1
    simp only [b_write, w_var, w_c, w_bin, w_cmp, w_chain, w_and, w_or, w_ite, w_not, w_nil, w_cons, w_tup, w_lst, w_ix, w_no, w_yes, w_sl, w_call, w_bi, w_val, w_rng1, w_rng2, s_nil, s_cons, s_ret, s_expr, s_set, s_if, s_pass, s_setix, s_app, s_ext, o_addI, o_addS, o_addT, o_addL, o_sub, o_mulI, o_mulS, o_mulL, o_fdiv, o_mod, o_pow, c_ltI, c_ltS, c_le, c_gt, c_ge, c_eq, c_ne, e_ii, e_ss, e_bb, c_inS, c_notS, i_str, i_tup, i_ref, l_str, l_tup, l_rol, l_ref, b_lenS, b_lenT, b_lenR, b_abs, b_tupR, b_tupT, b_listR, b_listT, b_all, b_any, b_intI, b_intB, b_isiN, b_isiB, b_isiI, b_isiS, b_isiT, b_isiR, b_isiL, b_isN, b_notN, b_neg, b_rev, b_join, t_str, is_some, isB_some, byB_true, byB_false, start, wipe, bindT, List.map_cons, List.map_nil, List.cons_append, List.nil_append, List.append_nil, List.getElem?_cons_zero, List.getElem?_cons_succ, List.length_cons, List.length_nil, List.set_cons_zero, List.set_cons_succ, atI_0, atI_1, atI_2, atI_3, List.replicate, Nat.zero_add, Nat.reduceAdd, Nat.reduceSub, seqW_ref, seqW_tup, c_leS, b_iaddI, b_iaddS, b_isub, w_enum, w_zip, w_callv, enc, e_ss, show decide (kMark = [115, 105, 103, 110]) = false from rfl, show decide (kMark = [114, 111, 119]) = false from rfl, show decide (kMark = [97, 110, 121]) = false from rfl, show decide (kMark = [115, 111, 109, 101]) = false from rfl]
    refine (show k + 2 * D + 3 = (k + 1) + 2 * D + 2 by omega) ▸ (IH (k + 1) q S (by omega) (by omega) hw.2).imp fun w S2 h2 => ?_
    obtain ⟨rfl, g3⟩ := h2
    rw [b_fc5]
    exact ⟨by simp only [LIM, List.length_cons, List.length_nil]; omega, by simp only [wr]; rfl, g3⟩
end
end Pg
namespace Pg
open MP
theorem cut_sub (G : List Nat) (a b : Option Int) : (cut G a b).Sublist G := (List.take_sublist _ _).trans (List.drop_sublist _ _)
theorem cut_ne {G : List Nat} {a b : Int} (h1 : a < G.length) (h2 : 0 ≤ a) (h3 : a < b) (h4 : 0 ≤ b) : cut G (some a) (some b) ≠ [] := fun e => by
  have q := congrArg List.length e
  unfold MP.cut at q
  simp only [sIx, List.length_take, List.length_drop, List.length_nil] at q
  rw [if_neg (by omega), if_neg (by omega)] at q
  omega
section
variable {ds : Nat → Option Def}
theorem signs8_spec (h4 : ds 4 = some ⟨2, 4, b_law_draw⟩) (h22 : ds 22 = some ⟨1, 6, b_law_signs⟩) (k : Nat) {S : Sto} {d c n : Nat} (h : Dk d c n S) (hn : n ≤ 100000000) :
    Is (callF ds (k + 2) 22 [.ref d] S) fun w S' => ∃ x : List Nat, w = .str x ∧ Sgs x ∧ Dk d c (n + 40) S' ∧ Kx d c S S' := by
  refine w_callF (k := k + 1) h22 rfl ?_
  simp only [b_law_signs, w_var, w_c, w_bin, w_cmp, w_chain, w_and, w_or, w_ite, w_not, w_nil, w_cons, w_tup, w_lst, w_ix, w_no, w_yes, w_sl, w_call, w_bi, w_val, w_rng1, w_rng2, s_nil, s_cons, s_ret, s_expr, s_set, s_if, s_pass, s_setix, s_app, s_ext, o_addI, o_addS, o_addT, o_addL, o_sub, o_mulI, o_mulS, o_mulL, o_fdiv, o_mod, o_pow, c_ltI, c_ltS, c_le, c_gt, c_ge, c_eq, c_ne, e_ii, e_ss, e_bb, c_inS, c_notS, i_str, i_tup, i_ref, l_str, l_tup, l_rol, l_ref, b_lenS, b_lenT, b_lenR, b_abs, b_tupR, b_tupT, b_listR, b_listT, b_all, b_any, b_intI, b_intB, b_isiN, b_isiB, b_isiI, b_isiS, b_isiT, b_isiR, b_isiL, b_isN, b_notN, b_neg, b_rev, b_join, t_str, is_some, isB_some, byB_true, byB_false, start, wipe, bindT, List.map_cons, List.map_nil, List.cons_append, List.nil_append, List.append_nil, List.getElem?_cons_zero, List.getElem?_cons_succ, List.length_cons, List.length_nil, List.set_cons_zero, List.set_cons_succ, atI_0, atI_1, atI_2, atI_3, List.replicate, Nat.zero_add, Nat.reduceAdd, Nat.reduceSub, seqW_ref, seqW_tup, c_leS, b_iaddI, b_iaddS, b_isub, w_enum, w_zip, w_callv]
  generalize hG : ([32, 97, 98, 99, 100, 101, 102, 103, 104, 105, 106, 107, 108, 109, 110, 111, 112, 113, 114, 115, 116, 117, 118, 119, 120, 121, 122] : List Nat) = G
  have gl : G.length = 27 := by rw [← hG]; rfl
  have gm : ∀ c ∈ G, c < 128 := by rw [← hG]; decide
  have hGs : G = c_SIGNS := by rw [← hG]; rfl
  have gL : G.length ≤ LIM := by simp only [LIM]; omega
  have allOf : ∀ x : List Nat, (∀ c ∈ x, c ∈ G) → (x.all fun c => decide (c < 128)) = true := fun x hx => List.all_eq_true.mpr fun c hc => decide_eq_true (gm c (hx c hc))
  refine draw_w h4 k h (.refl _ _ _) (by omega) 5 (by omega) (by omega) fun a1 S1 a2 a3 a4 a5 _ => ?_
  refine draw_w h4 k a4 a5 (by omega) 27 (by omega) (by omega) fun b1 S2 b2 b3 b4 b5 _ => ?_
  try simp only [w_var, w_c, w_bin, w_cmp, w_chain, w_and, w_or, w_ite, w_not, w_nil, w_cons, w_tup, w_lst, w_ix, w_no, w_yes, w_sl, w_call, w_bi, w_val, w_rng1, w_rng2, s_nil, s_cons, s_ret, s_expr, s_set, s_if, s_pass, s_setix, s_app, s_ext, o_addI, o_addS, o_addT, o_addL, o_sub, o_mulI, o_mulS, o_mulL, o_fdiv, o_mod, o_pow, c_ltI, c_ltS, c_le, c_gt, c_ge, c_eq, c_ne, e_ii, e_ss, e_bb, c_inS, c_notS, i_str, i_tup, i_ref, l_str, l_tup, l_rol, l_ref, b_lenS, b_lenT, b_lenR, b_abs, b_tupR, b_tupT, b_listR, b_listT, b_all, b_any, b_intI, b_intB, b_isiN, b_isiB, b_isiI, b_isiS, b_isiT, b_isiR, b_isiL, b_isN, b_notN, b_neg, b_rev, b_join, t_str, is_some, isB_some, byB_true, byB_false, start, wipe, bindT, List.map_cons, List.map_nil, List.cons_append, List.nil_append, List.append_nil, List.getElem?_cons_zero, List.getElem?_cons_succ, List.length_cons, List.length_nil, List.set_cons_zero, List.set_cons_succ, atI_0, atI_1, atI_2, atI_3, List.replicate, Nat.zero_add, Nat.reduceAdd, Nat.reduceSub, seqW_ref, seqW_tup, c_leS, b_iaddI, b_iaddS, b_isub, w_enum, w_zip, w_callv, e_ii]
  have hb : ∃ z ∈ G, atI G b1 = some z := by
    rw [atI_nn _ b2, List.getElem?_eq_getElem (by omega)]
    exact ⟨_, List.getElem_mem _, rfl⟩
  obtain ⟨z, hz, ez⟩ := hb
  have one : ([z].all fun c => decide (c < 128)) = true := allOf [z] fun c hc => by rw [List.mem_singleton.mp hc]; exact hz
  refine byB_dec _ _ _ (fun _ => ?_) (fun _ => byB_dec _ _ _ (fun _ => ?_) (fun _ => byB_dec _ _ _ (fun _ => ?_) (fun _ => ?_)))
  · rw [ez]
    exact ⟨by first | exact gL | simp [LIM], [z], rfl, ⟨by simp, by rw [← hGs]; exact List.singleton_sublist.mpr hz⟩, b4.mono (by omega), b5⟩
  · exact ⟨G, rfl, ⟨fun e => by rw [e] at gl; simp at gl, by rw [hGs]; exact List.Sublist.refl _⟩, b4.mono (by omega), b5⟩
  · refine draw_w h4 k b4 b5 (by omega) 27 (by omega) (by omega) fun c1 S3 c2 c3 c4 c5 _ => ?_
    try simp only [w_var, w_c, w_bin, w_cmp, w_chain, w_and, w_or, w_ite, w_not, w_nil, w_cons, w_tup, w_lst, w_ix, w_no, w_yes, w_sl, w_call, w_bi, w_val, w_rng1, w_rng2, s_nil, s_cons, s_ret, s_expr, s_set, s_if, s_pass, s_setix, s_app, s_ext, o_addI, o_addS, o_addT, o_addL, o_sub, o_mulI, o_mulS, o_mulL, o_fdiv, o_mod, o_pow, c_ltI, c_ltS, c_le, c_gt, c_ge, c_eq, c_ne, e_ii, e_ss, e_bb, c_inS, c_notS, i_str, i_tup, i_ref, l_str, l_tup, l_rol, l_ref, b_lenS, b_lenT, b_lenR, b_abs, b_tupR, b_tupT, b_listR, b_listT, b_all, b_any, b_intI, b_intB, b_isiN, b_isiB, b_isiI, b_isiS, b_isiT, b_isiR, b_isiL, b_isN, b_notN, b_neg, b_rev, b_join, t_str, is_some, isB_some, byB_true, byB_false, start, wipe, bindT, List.map_cons, List.map_nil, List.cons_append, List.nil_append, List.append_nil, List.getElem?_cons_zero, List.getElem?_cons_succ, List.length_cons, List.length_nil, List.set_cons_zero, List.set_cons_succ, atI_0, atI_1, atI_2, atI_3, List.replicate, Nat.zero_add, Nat.reduceAdd, Nat.reduceSub, seqW_ref, seqW_tup, c_leS, b_iaddI, b_iaddS, b_isub, w_enum, w_zip, w_callv]
    exact ⟨by first | exact gL | simp [LIM], _, rfl, ⟨cut_ne (by omega) b2 (by omega) (by omega), by rw [← hGs]; exact cut_sub _ _ _⟩, c4.mono (by omega), c5⟩
  · refine w_comp gL (fun i acc S' => ∃ x : List Nat, acc = x.map (fun c => W.str [c]) ∧ x.length ≤ i ∧ (∀ c ∈ x, c ∈ G) ∧ x.Sublist (G.take i) ∧ Dk d c (n + 2 + i) S' ∧ Kx d c S S') ?_
    try simp only [w_var, w_c, w_bin, w_cmp, w_chain, w_and, w_or, w_ite, w_not, w_nil, w_cons, w_tup, w_lst, w_ix, w_no, w_yes, w_sl, w_call, w_bi, w_val, w_rng1, w_rng2, s_nil, s_cons, s_ret, s_expr, s_set, s_if, s_pass, s_setix, s_app, s_ext, o_addI, o_addS, o_addT, o_addL, o_sub, o_mulI, o_mulS, o_mulL, o_fdiv, o_mod, o_pow, c_ltI, c_ltS, c_le, c_gt, c_ge, c_eq, c_ne, e_ii, e_ss, e_bb, c_inS, c_notS, i_str, i_tup, i_ref, l_str, l_tup, l_rol, l_ref, b_lenS, b_lenT, b_lenR, b_abs, b_tupR, b_tupT, b_listR, b_listT, b_all, b_any, b_intI, b_intB, b_isiN, b_isiB, b_isiI, b_isiS, b_isiT, b_isiR, b_isiL, b_isN, b_notN, b_neg, b_rev, b_join, t_str, is_some, isB_some, byB_true, byB_false, start, wipe, bindT, List.map_cons, List.map_nil, List.cons_append, List.nil_append, List.append_nil, List.getElem?_cons_zero, List.getElem?_cons_succ, List.length_cons, List.length_nil, List.set_cons_zero, List.set_cons_succ, atI_0, atI_1, atI_2, atI_3, List.replicate, Nat.zero_add, Nat.reduceAdd, Nat.reduceSub, seqW_ref, seqW_tup, c_leS, b_iaddI, b_iaddS, b_isub, w_enum, w_zip, w_callv, Src.len]
    refine ⟨trivial, ⟨[], rfl, by simp, (fun _ h => nomatch h), List.nil_sublist _, b4, b5⟩, fun i acc S' hi hI => ?_, fun acc S' _ hI => ?_⟩
    · obtain ⟨x, rfl, x1, x2, xs, x3, x4⟩ := hI
      have tk : ∀ hi : i < G.length, G.take (i + 1) = G.take i ++ [G[i]] := fun hi => by rw [List.take_add_one, List.getElem?_eq_getElem hi]; rfl
      refine ⟨.str [G[i]], _, by simp only [Src.item, List.getElem?_eq_getElem hi, Option.map_some], rfl, ?_⟩
      try simp only [w_var, w_c, w_bin, w_cmp, w_chain, w_and, w_or, w_ite, w_not, w_nil, w_cons, w_tup, w_lst, w_ix, w_no, w_yes, w_sl, w_call, w_bi, w_val, w_rng1, w_rng2, s_nil, s_cons, s_ret, s_expr, s_set, s_if, s_pass, s_setix, s_app, s_ext, o_addI, o_addS, o_addT, o_addL, o_sub, o_mulI, o_mulS, o_mulL, o_fdiv, o_mod, o_pow, c_ltI, c_ltS, c_le, c_gt, c_ge, c_eq, c_ne, e_ii, e_ss, e_bb, c_inS, c_notS, i_str, i_tup, i_ref, l_str, l_tup, l_rol, l_ref, b_lenS, b_lenT, b_lenR, b_abs, b_tupR, b_tupT, b_listR, b_listT, b_all, b_any, b_intI, b_intB, b_isiN, b_isiB, b_isiI, b_isiS, b_isiT, b_isiR, b_isiL, b_isN, b_notN, b_neg, b_rev, b_join, t_str, is_some, isB_some, byB_true, byB_false, start, wipe, bindT, List.map_cons, List.map_nil, List.cons_append, List.nil_append, List.append_nil, List.getElem?_cons_zero, List.getElem?_cons_succ, List.length_cons, List.length_nil, List.set_cons_zero, List.set_cons_succ, atI_0, atI_1, atI_2, atI_3, List.replicate, Nat.zero_add, Nat.reduceAdd, Nat.reduceSub, seqW_ref, seqW_tup, c_leS, b_iaddI, b_iaddS, b_isub, w_enum, w_zip, w_callv]
      refine draw_w h4 k x3 x4 (by omega) 3 (by omega) (by omega) fun c1 S3 c2 c3 c4 c5 _ => ?_
      try simp only [w_var, w_c, w_bin, w_cmp, w_chain, w_and, w_or, w_ite, w_not, w_nil, w_cons, w_tup, w_lst, w_ix, w_no, w_yes, w_sl, w_call, w_bi, w_val, w_rng1, w_rng2, s_nil, s_cons, s_ret, s_expr, s_set, s_if, s_pass, s_setix, s_app, s_ext, o_addI, o_addS, o_addT, o_addL, o_sub, o_mulI, o_mulS, o_mulL, o_fdiv, o_mod, o_pow, c_ltI, c_ltS, c_le, c_gt, c_ge, c_eq, c_ne, e_ii, e_ss, e_bb, c_inS, c_notS, i_str, i_tup, i_ref, l_str, l_tup, l_rol, l_ref, b_lenS, b_lenT, b_lenR, b_abs, b_tupR, b_tupT, b_listR, b_listT, b_all, b_any, b_intI, b_intB, b_isiN, b_isiB, b_isiI, b_isiS, b_isiT, b_isiR, b_isiL, b_isN, b_notN, b_neg, b_rev, b_join, t_str, is_some, isB_some, byB_true, byB_false, start, wipe, bindT, List.map_cons, List.map_nil, List.cons_append, List.nil_append, List.append_nil, List.getElem?_cons_zero, List.getElem?_cons_succ, List.length_cons, List.length_nil, List.set_cons_zero, List.set_cons_succ, atI_0, atI_1, atI_2, atI_3, List.replicate, Nat.zero_add, Nat.reduceAdd, Nat.reduceSub, seqW_ref, seqW_tup, c_leS, b_iaddI, b_iaddS, b_isub, w_enum, w_zip, w_callv, e_ii]
      refine byB_dec _ _ _ (fun _ => ?_) (fun _ => ?_)
      · refine ⟨x ++ [G[i]], by rw [List.map_append]; rfl, by rw [List.length_append]; simp; omega, fun c hc => ?_, by rw [tk hi]; exact xs.append (List.Sublist.refl _), c4.mono (by omega), c5⟩
        rcases List.mem_append.mp hc with q | q
        · exact x2 c q
        · rw [List.mem_singleton.mp q]
          exact List.getElem_mem _
      · exact ⟨x, rfl, by omega, x2, by rw [tk hi]; exact xs.trans (List.sublist_append_left _ _), c4.mono (by omega), c5⟩
    · obtain ⟨x, rfl, x1, x2, xs, x3, x4⟩ := hI
      refine ⟨⟨_, Nat.le_refl _, rfl⟩, by first | exact gL | simp [LIM], ?_⟩
      rw [ez]
      try simp only [w_var, w_c, w_bin, w_cmp, w_chain, w_and, w_or, w_ite, w_not, w_nil, w_cons, w_tup, w_lst, w_ix, w_no, w_yes, w_sl, w_call, w_bi, w_val, w_rng1, w_rng2, s_nil, s_cons, s_ret, s_expr, s_set, s_if, s_pass, s_setix, s_app, s_ext, o_addI, o_addS, o_addT, o_addL, o_sub, o_mulI, o_mulS, o_mulL, o_fdiv, o_mod, o_pow, c_ltI, c_ltS, c_le, c_gt, c_ge, c_eq, c_ne, e_ii, e_ss, e_bb, c_inS, c_notS, i_str, i_tup, i_ref, l_str, l_tup, l_rol, l_ref, b_lenS, b_lenT, b_lenR, b_abs, b_tupR, b_tupT, b_listR, b_listT, b_all, b_any, b_intI, b_intB, b_isiN, b_isiB, b_isiI, b_isiS, b_isiT, b_isiR, b_isiL, b_isN, b_notN, b_neg, b_rev, b_join, t_str, is_some, isB_some, byB_true, byB_false, start, wipe, bindT, List.map_cons, List.map_nil, List.cons_append, List.nil_append, List.append_nil, List.getElem?_cons_zero, List.getElem?_cons_succ, List.length_cons, List.length_nil, List.set_cons_zero, List.set_cons_succ, atI_0, atI_1, atI_2, atI_3, List.replicate, Nat.zero_add, Nat.reduceAdd, Nat.reduceSub, seqW_ref, seqW_tup, c_leS, b_iaddI, b_iaddS, b_isub, w_enum, w_zip, w_callv]
      refine ⟨by simp [LIM], by simp [LIM], ?_⟩
      have hx : ∀ y ∈ x.map (fun c => [c]), ∀ c ∈ y, c < 1114112 := by
        intro y hy c hc
        obtain ⟨c', hc', rfl⟩ := List.mem_map.mp hy
        rw [List.mem_singleton.mp hc]
        have := gm c' (x2 c' hc')
        omega
      have r0 : rdL (S' ++ [SO.lst (x.map fun c => W.str [c])] ++ [SO.lst [W.str [z]]] ++ [SO.lst []]) S'.length = some ((x.map fun c => [c]).map W.str) := by
        rw [← ones_str]
        exact rdL_app (rdL_app (rdL_new _ _))
      obtain ⟨dd, hd⟩ := dats_strs (S := S' ++ [SO.lst (x.map fun c => W.str [c])] ++ [SO.lst [W.str [z]]] ++ [SO.lst []]) (n := 59) _ hx
      rw [eqW_nil r0 hd (rdL_new _ _)]
      try simp only [w_var, w_c, w_bin, w_cmp, w_chain, w_and, w_or, w_ite, w_not, w_nil, w_cons, w_tup, w_lst, w_ix, w_no, w_yes, w_sl, w_call, w_bi, w_val, w_rng1, w_rng2, s_nil, s_cons, s_ret, s_expr, s_set, s_if, s_pass, s_setix, s_app, s_ext, o_addI, o_addS, o_addT, o_addL, o_sub, o_mulI, o_mulS, o_mulL, o_fdiv, o_mod, o_pow, c_ltI, c_ltS, c_le, c_gt, c_ge, c_eq, c_ne, e_ii, e_ss, e_bb, c_inS, c_notS, i_str, i_tup, i_ref, l_str, l_tup, l_rol, l_ref, b_lenS, b_lenT, b_lenR, b_abs, b_tupR, b_tupT, b_listR, b_listT, b_all, b_any, b_intI, b_intB, b_isiN, b_isiB, b_isiI, b_isiS, b_isiT, b_isiR, b_isiL, b_isN, b_notN, b_neg, b_rev, b_join, t_str, is_some, isB_some, byB_true, byB_false, start, wipe, bindT, List.map_cons, List.map_nil, List.cons_append, List.nil_append, List.append_nil, List.getElem?_cons_zero, List.getElem?_cons_succ, List.length_cons, List.length_nil, List.set_cons_zero, List.set_cons_succ, atI_0, atI_1, atI_2, atI_3, List.replicate, Nat.zero_add, Nat.reduceAdd, Nat.reduceSub, seqW_ref, seqW_tup, c_leS, b_iaddI, b_iaddS, b_isub, w_enum, w_zip, w_callv]
      have r1 : rdL (S' ++ [SO.lst (x.map fun c => W.str [c])] ++ [SO.lst [W.str [z]]] ++ [SO.lst []]) (S' ++ [SO.lst (x.map fun c => W.str [c])]).length = some [W.str [z]] := rdL_app (rdL_new _ _)
      have k3 : Kp S' (S' ++ [SO.lst (x.map fun c => W.str [c])] ++ [SO.lst [W.str [z]]] ++ [SO.lst []]) := ((Kp.app _ _).snoc _).snoc _
      generalize hS3 : S' ++ [SO.lst (x.map fun c => W.str [c])] ++ [SO.lst [W.str [z]]] ++ [SO.lst []] = S3 at *
      rw [r1]
      have xs : x.Sublist c_SIGNS := by
        rw [← hGs]
        exact xs.trans (List.take_sublist _ _)
      have hrep : ∃ y : List Nat, (List.replicate (if ((x.map fun c => [c]).map W.str).isEmpty = true then (1 : Int) else 0).toNat [W.str [z]]).flatten = y.map (fun c => W.str [c]) ∧ y.length ≤ 1 ∧ Sgs (x ++ y) := by
        cases x with
        | nil => exact ⟨[z], rfl, by simp, by simp, by rw [← hGs]; exact List.singleton_sublist.mpr hz⟩
        | cons a r => exact ⟨[], rfl, by simp, by simp, by rw [List.append_nil]; exact xs⟩
      obtain ⟨y, hy, hyl, hym⟩ := hrep
      simp only [hy, List.length_map]
      have hi1 : ∀ b : Bool, (if b = true then (1 : Int) else 0) ≤ 1 ∧ 0 ≤ (if b = true then (1 : Int) else 0) := fun b => by split <;> omega
      have hi2 := hi1 ((x.map fun c => [c]).map W.str).isEmpty
      refine ⟨⟨by omega, by omega, ?_⟩, by simp only [LIM]; omega, ?_⟩
      · simp only [List.length_cons, List.length_nil, LIM]
        omega
      have r2 : rdL (S3 ++ [SO.lst (y.map fun c => W.str [c])]) S'.length = some (x.map fun c => W.str [c]) := rdL_app (r0.trans (congrArg some (ones_str x).symm))
      rw [r2, rdL_new]
      simp only [rdL_new]
      rw [← List.map_append, ones_str, txts_map]
      simp only
      rw [joinL_nil, lens_sum, flat_ones, List.length_map, List.length_map, List.length_append]
      refine ⟨by simp only [LIM]; omega, by simp [LIM]; omega, x ++ y, rfl, hym, ((x3.kp k3).kp ((Kp.app _ _).snoc _)).mono (by omega), (x4.trans (.of k3)).trans (.of ((Kp.app _ _).snoc _))⟩
end
end Pg
namespace Pg
open MP
/-- no row of one part, no any of less than two -/
def Wl : Pt → Prop
  | .row qs => qs.length ≠ 1
  | .any qs => 2 ≤ qs.length
  | _ => True
theorem put_any_one {p : Pt} (h : Wl p) : put kAny [p] = p := by
  cases p with
  | any qs =>
    have h2 : 2 ≤ qs.length := h
    unfold put
    have e : flat kAny [.any qs] = qs := by simp [flat, flat1]
    rw [e]
    cases qs with
    | nil => simp at h2
    | cons a r =>
      cases r with
      | nil => simp at h2
      | cons b r => rfl
  | _ => rfl
theorem wl_one : ∀ {ps : List Pt} {p : Pt}, (∀ q ∈ ps, Wl q) → flat kRow ps = [p] → Wl p
  | [], p, _, e => by simp [flat] at e
  | q :: r, p, h, e => by
    rw [flat_cons] at e
    have hq := h q (List.mem_cons_self ..)
    have hr : ∀ z ∈ r, Wl z := fun z hz => h z (List.mem_cons_of_mem _ hz)
    cases q with
    | row qs =>
      have h1 : qs.length ≠ 1 := hq
      have e1 : flat1 kRow (.row qs) = qs := by simp [flat1]
      rw [e1] at e
      have l := congrArg List.length e
      rw [List.length_append, List.length_singleton] at l
      have h0 : qs = [] := by
        cases qs with
        | nil => rfl
        | cons a b =>
          cases b with
          | nil => simp at h1
          | cons c b => simp only [List.length_cons] at l; omega
      subst h0
      exact wl_one hr e
    | _ =>
      simp only [flat1] at e
      first
        | (cases e; exact hq)
        | (rw [if_neg (by decide)] at e; cases e; exact hq)
        | (simp only [List.cons_append, List.nil_append, List.cons.injEq] at e; rw [← e.1]; exact hq)
        | (rw [if_neg (by decide)] at e; simp only [List.cons_append, List.nil_append, List.cons.injEq] at e; rw [← e.1]; exact hq)
theorem wl_row {ps : List Pt} (h : ∀ q ∈ ps, Wl q) : Wl (put kRow ps) := by
  unfold put
  split
  · rename_i p e
    exact wl_one h e
  · rename_i hne
    rw [if_pos rfl]
    show (flat kRow ps).length ≠ 1
    intro e
    obtain ⟨a, ha⟩ := List.length_eq_one_iff.mp e
    exact hne a ha
theorem len_any : ∀ {ps : List Pt}, (∀ q ∈ ps, Wl q) → ps.length ≤ (flat kAny ps).length
  | [], _ => by simp [flat]
  | q :: r, h => by
    have hq := h q (List.mem_cons_self ..)
    have ih := len_any (ps := r) fun z hz => h z (List.mem_cons_of_mem _ hz)
    rw [flat_cons, List.length_append, List.length_cons]
    have : 1 ≤ (flat1 kAny q).length := by
      cases q with
      | any qs =>
        have h2 : 2 ≤ qs.length := hq
        simp [flat1]
        omega
      | row qs => simp [flat1]
      | _ => simp [flat1]
    omega
theorem put_any_many {ps : List Pt} (h : ∀ q ∈ ps, Wl q) (h2 : 2 ≤ ps.length) : put kAny ps = .any (flat kAny ps) ∧ Wl (put kAny ps) := by
  have l := len_any h
  have e : put kAny ps = .any (flat kAny ps) := by
    unfold put
    split
    · rename_i p e
      rw [e] at l
      simp at l
      omega
    · rfl
  refine ⟨e, ?_⟩
  rw [e]
  show 2 ≤ (flat kAny ps).length
  omega
section
variable {A : List Nat → Pt → Prop}
theorem Brn.snoc {x y : List Nat} {ps : List Pt} {p : Pt} (a : Brn A x ps) (b : Pce A y p) : Brn A (x ++ y) (ps ++ [p]) := by
  induction a with
  | nil =>
    have q : Brn A (y ++ []) [p] := .cons b .nil
    simpa using q
  | cons p0 _ ih =>
    rw [List.append_assoc]
    exact .cons p0 ih
theorem Pan.snoc {x y : List Nat} {bs ps : List Pt} (a : Pan A x bs) (b : Brn A y ps) : Pan A (x ++ 124 :: y) (bs ++ [put kRow ps]) := by
  induction a with
  | one c => exact .more c (.one b)
  | more c _ ih =>
    rw [List.append_assoc]
    exact .more c ih
end
/-! names -/
theorem markss_mem {z : List Nat} : ∀ {ps : List Pt}, z ∈ markss ps ↔ ∃ p ∈ ps, z ∈ marks p
  | [] => by simp [markss]
  | p :: r => by
    rw [markss, List.mem_append, markss_mem (ps := r)]
    simp
theorem marks_flat1 {w z : List Nat} {p : Pt} (h : z ∈ markss (flat1 w p)) : z ∈ marks p := by
  cases p <;> simp only [flat1] at h <;> first
    | (split at h <;> simpa [markss, marks] using h)
    | simpa [markss, marks] using h
theorem marks_flat {w z : List Nat} : ∀ {ps : List Pt}, z ∈ markss (flat w ps) → z ∈ markss ps
  | [], h => by simpa [flat] using h
  | p :: r, h => by
    rw [flat_cons, markss_app, List.mem_append] at h
    rw [markss, List.mem_append]
    exact h.imp marks_flat1 marks_flat
theorem marks_put {w z : List Nat} {ps : List Pt} (h : z ∈ marks (put w ps)) : z ∈ markss ps := by
  refine marks_flat (w := w) ?_
  unfold put at h
  split at h
  · rename_i p e
    rw [e]
    simpa [markss] using h
  · split at h <;> simpa [marks] using h
theorem len_sub : ∀ (l xs : List (List Nat)), l.Nodup → (∀ z ∈ l, z ∈ xs) → l.length ≤ xs.length
  | [], _, _, _ => Nat.zero_le _
  | z :: l, xs, hn, h => by
    have hz := h z (List.mem_cons_self ..)
    rw [List.nodup_cons] at hn
    have ih := len_sub l (xs.erase z) hn.2 fun u hu => by
      have ne : u ≠ z := fun e => hn.1 (e ▸ hu)
      exact (List.mem_erase_of_ne ne).mpr (h u (List.mem_cons_of_mem _ hu))
    rw [List.length_erase_of_mem hz] at ih
    have : 0 < xs.length := List.length_pos_of_mem hz
    rw [List.length_cons]
    omega
theorem sortU_sub {l xs : List (List Nat)} (h : ∀ z ∈ l, z ∈ xs) : (sortU l).length ≤ xs.length := by
  refine len_sub _ _ ?_ fun z hz => h z ((mem_sortU z l).mp hz)
  exact (srt_sortU l).imp fun {a b} hab e => by
    subst e
    exact absurd hab (List.lt_irrefl a)
end Pg
namespace Pg
open MP
/-- what a drawn form is, as the document has it -/
def FR8 (d c lf nm n L : Nat) (xs : List (List Nat)) (D : Nat) (S : Sto) (w : W) (S' : Sto) : Prop :=
  ∃ p L', w = enc p ∧ (WP p ∧ ∀ z ∈ marks p, z ∈ xs) ∧ L' ≤ L ∧ size p + L' ≤ L + 1 ∧ deep p ≤ max D 1 ∧ Fm d c lf nm (n + 50 * (L - L' + 1)) L' xs S' ∧ Ky d c lf S S'
mutual
theorem wp_ok : ∀ p : Pt, WP p → okP p = true
  | .sign s, h => by
    simp only [okP]
    exact List.all_eq_true.mpr fun c hc => decide_eq_true (by
      have := h.2.mem hc
      have g : ∀ c ∈ c_SIGNS, c < 128 := by decide
      exact g c this)
  | .row ps, h => by simp only [okP]; exact wps_ok ps h.1
  | .any ps, h => by simp only [okP]; exact wps_ok ps h.1
  | .some lo hi p, h => by
    simp only [okP, wp_ok p h.2, Bool.and_true]
    rcases h.1 with ⟨_, rfl⟩ | ⟨_, rfl⟩ | ⟨_, rfl⟩ <;> rfl
  | .mark n p, h => by
    simp only [okP, wp_ok p h.2, Bool.and_true]
    exact List.all_eq_true.mpr fun c hc => decide_eq_true (by have := h.1.2.2 c hc; omega)
theorem wps_ok : ∀ ps : List Pt, WPs ps → okPs ps = true
  | [], _ => rfl
  | p :: r, h => by simp only [okPs, wp_ok p h.1, wps_ok r h.2]; rfl
end
theorem wps_app {a b : List Pt} (h1 : WPs a) (h2 : WPs b) : WPs (a ++ b) := wps_mem.mpr fun q hq => (List.mem_append.mp hq).elim (wps_mem.mp h1 q) (wps_mem.mp h2 q)
section
variable {ds : Nat → Option Def}
theorem form8_spec (h4 : ds 4 = some ⟨2, 4, b_law_draw⟩) (h22 : ds 22 = some ⟨1, 6, b_law_signs⟩) (h23 : ds 23 = some ⟨2, 4, b_law_flat⟩) (h24 : ds 24 = some ⟨4, 11, b_law_form⟩) {d c lf nm : Nat} {xs : List (List Nat)} (hx : 1 ≤ xs.length) (hxl : xs.length ≤ 10) (hxs : Nms xs) :
    ∀ (D k n L : Nat) (S : Sto), Fm d c lf nm n L xs S → D ≤ 25 → L ≤ 900 → n + 50 * (L + 1) ≤ 90000000 → Is (callF ds (k + D + 3) 24 [.ref d, .ref lf, .int (D : Nat), .ref nm] S) (FR8 d c lf nm n L xs D S) := by
  intro D
  induction D using Nat.strongRecOn with
  | _ D IH =>
  intro k n L S hF hD hL hn
  refine w_callF (k := k + D + 2) h24 rfl ?_
  simp only [b_law_form, w_var, w_c, w_bin, w_cmp, w_chain, w_and, w_or, w_ite, w_not, w_nil, w_cons, w_tup, w_lst, w_ix, w_no, w_yes, w_sl, w_call, w_bi, w_val, w_rng1, w_rng2, s_nil, s_cons, s_ret, s_expr, s_set, s_if, s_pass, s_setix, s_app, s_ext, o_addI, o_addS, o_addT, o_addL, o_sub, o_mulI, o_mulS, o_mulL, o_fdiv, o_mod, o_pow, c_ltI, c_ltS, c_le, c_gt, c_ge, c_eq, c_ne, e_ii, e_ss, e_bb, c_inS, c_notS, i_str, i_tup, i_ref, l_str, l_tup, l_rol, l_ref, b_lenS, b_lenT, b_lenR, b_abs, b_tupR, b_tupT, b_listR, b_listT, b_all, b_any, b_intI, b_intB, b_isiN, b_isiB, b_isiI, b_isiS, b_isiT, b_isiR, b_isiL, b_isN, b_notN, b_neg, b_rev, b_join, t_str, is_some, isB_some, byB_true, byB_false, start, wipe, bindT, List.map_cons, List.map_nil, List.cons_append, List.nil_append, List.append_nil, List.getElem?_cons_zero, List.getElem?_cons_succ, List.length_cons, List.length_nil, List.set_cons_zero, List.set_cons_succ, atI_0, atI_1, atI_2, atI_3, List.replicate, Nat.zero_add, Nat.reduceAdd, Nat.reduceSub, seqW_ref, seqW_tup, c_leS, b_iaddI, b_iaddS, b_isub, w_enum, w_zip, w_callv]
  refine draw_w h4 (k + D + 1) hF.dk (.refl _ _ _) (by omega) 10 (by omega) (by omega) fun way S1 a2 a3 a4 a5 _ => ?_
  try simp only [w_var, w_c, w_bin, w_cmp, w_chain, w_and, w_or, w_ite, w_not, w_nil, w_cons, w_tup, w_lst, w_ix, w_no, w_yes, w_sl, w_call, w_bi, w_val, w_rng1, w_rng2, s_nil, s_cons, s_ret, s_expr, s_set, s_if, s_pass, s_setix, s_app, s_ext, o_addI, o_addS, o_addT, o_addL, o_sub, o_mulI, o_mulS, o_mulL, o_fdiv, o_mod, o_pow, c_ltI, c_ltS, c_le, c_gt, c_ge, c_eq, c_ne, e_ii, e_ss, e_bb, c_inS, c_notS, i_str, i_tup, i_ref, l_str, l_tup, l_rol, l_ref, b_lenS, b_lenT, b_lenR, b_abs, b_tupR, b_tupT, b_listR, b_listT, b_all, b_any, b_intI, b_intB, b_isiN, b_isiB, b_isiI, b_isiS, b_isiT, b_isiR, b_isiL, b_isN, b_notN, b_neg, b_rev, b_join, t_str, is_some, isB_some, byB_true, byB_false, start, wipe, bindT, List.map_cons, List.map_nil, List.cons_append, List.nil_append, List.append_nil, List.getElem?_cons_zero, List.getElem?_cons_succ, List.length_cons, List.length_nil, List.set_cons_zero, List.set_cons_succ, atI_0, atI_1, atI_2, atI_3, List.replicate, Nat.zero_add, Nat.reduceAdd, Nat.reduceSub, seqW_ref, seqW_tup, c_leS, b_iaddI, b_iaddS, b_isub, w_enum, w_zip, w_callv]
  refine ⟨by simp [LIM], ?_⟩
  have hj1 := a4.ne_of (Nat.le_refl _)
  refine draw_w h4 (k + D + 1) (a4.kp (.app _ _)) (a5.trans (Kx.of (Kp.app S1 _))) (by omega) 4 (by omega) (by omega) fun m1 S2 b2 b3 b4 b5 b6 => ?_
  try simp only [w_var, w_c, w_bin, w_cmp, w_chain, w_and, w_or, w_ite, w_not, w_nil, w_cons, w_tup, w_lst, w_ix, w_no, w_yes, w_sl, w_call, w_bi, w_val, w_rng1, w_rng2, s_nil, s_cons, s_ret, s_expr, s_set, s_if, s_pass, s_setix, s_app, s_ext, o_addI, o_addS, o_addT, o_addL, o_sub, o_mulI, o_mulS, o_mulL, o_fdiv, o_mod, o_pow, c_ltI, c_ltS, c_le, c_gt, c_ge, c_eq, c_ne, e_ii, e_ss, e_bb, c_inS, c_notS, i_str, i_tup, i_ref, l_str, l_tup, l_rol, l_ref, b_lenS, b_lenT, b_lenR, b_abs, b_tupR, b_tupT, b_listR, b_listT, b_all, b_any, b_intI, b_intB, b_isiN, b_isiB, b_isiI, b_isiS, b_isiT, b_isiR, b_isiL, b_isN, b_notN, b_neg, b_rev, b_join, t_str, is_some, isB_some, byB_true, byB_false, start, wipe, bindT, List.map_cons, List.map_nil, List.cons_append, List.nil_append, List.append_nil, List.getElem?_cons_zero, List.getElem?_cons_succ, List.length_cons, List.length_nil, List.set_cons_zero, List.set_cons_succ, atI_0, atI_1, atI_2, atI_3, List.replicate, Nat.zero_add, Nat.reduceAdd, Nat.reduceSub, seqW_ref, seqW_tup, c_leS, b_iaddI, b_iaddS, b_isub, w_enum, w_zip, w_callv, rd_kx (rdL_new S1 _) b6 hj1.1 hj1.2]
  obtain ⟨w1, p1, p2⟩ := pick (L := [W.int 2, W.int 2, W.int 3, W.int 4]) rfl b2 b3
  rw [p2]
  have hq : ∃ q : Nat, w1 = .int (q : Nat) ∧ 2 ≤ q ∧ q ≤ 4 := by
    simp only [List.mem_cons, List.not_mem_nil, or_false] at p1
    rcases p1 with r | r | r | r <;> subst r
    · exact ⟨2, rfl, by omega, by omega⟩
    · exact ⟨2, rfl, by omega, by omega⟩
    · exact ⟨3, rfl, by omega, by omega⟩
    · exact ⟨4, rfl, by omega, by omega⟩
  obtain ⟨q, rfl, hq1, hq2⟩ := hq
  try simp only [w_var, w_c, w_bin, w_cmp, w_chain, w_and, w_or, w_ite, w_not, w_nil, w_cons, w_tup, w_lst, w_ix, w_no, w_yes, w_sl, w_call, w_bi, w_val, w_rng1, w_rng2, s_nil, s_cons, s_ret, s_expr, s_set, s_if, s_pass, s_setix, s_app, s_ext, o_addI, o_addS, o_addT, o_addL, o_sub, o_mulI, o_mulS, o_mulL, o_fdiv, o_mod, o_pow, c_ltI, c_ltS, c_le, c_gt, c_ge, c_eq, c_ne, e_ii, e_ss, e_bb, c_inS, c_notS, i_str, i_tup, i_ref, l_str, l_tup, l_rol, l_ref, b_lenS, b_lenT, b_lenR, b_abs, b_tupR, b_tupT, b_listR, b_listT, b_all, b_any, b_intI, b_intB, b_isiN, b_isiB, b_isiI, b_isiS, b_isiT, b_isiR, b_isiL, b_isN, b_notN, b_neg, b_rev, b_join, t_str, is_some, isB_some, byB_true, byB_false, start, wipe, bindT, List.map_cons, List.map_nil, List.cons_append, List.nil_append, List.append_nil, List.getElem?_cons_zero, List.getElem?_cons_succ, List.length_cons, List.length_nil, List.set_cons_zero, List.set_cons_succ, atI_0, atI_1, atI_2, atI_3, List.replicate, Nat.zero_add, Nat.reduceAdd, Nat.reduceSub, seqW_ref, seqW_tup, c_leS, b_iaddI, b_iaddS, b_isub, w_enum, w_zip, w_callv]
  refine ⟨by simp [LIM], by simp [LIM], by simp [LIM], by simp [LIM], ?_⟩
  have hj2 := b4.ne_of (Nat.le_refl _)
  refine draw_w h4 (k + D + 1) (b4.kp (.app _ _)) (b5.trans (Kx.of (Kp.app S2 _))) (by omega) 3 (by omega) (by omega) fun m2 S3 c2 c3 c4 c5 c6 => ?_
  try simp only [w_var, w_c, w_bin, w_cmp, w_chain, w_and, w_or, w_ite, w_not, w_nil, w_cons, w_tup, w_lst, w_ix, w_no, w_yes, w_sl, w_call, w_bi, w_val, w_rng1, w_rng2, s_nil, s_cons, s_ret, s_expr, s_set, s_if, s_pass, s_setix, s_app, s_ext, o_addI, o_addS, o_addT, o_addL, o_sub, o_mulI, o_mulS, o_mulL, o_fdiv, o_mod, o_pow, c_ltI, c_ltS, c_le, c_gt, c_ge, c_eq, c_ne, e_ii, e_ss, e_bb, c_inS, c_notS, i_str, i_tup, i_ref, l_str, l_tup, l_rol, l_ref, b_lenS, b_lenT, b_lenR, b_abs, b_tupR, b_tupT, b_listR, b_listT, b_all, b_any, b_intI, b_intB, b_isiN, b_isiB, b_isiI, b_isiS, b_isiT, b_isiR, b_isiL, b_isN, b_notN, b_neg, b_rev, b_join, t_str, is_some, isB_some, byB_true, byB_false, start, wipe, bindT, List.map_cons, List.map_nil, List.cons_append, List.nil_append, List.append_nil, List.getElem?_cons_zero, List.getElem?_cons_succ, List.length_cons, List.length_nil, List.set_cons_zero, List.set_cons_succ, atI_0, atI_1, atI_2, atI_3, List.replicate, Nat.zero_add, Nat.reduceAdd, Nat.reduceSub, seqW_ref, seqW_tup, c_leS, b_iaddI, b_iaddS, b_isub, w_enum, w_zip, w_callv, rd_kx (rdL_new S2 _) c6 hj2.1 hj2.2]
  obtain ⟨w2, q1, q2⟩ := pick (L := [W.tup [W.int 0, W.int 1], W.tup [W.int 0, W.non], W.tup [W.int 1, W.non]]) rfl c2 c3
  rw [q2]
  have hw2 : ∃ (lo : Int) (hi : W), w2 = .tup [.int lo, hi] ∧ tms lo hi := by
    simp only [List.mem_cons, List.not_mem_nil, or_false] at q1
    rcases q1 with r | r | r <;> subst r
    · exact ⟨0, .int 1, rfl, .inl ⟨rfl, rfl⟩⟩
    · exact ⟨0, .non, rfl, .inr (.inl ⟨rfl, rfl⟩)⟩
    · exact ⟨1, .non, rfl, .inr (.inr ⟨rfl, rfl⟩)⟩
  obtain ⟨lo, hi, rfl, hhi⟩ := hw2
  try simp only [w_var, w_c, w_bin, w_cmp, w_chain, w_and, w_or, w_ite, w_not, w_nil, w_cons, w_tup, w_lst, w_ix, w_no, w_yes, w_sl, w_call, w_bi, w_val, w_rng1, w_rng2, s_nil, s_cons, s_ret, s_expr, s_set, s_if, s_pass, s_setix, s_app, s_ext, o_addI, o_addS, o_addT, o_addL, o_sub, o_mulI, o_mulS, o_mulL, o_fdiv, o_mod, o_pow, c_ltI, c_ltS, c_le, c_gt, c_ge, c_eq, c_ne, e_ii, e_ss, e_bb, c_inS, c_notS, i_str, i_tup, i_ref, l_str, l_tup, l_rol, l_ref, b_lenS, b_lenT, b_lenR, b_abs, b_tupR, b_tupT, b_listR, b_listT, b_all, b_any, b_intI, b_intB, b_isiN, b_isiB, b_isiI, b_isiS, b_isiT, b_isiR, b_isiL, b_isN, b_notN, b_neg, b_rev, b_join, t_str, is_some, isB_some, byB_true, byB_false, start, wipe, bindT, List.map_cons, List.map_nil, List.cons_append, List.nil_append, List.append_nil, List.getElem?_cons_zero, List.getElem?_cons_succ, List.length_cons, List.length_nil, List.set_cons_zero, List.set_cons_succ, atI_0, atI_1, atI_2, atI_3, List.replicate, Nat.zero_add, Nat.reduceAdd, Nat.reduceSub, seqW_ref, seqW_tup, c_leS, b_iaddI, b_iaddS, b_isub, w_enum, w_zip, w_callv]
  refine (signs8_spec h4 h22 (k + D) c4 (by omega)).imp fun w S4 hw => ?_
  obtain ⟨sg, rfl, sg1, sg3, sg4⟩ := hw
  have sgW : WP (.sign sg) ∧ ∀ z ∈ marks (.sign sg), z ∈ xs := ⟨sg1, by simp [marks]⟩
  have kx4 := c5.trans sg4
  have hF4 := hF.kx kx4 sg3
  have hn4 : n + 1 + 1 + 1 + 40 = n + 43 := by omega
  rw [hn4] at hF4
  clear q2 p2 q1 p1
  try simp only [w_var, w_c, w_bin, w_cmp, w_chain, w_and, w_or, w_ite, w_not, w_nil, w_cons, w_tup, w_lst, w_ix, w_no, w_yes, w_sl, w_call, w_bi, w_val, w_rng1, w_rng2, s_nil, s_cons, s_ret, s_expr, s_set, s_if, s_pass, s_setix, s_app, s_ext, o_addI, o_addS, o_addT, o_addL, o_sub, o_mulI, o_mulS, o_mulL, o_fdiv, o_mod, o_pow, c_ltI, c_ltS, c_le, c_gt, c_ge, c_eq, c_ne, e_ii, e_ss, e_bb, c_inS, c_notS, i_str, i_tup, i_ref, l_str, l_tup, l_rol, l_ref, b_lenS, b_lenT, b_lenR, b_abs, b_tupR, b_tupT, b_listR, b_listT, b_all, b_any, b_intI, b_intB, b_isiN, b_isiB, b_isiI, b_isiS, b_isiT, b_isiR, b_isiL, b_isN, b_notN, b_neg, b_rev, b_join, t_str, is_some, isB_some, byB_true, byB_false, start, wipe, bindT, List.map_cons, List.map_nil, List.cons_append, List.nil_append, List.append_nil, List.getElem?_cons_zero, List.getElem?_cons_succ, List.length_cons, List.length_nil, List.set_cons_zero, List.set_cons_succ, atI_0, atI_1, atI_2, atI_3, List.replicate, Nat.zero_add, Nat.reduceAdd, Nat.reduceSub, seqW_ref, seqW_tup, c_leS, b_iaddI, b_iaddS, b_isub, w_enum, w_zip, w_callv, e_ii, hF4.le]
  have i0 : ixN 1 0 = some 0 := rfl
  have Lf : ∀ p, size p = 1 → deep p = 1 → (WP p ∧ ∀ z ∈ marks p, z ∈ xs) → FR8 d c lf nm n L xs D S (enc p) S4 := fun p e1 e2 e3 => ⟨p, L, rfl, e3, Nat.le_refl _, by omega, by omega, hF4.mono (by omega), .of kx4⟩
  refine byB_dec _ _ _ (fun _ => ⟨by simp [LIM], by simp [LIM], Lf (.row []) rfl rfl ⟨⟨trivial, by simp, rfl⟩, by simp [marks, markss]⟩⟩) (fun _ => byB_dec _ _ _ (fun _ => ⟨by simp [LIM], Lf (.sign sg) rfl rfl sgW⟩) (fun _ => byB_dec _ _ _ (fun _ => ⟨by simp [LIM], Lf (.sign sg) rfl rfl sgW⟩) (fun hD2 => byB_dec _ _ _ (fun _ => ⟨by simp [LIM], Lf (.sign sg) rfl rfl sgW⟩) (fun hL4 => ?_))))
  have hD2 := of_decide_eq_false hD2
  have hL4 := of_decide_eq_false hL4
  obtain ⟨E, rfl⟩ : ∃ E, D = E + 1 := ⟨D - 1, by omega⟩
  have eE : (((E + 1 : Nat) : Int) - 1) = ((E : Nat) : Int) := by omega
  have eL : ((L : Int) - 1) = ((L - 1 : Nat) : Int) := by omega
  have eq : ((L : Int) - (q : Int)) = ((L - q : Nat) : Int) := by omega
  simp only [eE, eL, eq, i0, List.set_cons_zero]
  have hP := hF4.put (L - 1)
  have kP : Ky d c lf S (S4.set lf (.lst [.int ((L - 1 : Nat) : Int)])) := (Ky.of kx4).trans (Ky.put _ _ _ _ _)
  refine byB_dec _ _ _ (fun _ => ?_) (fun _ => byB_dec _ _ _ (fun _ => ?_) (fun _ => ?_))
  · generalize S4.set lf (.lst [.int ((L - 1 : Nat) : Int)]) = S5 at *
    simp only [hP.ns, List.length_map]
    refine draw_w h4 (k + (E + 1) + 1) hP.dk (.refl _ _ _) (by omega) (xs.length : Int) (by omega) (by omega) fun v S6 v1 v2 v3 v4 _ => ?_
    have hP6 := hP.kx v4 v3
    try simp only [w_var, w_c, w_bin, w_cmp, w_chain, w_and, w_or, w_ite, w_not, w_nil, w_cons, w_tup, w_lst, w_ix, w_no, w_yes, w_sl, w_call, w_bi, w_val, w_rng1, w_rng2, s_nil, s_cons, s_ret, s_expr, s_set, s_if, s_pass, s_setix, s_app, s_ext, o_addI, o_addS, o_addT, o_addL, o_sub, o_mulI, o_mulS, o_mulL, o_fdiv, o_mod, o_pow, c_ltI, c_ltS, c_le, c_gt, c_ge, c_eq, c_ne, e_ii, e_ss, e_bb, c_inS, c_notS, i_str, i_tup, i_ref, l_str, l_tup, l_rol, l_ref, b_lenS, b_lenT, b_lenR, b_abs, b_tupR, b_tupT, b_listR, b_listT, b_all, b_any, b_intI, b_intB, b_isiN, b_isiB, b_isiI, b_isiS, b_isiT, b_isiR, b_isiL, b_isN, b_notN, b_neg, b_rev, b_join, t_str, is_some, isB_some, byB_true, byB_false, start, wipe, bindT, List.map_cons, List.map_nil, List.cons_append, List.nil_append, List.append_nil, List.getElem?_cons_zero, List.getElem?_cons_succ, List.length_cons, List.length_nil, List.set_cons_zero, List.set_cons_succ, atI_0, atI_1, atI_2, atI_3, List.replicate, Nat.zero_add, Nat.reduceAdd, Nat.reduceSub, seqW_ref, seqW_tup, c_leS, b_iaddI, b_iaddS, b_isub, w_enum, w_zip, w_callv, hP6.ns]
    obtain ⟨j, rfl, hj⟩ : ∃ j : Nat, v = (j : Int) ∧ j < xs.length := ⟨v.toNat, by omega, by omega⟩
    rw [atI_nn _ v1, List.getElem?_map, Int.toNat_natCast, List.getElem?_eq_getElem hj]
    simp only [Option.map_some]
    refine (IH E (by omega) k (n + 43 + 1) (L - 1) S6 hP6 (by omega) (by omega) (by omega)).imp fun w S7 hw => ?_
    obtain ⟨p, L', rfl, r1, r2, r3, r4, r5, r6⟩ := hw
    refine ⟨by simp [LIM], .mark xs[j] p, L', rfl, ?_, by omega, ?_, ?_, r5.mono (by omega), (kP.trans (.of v4)).trans r6⟩
    · refine ⟨⟨hxs _ (List.getElem_mem hj), r1.1⟩, fun z hz => ?_⟩
      simp only [marks, List.mem_cons] at hz
      rcases hz with e | e
      · rw [e]; exact List.getElem_mem hj
      · exact r1.2 z e
    · simp only [size]
      omega
    · simp only [deep]
      omega
  · generalize S4.set lf (.lst [.int ((L - 1 : Nat) : Int)]) = S5 at *
    refine (IH E (by omega) k (n + 43) (L - 1) S5 hP (by omega) (by omega) (by omega)).imp fun w S7 hw => ?_
    obtain ⟨p, L', rfl, r1, r2, r3, r4, r5, r6⟩ := hw
    refine ⟨by simp [LIM], .some lo hi p, L', rfl, ?_, by omega, ?_, ?_, r5.mono (by omega), kP.trans r6⟩
    · exact ⟨⟨hhi, r1.1⟩, fun z hz => r1.2 z (by simpa only [marks] using hz)⟩
    · simp only [size]
      omega
    · simp only [deep]
      omega
  · have hQ := hF4.put (L - q)
    have kQ : Ky d c lf S (S4.set lf (.lst [.int ((L - q : Nat) : Int)])) := (Ky.of kx4).trans (Ky.put _ _ _ _ _)
    generalize S4.set lf (.lst [.int ((L - q : Nat) : Int)]) = S5 at *
    refine ⟨by simp [LIM], by decide, ?_⟩
    rw [rdL_new]
    simp only []
    have g1 : 0 ≤ way % 2 := Int.emod_nonneg _ (by omega)
    have g2 : way % 2 < 2 := Int.emod_lt_of_pos _ (by omega)
    obtain ⟨w3, s1, s2⟩ := pick (L := [W.str kRow, W.str kAny]) (n := 2) rfl g1 g2
    rw [s2]
    obtain ⟨wd, rfl, hwd⟩ : ∃ wd, w3 = .str wd ∧ (wd = kRow ∨ wd = kAny) := by
      simp only [List.mem_cons, List.not_mem_nil, or_false] at s1
      rcases s1 with r | r <;> subst r
      · exact ⟨_, rfl, .inl rfl⟩
      · exact ⟨_, rfl, .inr rfl⟩
    clear s1 s2
    simp only []
    have hQ1 := hQ.kp (Kp.app S5 [SO.lst [W.str kRow, W.str kAny]])
    have kQ1 : Ky d c lf S (S5 ++ [SO.lst [W.str kRow, W.str kAny]]) := kQ.trans (.of (.of (.app _ _)))
    generalize S5 ++ [SO.lst [W.str kRow, W.str kAny]] = S6 at *
    have hLim : q ≤ LIM := by simp only [LIM]; omega
    refine w_comp hLim (fun i acc S' => ∃ ps L', acc = encs ps ∧ ps.length = i ∧ (WPs ps ∧ ∀ z ∈ markss ps, z ∈ xs) ∧ L' ≤ L - q ∧ sizes ps + L' ≤ L - q + i ∧ deeps ps ≤ E ∧ Fm d c lf nm (n + 43 + 50 * (L - q - L' + i)) L' xs S' ∧ Ky d c lf S S') ?_
    try simp only [w_var, w_c, w_bin, w_cmp, w_chain, w_and, w_or, w_ite, w_not, w_nil, w_cons, w_tup, w_lst, w_ix, w_no, w_yes, w_sl, w_call, w_bi, w_val, w_rng1, w_rng2, s_nil, s_cons, s_ret, s_expr, s_set, s_if, s_pass, s_setix, s_app, s_ext, o_addI, o_addS, o_addT, o_addL, o_sub, o_mulI, o_mulS, o_mulL, o_fdiv, o_mod, o_pow, c_ltI, c_ltS, c_le, c_gt, c_ge, c_eq, c_ne, e_ii, e_ss, e_bb, c_inS, c_notS, i_str, i_tup, i_ref, l_str, l_tup, l_rol, l_ref, b_lenS, b_lenT, b_lenR, b_abs, b_tupR, b_tupT, b_listR, b_listT, b_all, b_any, b_intI, b_intB, b_isiN, b_isiB, b_isiI, b_isiS, b_isiT, b_isiR, b_isiL, b_isN, b_notN, b_neg, b_rev, b_join, t_str, is_some, isB_some, byB_true, byB_false, start, wipe, bindT, List.map_cons, List.map_nil, List.cons_append, List.nil_append, List.append_nil, List.getElem?_cons_zero, List.getElem?_cons_succ, List.length_cons, List.length_nil, List.set_cons_zero, List.set_cons_succ, atI_0, atI_1, atI_2, atI_3, List.replicate, Nat.zero_add, Nat.reduceAdd, Nat.reduceSub, seqW_ref, seqW_tup, c_leS, b_iaddI, b_iaddS, b_isub, w_enum, w_zip, w_callv, Src.len]
    refine ⟨rng_small (by omega) (by omega), by simp, ⟨[], L - q, rfl, rfl, ⟨trivial, by simp [markss]⟩, Nat.le_refl _, by simp only [sizes]; omega, by simp only [deeps]; omega, hQ1.mono (by omega), kQ1⟩, fun i acc S' hi hI => ?_, fun acc S' _ hI => ?_⟩
    · obtain ⟨ps, L', rfl, y1, y2, y3, y4, y5, y6, y7⟩ := hI
      refine ⟨.int (0 + (i : Nat)), _, by simp only [Src.item, Int.toNat_natCast, hi, if_true], rfl, ?_⟩
      try simp only [w_var, w_c, w_bin, w_cmp, w_chain, w_and, w_or, w_ite, w_not, w_nil, w_cons, w_tup, w_lst, w_ix, w_no, w_yes, w_sl, w_call, w_bi, w_val, w_rng1, w_rng2, s_nil, s_cons, s_ret, s_expr, s_set, s_if, s_pass, s_setix, s_app, s_ext, o_addI, o_addS, o_addT, o_addL, o_sub, o_mulI, o_mulS, o_mulL, o_fdiv, o_mod, o_pow, c_ltI, c_ltS, c_le, c_gt, c_ge, c_eq, c_ne, e_ii, e_ss, e_bb, c_inS, c_notS, i_str, i_tup, i_ref, l_str, l_tup, l_rol, l_ref, b_lenS, b_lenT, b_lenR, b_abs, b_tupR, b_tupT, b_listR, b_listT, b_all, b_any, b_intI, b_intB, b_isiN, b_isiB, b_isiI, b_isiS, b_isiT, b_isiR, b_isiL, b_isN, b_notN, b_neg, b_rev, b_join, t_str, is_some, isB_some, byB_true, byB_false, start, wipe, bindT, List.map_cons, List.map_nil, List.cons_append, List.nil_append, List.append_nil, List.getElem?_cons_zero, List.getElem?_cons_succ, List.length_cons, List.length_nil, List.set_cons_zero, List.set_cons_succ, atI_0, atI_1, atI_2, atI_3, List.replicate, Nat.zero_add, Nat.reduceAdd, Nat.reduceSub, seqW_ref, seqW_tup, c_leS, b_iaddI, b_iaddS, b_isub, w_enum, w_zip, w_callv, eE]
      refine (IH E (by omega) k _ L' S' y6 (by omega) (by omega) (by omega)).imp fun w S7 hw => ?_
      obtain ⟨p, L2, rfl, r1, r2, r3, r4, r5, r6⟩ := hw
      refine ⟨ps ++ [p], L2, by rw [encs_app]; rfl, by rw [List.length_append, y1]; rfl, ⟨wps_app y2.1 ⟨r1.1, trivial⟩, fun z hz => by
        obtain ⟨q', hq', hz'⟩ := markss_mem.mp hz
        rcases List.mem_append.mp hq' with e | e
        · exact y2.2 z (markss_mem.mpr ⟨q', e, hz'⟩)
        · rw [List.mem_singleton.mp e] at hz'; exact r1.2 z hz'⟩, by omega, ?_, ?_, r5.mono (by omega), y7.trans r6⟩
      · rw [sizes_app]
        simp only [sizes]
        omega
      · rw [deeps_app]
        simp only [deeps]
        omega
    · obtain ⟨ps, L', rfl, y1, y2, y3, y4, y5, y6, y7⟩ := hI
      refine ⟨⟨q, Nat.le_refl _, by simp⟩, ?_⟩
      refine (flat_spec h23 (k + (E + 1) + 1) hwd (rdL_new S' _) (by omega)).imp fun w S7 hw => ?_
      obtain ⟨f, rfl, f1, f2, f3⟩ := hw
      have t1 := flat_sizes wd ps
      have t2 := flat_deeps wd ps
      have t3 := flat_ok wd ps (wps_ok ps y2.1)
      have t5 : ∀ z ∈ markss (flat wd ps), z ∈ xs := fun z hz => y2.2 z (marks_flat hz)
      have t6 : wd = kRow → ∀ q ∈ flat wd ps, WP q ∧ isRow q = false := fun e => by subst e; exact flat_row y2.1
      have t7 : wd = kAny → ∀ q ∈ flat wd ps, WP q ∧ isAny q = false := fun e => by subst e; exact flat_any y2.1
      have t4 := len_sizes (flat wd ps)
      generalize flat wd ps = fl at *
      have k7 : Kp S' S7 := (Kp.app S' [SO.lst (encs ps)]).trans f3
      have fin : ∀ p S9, (WP p ∧ ∀ z ∈ marks p, z ∈ xs) → size p ≤ 1 + sizes ps → deep p ≤ E + 1 → Kp S7 S9 → FR8 d c lf nm n L xs (E + 1) S (enc p) S9 := fun p S9 z1 z2 z3 z4 =>
        ⟨p, L', rfl, z1, by omega, by omega, by omega, ((y6.kp k7).kp z4).mono (by omega), y7.trans (.of (.of (k7.trans z4)))⟩
      try simp only [w_var, w_c, w_bin, w_cmp, w_chain, w_and, w_or, w_ite, w_not, w_nil, w_cons, w_tup, w_lst, w_ix, w_no, w_yes, w_sl, w_call, w_bi, w_val, w_rng1, w_rng2, s_nil, s_cons, s_ret, s_expr, s_set, s_if, s_pass, s_setix, s_app, s_ext, o_addI, o_addS, o_addT, o_addL, o_sub, o_mulI, o_mulS, o_mulL, o_fdiv, o_mod, o_pow, c_ltI, c_ltS, c_le, c_gt, c_ge, c_eq, c_ne, e_ii, e_ss, e_bb, c_inS, c_notS, i_str, i_tup, i_ref, l_str, l_tup, l_rol, l_ref, b_lenS, b_lenT, b_lenR, b_abs, b_tupR, b_tupT, b_listR, b_listT, b_all, b_any, b_intI, b_intB, b_isiN, b_isiB, b_isiI, b_isiS, b_isiT, b_isiR, b_isiL, b_isN, b_notN, b_neg, b_rev, b_join, t_str, is_some, isB_some, byB_true, byB_false, start, wipe, bindT, List.map_cons, List.map_nil, List.cons_append, List.nil_append, List.append_nil, List.getElem?_cons_zero, List.getElem?_cons_succ, List.length_cons, List.length_nil, List.set_cons_zero, List.set_cons_succ, atI_0, atI_1, atI_2, atI_3, List.replicate, Nat.zero_add, Nat.reduceAdd, Nat.reduceSub, seqW_ref, seqW_tup, c_leS, b_iaddI, b_iaddS, b_isub, w_enum, w_zip, w_callv, f2, e_ii]
      have tup : fl.length ≠ 1 → (wd = kAny → fl ≠ []) → 2 ≤ LIM ∧ FR8 d c lf nm n L xs (E + 1) S (W.tup [W.str wd, W.tup (encs fl)]) (S7 ++ [SO.lst []]) := by
        intro g1 g2
        refine ⟨by simp [LIM], ?_⟩
        rcases hwd with r | r
        · have u6 := t6 r
          subst r
          exact fin (.row fl) _ ⟨⟨wps_mem.mpr fun q hq => (u6 q hq).1, g1, all_not.mpr fun q hq => (u6 q hq).2⟩, by simpa only [marks] using t5⟩ (by simp only [size]; omega) (by simp only [deep]; omega) (.app _ _)
        · have u7 := t7 r
          have g3 := g2 r
          clear g2
          subst r
          refine fin (.any fl) _ ⟨⟨wps_mem.mpr fun q hq => (u7 q hq).1, ?_, all_not.mpr fun q hq => (u7 q hq).2⟩, by simpa only [marks] using t5⟩ (by simp only [size]; omega) (by simp only [deep]; omega) (.app _ _)
          match fl, g1, g3 with
          | [], _, g3 => exact absurd rfl g3
          | [_], g1, _ => exact absurd rfl g1
          | _ :: _ :: _, _, _ => simp
      refine byB_dec _ _ _ (fun h1 => ?_) (fun h1 => ⟨by simp [LIM], ?_⟩)
      · have h1 := of_decide_eq_true h1
        rw [encs_len] at h1
        have wq : ∀ q ∈ fl, WP q := fun q hq => hwd.elim (fun r => (t6 r q hq).1) (fun r => (t7 r q hq).1)
        match fl, h1, t1, t2, t5, wq with
        | [p], _, t1, t2, t5, wq =>
          simp only [encs, List.getElem?_cons_zero]
          simp only [sizes] at t1
          simp only [deeps] at t2
          exact fin p _ ⟨wq p (by simp), fun z hz => t5 z (markss_mem.mpr ⟨p, by simp, hz⟩)⟩ (by omega) (by omega) ⟨Nat.le_refl _, fun _ _ => rfl⟩
        | [], h1, _, _, _, _ => simp at h1
        | _ :: _ :: _, h1, _, _, _, _ => simp at h1; omega
      · have h1 := of_decide_eq_false h1
        rw [encs_len] at h1
        have r0 : rdL (S7 ++ [SO.lst []]) f = some (encs fl) := rdL_app f2
        obtain ⟨dd, hd⟩ := dats_enc (S := S7 ++ [SO.lst []]) fl 59 t3 (by omega)
        rw [eqW_nil r0 hd (rdL_new _ _), isB_some, r0]
        cases hfl : fl with
        | nil =>
          simp only [encs, List.isEmpty_nil, byB_true]
          refine byB_dec _ _ _ (fun _ => ⟨by simp [LIM], fin (.sign sg) _ sgW (by simp only [size]; omega) (by simp only [deep]; omega) (.app _ _)⟩) (fun h2 => ?_)
          have h2 := of_decide_eq_false h2
          have := tup (by rw [hfl]; simp) (fun e => absurd e h2)
          rw [hfl] at this
          exact this
        | cons a r =>
          have := tup (fun e => h1 (by omega)) (fun _ => by rw [hfl]; simp)
          rw [hfl] at this
          simp only [encs, List.isEmpty_cons, byB_false]
          exact this
theorem pattern8_spec (h4 : ds 4 = some ⟨2, 4, b_law_draw⟩) (h5 : ds 5 = some ⟨2, 3, b_law_letters⟩) (h21 : ds 21 = some ⟨2, 8, b_law_names⟩) (h22 : ds 22 = some ⟨1, 6, b_law_signs⟩) (h23 : ds 23 = some ⟨2, 4, b_law_flat⟩) (h24 : ds 24 = some ⟨4, 11, b_law_form⟩) (h25 : ds 25 = some ⟨3, 4, b_law_pattern⟩)
    (k : Nat) {S : Sto} {d c n : Nat} (h : Dk d c n S) (m e : Nat) (hm : 1 ≤ m) (hm2 : m ≤ 100) (he : 1 ≤ e) (he2 : e ≤ 20) (hn : n ≤ 80000000) :
    Is (callF ds (k + 30) 25 [.ref d, .int (m : Nat), .int (e : Nat)] S) fun w S' => ∃ p, w = enc p ∧ (WP p ∧ (sortU (marks p)).length ≤ 4) ∧ size p ≤ m ∧ deep p ≤ e ∧ Dk d c (n + 6000) S' ∧ Kx d c S S' := by
  refine w_callF (k := k + 29) h25 rfl ?_
  simp only [b_law_pattern, w_var, w_c, w_bin, w_cmp, w_chain, w_and, w_or, w_ite, w_not, w_nil, w_cons, w_tup, w_lst, w_ix, w_no, w_yes, w_sl, w_call, w_bi, w_val, w_rng1, w_rng2, s_nil, s_cons, s_ret, s_expr, s_set, s_if, s_pass, s_setix, s_app, s_ext, o_addI, o_addS, o_addT, o_addL, o_sub, o_mulI, o_mulS, o_mulL, o_fdiv, o_mod, o_pow, c_ltI, c_ltS, c_le, c_gt, c_ge, c_eq, c_ne, e_ii, e_ss, e_bb, c_inS, c_notS, i_str, i_tup, i_ref, l_str, l_tup, l_rol, l_ref, b_lenS, b_lenT, b_lenR, b_abs, b_tupR, b_tupT, b_listR, b_listT, b_all, b_any, b_intI, b_intB, b_isiN, b_isiB, b_isiI, b_isiS, b_isiT, b_isiR, b_isiL, b_isN, b_notN, b_neg, b_rev, b_join, t_str, is_some, isB_some, byB_true, byB_false, start, wipe, bindT, List.map_cons, List.map_nil, List.cons_append, List.nil_append, List.append_nil, List.getElem?_cons_zero, List.getElem?_cons_succ, List.length_cons, List.length_nil, List.set_cons_zero, List.set_cons_succ, atI_0, atI_1, atI_2, atI_3, List.replicate, Nat.zero_add, Nat.reduceAdd, Nat.reduceSub, seqW_ref, seqW_tup, c_leS, b_iaddI, b_iaddS, b_isub, w_enum, w_zip, w_callv]
  refine draw_w h4 (k + 28) h (.refl _ _ _) (by omega) 4 (by omega) (by omega) fun a S1 a2 a3 a4 a5 _ => ?_
  try simp only [w_var, w_c, w_bin, w_cmp, w_chain, w_and, w_or, w_ite, w_not, w_nil, w_cons, w_tup, w_lst, w_ix, w_no, w_yes, w_sl, w_call, w_bi, w_val, w_rng1, w_rng2, s_nil, s_cons, s_ret, s_expr, s_set, s_if, s_pass, s_setix, s_app, s_ext, o_addI, o_addS, o_addT, o_addL, o_sub, o_mulI, o_mulS, o_mulL, o_fdiv, o_mod, o_pow, c_ltI, c_ltS, c_le, c_gt, c_ge, c_eq, c_ne, e_ii, e_ss, e_bb, c_inS, c_notS, i_str, i_tup, i_ref, l_str, l_tup, l_rol, l_ref, b_lenS, b_lenT, b_lenR, b_abs, b_tupR, b_tupT, b_listR, b_listT, b_all, b_any, b_intI, b_intB, b_isiN, b_isiB, b_isiI, b_isiS, b_isiT, b_isiR, b_isiL, b_isN, b_notN, b_neg, b_rev, b_join, t_str, is_some, isB_some, byB_true, byB_false, start, wipe, bindT, List.map_cons, List.map_nil, List.cons_append, List.nil_append, List.append_nil, List.getElem?_cons_zero, List.getElem?_cons_succ, List.length_cons, List.length_nil, List.set_cons_zero, List.set_cons_succ, atI_0, atI_1, atI_2, atI_3, List.replicate, Nat.zero_add, Nat.reduceAdd, Nat.reduceSub, seqW_ref, seqW_tup, c_leS, b_iaddI, b_iaddS, b_isub, w_enum, w_zip, w_callv]
  obtain ⟨j, rfl, hj⟩ : ∃ j : Nat, a = (j : Int) ∧ j < 4 := ⟨a.toNat, by omega, by omega⟩
  have e1 : ((1 : Int) + (j : Int)) = ((1 + j : Nat) : Int) := by omega
  rw [e1]
  refine (names_spec h4 h5 h21 (k + 26) a4 (1 + j) (by omega) (by omega)).imp fun w S2 hw => ?_
  obtain ⟨xs, rfl, x1, x2, x3, x4, x5, x6, x7⟩ := hw
  try simp only [w_var, w_c, w_bin, w_cmp, w_chain, w_and, w_or, w_ite, w_not, w_nil, w_cons, w_tup, w_lst, w_ix, w_no, w_yes, w_sl, w_call, w_bi, w_val, w_rng1, w_rng2, s_nil, s_cons, s_ret, s_expr, s_set, s_if, s_pass, s_setix, s_app, s_ext, o_addI, o_addS, o_addT, o_addL, o_sub, o_mulI, o_mulS, o_mulL, o_fdiv, o_mod, o_pow, c_ltI, c_ltS, c_le, c_gt, c_ge, c_eq, c_ne, e_ii, e_ss, e_bb, c_inS, c_notS, i_str, i_tup, i_ref, l_str, l_tup, l_rol, l_ref, b_lenS, b_lenT, b_lenR, b_abs, b_tupR, b_tupT, b_listR, b_listT, b_all, b_any, b_intI, b_intB, b_isiN, b_isiB, b_isiI, b_isiS, b_isiT, b_isiR, b_isiL, b_isN, b_notN, b_neg, b_rev, b_join, t_str, is_some, isB_some, byB_true, byB_false, start, wipe, bindT, List.map_cons, List.map_nil, List.cons_append, List.nil_append, List.append_nil, List.getElem?_cons_zero, List.getElem?_cons_succ, List.length_cons, List.length_nil, List.set_cons_zero, List.set_cons_succ, atI_0, atI_1, atI_2, atI_3, List.replicate, Nat.zero_add, Nat.reduceAdd, Nat.reduceSub, seqW_ref, seqW_tup, c_leS, b_iaddI, b_iaddS, b_isub, w_enum, w_zip, w_callv]
  refine draw_w h4 (k + 28) x5 (a5.trans x6) (by omega) (m : Int) (by omega) (by omega) fun v S3 v1 v2 v3 v4 v5 => ?_
  refine ⟨by simp [LIM], ?_⟩
  obtain ⟨L, rfl, hL⟩ : ∃ j : Nat, v = (j : Int) ∧ j < m := ⟨v.toNat, by omega, by omega⟩
  have hj3 := v3.ne_of (Nat.le_refl _)
  refine draw_w h4 (k + 28) (v3.kp (.app _ _)) (v4.trans (.of (.app S3 [SO.lst [W.int (L : Nat)]]))) (by omega) (e : Int) (by omega) (by omega) fun b S4 b1 b2 b3 b4 b5 => ?_
  try simp only [w_var, w_c, w_bin, w_cmp, w_chain, w_and, w_or, w_ite, w_not, w_nil, w_cons, w_tup, w_lst, w_ix, w_no, w_yes, w_sl, w_call, w_bi, w_val, w_rng1, w_rng2, s_nil, s_cons, s_ret, s_expr, s_set, s_if, s_pass, s_setix, s_app, s_ext, o_addI, o_addS, o_addT, o_addL, o_sub, o_mulI, o_mulS, o_mulL, o_fdiv, o_mod, o_pow, c_ltI, c_ltS, c_le, c_gt, c_ge, c_eq, c_ne, e_ii, e_ss, e_bb, c_inS, c_notS, i_str, i_tup, i_ref, l_str, l_tup, l_rol, l_ref, b_lenS, b_lenT, b_lenR, b_abs, b_tupR, b_tupT, b_listR, b_listT, b_all, b_any, b_intI, b_intB, b_isiN, b_isiB, b_isiI, b_isiS, b_isiT, b_isiR, b_isiL, b_isN, b_notN, b_neg, b_rev, b_join, t_str, is_some, isB_some, byB_true, byB_false, start, wipe, bindT, List.map_cons, List.map_nil, List.cons_append, List.nil_append, List.append_nil, List.getElem?_cons_zero, List.getElem?_cons_succ, List.length_cons, List.length_nil, List.set_cons_zero, List.set_cons_succ, atI_0, atI_1, atI_2, atI_3, List.replicate, Nat.zero_add, Nat.reduceAdd, Nat.reduceSub, seqW_ref, seqW_tup, c_leS, b_iaddI, b_iaddS, b_isub, w_enum, w_zip, w_callv]
  obtain ⟨D, rfl, hD⟩ : ∃ j : Nat, b = (j : Int) ∧ j < e := ⟨b.toNat, by omega, by omega⟩
  have e2 : ((1 : Int) + (D : Int)) = ((1 + D : Nat) : Int) := by omega
  rw [e2]
  have hl1 := a4.lt
  have hs23 := v5.1
  have g1 : S2.length - 1 ≠ d := by have := hl1.1; omega
  have g2 : S2.length - 1 ≠ c := by have := hl1.2; omega
  have hF : Fm d c S3.length (S2.length - 1) (n + 1 + 20 + 1 + 1) L xs S4 := by
    refine ⟨b3, rd_kx (rdL_new S3 _) b5 hj3.1 hj3.2, rd_kx (rdL_app (rd_kx x2 v5 g1 g2)) b5 g1 g2, hj3.1, hj3.2, g1, g2, ?_⟩
    omega
  have hk : k + 29 = (k + 29 - (1 + D) - 3) + (1 + D) + 3 := by omega
  rw [hk]
  refine (form8_spec h4 h22 h23 h24 (by omega) (by omega) x4 (1 + D) _ _ L S4 hF (by omega) (by omega) (by omega)).imp fun w S5 hw => ?_
  obtain ⟨p, L', rfl, r1, r2, r3, r4, r5, r6⟩ := hw
  refine ⟨p, rfl, ⟨r1.1, Nat.le_trans (sortU_sub r1.2) (by omega)⟩, by omega, by omega, r5.dk.mono (by omega), Nat.le_trans b4.1 r6.1, fun t ht t1 t2 => ?_⟩
  have hs3 := v4.1
  exact (r6.2 t (Nat.lt_of_lt_of_le ht b4.1) t1 t2 (fun q => by omega)).trans (b4.2 t ht t1 t2)
end
end Pg
namespace Pg
open MP
/-! ### the law's own writing -/
theorem b_dl {S : Sto} {P : W → Sto → Prop} {lo : Int} {hi : W} (h : tms lo hi) : Is (opI (.dlit [([some 0, some 1], [63]), ([some 0, none], [42]), ([some 1, none], [43])]) [.tup [.int lo, hi]] S) P = P (.str (wTm lo hi)) S := by
  rcases h with ⟨rfl, rfl⟩ | ⟨rfl, rfl⟩ | ⟨rfl, rfl⟩ <;> exact is_some _ _ _
theorem bk3_word (q : Pt) : bk3 q = !(decide (word q = kSign) || decide (word q = kMark)) := by cases q <;> rfl
section
variable {ds : Nat → Option Def}
theorem written_spec (h75 : ds 75 = some ⟨1, 5, b_law_written⟩) : ∀ (D k : Nat) (p : Pt) (S : Sto), deep p ≤ D → size p ≤ 1000 → WP p → Is (callF ds (k + D + 1) 75 [enc p] S) fun w S' => w = .str (wr p) ∧ Kp S S' := by
  intro D
  induction D with
  | zero => intro k p S hd; have := deep_pos p; omega
  | succ D IH =>
  intro k p S hd hs hw
  refine w_callF (k := k + D + 1) h75 rfl ?_
  have hlen := wr_len p hw
  cases p with
  | sign s =>
    have hl := sgs_len hw
    have hS : ([32, 97, 98, 99, 100, 101, 102, 103, 104, 105, 106, 107, 108, 109, 110, 111, 112, 113, 114, 115, 116, 117, 118, 119, 120, 121, 122] : List Nat) = c_SIGNS := rfl
    simp only [b_law_written, w_var, w_c, w_bin, w_cmp, w_chain, w_and, w_or, w_ite, w_not, w_nil, w_cons, w_tup, w_lst, w_ix, w_no, w_yes, w_sl, w_call, w_bi, w_val, w_rng1, w_rng2, s_nil, s_cons, s_ret, s_expr, s_set, s_if, s_pass, s_setix, s_app, s_ext, o_addI, o_addS, o_addT, o_addL, o_sub, o_mulI, o_mulS, o_mulL, o_fdiv, o_mod, o_pow, c_ltI, c_ltS, c_le, c_gt, c_ge, c_eq, c_ne, e_ii, e_ss, e_bb, c_inS, c_notS, i_str, i_tup, i_ref, l_str, l_tup, l_rol, l_ref, b_lenS, b_lenT, b_lenR, b_abs, b_tupR, b_tupT, b_listR, b_listT, b_all, b_any, b_intI, b_intB, b_isiN, b_isiB, b_isiI, b_isiS, b_isiT, b_isiR, b_isiL, b_isN, b_notN, b_neg, b_rev, b_join, t_str, is_some, isB_some, byB_true, byB_false, start, wipe, bindT, List.map_cons, List.map_nil, List.cons_append, List.nil_append, List.append_nil, List.getElem?_cons_zero, List.getElem?_cons_succ, List.length_cons, List.length_nil, List.set_cons_zero, List.set_cons_succ, atI_0, atI_1, atI_2, atI_3, List.replicate, Nat.zero_add, Nat.reduceAdd, Nat.reduceSub, seqW_ref, seqW_tup, c_leS, b_iaddI, b_iaddS, b_isub, w_enum, w_zip, w_callv, enc, e_ss, e_ii, decide_true, hS]
    simp only [wr, wSg]
    refine byB_dec _ _ _ (fun h1 => ?_) (fun h1 => ⟨by simp only [LIM]; omega, byB_dec _ _ _ (fun h2 => ?_) (fun h2 => ?_)⟩)
    · have h1 := of_decide_eq_true h1
      subst h1
      exact ⟨rfl, .refl _⟩
    · have h2 := of_decide_eq_true h2
      rw [if_pos (by omega)]
      exact ⟨rfl, .refl _⟩
    · have h1 := of_decide_eq_false h1
      have h2 := of_decide_eq_false h2
      rw [if_neg (by omega), if_neg h1]
      refine ⟨by simp only [LIM]; omega, by simp only [LIM, List.length_append, List.length_cons, List.length_nil]; omega, rfl, .refl _⟩
  | mark n q =>
    simp only [size] at hs
    simp only [deep] at hd
    have q4 := wr_len q hw.2
    have q5 := hw.1.2.1
    simp only [b_law_written, w_var, w_c, w_bin, w_cmp, w_chain, w_and, w_or, w_ite, w_not, w_nil, w_cons, w_tup, w_lst, w_ix, w_no, w_yes, w_sl, w_call, w_bi, w_val, w_rng1, w_rng2, s_nil, s_cons, s_ret, s_expr, s_set, s_if, s_pass, s_setix, s_app, s_ext, o_addI, o_addS, o_addT, o_addL, o_sub, o_mulI, o_mulS, o_mulL, o_fdiv, o_mod, o_pow, c_ltI, c_ltS, c_le, c_gt, c_ge, c_eq, c_ne, e_ii, e_ss, e_bb, c_inS, c_notS, i_str, i_tup, i_ref, l_str, l_tup, l_rol, l_ref, b_lenS, b_lenT, b_lenR, b_abs, b_tupR, b_tupT, b_listR, b_listT, b_all, b_any, b_intI, b_intB, b_isiN, b_isiB, b_isiI, b_isiS, b_isiT, b_isiR, b_isiL, b_isN, b_notN, b_neg, b_rev, b_join, t_str, is_some, isB_some, byB_true, byB_false, start, wipe, bindT, List.map_cons, List.map_nil, List.cons_append, List.nil_append, List.append_nil, List.getElem?_cons_zero, List.getElem?_cons_succ, List.length_cons, List.length_nil, List.set_cons_zero, List.set_cons_succ, atI_0, atI_1, atI_2, atI_3, List.replicate, Nat.zero_add, Nat.reduceAdd, Nat.reduceSub, seqW_ref, seqW_tup, c_leS, b_iaddI, b_iaddS, b_isub, w_enum, w_zip, w_callv, enc, e_ss, e_ii, decide_true, show decide (kMark = [115, 105, 103, 110]) = false from rfl]
    refine ⟨by simp only [LIM]; omega, by simp only [LIM, List.length_append, List.length_cons, List.length_nil]; omega, ?_⟩
    refine (IH k q S (by omega) (by omega) hw.2).imp fun w S2 h2 => ?_
    obtain ⟨rfl, g3⟩ := h2
    try simp only [w_var, w_c, w_bin, w_cmp, w_chain, w_and, w_or, w_ite, w_not, w_nil, w_cons, w_tup, w_lst, w_ix, w_no, w_yes, w_sl, w_call, w_bi, w_val, w_rng1, w_rng2, s_nil, s_cons, s_ret, s_expr, s_set, s_if, s_pass, s_setix, s_app, s_ext, o_addI, o_addS, o_addT, o_addL, o_sub, o_mulI, o_mulS, o_mulL, o_fdiv, o_mod, o_pow, c_ltI, c_ltS, c_le, c_gt, c_ge, c_eq, c_ne, e_ii, e_ss, e_bb, c_inS, c_notS, i_str, i_tup, i_ref, l_str, l_tup, l_rol, l_ref, b_lenS, b_lenT, b_lenR, b_abs, b_tupR, b_tupT, b_listR, b_listT, b_all, b_any, b_intI, b_intB, b_isiN, b_isiB, b_isiI, b_isiS, b_isiT, b_isiR, b_isiL, b_isN, b_notN, b_neg, b_rev, b_join, t_str, is_some, isB_some, byB_true, byB_false, start, wipe, bindT, List.map_cons, List.map_nil, List.cons_append, List.nil_append, List.append_nil, List.getElem?_cons_zero, List.getElem?_cons_succ, List.length_cons, List.length_nil, List.set_cons_zero, List.set_cons_succ, atI_0, atI_1, atI_2, atI_3, List.replicate, Nat.zero_add, Nat.reduceAdd, Nat.reduceSub, seqW_ref, seqW_tup, c_leS, b_iaddI, b_iaddS, b_isub, w_enum, w_zip, w_callv]
    refine ⟨by simp only [LIM, List.length_append, List.length_cons, List.length_nil]; omega, by simp only [LIM, List.length_append, List.length_cons, List.length_nil]; omega, by simp [wr], g3⟩
  | some lo hi q =>
    simp only [size] at hs
    simp only [deep] at hd
    have q4 := wr_len q hw.2
    have q6 : (wTm lo hi).length = 1 := by
      rcases hw.1 with ⟨rfl, rfl⟩ | ⟨rfl, rfl⟩ | ⟨rfl, rfl⟩ <;> rfl
    have ec : cut [W.str kSome, W.int lo, hi, enc q] (some 1) (some 3) = [.int lo, hi] := rfl
    obtain ⟨r, hq⟩ := enc_head q
    have IH' := IH k q S (by omega) (by omega) hw.2
    simp only [b_law_written, w_var, w_c, w_bin, w_cmp, w_chain, w_and, w_or, w_ite, w_not, w_nil, w_cons, w_tup, w_lst, w_ix, w_no, w_yes, w_sl, w_call, w_bi, w_val, w_rng1, w_rng2, s_nil, s_cons, s_ret, s_expr, s_set, s_if, s_pass, s_setix, s_app, s_ext, o_addI, o_addS, o_addT, o_addL, o_sub, o_mulI, o_mulS, o_mulL, o_fdiv, o_mod, o_pow, c_ltI, c_ltS, c_le, c_gt, c_ge, c_eq, c_ne, e_ii, e_ss, e_bb, c_inS, c_notS, i_str, i_tup, i_ref, l_str, l_tup, l_rol, l_ref, b_lenS, b_lenT, b_lenR, b_abs, b_tupR, b_tupT, b_listR, b_listT, b_all, b_any, b_intI, b_intB, b_isiN, b_isiB, b_isiI, b_isiS, b_isiT, b_isiR, b_isiL, b_isN, b_notN, b_neg, b_rev, b_join, t_str, is_some, isB_some, byB_true, byB_false, start, wipe, bindT, List.map_cons, List.map_nil, List.cons_append, List.nil_append, List.append_nil, List.getElem?_cons_zero, List.getElem?_cons_succ, List.length_cons, List.length_nil, List.set_cons_zero, List.set_cons_succ, atI_0, atI_1, atI_2, atI_3, List.replicate, Nat.zero_add, Nat.reduceAdd, Nat.reduceSub, seqW_ref, seqW_tup, c_leS, b_iaddI, b_iaddS, b_isub, w_enum, w_zip, w_callv, enc, e_ss, e_ii, decide_true, show decide (kSome = [115, 105, 103, 110]) = false from rfl, show decide (kSome = [109, 97, 114, 107]) = false from rfl, ec, b_dl hw.1]
    rw [hq] at IH' ⊢
    try simp only [w_var, w_c, w_bin, w_cmp, w_chain, w_and, w_or, w_ite, w_not, w_nil, w_cons, w_tup, w_lst, w_ix, w_no, w_yes, w_sl, w_call, w_bi, w_val, w_rng1, w_rng2, s_nil, s_cons, s_ret, s_expr, s_set, s_if, s_pass, s_setix, s_app, s_ext, o_addI, o_addS, o_addT, o_addL, o_sub, o_mulI, o_mulS, o_mulL, o_fdiv, o_mod, o_pow, c_ltI, c_ltS, c_le, c_gt, c_ge, c_eq, c_ne, e_ii, e_ss, e_bb, c_inS, c_notS, i_str, i_tup, i_ref, l_str, l_tup, l_rol, l_ref, b_lenS, b_lenT, b_lenR, b_abs, b_tupR, b_tupT, b_listR, b_listT, b_all, b_any, b_intI, b_intB, b_isiN, b_isiB, b_isiI, b_isiS, b_isiT, b_isiR, b_isiL, b_isN, b_notN, b_neg, b_rev, b_join, t_str, is_some, isB_some, byB_true, byB_false, start, wipe, bindT, List.map_cons, List.map_nil, List.cons_append, List.nil_append, List.append_nil, List.getElem?_cons_zero, List.getElem?_cons_succ, List.length_cons, List.length_nil, List.set_cons_zero, List.set_cons_succ, atI_0, atI_1, atI_2, atI_3, List.replicate, Nat.zero_add, Nat.reduceAdd, Nat.reduceSub, seqW_ref, seqW_tup, c_leS, b_iaddI, b_iaddS, b_isub, w_enum, w_zip, w_callv, e_ss]
    have fin : bk3 q = false → IsS (exs (callF ds (k + D + 1)) (.cons (.ret (.bin .add (.call 75 (.cons (.ix (.var 0) (.c (.int 3))) .nil)) (.var 3))) .nil) [some (W.tup [W.str kSome, W.int lo, hi, W.tup (W.str (word q) :: r)]), none, none, some (W.str (wTm lo hi)), none] S) (fun _ _ => False) (fun w S' => w = .str (wr (.some lo hi q)) ∧ Kp S S') := by
      intro hb
      try simp only [w_var, w_c, w_bin, w_cmp, w_chain, w_and, w_or, w_ite, w_not, w_nil, w_cons, w_tup, w_lst, w_ix, w_no, w_yes, w_sl, w_call, w_bi, w_val, w_rng1, w_rng2, s_nil, s_cons, s_ret, s_expr, s_set, s_if, s_pass, s_setix, s_app, s_ext, o_addI, o_addS, o_addT, o_addL, o_sub, o_mulI, o_mulS, o_mulL, o_fdiv, o_mod, o_pow, c_ltI, c_ltS, c_le, c_gt, c_ge, c_eq, c_ne, e_ii, e_ss, e_bb, c_inS, c_notS, i_str, i_tup, i_ref, l_str, l_tup, l_rol, l_ref, b_lenS, b_lenT, b_lenR, b_abs, b_tupR, b_tupT, b_listR, b_listT, b_all, b_any, b_intI, b_intB, b_isiN, b_isiB, b_isiI, b_isiS, b_isiT, b_isiR, b_isiL, b_isN, b_notN, b_neg, b_rev, b_join, t_str, is_some, isB_some, byB_true, byB_false, start, wipe, bindT, List.map_cons, List.map_nil, List.cons_append, List.nil_append, List.append_nil, List.getElem?_cons_zero, List.getElem?_cons_succ, List.length_cons, List.length_nil, List.set_cons_zero, List.set_cons_succ, atI_0, atI_1, atI_2, atI_3, List.replicate, Nat.zero_add, Nat.reduceAdd, Nat.reduceSub, seqW_ref, seqW_tup, c_leS, b_iaddI, b_iaddS, b_isub, w_enum, w_zip, w_callv]
      refine IH'.imp fun w S2 h2 => ?_
      obtain ⟨rfl, g3⟩ := h2
      try simp only [w_var, w_c, w_bin, w_cmp, w_chain, w_and, w_or, w_ite, w_not, w_nil, w_cons, w_tup, w_lst, w_ix, w_no, w_yes, w_sl, w_call, w_bi, w_val, w_rng1, w_rng2, s_nil, s_cons, s_ret, s_expr, s_set, s_if, s_pass, s_setix, s_app, s_ext, o_addI, o_addS, o_addT, o_addL, o_sub, o_mulI, o_mulS, o_mulL, o_fdiv, o_mod, o_pow, c_ltI, c_ltS, c_le, c_gt, c_ge, c_eq, c_ne, e_ii, e_ss, e_bb, c_inS, c_notS, i_str, i_tup, i_ref, l_str, l_tup, l_rol, l_ref, b_lenS, b_lenT, b_lenR, b_abs, b_tupR, b_tupT, b_listR, b_listT, b_all, b_any, b_intI, b_intB, b_isiN, b_isiB, b_isiI, b_isiS, b_isiT, b_isiR, b_isiL, b_isN, b_notN, b_neg, b_rev, b_join, t_str, is_some, isB_some, byB_true, byB_false, start, wipe, bindT, List.map_cons, List.map_nil, List.cons_append, List.nil_append, List.append_nil, List.getElem?_cons_zero, List.getElem?_cons_succ, List.length_cons, List.length_nil, List.set_cons_zero, List.set_cons_succ, atI_0, atI_1, atI_2, atI_3, List.replicate, Nat.zero_add, Nat.reduceAdd, Nat.reduceSub, seqW_ref, seqW_tup, c_leS, b_iaddI, b_iaddS, b_isub, w_enum, w_zip, w_callv]
      exact ⟨by simp only [LIM]; omega, by simp only [wr, hb, brk]; rfl, g3⟩
    have fin2 : bk3 q = true → IsS (exs (callF ds (k + D + 1)) (.cons (.ret (.bin .add (.bin .add (.bin .add (.c (.str [40])) (.call 75 (.cons (.ix (.var 0) (.c (.int 3))) .nil))) (.c (.str [41]))) (.var 3))) .nil) [some (W.tup [W.str kSome, W.int lo, hi, W.tup (W.str (word q) :: r)]), none, none, some (W.str (wTm lo hi)), none] S) (fun _ _ => False) (fun w S' => w = .str (wr (.some lo hi q)) ∧ Kp S S') := by
      intro hb
      try simp only [w_var, w_c, w_bin, w_cmp, w_chain, w_and, w_or, w_ite, w_not, w_nil, w_cons, w_tup, w_lst, w_ix, w_no, w_yes, w_sl, w_call, w_bi, w_val, w_rng1, w_rng2, s_nil, s_cons, s_ret, s_expr, s_set, s_if, s_pass, s_setix, s_app, s_ext, o_addI, o_addS, o_addT, o_addL, o_sub, o_mulI, o_mulS, o_mulL, o_fdiv, o_mod, o_pow, c_ltI, c_ltS, c_le, c_gt, c_ge, c_eq, c_ne, e_ii, e_ss, e_bb, c_inS, c_notS, i_str, i_tup, i_ref, l_str, l_tup, l_rol, l_ref, b_lenS, b_lenT, b_lenR, b_abs, b_tupR, b_tupT, b_listR, b_listT, b_all, b_any, b_intI, b_intB, b_isiN, b_isiB, b_isiI, b_isiS, b_isiT, b_isiR, b_isiL, b_isN, b_notN, b_neg, b_rev, b_join, t_str, is_some, isB_some, byB_true, byB_false, start, wipe, bindT, List.map_cons, List.map_nil, List.cons_append, List.nil_append, List.append_nil, List.getElem?_cons_zero, List.getElem?_cons_succ, List.length_cons, List.length_nil, List.set_cons_zero, List.set_cons_succ, atI_0, atI_1, atI_2, atI_3, List.replicate, Nat.zero_add, Nat.reduceAdd, Nat.reduceSub, seqW_ref, seqW_tup, c_leS, b_iaddI, b_iaddS, b_isub, w_enum, w_zip, w_callv]
      refine IH'.imp fun w S2 h2 => ?_
      obtain ⟨rfl, g3⟩ := h2
      try simp only [w_var, w_c, w_bin, w_cmp, w_chain, w_and, w_or, w_ite, w_not, w_nil, w_cons, w_tup, w_lst, w_ix, w_no, w_yes, w_sl, w_call, w_bi, w_val, w_rng1, w_rng2, s_nil, s_cons, s_ret, s_expr, s_set, s_if, s_pass, s_setix, s_app, s_ext, o_addI, o_addS, o_addT, o_addL, o_sub, o_mulI, o_mulS, o_mulL, o_fdiv, o_mod, o_pow, c_ltI, c_ltS, c_le, c_gt, c_ge, c_eq, c_ne, e_ii, e_ss, e_bb, c_inS, c_notS, i_str, i_tup, i_ref, l_str, l_tup, l_rol, l_ref, b_lenS, b_lenT, b_lenR, b_abs, b_tupR, b_tupT, b_listR, b_listT, b_all, b_any, b_intI, b_intB, b_isiN, b_isiB, b_isiI, b_isiS, b_isiT, b_isiR, b_isiL, b_isN, b_notN, b_neg, b_rev, b_join, t_str, is_some, isB_some, byB_true, byB_false, start, wipe, bindT, List.map_cons, List.map_nil, List.cons_append, List.nil_append, List.append_nil, List.getElem?_cons_zero, List.getElem?_cons_succ, List.length_cons, List.length_nil, List.set_cons_zero, List.set_cons_succ, atI_0, atI_1, atI_2, atI_3, List.replicate, Nat.zero_add, Nat.reduceAdd, Nat.reduceSub, seqW_ref, seqW_tup, c_leS, b_iaddI, b_iaddS, b_isub, w_enum, w_zip, w_callv]
      exact ⟨by simp only [LIM, List.length_cons, List.length_nil]; omega, by simp only [LIM, List.length_append, List.length_cons, List.length_nil]; omega, by simp only [LIM, List.length_append, List.length_cons, List.length_nil]; omega, by simp [wr, hb, brk], g3⟩
    have bw := bk3_word q
    try simp only [w_var, w_c, w_bin, w_cmp, w_chain, w_and, w_or, w_ite, w_not, w_nil, w_cons, w_tup, w_lst, w_ix, w_no, w_yes, w_sl, w_call, w_bi, w_val, w_rng1, w_rng2, s_nil, s_cons, s_ret, s_expr, s_set, s_if, s_pass, s_setix, s_app, s_ext, o_addI, o_addS, o_addT, o_addL, o_sub, o_mulI, o_mulS, o_mulL, o_fdiv, o_mod, o_pow, c_ltI, c_ltS, c_le, c_gt, c_ge, c_eq, c_ne, e_ii, e_ss, e_bb, c_inS, c_notS, i_str, i_tup, i_ref, l_str, l_tup, l_rol, l_ref, b_lenS, b_lenT, b_lenR, b_abs, b_tupR, b_tupT, b_listR, b_listT, b_all, b_any, b_intI, b_intB, b_isiN, b_isiB, b_isiI, b_isiS, b_isiT, b_isiR, b_isiL, b_isN, b_notN, b_neg, b_rev, b_join, t_str, is_some, isB_some, byB_true, byB_false, start, wipe, bindT, List.map_cons, List.map_nil, List.cons_append, List.nil_append, List.append_nil, List.getElem?_cons_zero, List.getElem?_cons_succ, List.length_cons, List.length_nil, List.set_cons_zero, List.set_cons_succ, atI_0, atI_1, atI_2, atI_3, List.replicate, Nat.zero_add, Nat.reduceAdd, Nat.reduceSub, seqW_ref, seqW_tup, c_leS, b_iaddI, b_iaddS, b_isub, w_enum, w_zip, w_callv] at fin fin2
    refine byB_dec _ _ _ (fun h1 => fin (by rw [bw]; simp only [kSign] at h1 ⊢; simp [of_decide_eq_true h1])) (fun h1 => byB_dec _ _ _ (fun h2 => fin (by rw [bw]; simp [show decide (word q = kMark) = true from h2])) (fun h2 => fin2 (by rw [bw, show decide (word q = kSign) = false from h1, show decide (word q = kMark) = false from h2]; rfl)))
  | row ps =>
    simp only [size] at hs
    simp only [deep] at hd
    have lm := len_sizes ps
    have hr := wrR_len ps hw.1
    simp only [b_law_written, w_var, w_c, w_bin, w_cmp, w_chain, w_and, w_or, w_ite, w_not, w_nil, w_cons, w_tup, w_lst, w_ix, w_no, w_yes, w_sl, w_call, w_bi, w_val, w_rng1, w_rng2, s_nil, s_cons, s_ret, s_expr, s_set, s_if, s_pass, s_setix, s_app, s_ext, o_addI, o_addS, o_addT, o_addL, o_sub, o_mulI, o_mulS, o_mulL, o_fdiv, o_mod, o_pow, c_ltI, c_ltS, c_le, c_gt, c_ge, c_eq, c_ne, e_ii, e_ss, e_bb, c_inS, c_notS, i_str, i_tup, i_ref, l_str, l_tup, l_rol, l_ref, b_lenS, b_lenT, b_lenR, b_abs, b_tupR, b_tupT, b_listR, b_listT, b_all, b_any, b_intI, b_intB, b_isiN, b_isiB, b_isiI, b_isiS, b_isiT, b_isiR, b_isiL, b_isN, b_notN, b_neg, b_rev, b_join, t_str, is_some, isB_some, byB_true, byB_false, start, wipe, bindT, List.map_cons, List.map_nil, List.cons_append, List.nil_append, List.append_nil, List.getElem?_cons_zero, List.getElem?_cons_succ, List.length_cons, List.length_nil, List.set_cons_zero, List.set_cons_succ, atI_0, atI_1, atI_2, atI_3, List.replicate, Nat.zero_add, Nat.reduceAdd, Nat.reduceSub, seqW_ref, seqW_tup, c_leS, b_iaddI, b_iaddS, b_isub, w_enum, w_zip, w_callv, enc, e_ss, e_ii, decide_true, show decide (kRow = [115, 105, 103, 110]) = false from rfl, show decide (kRow = [109, 97, 114, 107]) = false from rfl, show decide (kRow = [115, 111, 109, 101]) = false from rfl, show decide (kRow = [97, 110, 121]) = false from rfl]
    refine ⟨by simp [LIM], ?_⟩
    refine w_for (n := ps.length) (fun i env S' => ∃ v2 v4, env = [some (W.tup [W.str kRow, W.tup (encs ps)]), some (.ref S.length), v2, none, v4] ∧ rdL S' S.length = some ((ps.take i).map fun p => W.str (brk (isAny p) (wr p))) ∧ Kp S S') ?_
    try simp only [w_var, w_c, w_bin, w_cmp, w_chain, w_and, w_or, w_ite, w_not, w_nil, w_cons, w_tup, w_lst, w_ix, w_no, w_yes, w_sl, w_call, w_bi, w_val, w_rng1, w_rng2, s_nil, s_cons, s_ret, s_expr, s_set, s_if, s_pass, s_setix, s_app, s_ext, o_addI, o_addS, o_addT, o_addL, o_sub, o_mulI, o_mulS, o_mulL, o_fdiv, o_mod, o_pow, c_ltI, c_ltS, c_le, c_gt, c_ge, c_eq, c_ne, e_ii, e_ss, e_bb, c_inS, c_notS, i_str, i_tup, i_ref, l_str, l_tup, l_rol, l_ref, b_lenS, b_lenT, b_lenR, b_abs, b_tupR, b_tupT, b_listR, b_listT, b_all, b_any, b_intI, b_intB, b_isiN, b_isiB, b_isiI, b_isiS, b_isiT, b_isiR, b_isiL, b_isN, b_notN, b_neg, b_rev, b_join, t_str, is_some, isB_some, byB_true, byB_false, start, wipe, bindT, List.map_cons, List.map_nil, List.cons_append, List.nil_append, List.append_nil, List.getElem?_cons_zero, List.getElem?_cons_succ, List.length_cons, List.length_nil, List.set_cons_zero, List.set_cons_succ, atI_0, atI_1, atI_2, atI_3, List.replicate, Nat.zero_add, Nat.reduceAdd, Nat.reduceSub, seqW_ref, seqW_tup, c_leS, b_iaddI, b_iaddS, b_isub, w_enum, w_zip, w_callv, Src.len, encs_len]
    refine ⟨trivial, ⟨none, none, rfl, rdL_new _ _, .app _ _⟩, fun i env S' hi hI => ?_, fun env S' hI => ?_⟩
    · obtain ⟨v2, v4, rfl, f2, f3⟩ := hI
      have hx : (encs ps)[i]? = some (enc ps[i]) := by rw [encs_map, List.getElem?_map, List.getElem?_eq_getElem hi]; rfl
      have hm : ps[i] ∈ ps := List.getElem_mem hi
      have q1 := deep_mem hm
      have q2 := size_mem hm
      have q3 := wps_mem.mp hw.1 _ hm
      have q4 := wr_len _ q3
      have ht : ps.take (i + 1) = ps.take i ++ [ps[i]] := by rw [List.take_add_one, List.getElem?_eq_getElem hi]; rfl
      refine ⟨enc ps[i], _, by simp only [Src.item]; exact hx, rfl, ?_⟩
      try simp only [w_var, w_c, w_bin, w_cmp, w_chain, w_and, w_or, w_ite, w_not, w_nil, w_cons, w_tup, w_lst, w_ix, w_no, w_yes, w_sl, w_call, w_bi, w_val, w_rng1, w_rng2, s_nil, s_cons, s_ret, s_expr, s_set, s_if, s_pass, s_setix, s_app, s_ext, o_addI, o_addS, o_addT, o_addL, o_sub, o_mulI, o_mulS, o_mulL, o_fdiv, o_mod, o_pow, c_ltI, c_ltS, c_le, c_gt, c_ge, c_eq, c_ne, e_ii, e_ss, e_bb, c_inS, c_notS, i_str, i_tup, i_ref, l_str, l_tup, l_rol, l_ref, b_lenS, b_lenT, b_lenR, b_abs, b_tupR, b_tupT, b_listR, b_listT, b_all, b_any, b_intI, b_intB, b_isiN, b_isiB, b_isiI, b_isiS, b_isiT, b_isiR, b_isiL, b_isN, b_notN, b_neg, b_rev, b_join, t_str, is_some, isB_some, byB_true, byB_false, start, wipe, bindT, List.map_cons, List.map_nil, List.cons_append, List.nil_append, List.append_nil, List.getElem?_cons_zero, List.getElem?_cons_succ, List.length_cons, List.length_nil, List.set_cons_zero, List.set_cons_succ, atI_0, atI_1, atI_2, atI_3, List.replicate, Nat.zero_add, Nat.reduceAdd, Nat.reduceSub, seqW_ref, seqW_tup, c_leS, b_iaddI, b_iaddS, b_isub, w_enum, w_zip, w_callv]
      obtain ⟨r, hq⟩ := enc_head ps[i]
      refine (IH k ps[i] S' (by omega) (by omega) q3).imp fun w S2 h2 => ?_
      obtain ⟨rfl, g3⟩ := h2
      rw [hq]
      have f4 : rdL S2 S.length = some ((ps.take i).map fun p => W.str (brk (isAny p) (wr p))) := rdL_of (g3.get (rdL_iff.mp f2))
      have iw : isAny ps[i] = decide (word ps[i] = [97, 110, 121]) := by cases ps[i] <;> rfl
      try simp only [w_var, w_c, w_bin, w_cmp, w_chain, w_and, w_or, w_ite, w_not, w_nil, w_cons, w_tup, w_lst, w_ix, w_no, w_yes, w_sl, w_call, w_bi, w_val, w_rng1, w_rng2, s_nil, s_cons, s_ret, s_expr, s_set, s_if, s_pass, s_setix, s_app, s_ext, o_addI, o_addS, o_addT, o_addL, o_sub, o_mulI, o_mulS, o_mulL, o_fdiv, o_mod, o_pow, c_ltI, c_ltS, c_le, c_gt, c_ge, c_eq, c_ne, e_ii, e_ss, e_bb, c_inS, c_notS, i_str, i_tup, i_ref, l_str, l_tup, l_rol, l_ref, b_lenS, b_lenT, b_lenR, b_abs, b_tupR, b_tupT, b_listR, b_listT, b_all, b_any, b_intI, b_intB, b_isiN, b_isiB, b_isiI, b_isiS, b_isiT, b_isiR, b_isiL, b_isN, b_notN, b_neg, b_rev, b_join, t_str, is_some, isB_some, byB_true, byB_false, start, wipe, bindT, List.map_cons, List.map_nil, List.cons_append, List.nil_append, List.append_nil, List.getElem?_cons_zero, List.getElem?_cons_succ, List.length_cons, List.length_nil, List.set_cons_zero, List.set_cons_succ, atI_0, atI_1, atI_2, atI_3, List.replicate, Nat.zero_add, Nat.reduceAdd, Nat.reduceSub, seqW_ref, seqW_tup, c_leS, b_iaddI, b_iaddS, b_isub, w_enum, w_zip, w_callv, e_ss, decide_true, f4]
      refine byB_dec _ _ _ (fun h1 => ⟨by simp only [LIM]; omega, by simp only [LIM, List.length_append, List.length_cons, List.length_nil]; omega, by rw [List.length_map, List.length_take]; simp only [LIM]; omega, _, _, rfl, ?_, Pg.Kp.set (f3.trans g3) (Nat.le_refl _) _⟩) (fun h1 => ⟨by rw [List.length_map, List.length_take]; simp only [LIM]; omega, _, _, rfl, ?_, Pg.Kp.set (f3.trans g3) (Nat.le_refl _) _⟩)
      · rw [rdL_set_same f4, ht, List.map_append, List.map_cons, List.map_nil, iw, h1]
        simp [brk]
      · rw [rdL_set_same f4, ht, List.map_append, List.map_cons, List.map_nil, iw, h1]
        simp [brk]
    · obtain ⟨v2, v4, rfl, f2, f3⟩ := hI
      rw [List.take_length] at f2
      refine ⟨⟨_, Nat.le_refl _, rfl⟩, ?_⟩
      try simp only [w_var, w_c, w_bin, w_cmp, w_chain, w_and, w_or, w_ite, w_not, w_nil, w_cons, w_tup, w_lst, w_ix, w_no, w_yes, w_sl, w_call, w_bi, w_val, w_rng1, w_rng2, s_nil, s_cons, s_ret, s_expr, s_set, s_if, s_pass, s_setix, s_app, s_ext, o_addI, o_addS, o_addT, o_addL, o_sub, o_mulI, o_mulS, o_mulL, o_fdiv, o_mod, o_pow, c_ltI, c_ltS, c_le, c_gt, c_ge, c_eq, c_ne, e_ii, e_ss, e_bb, c_inS, c_notS, i_str, i_tup, i_ref, l_str, l_tup, l_rol, l_ref, b_lenS, b_lenT, b_lenR, b_abs, b_tupR, b_tupT, b_listR, b_listT, b_all, b_any, b_intI, b_intB, b_isiN, b_isiB, b_isiI, b_isiS, b_isiT, b_isiR, b_isiL, b_isN, b_notN, b_neg, b_rev, b_join, t_str, is_some, isB_some, byB_true, byB_false, start, wipe, bindT, List.map_cons, List.map_nil, List.cons_append, List.nil_append, List.append_nil, List.getElem?_cons_zero, List.getElem?_cons_succ, List.length_cons, List.length_nil, List.set_cons_zero, List.set_cons_succ, atI_0, atI_1, atI_2, atI_3, List.replicate, Nat.zero_add, Nat.reduceAdd, Nat.reduceSub, seqW_ref, seqW_tup, c_leS, b_iaddI, b_iaddS, b_isub, w_enum, w_zip, w_callv]
      refine ⟨by simp [LIM], ?_⟩
      rw [rdL_new]
      have e1 : (ps.map fun p => W.str (brk (isAny p) (wr p))) = (wrR ps).map W.str := by rw [wrR_map, List.map_map]; rfl
      have f5 : rdL (S' ++ [SO.lst [W.str [], W.str [124]]]) S.length = some ((wrR ps).map W.str) := by rw [← e1]; exact rdL_app f2
      try simp only [w_var, w_c, w_bin, w_cmp, w_chain, w_and, w_or, w_ite, w_not, w_nil, w_cons, w_tup, w_lst, w_ix, w_no, w_yes, w_sl, w_call, w_bi, w_val, w_rng1, w_rng2, s_nil, s_cons, s_ret, s_expr, s_set, s_if, s_pass, s_setix, s_app, s_ext, o_addI, o_addS, o_addT, o_addL, o_sub, o_mulI, o_mulS, o_mulL, o_fdiv, o_mod, o_pow, c_ltI, c_ltS, c_le, c_gt, c_ge, c_eq, c_ne, e_ii, e_ss, e_bb, c_inS, c_notS, i_str, i_tup, i_ref, l_str, l_tup, l_rol, l_ref, b_lenS, b_lenT, b_lenR, b_abs, b_tupR, b_tupT, b_listR, b_listT, b_all, b_any, b_intI, b_intB, b_isiN, b_isiB, b_isiI, b_isiS, b_isiT, b_isiR, b_isiL, b_isN, b_notN, b_neg, b_rev, b_join, t_str, is_some, isB_some, byB_true, byB_false, start, wipe, bindT, List.map_cons, List.map_nil, List.cons_append, List.nil_append, List.append_nil, List.getElem?_cons_zero, List.getElem?_cons_succ, List.length_cons, List.length_nil, List.set_cons_zero, List.set_cons_succ, atI_0, atI_1, atI_2, atI_3, List.replicate, Nat.zero_add, Nat.reduceAdd, Nat.reduceSub, seqW_ref, seqW_tup, c_leS, b_iaddI, b_iaddS, b_isub, w_enum, w_zip, w_callv, f5, txts_strs, joinL_nil, show (if decide (kRow = [97, 110, 121]) = true then (1 : Int) else 0) = 0 from rfl]
      refine ⟨by simp only [LIM, List.length_nil, Nat.mul_zero]; omega, by simp only [wr], f3.snoc _⟩
  | any ps =>
    simp only [size] at hs
    simp only [deep] at hd
    have lm := len_sizes ps
    have hr := wrs_len ps hw.1
    simp only [b_law_written, w_var, w_c, w_bin, w_cmp, w_chain, w_and, w_or, w_ite, w_not, w_nil, w_cons, w_tup, w_lst, w_ix, w_no, w_yes, w_sl, w_call, w_bi, w_val, w_rng1, w_rng2, s_nil, s_cons, s_ret, s_expr, s_set, s_if, s_pass, s_setix, s_app, s_ext, o_addI, o_addS, o_addT, o_addL, o_sub, o_mulI, o_mulS, o_mulL, o_fdiv, o_mod, o_pow, c_ltI, c_ltS, c_le, c_gt, c_ge, c_eq, c_ne, e_ii, e_ss, e_bb, c_inS, c_notS, i_str, i_tup, i_ref, l_str, l_tup, l_rol, l_ref, b_lenS, b_lenT, b_lenR, b_abs, b_tupR, b_tupT, b_listR, b_listT, b_all, b_any, b_intI, b_intB, b_isiN, b_isiB, b_isiI, b_isiS, b_isiT, b_isiR, b_isiL, b_isN, b_notN, b_neg, b_rev, b_join, t_str, is_some, isB_some, byB_true, byB_false, start, wipe, bindT, List.map_cons, List.map_nil, List.cons_append, List.nil_append, List.append_nil, List.getElem?_cons_zero, List.getElem?_cons_succ, List.length_cons, List.length_nil, List.set_cons_zero, List.set_cons_succ, atI_0, atI_1, atI_2, atI_3, List.replicate, Nat.zero_add, Nat.reduceAdd, Nat.reduceSub, seqW_ref, seqW_tup, c_leS, b_iaddI, b_iaddS, b_isub, w_enum, w_zip, w_callv, enc, e_ss, e_ii, decide_true, show decide (kAny = [115, 105, 103, 110]) = false from rfl, show decide (kAny = [109, 97, 114, 107]) = false from rfl, show decide (kAny = [115, 111, 109, 101]) = false from rfl, show decide (kAny = [114, 111, 119]) = false from rfl]
    refine ⟨by simp [LIM], ?_⟩
    refine w_for (n := ps.length) (fun i env S' => ∃ v2 v4, env = [some (W.tup [W.str kAny, W.tup (encs ps)]), some (.ref S.length), v2, none, v4] ∧ rdL S' S.length = some ((ps.take i).map fun p => W.str (wr p)) ∧ Kp S S') ?_
    try simp only [w_var, w_c, w_bin, w_cmp, w_chain, w_and, w_or, w_ite, w_not, w_nil, w_cons, w_tup, w_lst, w_ix, w_no, w_yes, w_sl, w_call, w_bi, w_val, w_rng1, w_rng2, s_nil, s_cons, s_ret, s_expr, s_set, s_if, s_pass, s_setix, s_app, s_ext, o_addI, o_addS, o_addT, o_addL, o_sub, o_mulI, o_mulS, o_mulL, o_fdiv, o_mod, o_pow, c_ltI, c_ltS, c_le, c_gt, c_ge, c_eq, c_ne, e_ii, e_ss, e_bb, c_inS, c_notS, i_str, i_tup, i_ref, l_str, l_tup, l_rol, l_ref, b_lenS, b_lenT, b_lenR, b_abs, b_tupR, b_tupT, b_listR, b_listT, b_all, b_any, b_intI, b_intB, b_isiN, b_isiB, b_isiI, b_isiS, b_isiT, b_isiR, b_isiL, b_isN, b_notN, b_neg, b_rev, b_join, t_str, is_some, isB_some, byB_true, byB_false, start, wipe, bindT, List.map_cons, List.map_nil, List.cons_append, List.nil_append, List.append_nil, List.getElem?_cons_zero, List.getElem?_cons_succ, List.length_cons, List.length_nil, List.set_cons_zero, List.set_cons_succ, atI_0, atI_1, atI_2, atI_3, List.replicate, Nat.zero_add, Nat.reduceAdd, Nat.reduceSub, seqW_ref, seqW_tup, c_leS, b_iaddI, b_iaddS, b_isub, w_enum, w_zip, w_callv, Src.len, encs_len]
    refine ⟨trivial, ⟨none, none, rfl, rdL_new _ _, .app _ _⟩, fun i env S' hi hI => ?_, fun env S' hI => ?_⟩
    · obtain ⟨v2, v4, rfl, f2, f3⟩ := hI
      have hx : (encs ps)[i]? = some (enc ps[i]) := by rw [encs_map, List.getElem?_map, List.getElem?_eq_getElem hi]; rfl
      have hm : ps[i] ∈ ps := List.getElem_mem hi
      have q1 := deep_mem hm
      have q2 := size_mem hm
      have q3 := wps_mem.mp hw.1 _ hm
      have ht : ps.take (i + 1) = ps.take i ++ [ps[i]] := by rw [List.take_add_one, List.getElem?_eq_getElem hi]; rfl
      refine ⟨enc ps[i], _, by simp only [Src.item]; exact hx, rfl, ?_⟩
      try simp only [w_var, w_c, w_bin, w_cmp, w_chain, w_and, w_or, w_ite, w_not, w_nil, w_cons, w_tup, w_lst, w_ix, w_no, w_yes, w_sl, w_call, w_bi, w_val, w_rng1, w_rng2, s_nil, s_cons, s_ret, s_expr, s_set, s_if, s_pass, s_setix, s_app, s_ext, o_addI, o_addS, o_addT, o_addL, o_sub, o_mulI, o_mulS, o_mulL, o_fdiv, o_mod, o_pow, c_ltI, c_ltS, c_le, c_gt, c_ge, c_eq, c_ne, e_ii, e_ss, e_bb, c_inS, c_notS, i_str, i_tup, i_ref, l_str, l_tup, l_rol, l_ref, b_lenS, b_lenT, b_lenR, b_abs, b_tupR, b_tupT, b_listR, b_listT, b_all, b_any, b_intI, b_intB, b_isiN, b_isiB, b_isiI, b_isiS, b_isiT, b_isiR, b_isiL, b_isN, b_notN, b_neg, b_rev, b_join, t_str, is_some, isB_some, byB_true, byB_false, start, wipe, bindT, List.map_cons, List.map_nil, List.cons_append, List.nil_append, List.append_nil, List.getElem?_cons_zero, List.getElem?_cons_succ, List.length_cons, List.length_nil, List.set_cons_zero, List.set_cons_succ, atI_0, atI_1, atI_2, atI_3, List.replicate, Nat.zero_add, Nat.reduceAdd, Nat.reduceSub, seqW_ref, seqW_tup, c_leS, b_iaddI, b_iaddS, b_isub, w_enum, w_zip, w_callv]
      refine (IH k ps[i] S' (by omega) (by omega) q3).imp fun w S2 h2 => ?_
      obtain ⟨rfl, g3⟩ := h2
      have f4 : rdL S2 S.length = some ((ps.take i).map fun p => W.str (wr p)) := rdL_of (g3.get (rdL_iff.mp f2))
      try simp only [w_var, w_c, w_bin, w_cmp, w_chain, w_and, w_or, w_ite, w_not, w_nil, w_cons, w_tup, w_lst, w_ix, w_no, w_yes, w_sl, w_call, w_bi, w_val, w_rng1, w_rng2, s_nil, s_cons, s_ret, s_expr, s_set, s_if, s_pass, s_setix, s_app, s_ext, o_addI, o_addS, o_addT, o_addL, o_sub, o_mulI, o_mulS, o_mulL, o_fdiv, o_mod, o_pow, c_ltI, c_ltS, c_le, c_gt, c_ge, c_eq, c_ne, e_ii, e_ss, e_bb, c_inS, c_notS, i_str, i_tup, i_ref, l_str, l_tup, l_rol, l_ref, b_lenS, b_lenT, b_lenR, b_abs, b_tupR, b_tupT, b_listR, b_listT, b_all, b_any, b_intI, b_intB, b_isiN, b_isiB, b_isiI, b_isiS, b_isiT, b_isiR, b_isiL, b_isN, b_notN, b_neg, b_rev, b_join, t_str, is_some, isB_some, byB_true, byB_false, start, wipe, bindT, List.map_cons, List.map_nil, List.cons_append, List.nil_append, List.append_nil, List.getElem?_cons_zero, List.getElem?_cons_succ, List.length_cons, List.length_nil, List.set_cons_zero, List.set_cons_succ, atI_0, atI_1, atI_2, atI_3, List.replicate, Nat.zero_add, Nat.reduceAdd, Nat.reduceSub, seqW_ref, seqW_tup, c_leS, b_iaddI, b_iaddS, b_isub, w_enum, w_zip, w_callv, e_ss, f4, show decide (kAny = [114, 111, 119]) = false from rfl]
      refine ⟨by rw [List.length_map, List.length_take]; simp only [LIM]; omega, _, _, rfl, ?_, Pg.Kp.set (f3.trans g3) (Nat.le_refl _) _⟩
      rw [rdL_set_same f4, ht, List.map_append, List.map_cons, List.map_nil]
    · obtain ⟨v2, v4, rfl, f2, f3⟩ := hI
      rw [List.take_length] at f2
      refine ⟨⟨_, Nat.le_refl _, rfl⟩, ?_⟩
      try simp only [w_var, w_c, w_bin, w_cmp, w_chain, w_and, w_or, w_ite, w_not, w_nil, w_cons, w_tup, w_lst, w_ix, w_no, w_yes, w_sl, w_call, w_bi, w_val, w_rng1, w_rng2, s_nil, s_cons, s_ret, s_expr, s_set, s_if, s_pass, s_setix, s_app, s_ext, o_addI, o_addS, o_addT, o_addL, o_sub, o_mulI, o_mulS, o_mulL, o_fdiv, o_mod, o_pow, c_ltI, c_ltS, c_le, c_gt, c_ge, c_eq, c_ne, e_ii, e_ss, e_bb, c_inS, c_notS, i_str, i_tup, i_ref, l_str, l_tup, l_rol, l_ref, b_lenS, b_lenT, b_lenR, b_abs, b_tupR, b_tupT, b_listR, b_listT, b_all, b_any, b_intI, b_intB, b_isiN, b_isiB, b_isiI, b_isiS, b_isiT, b_isiR, b_isiL, b_isN, b_notN, b_neg, b_rev, b_join, t_str, is_some, isB_some, byB_true, byB_false, start, wipe, bindT, List.map_cons, List.map_nil, List.cons_append, List.nil_append, List.append_nil, List.getElem?_cons_zero, List.getElem?_cons_succ, List.length_cons, List.length_nil, List.set_cons_zero, List.set_cons_succ, atI_0, atI_1, atI_2, atI_3, List.replicate, Nat.zero_add, Nat.reduceAdd, Nat.reduceSub, seqW_ref, seqW_tup, c_leS, b_iaddI, b_iaddS, b_isub, w_enum, w_zip, w_callv, e_ss, decide_true]
      refine ⟨by simp [LIM], ?_⟩
      rw [rdL_new]
      have e1 : (ps.map fun p => W.str (wr p)) = (wrs ps).map W.str := by rw [wrs_map, List.map_map]; rfl
      have f5 : rdL (S' ++ [SO.lst [W.str [], W.str [124]]]) S.length = some ((wrs ps).map W.str) := by rw [← e1]; exact rdL_app f2
      try simp only [w_var, w_c, w_bin, w_cmp, w_chain, w_and, w_or, w_ite, w_not, w_nil, w_cons, w_tup, w_lst, w_ix, w_no, w_yes, w_sl, w_call, w_bi, w_val, w_rng1, w_rng2, s_nil, s_cons, s_ret, s_expr, s_set, s_if, s_pass, s_setix, s_app, s_ext, o_addI, o_addS, o_addT, o_addL, o_sub, o_mulI, o_mulS, o_mulL, o_fdiv, o_mod, o_pow, c_ltI, c_ltS, c_le, c_gt, c_ge, c_eq, c_ne, e_ii, e_ss, e_bb, c_inS, c_notS, i_str, i_tup, i_ref, l_str, l_tup, l_rol, l_ref, b_lenS, b_lenT, b_lenR, b_abs, b_tupR, b_tupT, b_listR, b_listT, b_all, b_any, b_intI, b_intB, b_isiN, b_isiB, b_isiI, b_isiS, b_isiT, b_isiR, b_isiL, b_isN, b_notN, b_neg, b_rev, b_join, t_str, is_some, isB_some, byB_true, byB_false, start, wipe, bindT, List.map_cons, List.map_nil, List.cons_append, List.nil_append, List.append_nil, List.getElem?_cons_zero, List.getElem?_cons_succ, List.length_cons, List.length_nil, List.set_cons_zero, List.set_cons_succ, atI_0, atI_1, atI_2, atI_3, List.replicate, Nat.zero_add, Nat.reduceAdd, Nat.reduceSub, seqW_ref, seqW_tup, c_leS, b_iaddI, b_iaddS, b_isub, w_enum, w_zip, w_callv, f5, txts_strs, decide_true, if_true]
      refine ⟨by simp only [LIM, List.length_nil, List.length_cons, Nat.mul_one]; omega, by simp only [wr], f3.snoc _⟩
end
end Pg
namespace MP
/-- a loop whose number of turns is known only when what is walked is -/
theorem w_forX {Φ : Fns} {env : Env} {S : Sto} {N : Env → Sto → Prop} {Q : W → Sto → Prop} {ts : List Nat} {s : CI} {b : CSs}
    (h : IsI (evi Φ s env S) fun J S1 => ∃ (n : Nat) (Inv : Nat → Env → Sto → Prop), J.len S1 = some n ∧ Inv 0 env S1 ∧ (∀ i env S, i < n → Inv i env S → ∃ x env', J.item S i = some x ∧ bindT S env ts x = some env' ∧ IsS (exs Φ b env' S) (Inv (i + 1)) Q) ∧ ∀ env S, Inv n env S → (∃ n', n' ≤ n ∧ J.len S = some n') ∧ N env S) :
    IsS (ex Φ (.for_ ts s b) env S) N Q := by
  cases he : evi Φ s env S with
  | none => rw [he, isI_none] at h; exact h.elim
  | some p =>
    obtain ⟨J, S1⟩ := p
    rw [he, isI_some] at h
    obtain ⟨n, Inv, h⟩ := h
    exact w_for (n := n) Inv (by rw [he, isI_some]; exact h)
theorem w_compX {Φ : Fns} {env : Env} {S : Sto} {P : W → Sto → Prop} {vs ts : List Nat} {s : CI} {t e : CE}
    (h : IsI (evi Φ s env S) fun J S1 => ∃ (n : Nat) (Inv : Nat → List W → Sto → Prop), n ≤ LIM ∧ J.len S1 = some n ∧ Inv 0 [] S1 ∧ (∀ i acc S', i < n → Inv i acc S' → ∃ x env', J.item S' i = some x ∧ bindT S' (wipe env vs) ts x = some env' ∧ Is (ev Φ t env' S') fun k S2 => ByB k (Is (ev Φ e env' S2) fun w S3 => Inv (i + 1) (acc ++ [w]) S3) (Inv (i + 1) acc S2)) ∧ ∀ acc S', acc.length ≤ n → Inv n acc S' → (∃ n', n' ≤ n ∧ J.len S' = some n') ∧ P (.ref S'.length) (S' ++ [.lst acc])) :
    Is (ev Φ (.comp vs ts s t e) env S) P := by
  cases he : evi Φ s env S with
  | none => rw [he, isI_none] at h; exact h.elim
  | some p =>
    obtain ⟨J, S1⟩ := p
    rw [he, isI_some] at h
    obtain ⟨n, Inv, hn, h⟩ := h
    exact w_comp (n := n) hn Inv (by rw [he, isI_some]; exact h)
end MP
namespace Pg
open MP
/-! ### a pattern as data, shown -/
def hiD : W → D
  | .int i => .int i
  | _ => .non
mutual
def dE : Pt → D
  | .sign s => .tup [.str kSign, .str s]
  | .row ps => .tup [.str kRow, .tup (dEs ps)]
  | .any ps => .tup [.str kAny, .tup (dEs ps)]
  | .some lo hi p => .tup [.str kSome, .int lo, hiD hi, dE p]
  | .mark n p => .tup [.str kMark, .str n, dE p]
def dEs : List Pt → List D
  | [] => []
  | p :: r => dE p :: dEs r
end
mutual
theorem dat_dE {S : Sto} : ∀ (p : Pt) (n : Nat), okP p = true → 2 * deep p ≤ n → dat S n (enc p) = some (dE p)
  | .sign s, n + 1, h, _ => by
    simp only [okP] at h
    simp only [enc, dE, dat, dats, dat_str (show (kSign.all fun c => decide (c < 128)) = true from rfl), dat_str h]; rfl
  | .sign s, 0, h, hn => by simp only [deep] at hn; omega
  | .row ps, n + 2, h, hn => by
    simp only [okP] at h
    simp only [deep] at hn
    simp only [enc, dE, dat, dats, dat_str (show (kRow.all fun c => decide (c < 128)) = true from rfl), dats_dE (S := S) ps n h (by omega), Option.map_some]; rfl
  | .row ps, 0, h, hn => by simp only [deep] at hn; omega
  | .row ps, 1, h, hn => by simp only [deep] at hn; omega
  | .any ps, n + 2, h, hn => by
    simp only [okP] at h
    simp only [deep] at hn
    simp only [enc, dE, dat, dats, dat_str (show (kAny.all fun c => decide (c < 128)) = true from rfl), dats_dE (S := S) ps n h (by omega), Option.map_some]; rfl
  | .any ps, 0, h, hn => by simp only [deep] at hn; omega
  | .any ps, 1, h, hn => by simp only [deep] at hn; omega
  | .some lo hi p, n + 1, h, hn => by
    simp only [okP, Bool.and_eq_true] at h
    simp only [deep] at hn
    have hh : dat S n hi = some (hiD hi) := by
      cases hi with
      | non => cases n <;> simp only [dat, hiD]
      | int i => cases n <;> simp only [dat, hiD]
      | _ => simp [isHi] at h
    have ei : dat S n (.int lo) = some (.int lo) := by cases n <;> simp only [dat]
    simp only [enc, dE, dat, dats, dat_str (show (kSome.all fun c => decide (c < 128)) = true from rfl), dat_dE (S := S) p n h.2 (by omega), ei, hh]; rfl
  | .some lo hi p, 0, h, hn => by simp only [deep] at hn; omega
  | .mark nm p, n + 1, h, hn => by
    simp only [okP, Bool.and_eq_true] at h
    simp only [deep] at hn
    simp only [enc, dE, dat, dats, dat_str (show (kMark.all fun c => decide (c < 128)) = true from rfl), dat_str h.1, dat_dE (S := S) p n h.2 (by omega)]; rfl
  | .mark nm p, 0, h, hn => by simp only [deep] at hn; omega
theorem dats_dE {S : Sto} : ∀ (ps : List Pt) (n : Nat), okPs ps = true → 2 * deeps ps ≤ n → dats (dat S n) (encs ps) = some (dEs ps)
  | [], n, _, _ => rfl
  | p :: r, n, h, hn => by
    simp only [okPs, Bool.and_eq_true] at h
    simp only [deeps] at hn
    simp only [encs, dEs, dats, dat_dE (S := S) p n h.1 (by omega), dats_dE (S := S) r n h.2 (by omega)]
end
theorem all_cp {s : List Nat} (h : ∀ c ∈ s, c < 128) : (s.all fun c => decide (c < 1114112)) = true := List.all_eq_true.mpr fun c hc => decide_eq_true (by have := h c hc; omega)
theorem sg_lt {s : List Nat} (h : Sgs s) : ∀ c ∈ s, c < 128 := fun c hc => by
  have g : ∀ c ∈ c_SIGNS, c < 128 := by decide
  exact g c (h.2.mem hc)
mutual
theorem rep_dE : ∀ p : Pt, WP p → repOk (dE p) = true ∧ repN (dE p) + 2 ≤ 5000 * size p
  | .sign s, h => by
    have l := sgs_len h
    refine ⟨by simp only [dE, repOk, repOks, all_cp (sg_lt h)]; rfl, ?_⟩
    simp only [dE, repN, repNs, size, List.length_cons, List.length_nil]
    omega
  | .row ps, h => by
    obtain ⟨a, b⟩ := reps_dE ps h.1
    refine ⟨by simp only [dE, repOk, repOks, a]; rfl, ?_⟩
    simp only [dE, repN, repNs, size, List.length_cons, List.length_nil]
    omega
  | .any ps, h => by
    obtain ⟨a, b⟩ := reps_dE ps h.1
    refine ⟨by simp only [dE, repOk, repOks, a]; rfl, ?_⟩
    simp only [dE, repN, repNs, size, List.length_cons, List.length_nil]
    omega
  | .some lo hi p, h => by
    obtain ⟨a, b⟩ := rep_dE p h.2
    have hl : (decide (lo.natAbs.log2 < 1920)) = true ∧ repOk (hiD hi) = true ∧ repN (hiD hi) ≤ 1921 := by
      rcases h.1 with ⟨rfl, rfl⟩ | ⟨rfl, rfl⟩ | ⟨rfl, rfl⟩
      · exact ⟨by decide, by simp only [hiD, repOk]; decide, by simp [hiD, repN]⟩
      · exact ⟨by decide, by simp only [hiD, repOk], by simp [hiD, repN]⟩
      · exact ⟨by decide, by simp only [hiD, repOk], by simp [hiD, repN]⟩
    refine ⟨by simp only [dE, repOk, repOks, a, hl.1, hl.2.1]; rfl, ?_⟩
    have := hl.2.2
    simp only [dE, repN, repNs, size, List.length_cons, List.length_nil]
    omega
  | .mark n p, h => by
    obtain ⟨a, b⟩ := rep_dE p h.2
    have l := h.1.2.1
    refine ⟨by simp only [dE, repOk, repOks, a, all_cp (fun c hc => by have := h.1.2.2 c hc; omega)]; rfl, ?_⟩
    simp only [dE, repN, repNs, size, List.length_cons, List.length_nil]
    omega
theorem reps_dE : ∀ ps : List Pt, WPs ps → repOks (dEs ps) = true ∧ repNs (dEs ps) ≤ 5000 * sizes ps
  | [], _ => ⟨rfl, by simp [dEs, repNs]⟩
  | p :: r, h => by
    obtain ⟨a, b⟩ := rep_dE p h.1
    obtain ⟨c, d⟩ := reps_dE r h.2
    refine ⟨by simp only [dEs, repOks, a, c, Bool.and_self], ?_⟩
    simp only [dEs, repNs, sizes]
    omega
end
theorem b_repr {S : Sto} {P : W → Sto → Prop} {p : Pt} (h : WP p) (hs : size p ≤ 60) (hd : deep p ≤ 12) : Is (opI .repr [enc p] S) P = P (.str (repL (dE p))) S := by
  have e := dat_dE (S := S) p 60 (wp_ok p h) (by omega)
  obtain ⟨a, b⟩ := rep_dE p h
  obtain ⟨r, hq⟩ := enc_head p
  rw [hq] at e ⊢
  simp only [opI, e]
  rw [if_pos ⟨a, by simp only [LIM]; omega⟩, is_some]
section
variable {ds : Nat → Option Def}
theorem right7_spec (Z : WrD ds) (h75 : ds 75 = some ⟨1, 5, b_law_written⟩) (h76 : ds 76 = some ⟨1, 3, b_law_right_v5⟩) (k : Nat) (S : Sto) (p : Pt) (h : WP p) (hs : size p ≤ 60) (hd : deep p ≤ 12) : Is (callF ds (k + 40) 76 [enc p] S) fun w S' => w = .bl true ∧ Kp S S' := by
  refine w_callF (k := k + 39) h76 rfl ?_
  simp only [b_law_right_v5, w_var, w_c, w_bin, w_cmp, w_chain, w_and, w_or, w_ite, w_not, w_nil, w_cons, w_tup, w_lst, w_ix, w_no, w_yes, w_sl, w_call, w_bi, w_val, w_rng1, w_rng2, s_nil, s_cons, s_ret, s_expr, s_set, s_if, s_pass, s_setix, s_app, s_ext, o_addI, o_addS, o_addT, o_addL, o_sub, o_mulI, o_mulS, o_mulL, o_fdiv, o_mod, o_pow, c_ltI, c_ltS, c_le, c_gt, c_ge, c_eq, c_ne, e_ii, e_ss, e_bb, c_inS, c_notS, i_str, i_tup, i_ref, l_str, l_tup, l_rol, l_ref, b_lenS, b_lenT, b_lenR, b_abs, b_tupR, b_tupT, b_listR, b_listT, b_all, b_any, b_intI, b_intB, b_isiN, b_isiB, b_isiI, b_isiS, b_isiT, b_isiR, b_isiL, b_isN, b_notN, b_neg, b_rev, b_join, t_str, is_some, isB_some, byB_true, byB_false, start, wipe, bindT, List.map_cons, List.map_nil, List.cons_append, List.nil_append, List.append_nil, List.getElem?_cons_zero, List.getElem?_cons_succ, List.length_cons, List.length_nil, List.set_cons_zero, List.set_cons_succ, atI_0, atI_1, atI_2, atI_3, List.replicate, Nat.zero_add, Nat.reduceAdd, Nat.reduceSub, seqW_ref, seqW_tup, c_leS, b_iaddI, b_iaddS, b_isub, w_enum, w_zip, w_callv, b_repr h hs hd]
  refine (write_spec Z 12 (k + 13) p S (by omega) (by omega) h).imp fun w S1 hw => ?_
  obtain ⟨rfl, k1⟩ := hw
  try simp only [w_var, w_c, w_bin, w_cmp, w_chain, w_and, w_or, w_ite, w_not, w_nil, w_cons, w_tup, w_lst, w_ix, w_no, w_yes, w_sl, w_call, w_bi, w_val, w_rng1, w_rng2, s_nil, s_cons, s_ret, s_expr, s_set, s_if, s_pass, s_setix, s_app, s_ext, o_addI, o_addS, o_addT, o_addL, o_sub, o_mulI, o_mulS, o_mulL, o_fdiv, o_mod, o_pow, c_ltI, c_ltS, c_le, c_gt, c_ge, c_eq, c_ne, e_ii, e_ss, e_bb, c_inS, c_notS, i_str, i_tup, i_ref, l_str, l_tup, l_rol, l_ref, b_lenS, b_lenT, b_lenR, b_abs, b_tupR, b_tupT, b_listR, b_listT, b_all, b_any, b_intI, b_intB, b_isiN, b_isiB, b_isiI, b_isiS, b_isiT, b_isiR, b_isiL, b_isN, b_notN, b_neg, b_rev, b_join, t_str, is_some, isB_some, byB_true, byB_false, start, wipe, bindT, List.map_cons, List.map_nil, List.cons_append, List.nil_append, List.append_nil, List.getElem?_cons_zero, List.getElem?_cons_succ, List.length_cons, List.length_nil, List.set_cons_zero, List.set_cons_succ, atI_0, atI_1, atI_2, atI_3, List.replicate, Nat.zero_add, Nat.reduceAdd, Nat.reduceSub, seqW_ref, seqW_tup, c_leS, b_iaddI, b_iaddS, b_isub, w_enum, w_zip, w_callv, t_str]
  refine (written_spec h75 12 (k + 26) p S1 (by omega) (by omega) h).imp fun w S2 hw => ?_
  obtain ⟨rfl, k2⟩ := hw
  try simp only [w_var, w_c, w_bin, w_cmp, w_chain, w_and, w_or, w_ite, w_not, w_nil, w_cons, w_tup, w_lst, w_ix, w_no, w_yes, w_sl, w_call, w_bi, w_val, w_rng1, w_rng2, s_nil, s_cons, s_ret, s_expr, s_set, s_if, s_pass, s_setix, s_app, s_ext, o_addI, o_addS, o_addT, o_addL, o_sub, o_mulI, o_mulS, o_mulL, o_fdiv, o_mod, o_pow, c_ltI, c_ltS, c_le, c_gt, c_ge, c_eq, c_ne, e_ii, e_ss, e_bb, c_inS, c_notS, i_str, i_tup, i_ref, l_str, l_tup, l_rol, l_ref, b_lenS, b_lenT, b_lenR, b_abs, b_tupR, b_tupT, b_listR, b_listT, b_all, b_any, b_intI, b_intB, b_isiN, b_isiB, b_isiI, b_isiS, b_isiT, b_isiR, b_isiL, b_isN, b_notN, b_neg, b_rev, b_join, t_str, is_some, isB_some, byB_true, byB_false, start, wipe, bindT, List.map_cons, List.map_nil, List.cons_append, List.nil_append, List.append_nil, List.getElem?_cons_zero, List.getElem?_cons_succ, List.length_cons, List.length_nil, List.set_cons_zero, List.set_cons_succ, atI_0, atI_1, atI_2, atI_3, List.replicate, Nat.zero_add, Nat.reduceAdd, Nat.reduceSub, seqW_ref, seqW_tup, c_leS, b_iaddI, b_iaddS, b_isub, w_enum, w_zip, w_callv, e_ss, decide_true, b_repr h hs hd]
  exact ⟨trivial, k1.trans k2⟩
end
theorem lW : WrD ds := ⟨rfl, rfl, rfl, rfl⟩
theorem law_is (ns : List Int) (hl : ns.length ≤ 63) : Is (callF ds 60 77 [.rol (ns.map W.int)] []) fun w _ => w = .bl true := by
  refine w_callF (k := 59) (show ds 77 = some ⟨1, 5, b_law_v7⟩ from rfl) rfl ?_
  simp only [b_law_v7, w_var, w_c, w_bin, w_cmp, w_chain, w_and, w_or, w_ite, w_not, w_nil, w_cons, w_tup, w_lst, w_ix, w_no, w_yes, w_sl, w_call, w_bi, w_val, w_rng1, w_rng2, s_nil, s_cons, s_ret, s_expr, s_set, s_if, s_pass, s_setix, s_app, s_ext, o_addI, o_addS, o_addT, o_addL, o_sub, o_mulI, o_mulS, o_mulL, o_fdiv, o_mod, o_pow, c_ltI, c_ltS, c_le, c_gt, c_ge, c_eq, c_ne, e_ii, e_ss, e_bb, c_inS, c_notS, i_str, i_tup, i_ref, l_str, l_tup, l_rol, l_ref, b_lenS, b_lenT, b_lenR, b_abs, b_tupR, b_tupT, b_listR, b_listT, b_all, b_any, b_intI, b_intB, b_isiN, b_isiB, b_isiI, b_isiS, b_isiT, b_isiR, b_isiL, b_isN, b_notN, b_neg, b_rev, b_join, t_str, is_some, isB_some, byB_true, byB_false, start, wipe, bindT, List.map_cons, List.map_nil, List.cons_append, List.nil_append, List.append_nil, List.getElem?_cons_zero, List.getElem?_cons_succ, List.length_cons, List.length_nil, List.set_cons_zero, List.set_cons_succ, atI_0, atI_1, atI_2, atI_3, List.replicate, Nat.zero_add, Nat.reduceAdd, Nat.reduceSub, seqW_ref, seqW_tup, c_leS, b_iaddI, b_iaddS, b_isub, w_enum, w_zip, w_callv]
  refine (deck_spec rfl 58 _ ns hl).imp fun w S1 hw => ?_
  obtain ⟨rfl, hD, _⟩ := hw
  try simp only [w_var, w_c, w_bin, w_cmp, w_chain, w_and, w_or, w_ite, w_not, w_nil, w_cons, w_tup, w_lst, w_ix, w_no, w_yes, w_sl, w_call, w_bi, w_val, w_rng1, w_rng2, s_nil, s_cons, s_ret, s_expr, s_set, s_if, s_pass, s_setix, s_app, s_ext, o_addI, o_addS, o_addT, o_addL, o_sub, o_mulI, o_mulS, o_mulL, o_fdiv, o_mod, o_pow, c_ltI, c_ltS, c_le, c_gt, c_ge, c_eq, c_ne, e_ii, e_ss, e_bb, c_inS, c_notS, i_str, i_tup, i_ref, l_str, l_tup, l_rol, l_ref, b_lenS, b_lenT, b_lenR, b_abs, b_tupR, b_tupT, b_listR, b_listT, b_all, b_any, b_intI, b_intB, b_isiN, b_isiB, b_isiI, b_isiS, b_isiT, b_isiR, b_isiL, b_isN, b_notN, b_neg, b_rev, b_join, t_str, is_some, isB_some, byB_true, byB_false, start, wipe, bindT, List.map_cons, List.map_nil, List.cons_append, List.nil_append, List.append_nil, List.getElem?_cons_zero, List.getElem?_cons_succ, List.length_cons, List.length_nil, List.set_cons_zero, List.set_cons_succ, atI_0, atI_1, atI_2, atI_3, List.replicate, Nat.zero_add, Nat.reduceAdd, Nat.reduceSub, seqW_ref, seqW_tup, c_leS, b_iaddI, b_iaddS, b_isub, w_enum, w_zip, w_callv]
  have hD : Dk 2 1 (7000 * 0) S1 := hD
  refine w_comp (n := 5) (by simp [LIM]) (fun i acc S' => ∃ ps : List Pt, acc = ps.map enc ∧ ps.length = i ∧ (∀ p ∈ ps, WP p ∧ size p ≤ 60 ∧ deep p ≤ 12) ∧ Dk 2 1 (7000 * i) S') ?_
  try simp only [w_var, w_c, w_bin, w_cmp, w_chain, w_and, w_or, w_ite, w_not, w_nil, w_cons, w_tup, w_lst, w_ix, w_no, w_yes, w_sl, w_call, w_bi, w_val, w_rng1, w_rng2, s_nil, s_cons, s_ret, s_expr, s_set, s_if, s_pass, s_setix, s_app, s_ext, o_addI, o_addS, o_addT, o_addL, o_sub, o_mulI, o_mulS, o_mulL, o_fdiv, o_mod, o_pow, c_ltI, c_ltS, c_le, c_gt, c_ge, c_eq, c_ne, e_ii, e_ss, e_bb, c_inS, c_notS, i_str, i_tup, i_ref, l_str, l_tup, l_rol, l_ref, b_lenS, b_lenT, b_lenR, b_abs, b_tupR, b_tupT, b_listR, b_listT, b_all, b_any, b_intI, b_intB, b_isiN, b_isiB, b_isiI, b_isiS, b_isiT, b_isiR, b_isiL, b_isN, b_notN, b_neg, b_rev, b_join, t_str, is_some, isB_some, byB_true, byB_false, start, wipe, bindT, List.map_cons, List.map_nil, List.cons_append, List.nil_append, List.append_nil, List.getElem?_cons_zero, List.getElem?_cons_succ, List.length_cons, List.length_nil, List.set_cons_zero, List.set_cons_succ, atI_0, atI_1, atI_2, atI_3, List.replicate, Nat.zero_add, Nat.reduceAdd, Nat.reduceSub, seqW_ref, seqW_tup, c_leS, b_iaddI, b_iaddS, b_isub, w_enum, w_zip, w_callv, Src.len]
  refine ⟨by decide, by simp, ⟨[], rfl, rfl, (fun _ z => nomatch z), hD⟩, fun i acc S' hi hI => ?_, fun acc S' _ hI => ?_⟩
  · obtain ⟨ps, rfl, y1, y2, y5⟩ := hI
    refine ⟨.int (0 + (i : Nat)), _, by simp only [Src.item]; rw [if_pos (by simpa using hi)], rfl, ?_⟩
    try simp only [w_var, w_c, w_bin, w_cmp, w_chain, w_and, w_or, w_ite, w_not, w_nil, w_cons, w_tup, w_lst, w_ix, w_no, w_yes, w_sl, w_call, w_bi, w_val, w_rng1, w_rng2, s_nil, s_cons, s_ret, s_expr, s_set, s_if, s_pass, s_setix, s_app, s_ext, o_addI, o_addS, o_addT, o_addL, o_sub, o_mulI, o_mulS, o_mulL, o_fdiv, o_mod, o_pow, c_ltI, c_ltS, c_le, c_gt, c_ge, c_eq, c_ne, e_ii, e_ss, e_bb, c_inS, c_notS, i_str, i_tup, i_ref, l_str, l_tup, l_rol, l_ref, b_lenS, b_lenT, b_lenR, b_abs, b_tupR, b_tupT, b_listR, b_listT, b_all, b_any, b_intI, b_intB, b_isiN, b_isiB, b_isiI, b_isiS, b_isiT, b_isiR, b_isiL, b_isN, b_notN, b_neg, b_rev, b_join, t_str, is_some, isB_some, byB_true, byB_false, start, wipe, bindT, List.map_cons, List.map_nil, List.cons_append, List.nil_append, List.append_nil, List.getElem?_cons_zero, List.getElem?_cons_succ, List.length_cons, List.length_nil, List.set_cons_zero, List.set_cons_succ, atI_0, atI_1, atI_2, atI_3, List.replicate, Nat.zero_add, Nat.reduceAdd, Nat.reduceSub, seqW_ref, seqW_tup, c_leS, b_iaddI, b_iaddS, b_isub, w_enum, w_zip, w_callv]
    refine (pattern8_spec rfl rfl rfl rfl rfl rfl rfl 29 y5 59 10 (by omega) (by omega) (by omega) (by omega) (by omega)).imp fun w S2 hw => ?_
    obtain ⟨p, rfl, ⟨p1, p2⟩, p3, p4, p5, p6⟩ := hw
    refine ⟨ps ++ [p], by rw [List.map_append]; rfl, by rw [List.length_append, y1]; rfl, fun q hq => ?_, p5.mono (by omega)⟩
    rcases List.mem_append.mp hq with z | z
    · exact y2 q z
    · rw [List.mem_singleton.mp z]; exact ⟨p1, by omega, by omega⟩
  · obtain ⟨ps, rfl, y1, y2, y5⟩ := hI
    refine ⟨⟨_, Nat.le_refl _, by simp⟩, ?_⟩
    have r1 : rdL (S' ++ [SO.lst (ps.map enc)]) S'.length = some (ps.map enc) := rdL_new _ _
    generalize hS2 : S' ++ [SO.lst (ps.map enc)] = S2 at *
    try simp only [w_var, w_c, w_bin, w_cmp, w_chain, w_and, w_or, w_ite, w_not, w_nil, w_cons, w_tup, w_lst, w_ix, w_no, w_yes, w_sl, w_call, w_bi, w_val, w_rng1, w_rng2, s_nil, s_cons, s_ret, s_expr, s_set, s_if, s_pass, s_setix, s_app, s_ext, o_addI, o_addS, o_addT, o_addL, o_sub, o_mulI, o_mulS, o_mulL, o_fdiv, o_mod, o_pow, c_ltI, c_ltS, c_le, c_gt, c_ge, c_eq, c_ne, e_ii, e_ss, e_bb, c_inS, c_notS, i_str, i_tup, i_ref, l_str, l_tup, l_rol, l_ref, b_lenS, b_lenT, b_lenR, b_abs, b_tupR, b_tupT, b_listR, b_listT, b_all, b_any, b_intI, b_intB, b_isiN, b_isiB, b_isiI, b_isiS, b_isiT, b_isiR, b_isiL, b_isN, b_notN, b_neg, b_rev, b_join, t_str, is_some, isB_some, byB_true, byB_false, start, wipe, bindT, List.map_cons, List.map_nil, List.cons_append, List.nil_append, List.append_nil, List.getElem?_cons_zero, List.getElem?_cons_succ, List.length_cons, List.length_nil, List.set_cons_zero, List.set_cons_succ, atI_0, atI_1, atI_2, atI_3, List.replicate, Nat.zero_add, Nat.reduceAdd, Nat.reduceSub, seqW_ref, seqW_tup, c_leS, b_iaddI, b_iaddS, b_isub, w_enum, w_zip, w_callv]
    refine w_compX ?_
    try simp only [w_var, w_c, w_bin, w_cmp, w_chain, w_and, w_or, w_ite, w_not, w_nil, w_cons, w_tup, w_lst, w_ix, w_no, w_yes, w_sl, w_call, w_bi, w_val, w_rng1, w_rng2, s_nil, s_cons, s_ret, s_expr, s_set, s_if, s_pass, s_setix, s_app, s_ext, o_addI, o_addS, o_addT, o_addL, o_sub, o_mulI, o_mulS, o_mulL, o_fdiv, o_mod, o_pow, c_ltI, c_ltS, c_le, c_gt, c_ge, c_eq, c_ne, e_ii, e_ss, e_bb, c_inS, c_notS, i_str, i_tup, i_ref, l_str, l_tup, l_rol, l_ref, b_lenS, b_lenT, b_lenR, b_abs, b_tupR, b_tupT, b_listR, b_listT, b_all, b_any, b_intI, b_intB, b_isiN, b_isiB, b_isiI, b_isiS, b_isiT, b_isiR, b_isiL, b_isN, b_notN, b_neg, b_rev, b_join, t_str, is_some, isB_some, byB_true, byB_false, start, wipe, bindT, List.map_cons, List.map_nil, List.cons_append, List.nil_append, List.append_nil, List.getElem?_cons_zero, List.getElem?_cons_succ, List.length_cons, List.length_nil, List.set_cons_zero, List.set_cons_succ, atI_0, atI_1, atI_2, atI_3, List.replicate, Nat.zero_add, Nat.reduceAdd, Nat.reduceSub, seqW_ref, seqW_tup, c_leS, b_iaddI, b_iaddS, b_isub, w_enum, w_zip, w_callv, r1]
    refine ⟨by rw [List.length_reverse, List.length_map, y1]; simp [LIM], ?_⟩
    generalize hS3 : S2 ++ [SO.lst (ps.map enc).reverse] = S3
    have r2 : rdL S3 S2.length = some (ps.map enc).reverse := by rw [← hS3]; exact rdL_new _ _
    have r3 : rdL S3 S'.length = some (ps.map enc) := by rw [← hS3]; exact rdL_app r1
    simp only [r2, r3]
    have e2 : ps.map enc ++ (ps.map enc).reverse = (ps ++ ps.reverse).map enc := by rw [List.map_append, List.map_reverse]
    rw [e2]
    generalize hh : ps ++ ps.reverse = hs
    have lh : hs.length = 10 := by rw [← hh, List.length_append, List.length_reverse, y1]
    have mh : ∀ p ∈ hs, WP p ∧ size p ≤ 60 ∧ deep p ≤ 12 := fun p hp => by
      rw [← hh] at hp
      rcases List.mem_append.mp hp with z | z
      · exact y2 p z
      · exact y2 p (List.mem_reverse.mp z)
    generalize hS4 : S3 ++ [SO.lst (hs.map enc)] = S4
    have r4 : rdL S4 S3.length = some (hs.map enc) := by rw [← hS4]; exact rdL_new _ _
    refine ⟨by rw [List.length_map, lh]; simp [LIM], 10, fun i acc S5 => acc = [] ∧ Kp S4 S5, by simp [LIM], by simp only [Src.len, r4, Option.map_some, List.length_map, lh], ⟨rfl, .refl _⟩, fun i acc S5 hi hI => ?_, fun acc S5 _ hI => ?_⟩
    · obtain ⟨rfl, k5⟩ := hI
      have r5 : rdL S5 S3.length = some (hs.map enc) := rdL_of (k5.get (rdL_iff.mp r4))
      have hil : i < hs.length := by omega
      have hx : (hs.map enc)[i]? = some (enc hs[i]) := by rw [List.getElem?_map, List.getElem?_eq_getElem hil]; rfl
      obtain ⟨m1, m2, m3⟩ := mh hs[i] (List.getElem_mem hil)
      refine ⟨enc hs[i], _, by simp only [Src.item, r5, Option.bind_some]; exact hx, rfl, ?_⟩
      try simp only [w_var, w_c, w_bin, w_cmp, w_chain, w_and, w_or, w_ite, w_not, w_nil, w_cons, w_tup, w_lst, w_ix, w_no, w_yes, w_sl, w_call, w_bi, w_val, w_rng1, w_rng2, s_nil, s_cons, s_ret, s_expr, s_set, s_if, s_pass, s_setix, s_app, s_ext, o_addI, o_addS, o_addT, o_addL, o_sub, o_mulI, o_mulS, o_mulL, o_fdiv, o_mod, o_pow, c_ltI, c_ltS, c_le, c_gt, c_ge, c_eq, c_ne, e_ii, e_ss, e_bb, c_inS, c_notS, i_str, i_tup, i_ref, l_str, l_tup, l_rol, l_ref, b_lenS, b_lenT, b_lenR, b_abs, b_tupR, b_tupT, b_listR, b_listT, b_all, b_any, b_intI, b_intB, b_isiN, b_isiB, b_isiI, b_isiS, b_isiT, b_isiR, b_isiL, b_isN, b_notN, b_neg, b_rev, b_join, t_str, is_some, isB_some, byB_true, byB_false, start, wipe, bindT, List.map_cons, List.map_nil, List.cons_append, List.nil_append, List.append_nil, List.getElem?_cons_zero, List.getElem?_cons_succ, List.length_cons, List.length_nil, List.set_cons_zero, List.set_cons_succ, atI_0, atI_1, atI_2, atI_3, List.replicate, Nat.zero_add, Nat.reduceAdd, Nat.reduceSub, seqW_ref, seqW_tup, c_leS, b_iaddI, b_iaddS, b_isub, w_enum, w_zip, w_callv]
      refine (right7_spec lW rfl rfl 19 S5 hs[i] m1 m2 m3).imp fun w S6 hw => ?_
      obtain ⟨rfl, k6⟩ := hw
      try simp only [w_var, w_c, w_bin, w_cmp, w_chain, w_and, w_or, w_ite, w_not, w_nil, w_cons, w_tup, w_lst, w_ix, w_no, w_yes, w_sl, w_call, w_bi, w_val, w_rng1, w_rng2, s_nil, s_cons, s_ret, s_expr, s_set, s_if, s_pass, s_setix, s_app, s_ext, o_addI, o_addS, o_addT, o_addL, o_sub, o_mulI, o_mulS, o_mulL, o_fdiv, o_mod, o_pow, c_ltI, c_ltS, c_le, c_gt, c_ge, c_eq, c_ne, e_ii, e_ss, e_bb, c_inS, c_notS, i_str, i_tup, i_ref, l_str, l_tup, l_rol, l_ref, b_lenS, b_lenT, b_lenR, b_abs, b_tupR, b_tupT, b_listR, b_listT, b_all, b_any, b_intI, b_intB, b_isiN, b_isiB, b_isiI, b_isiS, b_isiT, b_isiR, b_isiL, b_isN, b_notN, b_neg, b_rev, b_join, t_str, is_some, isB_some, byB_true, byB_false, start, wipe, bindT, List.map_cons, List.map_nil, List.cons_append, List.nil_append, List.append_nil, List.getElem?_cons_zero, List.getElem?_cons_succ, List.length_cons, List.length_nil, List.set_cons_zero, List.set_cons_succ, atI_0, atI_1, atI_2, atI_3, List.replicate, Nat.zero_add, Nat.reduceAdd, Nat.reduceSub, seqW_ref, seqW_tup, c_leS, b_iaddI, b_iaddS, b_isub, w_enum, w_zip, w_callv, Bool.not_true]
      exact ⟨trivial, k5.trans k6⟩
    · obtain ⟨rfl, k5⟩ := hI
      refine ⟨⟨_, Nat.le_refl _, by simp only [Src.len, rdL_of (k5.get (rdL_iff.mp r4)), Option.map_some, List.length_map, lh]⟩, ?_⟩
      have q1 : rdL (S5 ++ [SO.lst []] ++ [SO.lst []]) S5.length = some [] := rdL_app (rdL_new _ _)
      have q2 : rdL (S5 ++ [SO.lst []] ++ [SO.lst []]) (S5 ++ [SO.lst []]).length = some [] := rdL_new _ _
      have q3 : dats (dat (S5 ++ [SO.lst []] ++ [SO.lst []]) 59) [] = some [] := rfl
      rw [eqW_nil q1 q3 q2, isB_some]
      exact ⟨by simp [LIM], rfl⟩
theorem law_true (ns : List Int) (hl : ns.length ≤ 63) : ∃ S', callF ds 60 77 [.rol (ns.map .int)] [] = some (.bl true, S') := by
  obtain ⟨w, S', h1, h2⟩ := (law_is ns hl).ex
  subst h2
  exact ⟨S', h1⟩
end Pg
namespace Pg
open PySem PySem.Spec PyProof.Rows L2 MP
def topS (i : Nat) : Stmt := PySem.Challenge.pw_markpieces_k07_patterns_written.main.body.getD i (.Pass ⟨0, 0, 0, 0⟩)
abbrev s_write : Stmt := topS 2
abbrev s_write_signs : Stmt := topS 3
abbrev s_bracketed : Stmt := topS 4
abbrev s_write_times : Stmt := topS 5
abbrev s_law_deck : Stmt := topS 7
abbrev s_law_draw : Stmt := topS 8
abbrev s_law_letters : Stmt := topS 9
abbrev s_law_names : Stmt := topS 10
abbrev s_law_signs : Stmt := topS 11
abbrev s_law_flat : Stmt := topS 12
abbrev s_law_form : Stmt := topS 13
abbrev s_law_pattern : Stmt := topS 14
abbrev s_law_written : Stmt := topS 15
abbrev s_law_right_v5 : Stmt := topS 16
abbrev s_law_v7 : Stmt := topS 17
theorem sc_write : FnScope ["pattern", "kind", "part"] ["pattern"] (defScope s_write) := ⟨rfl, rfl, rfl, by decide +kernel, rfl, by decide +kernel, by decide +kernel⟩
theorem sc_write_signs : FnScope ["signs"] ["signs"] (defScope s_write_signs) := ⟨rfl, rfl, rfl, by decide +kernel, rfl, by decide +kernel, by decide +kernel⟩
theorem sc_bracketed : FnScope ["pattern", "kinds"] ["pattern", "kinds"] (defScope s_bracketed) := ⟨rfl, rfl, rfl, by decide +kernel, rfl, by decide +kernel, by decide +kernel⟩
theorem sc_write_times : FnScope ["low", "high"] ["low", "high"] (defScope s_write_times) := ⟨rfl, rfl, rfl, by decide +kernel, rfl, by decide +kernel, by decide +kernel⟩
theorem sc_law_deck : FnScope ["_law_script", "_law_cell"] ["_law_script"] (defScope s_law_deck) := ⟨rfl, rfl, rfl, by decide +kernel, rfl, by decide +kernel, by decide +kernel⟩
theorem sc_law_draw : FnScope ["_law_deck_here", "_law_many", "_law_cell", "_law_place"] ["_law_deck_here", "_law_many"] (defScope s_law_draw) := ⟨rfl, rfl, rfl, by decide +kernel, rfl, by decide +kernel, by decide +kernel⟩
theorem sc_law_letters : FnScope ["_law_deck_here", "_law_many", "_law_k"] ["_law_deck_here", "_law_many"] (defScope s_law_letters) := ⟨rfl, rfl, rfl, by decide +kernel, rfl, by decide +kernel, by decide +kernel⟩
theorem sc_law_names : FnScope ["_law_deck_here", "_law_many", "_law_letters_here", "_law_stem", "_law_at", "_law_first", "_law_step", "_law_k"] ["_law_deck_here", "_law_many"] (defScope s_law_names) := ⟨rfl, rfl, rfl, by decide +kernel, rfl, by decide +kernel, by decide +kernel⟩
theorem sc_law_signs : FnScope ["_law_deck_here", "_law_some", "_law_way", "_law_first", "_law_found", "_law_sign"] ["_law_deck_here"] (defScope s_law_signs) := ⟨rfl, rfl, rfl, by decide +kernel, rfl, by decide +kernel, by decide +kernel⟩
theorem sc_law_flat : FnScope ["_law_parts", "_law_word", "_law_found", "_law_part"] ["_law_parts", "_law_word"] (defScope s_law_flat) := ⟨rfl, rfl, rfl, by decide +kernel, rfl, by decide +kernel, by decide +kernel⟩
theorem sc_law_form : FnScope ["_law_deck_here", "_law_left", "_law_deep", "_law_names_here", "_law_way", "_law_many", "_law_count", "_law_signs_here", "_law_word", "_law_parts", "_law_k"] ["_law_deck_here", "_law_left", "_law_deep", "_law_names_here"] (defScope s_law_form) := ⟨rfl, rfl, rfl, by decide +kernel, rfl, by decide +kernel, by decide +kernel⟩
theorem sc_law_pattern : FnScope ["_law_deck_here", "_law_most", "_law_deep", "_law_names_here"] ["_law_deck_here", "_law_most", "_law_deep"] (defScope s_law_pattern) := ⟨rfl, rfl, rfl, by decide +kernel, rfl, by decide +kernel, by decide +kernel⟩
theorem sc_law_written : FnScope ["_law_form_here", "_law_texts", "_law_part", "_law_count", "_law_text"] ["_law_form_here"] (defScope s_law_written) := ⟨rfl, rfl, rfl, by decide +kernel, rfl, by decide +kernel, by decide +kernel⟩
theorem sc_law_right_v5 : FnScope ["_law_pattern_here", "_law_kept", "_law_found"] ["_law_pattern_here"] (defScope s_law_right_v5) := ⟨rfl, rfl, rfl, by decide +kernel, rfl, by decide +kernel, by decide +kernel⟩
theorem sc_law_v7 : FnScope ["_law_script", "_law_deck_here", "_law_patterns", "_law_k", "_law_pattern_here"] ["_law_script"] (defScope s_law_v7) := ⟨rfl, rfl, rfl, by decide +kernel, rfl, by decide +kernel, by decide +kernel⟩
/-- what the top has left -/
structure Top (w : World) (K : Fg) (mg : Str → Option Value) : Prop where
  z_abs : mg "abs" = none
  z_int : mg "int" = none
  z_isinstance : mg "isinstance" = none
  z_len : mg "len" = none
  z_list : mg "list" = none
  z_range : mg "range" = none
  z_repr : mg "repr" = none
  z_str : mg "str" = none
  z_tuple : mg "tuple" = none
  g_SIGNS : ∃ t, mg "SIGNS" = some (.str " abcdefghijklmnopqrstuvwxyz" t)
def tab : Nat → Option (Str × Nat)
  | 71 => some ("write", 1)
  | 72 => some ("write_signs", 1)
  | 73 => some ("bracketed", 2)
  | 74 => some ("write_times", 2)
  | 3 => some ("_law_deck", 1)
  | 4 => some ("_law_draw", 2)
  | 5 => some ("_law_letters", 2)
  | 21 => some ("_law_names", 2)
  | 22 => some ("_law_signs", 1)
  | 23 => some ("_law_flat", 2)
  | 24 => some ("_law_form", 4)
  | 25 => some ("_law_pattern", 3)
  | 75 => some ("_law_written", 1)
  | 76 => some ("_law_right", 1)
  | 77 => some ("law", 1)
  | _ => none
def Al (P : Program) (w : World) (K : Fg) (mg : Str → Option Value) (base : Heap) (k : Nat) : Prop := ∀ (i : Nat) (x : Str) (n : Nat), tab i = some (x, n) → CalG P w K mg base k (callF ds k) x i n
section
variable {P : Program} {w : World} {K : Fg} {mg : Str → Option Value} {base : Heap} {k : Nat} {f : Addr} {fd : FuncData}
theorem ok_write (T : Top w K mg) (al : Al P w K mg base k) (F : Fun K "write" "write" s_write f fd) : FnG P w K mg base (k + 1) f fd ["pattern"] (spD K (callF ds (k + 1)) 71 1) :=
  fn_okG (n := 1) (body := b_write) F sc_write rfl rfl fun cdv A outer s H E gd hr => by
    have nd := sc_write.nd
    exact (dss_cons (ds_set (dg_name 1 nd) (de_ix (de_var 0) de_int)) (dss_cons (ds_if (dt_cmp (ck_eq hr) (de_var 1) de_str) (dss_cons (ds_ret (de_callG (al 72 "write_signs" 1 rfl) gd hr (da_cons (de_ix (de_var 0) de_int) da_nil))) dss_nil) dss_nil) (dss_cons (ds_if (dt_cmp (ck_eq hr) (de_var 1) de_str) (dss_cons (ds_ret (de_join de_str (de_comp (own := [("part", 2)]) (go_name _ 2) nd (di_val (de_ix (de_var 0) de_int)) (blkOk_by (N := ["pattern", "kind", "part"]) (sc := defScope s_write) (by decide +kernel)) (fun _ _ _ _ _ => pg_name (i := 2) nd rfl (Or.inl rfl)) (fun _ _ _ _ _ => dts_nil) (fun _ _ _ _ _ => (de_callG (al 73 "bracketed" 2 rfl) gd hr (da_cons (de_var 2) (da_cons (de_tup (da_cons de_str da_nil)) da_nil))))))) dss_nil) dss_nil) (dss_cons (ds_if (dt_cmp (ck_eq hr) (de_var 1) de_str) (dss_cons (ds_ret (de_join de_str (de_comp (own := [("part", 2)]) (go_name _ 2) nd (di_val (de_ix (de_var 0) de_int)) (blkOk_by (N := ["pattern", "kind", "part"]) (sc := defScope s_write) (by decide +kernel)) (fun _ _ _ _ _ => pg_name (i := 2) nd rfl (Or.inl rfl)) (fun _ _ _ _ _ => dts_nil) (fun _ _ _ _ _ => (de_callG (al 71 "write" 1 rfl) gd hr (da_cons (de_var 2) da_nil)))))) dss_nil) dss_nil) (dss_cons (ds_if (dt_cmp (ck_eq hr) (de_var 1) de_str) (dss_cons (ds_ret (de_add (de_callG (al 73 "bracketed" 2 rfl) gd hr (da_cons (de_ix (de_var 0) de_int) (da_cons (de_tup (da_cons de_str (da_cons de_str (da_cons de_str da_nil)))) da_nil))) (de_callG (al 74 "write_times" 2 rfl) gd hr (da_cons (de_ix (de_var 0) de_int) (da_cons (de_ix (de_var 0) de_int) da_nil))))) dss_nil) dss_nil) (dss_cons (ds_ret (de_fstr (.str de_str (.fmt (de_ix (de_var 0) de_int) (.str de_str (.fmt (de_callG (al 71 "write" 1 rfl) gd hr (da_cons (de_ix (de_var 0) de_int) da_nil)) (.str de_str .nil))))))) dss_nil))))))
theorem ok_write_signs (T : Top w K mg) (al : Al P w K mg base k) (F : Fun K "write_signs" "write_signs" s_write_signs f fd) : FnG P w K mg base (k + 1) f fd ["signs"] (spD K (callF ds (k + 1)) 72 1) :=
  fn_okG (n := 1) (body := b_write_signs) F sc_write_signs rfl rfl fun cdv A outer s H E gd hr => by
    have nd := sc_write_signs.nd
    exact (dss_cons (ds_if (dt_cmp (ck_eq hr) (de_callB call_len cs_len T.z_len (by decide +kernel) (da_cons (de_var 0) da_nil)) de_int) (dss_cons (ds_ret (de_var 0)) dss_nil) dss_nil) (dss_cons (ds_if (dt_cmp (ck_eq hr) (de_var 0) (de_gstr T.g_SIGNS)) (dss_cons (ds_ret de_str) dss_nil) dss_nil) (dss_cons (ds_ret (de_fstr (.str de_str (.fmt (de_var 0) (.str de_str .nil))))) dss_nil)))
theorem ok_bracketed (T : Top w K mg) (al : Al P w K mg base k) (F : Fun K "bracketed" "bracketed" s_bracketed f fd) : FnG P w K mg base (k + 1) f fd ["pattern", "kinds"] (spD K (callF ds (k + 1)) 73 2) :=
  fn_okG (n := 2) (body := b_bracketed) F sc_bracketed rfl rfl fun cdv A outer s H E gd hr => by
    have nd := sc_bracketed.nd
    exact (dss_cons (ds_if (dt_cmp (ck_in hr) (de_ix (de_var 0) de_int) (de_var 1)) (dss_cons (ds_ret (de_fstr (.str de_str (.fmt (de_callG (al 71 "write" 1 rfl) gd hr (da_cons (de_var 0) da_nil)) (.str de_str .nil))))) dss_nil) dss_nil) (dss_cons (ds_ret (de_callG (al 71 "write" 1 rfl) gd hr (da_cons (de_var 0) da_nil))) dss_nil))
theorem ok_write_times (T : Top w K mg) (al : Al P w K mg base k) (F : Fun K "write_times" "write_times" s_write_times f fd) : FnG P w K mg base (k + 1) f fd ["low", "high"] (spD K (callF ds (k + 1)) 74 2) :=
  fn_okG (n := 2) (body := b_write_times) F sc_write_times rfl rfl fun cdv A outer s H E gd hr => by
    have nd := sc_write_times.nd
    exact (dss_cons (ds_if (dt_cmp (ck_eq hr) (de_var 1) de_int) (dss_cons (ds_ret de_str) dss_nil) dss_nil) (dss_cons (ds_ret (de_ite (dt_cmp (ck_eq hr) (de_var 0) de_int) de_str de_str)) dss_nil))
theorem ok_law_deck (T : Top w K mg) (al : Al P w K mg base k) (F : Fun K "_law_deck" "_law_deck" s_law_deck f fd) : FnG P w K mg base (k + 1) f fd ["_law_script"] (spD K (callF ds (k + 1)) 3 1) :=
  fn_okG (n := 1) (body := b_law_deck) F sc_law_deck rfl rfl fun cdv A outer s H E gd hr => by
    have nd := sc_law_deck.nd
    exact (dss_cons (ds_ret (de_lst (da_cons (de_comp (own := [("_law_cell", 1)]) (go_name _ 1) nd (di_val (de_sl (de_var 0) do_none (do_some de_int))) (blkOk_by (N := ["_law_script", "_law_cell"]) (sc := defScope s_law_deck) (by decide +kernel)) (fun _ _ _ _ _ => pg_name (i := 1) nd rfl (Or.inl rfl)) (fun _ _ _ _ _ => dts_nil) (fun _ _ _ _ _ => (de_callB call_abs cs_abs T.z_abs (by decide +kernel) (da_cons (de_var 1) da_nil)))) (da_cons de_int da_nil)))) dss_nil)
theorem ok_law_draw (T : Top w K mg) (al : Al P w K mg base k) (F : Fun K "_law_draw" "_law_draw" s_law_draw f fd) : FnG P w K mg base (k + 1) f fd ["_law_deck_here", "_law_many"] (spD K (callF ds (k + 1)) 4 2) :=
  fn_okG (n := 2) (body := b_law_draw) F sc_law_draw rfl rfl fun cdv A outer s H E gd hr => by
    have nd := sc_law_draw.nd
    exact (dss_cons (ds_setix (de_var 0) de_int (de_add (de_ix (de_var 0) de_int) de_int) (pg_sub (de_var 0) de_int set_list)) (dss_cons (ds_set (dg_name 2 nd) de_int) (dss_cons (ds_set (dg_name 3 nd) (de_neg de_int)) (dss_cons (ds_if (dt_cmp ck_gt (de_callB call_len cs_len T.z_len (by decide +kernel) (da_cons (de_ix (de_var 0) de_int) da_nil)) de_int) (dss_cons (ds_set (dg_name 3 nd) (de_mod (de_ix (de_var 0) de_int) (de_callB call_len cs_len T.z_len (by decide +kernel) (da_cons (de_ix (de_var 0) de_int) da_nil)))) (dss_cons (ds_set (dg_name 2 nd) (de_ix (de_ix (de_var 0) de_int) (de_var 3))) dss_nil)) dss_nil) (dss_cons (ds_if (dt_cmp ck_ge (de_var 2) (de_pow de_int de_int)) (dss_cons (ds_setix (de_ix (de_var 0) de_int) (de_var 3) (de_fdiv (de_var 2) (de_var 1)) (pg_sub (de_ix (de_var 0) de_int) (de_var 3) set_list)) (dss_cons (ds_ret (de_mod (de_var 2) (de_var 1))) dss_nil)) dss_nil) (dss_cons (ds_ret (de_mod (de_mod (de_pow (de_add (de_add (de_mod (de_var 2) de_int) (de_mul de_int (de_ix (de_var 0) de_int))) de_int) de_int) de_int) (de_var 1))) dss_nil))))))
theorem ok_law_letters (T : Top w K mg) (al : Al P w K mg base k) (F : Fun K "_law_letters" "_law_letters" s_law_letters f fd) : FnG P w K mg base (k + 1) f fd ["_law_deck_here", "_law_many"] (spD K (callF ds (k + 1)) 5 2) :=
  fn_okG (n := 2) (body := b_law_letters) F sc_law_letters rfl rfl fun cdv A outer s H E gd hr => by
    have nd := sc_law_letters.nd
    exact (dss_cons (ds_ret (de_join de_str (de_comp (own := [("_law_k", 2)]) (go_name _ 2) nd (di_rng1 T.z_range (de_var 1)) (blkOk_by (N := ["_law_deck_here", "_law_many", "_law_k"]) (sc := defScope s_law_letters) (by decide +kernel)) (fun _ _ _ _ _ => pg_name (i := 2) nd rfl (Or.inl rfl)) (fun _ _ _ _ _ => dts_nil) (fun _ _ _ _ _ => (de_ix de_str (de_callG (al 4 "_law_draw" 2 rfl) gd hr (da_cons (de_var 0) (da_cons de_int da_nil)))))))) dss_nil)
theorem ok_law_names (T : Top w K mg) (al : Al P w K mg base k) (F : Fun K "_law_names" "_law_names" s_law_names f fd) : FnG P w K mg base (k + 1) f fd ["_law_deck_here", "_law_many"] (spD K (callF ds (k + 1)) 21 2) :=
  fn_okG (n := 2) (body := b_law_names) F sc_law_names rfl rfl fun cdv A outer s H E gd hr => by
    have nd := sc_law_names.nd
    exact (dss_cons (ds_set (dg_name 2 nd) de_str) (dss_cons (ds_set (dg_name 3 nd) (de_callG (al 5 "_law_letters" 2 rfl) gd hr (da_cons (de_var 0) (da_cons (de_ix (de_lst (da_cons de_int (da_cons de_int (da_cons de_int (da_cons de_int (da_cons de_int (da_cons de_int (da_cons de_int (da_cons de_int da_nil))))))))) (de_callG (al 4 "_law_draw" 2 rfl) gd hr (da_cons (de_var 0) (da_cons de_int da_nil)))) da_nil)))) (dss_cons (ds_set (dg_name 4 nd) (de_callG (al 4 "_law_draw" 2 rfl) gd hr (da_cons (de_var 0) (da_cons (de_add (de_callB call_len cs_len T.z_len (by decide +kernel) (da_cons (de_var 3) da_nil)) de_int) da_nil)))) (dss_cons (ds_set (dg_name 5 nd) (de_callG (al 4 "_law_draw" 2 rfl) gd hr (da_cons (de_var 0) (da_cons de_int da_nil)))) (dss_cons (ds_set (dg_name 6 nd) (de_ix (de_lst (da_cons de_int (da_cons de_int (da_cons de_int (da_cons de_int (da_cons de_int (da_cons de_int (da_cons de_int (da_cons de_int da_nil))))))))) (de_callG (al 4 "_law_draw" 2 rfl) gd hr (da_cons (de_var 0) (da_cons de_int da_nil))))) (dss_cons (ds_ret (de_comp (own := [("_law_k", 7)]) (go_name _ 7) nd (di_rng1 T.z_range (de_var 1)) (blkOk_by (N := ["_law_deck_here", "_law_many", "_law_letters_here", "_law_stem", "_law_at", "_law_first", "_law_step", "_law_k"]) (sc := defScope s_law_names) (by decide +kernel)) (fun _ _ _ _ _ => pg_name (i := 7) nd rfl (Or.inl rfl)) (fun _ _ _ _ _ => dts_nil) (fun _ _ _ _ _ => (de_add (de_add (de_sl (de_var 3) do_none (do_some (de_var 4))) (de_ix (de_var 2) (de_mod (de_add (de_var 5) (de_mul (de_var 6) (de_var 7))) de_int))) (de_sl (de_var 3) (do_some (de_var 4)) do_none))))) dss_nil))))))
theorem ok_law_signs (T : Top w K mg) (al : Al P w K mg base k) (F : Fun K "_law_signs" "_law_signs" s_law_signs f fd) : FnG P w K mg base (k + 1) f fd ["_law_deck_here"] (spD K (callF ds (k + 1)) 22 1) :=
  fn_okG (n := 1) (body := b_law_signs) F sc_law_signs rfl rfl fun cdv A outer s H E gd hr => by
    have nd := sc_law_signs.nd
    exact (dss_cons (ds_set (dg_name 1 nd) de_str) (dss_cons (ds_set (dg_name 2 nd) (de_callG (al 4 "_law_draw" 2 rfl) gd hr (da_cons (de_var 0) (da_cons de_int da_nil)))) (dss_cons (ds_set (dg_name 3 nd) (de_callG (al 4 "_law_draw" 2 rfl) gd hr (da_cons (de_var 0) (da_cons de_int da_nil)))) (dss_cons (ds_if (dt_cmp ck_lt (de_var 2) de_int) (dss_cons (ds_ret (de_ix (de_var 1) (de_var 3))) dss_nil) dss_nil) (dss_cons (ds_if (dt_cmp (ck_eq hr) (de_var 2) de_int) (dss_cons (ds_ret (de_var 1)) dss_nil) dss_nil) (dss_cons (ds_if (dt_cmp (ck_eq hr) (de_var 2) de_int) (dss_cons (ds_ret (de_sl (de_var 1) (do_some (de_var 3)) (do_some (de_add (de_add (de_var 3) de_int) (de_callG (al 4 "_law_draw" 2 rfl) gd hr (da_cons (de_var 0) (da_cons de_int da_nil))))))) dss_nil) dss_nil) (dss_cons (ds_setLc (i := 4) (own := [("_law_sign", 5)]) (go_name _ 5) nd (di_val (de_var 1)) (blkOk_by (N := ["_law_deck_here", "_law_some", "_law_way", "_law_first", "_law_found", "_law_sign"]) (sc := defScope s_law_signs) (by decide +kernel)) (fun _ _ _ _ _ => pg_name (i := 5) nd rfl (Or.inl rfl)) (fun _ _ _ _ _ => dts_one (dt_cmp (ck_eq hr) (de_callG (al 4 "_law_draw" 2 rfl) gd hr (da_cons (de_var 0) (da_cons de_int da_nil))) de_int)) (fun _ _ _ _ _ => (de_var 5)) (sw_true rfl rfl rfl (by decide +kernel))) (dss_cons (ds_ret (de_join de_str (de_add (de_var 4) (de_mul (de_lst (da_cons (de_ix (de_var 1) (de_var 3)) da_nil)) (de_callTy call_int1 cs_int T.z_int (by decide +kernel) (da_cons (de_cmp (ck_eq hr) (de_var 4) (de_lst da_nil)) da_nil)))))) dss_nil))))))))
theorem ok_law_flat (T : Top w K mg) (al : Al P w K mg base k) (F : Fun K "_law_flat" "_law_flat" s_law_flat f fd) : FnG P w K mg base (k + 1) f fd ["_law_parts", "_law_word"] (spD K (callF ds (k + 1)) 23 2) :=
  fn_okG (n := 2) (body := b_law_flat) F sc_law_flat rfl rfl fun cdv A outer s H E gd hr => by
    have nd := sc_law_flat.nd
    exact (dss_cons (ds_set (dg_name 2 nd) (de_lst da_nil)) (dss_cons (ds_for (dg_name 3 nd) (di_val (de_var 0)) (dss_cons (ds_if (dt_cmp (ck_eq hr) (de_ix (de_var 3) de_int) (de_var 1)) (dss_cons (ds_set (dg_name 2 nd) (de_add (de_var 2) (de_callTy call_list_of cs_list T.z_list (by decide +kernel) (da_cons (de_ix (de_var 3) de_int) da_nil)))) dss_nil) (dss_cons (ds_app (de_var 2) (de_var 3)) dss_nil)) dss_nil) PassesOwn.never) (dss_cons (ds_ret (de_var 2)) dss_nil)))
theorem ok_law_form (T : Top w K mg) (al : Al P w K mg base k) (F : Fun K "_law_form" "_law_form" s_law_form f fd) : FnG P w K mg base (k + 1) f fd ["_law_deck_here", "_law_left", "_law_deep", "_law_names_here"] (spD K (callF ds (k + 1)) 24 4) :=
  fn_okG (n := 4) (body := b_law_form) F sc_law_form rfl rfl fun cdv A outer s H E gd hr => by
    have nd := sc_law_form.nd
    exact (dss_cons (ds_set (dg_name 4 nd) (de_callG (al 4 "_law_draw" 2 rfl) gd hr (da_cons (de_var 0) (da_cons de_int da_nil)))) (dss_cons (ds_set (dg_name 5 nd) (de_ix (de_lst (da_cons de_int (da_cons de_int (da_cons de_int (da_cons de_int da_nil))))) (de_callG (al 4 "_law_draw" 2 rfl) gd hr (da_cons (de_var 0) (da_cons de_int da_nil))))) (dss_cons (ds_set (dg_name 6 nd) (de_ix (de_lst (da_cons (de_tup (da_cons de_int (da_cons de_int da_nil))) (da_cons (de_tup (da_cons de_int (da_cons de_non da_nil))) (da_cons (de_tup (da_cons de_int (da_cons de_non da_nil))) da_nil)))) (de_callG (al 4 "_law_draw" 2 rfl) gd hr (da_cons (de_var 0) (da_cons de_int da_nil))))) (dss_cons (ds_set (dg_name 7 nd) (de_callG (al 22 "_law_signs" 1 rfl) gd hr (da_cons (de_var 0) da_nil))) (dss_cons (ds_if (dt_cmp (ck_eq hr) (de_var 4) de_int) (dss_cons (ds_ret (de_tup (da_cons de_str (da_cons (de_tup da_nil) da_nil)))) dss_nil) dss_nil) (dss_cons (ds_if (dt_w (dw_or (dt_cmp ck_lt (de_var 4) de_int) (dw_or (dt_cmp ck_lt (de_var 2) de_int) (dw_or1 (dt_cmp ck_lt (de_ix (de_var 1) de_int) de_int))))) (dss_cons (ds_ret (de_tup (da_cons de_str (da_cons (de_var 7) da_nil)))) dss_nil) dss_nil) (dss_cons (ds_if (dt_cmp ck_gt (de_var 4) de_int) (dss_cons (ds_setix (de_var 1) de_int (de_sub (de_ix (de_var 1) de_int) de_int) (pg_sub (de_var 1) de_int set_list)) (dss_cons (ds_ret (de_tup (da_cons de_str (da_cons (de_ix (de_var 3) (de_callG (al 4 "_law_draw" 2 rfl) gd hr (da_cons (de_var 0) (da_cons (de_callB call_len cs_len T.z_len (by decide +kernel) (da_cons (de_var 3) da_nil)) da_nil)))) (da_cons (de_callG (al 24 "_law_form" 4 rfl) gd hr (da_cons (de_var 0) (da_cons (de_var 1) (da_cons (de_sub (de_var 2) de_int) (da_cons (de_var 3) da_nil))))) da_nil))))) dss_nil)) dss_nil) (dss_cons (ds_if (dt_cmp ck_gt (de_var 4) de_int) (dss_cons (ds_setix (de_var 1) de_int (de_sub (de_ix (de_var 1) de_int) de_int) (pg_sub (de_var 1) de_int set_list)) (dss_cons (ds_ret (de_tup (da_cons de_str (da_cons (de_ix (de_var 6) de_int) (da_cons (de_ix (de_var 6) de_int) (da_cons (de_callG (al 24 "_law_form" 4 rfl) gd hr (da_cons (de_var 0) (da_cons (de_var 1) (da_cons (de_sub (de_var 2) de_int) (da_cons (de_var 3) da_nil))))) da_nil)))))) dss_nil)) dss_nil) (dss_cons (ds_setix (de_var 1) de_int (de_sub (de_ix (de_var 1) de_int) (de_var 5)) (pg_sub (de_var 1) de_int set_list)) (dss_cons (ds_set (dg_name 8 nd) (de_ix (de_lst (da_cons de_str (da_cons de_str da_nil))) (de_mod (de_var 4) de_int))) (dss_cons (ds_set (dg_name 9 nd) (de_callG (al 23 "_law_flat" 2 rfl) gd hr (da_cons (de_comp (own := [("_law_k", 10)]) (go_name _ 10) nd (di_rng1 T.z_range (de_var 5)) (blkOk_by (N := ["_law_deck_here", "_law_left", "_law_deep", "_law_names_here", "_law_way", "_law_many", "_law_count", "_law_signs_here", "_law_word", "_law_parts", "_law_k"]) (sc := defScope s_law_form) (by decide +kernel)) (fun _ _ _ _ _ => pg_name (i := 10) nd rfl (Or.inl rfl)) (fun _ _ _ _ _ => dts_nil) (fun _ _ _ _ _ => (de_callG (al 24 "_law_form" 4 rfl) gd hr (da_cons (de_var 0) (da_cons (de_var 1) (da_cons (de_sub (de_var 2) de_int) (da_cons (de_var 3) da_nil))))))) (da_cons (de_var 8) da_nil)))) (dss_cons (ds_if (dt_cmp (ck_eq hr) (de_callB call_len cs_len T.z_len (by decide +kernel) (da_cons (de_var 9) da_nil)) de_int) (dss_cons (ds_ret (de_ix (de_var 9) de_int)) dss_nil) dss_nil) (dss_cons (ds_if (dt_w (dw_and (dt_cmp (ck_eq hr) (de_var 9) (de_lst da_nil)) (dw_and1 (dt_cmp (ck_eq hr) (de_var 8) de_str)))) (dss_cons (ds_ret (de_tup (da_cons de_str (da_cons (de_var 7) da_nil)))) dss_nil) dss_nil) (dss_cons (ds_ret (de_tup (da_cons (de_var 8) (da_cons (de_callTy call_tuple_of cs_tuple T.z_tuple (by decide +kernel) (da_cons (de_var 9) da_nil)) da_nil)))) dss_nil))))))))))))))
theorem ok_law_pattern (T : Top w K mg) (al : Al P w K mg base k) (F : Fun K "_law_pattern" "_law_pattern" s_law_pattern f fd) : FnG P w K mg base (k + 1) f fd ["_law_deck_here", "_law_most", "_law_deep"] (spD K (callF ds (k + 1)) 25 3) :=
  fn_okG (n := 3) (body := b_law_pattern) F sc_law_pattern rfl rfl fun cdv A outer s H E gd hr => by
    have nd := sc_law_pattern.nd
    exact (dss_cons (ds_set (dg_name 3 nd) (de_callG (al 21 "_law_names" 2 rfl) gd hr (da_cons (de_var 0) (da_cons (de_add de_int (de_callG (al 4 "_law_draw" 2 rfl) gd hr (da_cons (de_var 0) (da_cons de_int da_nil)))) da_nil)))) (dss_cons (ds_ret (de_callG (al 24 "_law_form" 4 rfl) gd hr (da_cons (de_var 0) (da_cons (de_lst (da_cons (de_callG (al 4 "_law_draw" 2 rfl) gd hr (da_cons (de_var 0) (da_cons (de_var 1) da_nil))) da_nil)) (da_cons (de_add de_int (de_callG (al 4 "_law_draw" 2 rfl) gd hr (da_cons (de_var 0) (da_cons (de_var 2) da_nil)))) (da_cons (de_var 3) da_nil)))))) dss_nil))
theorem ok_law_written (T : Top w K mg) (al : Al P w K mg base k) (F : Fun K "_law_written" "_law_written" s_law_written f fd) : FnG P w K mg base (k + 1) f fd ["_law_form_here"] (spD K (callF ds (k + 1)) 75 1) :=
  fn_okG (n := 1) (body := b_law_written) F sc_law_written rfl rfl fun cdv A outer s H E gd hr => by
    have nd := sc_law_written.nd
    exact (dss_cons (ds_if (dt_cmp (ck_eq hr) (de_ix (de_var 0) de_int) de_str) (dss_cons (ds_if (dt_cmp (ck_eq hr) (de_ix (de_var 0) de_int) de_str) (dss_cons (ds_ret de_str) dss_nil) dss_nil) (dss_cons (ds_if (dt_cmp (ck_eq hr) (de_callB call_len cs_len T.z_len (by decide +kernel) (da_cons (de_ix (de_var 0) de_int) da_nil)) de_int) (dss_cons (ds_ret (de_ix (de_var 0) de_int)) dss_nil) dss_nil) (dss_cons (ds_ret (de_add (de_add de_str (de_ix (de_var 0) de_int)) de_str)) dss_nil))) dss_nil) (dss_cons (ds_if (dt_cmp (ck_eq hr) (de_ix (de_var 0) de_int) de_str) (dss_cons (ds_ret (de_add (de_add (de_add (de_add de_str (de_ix (de_var 0) de_int)) de_str) (de_callG (al 75 "_law_written" 1 rfl) gd hr (da_cons (de_ix (de_var 0) de_int) da_nil))) de_str)) dss_nil) dss_nil) (dss_cons (ds_if (dt_cmp (ck_eq hr) (de_ix (de_var 0) de_int) de_str) (dss_cons (ds_set (dg_name 3 nd) (de_dlit3 hr lit_ii lit_in lit_in (de_sl (de_var 0) (do_some de_int) (do_some de_int)))) (dss_cons (ds_if (dt_w (dw_or (dt_cmp (ck_eq hr) (de_ix (de_ix (de_var 0) de_int) de_int) de_str) (dw_or1 (dt_cmp (ck_eq hr) (de_ix (de_ix (de_var 0) de_int) de_int) de_str)))) (dss_cons (ds_ret (de_add (de_callG (al 75 "_law_written" 1 rfl) gd hr (da_cons (de_ix (de_var 0) de_int) da_nil)) (de_var 3))) dss_nil) dss_nil) (dss_cons (ds_ret (de_add (de_add (de_add de_str (de_callG (al 75 "_law_written" 1 rfl) gd hr (da_cons (de_ix (de_var 0) de_int) da_nil))) de_str) (de_var 3))) dss_nil))) dss_nil) (dss_cons (ds_set (dg_name 1 nd) (de_lst da_nil)) (dss_cons (ds_for (dg_name 2 nd) (di_val (de_ix (de_var 0) de_int)) (dss_cons (ds_set (dg_name 4 nd) (de_callG (al 75 "_law_written" 1 rfl) gd hr (da_cons (de_var 2) da_nil))) (dss_cons (ds_if (dt_w (dw_and (dt_cmp (ck_eq hr) (de_ix (de_var 0) de_int) de_str) (dw_and1 (dt_cmp (ck_eq hr) (de_ix (de_var 2) de_int) de_str)))) (dss_cons (ds_set (dg_name 4 nd) (de_add (de_add de_str (de_var 4)) de_str)) dss_nil) dss_nil) (dss_cons (ds_app (de_var 1) (de_var 4)) dss_nil))) PassesOwn.never) (dss_cons (ds_ret (de_join (de_ix (de_lst (da_cons de_str (da_cons de_str da_nil))) (de_callTy call_int1 cs_int T.z_int (by decide +kernel) (da_cons (de_cmp (ck_eq hr) (de_ix (de_var 0) de_int) de_str) da_nil))) (de_var 1))) dss_nil))))))
theorem ok_law_right_v5 (T : Top w K mg) (al : Al P w K mg base k) (F : Fun K "_law_right" "_law_right" s_law_right_v5 f fd) : FnG P w K mg base (k + 1) f fd ["_law_pattern_here"] (spD K (callF ds (k + 1)) 76 1) :=
  fn_okG (n := 1) (body := b_law_right_v5) F sc_law_right_v5 rfl rfl fun cdv A outer s H E gd hr => by
    have nd := sc_law_right_v5.nd
    exact (dss_cons (ds_set (dg_name 1 nd) (de_callB (cr_repr gd hr) cs_repr T.z_repr (by decide +kernel) (da_cons (de_var 0) da_nil))) (dss_cons (ds_set (dg_name 2 nd) (de_callG (al 71 "write" 1 rfl) gd hr (da_cons (de_var 0) da_nil))) (dss_cons (ds_ret (de_and (de_isi (t := 0) (T := "str") (by decide) (by decide +kernel) T.z_isinstance T.z_str (de_var 2)) (de_and (de_cmp (ck_eq hr) (de_var 2) (de_callG (al 75 "_law_written" 1 rfl) gd hr (da_cons (de_var 0) da_nil))) (de_one (de_cmp (ck_eq hr) (de_callB (cr_repr gd hr) cs_repr T.z_repr (by decide +kernel) (da_cons (de_var 0) da_nil)) (de_var 1)))))) dss_nil)))
theorem ok_law_v7 (T : Top w K mg) (al : Al P w K mg base k) (F : Fun K "law" "law" s_law_v7 f fd) : FnG P w K mg base (k + 1) f fd ["_law_script"] (spD K (callF ds (k + 1)) 77 1) :=
  fn_okG (n := 1) (body := b_law_v7) F sc_law_v7 rfl rfl fun cdv A outer s H E gd hr => by
    have nd := sc_law_v7.nd
    exact (dss_cons (ds_set (dg_name 1 nd) (de_callG (al 3 "_law_deck" 1 rfl) gd hr (da_cons (de_var 0) da_nil))) (dss_cons (ds_setLc (i := 2) (own := [("_law_k", 3)]) (go_name _ 3) nd (di_rng1 T.z_range de_int) (blkOk_by (N := ["_law_script", "_law_deck_here", "_law_patterns", "_law_k", "_law_pattern_here"]) (sc := defScope s_law_v7) (by decide +kernel)) (fun _ _ _ _ _ => pg_name (i := 3) nd rfl (Or.inl rfl)) (fun _ _ _ _ _ => dts_nil) (fun _ _ _ _ _ => (de_callG (al 25 "_law_pattern" 3 rfl) gd hr (da_cons (de_var 1) (da_cons de_int (da_cons de_int da_nil))))) (sw_true rfl rfl rfl (by decide +kernel))) (dss_cons (ds_ret (de_cmp (ck_eq hr) (de_comp (own := [("_law_pattern_here", 4)]) (go_name _ 4) nd (di_val (de_add (de_var 2) (de_rev (de_var 2)))) (blkOk_by (N := ["_law_script", "_law_deck_here", "_law_patterns", "_law_k", "_law_pattern_here"]) (sc := defScope s_law_v7) (by decide +kernel)) (fun _ _ _ _ _ => pg_name (i := 4) nd rfl (Or.inl rfl)) (fun _ _ _ _ _ => dts_one (dt_not (dt_val (de_callG (al 76 "_law_right" 1 rfl) gd hr (da_cons (de_var 4) da_nil))))) (fun _ _ _ _ _ => (de_var 4))) (de_lst da_nil))) dss_nil)))
end
/-- where the defs stand -/
structure Fs (K : Fg) (mg : Str → Option Value) : Prop where
  f_write : ∃ f fd, Fun K "write" "write" s_write f fd ∧ mg "write" = some (.ref f)
  f_write_signs : ∃ f fd, Fun K "write_signs" "write_signs" s_write_signs f fd ∧ mg "write_signs" = some (.ref f)
  f_bracketed : ∃ f fd, Fun K "bracketed" "bracketed" s_bracketed f fd ∧ mg "bracketed" = some (.ref f)
  f_write_times : ∃ f fd, Fun K "write_times" "write_times" s_write_times f fd ∧ mg "write_times" = some (.ref f)
  f_law_deck : ∃ f fd, Fun K "_law_deck" "_law_deck" s_law_deck f fd ∧ mg "_law_deck" = some (.ref f)
  f_law_draw : ∃ f fd, Fun K "_law_draw" "_law_draw" s_law_draw f fd ∧ mg "_law_draw" = some (.ref f)
  f_law_letters : ∃ f fd, Fun K "_law_letters" "_law_letters" s_law_letters f fd ∧ mg "_law_letters" = some (.ref f)
  f_law_names : ∃ f fd, Fun K "_law_names" "_law_names" s_law_names f fd ∧ mg "_law_names" = some (.ref f)
  f_law_signs : ∃ f fd, Fun K "_law_signs" "_law_signs" s_law_signs f fd ∧ mg "_law_signs" = some (.ref f)
  f_law_flat : ∃ f fd, Fun K "_law_flat" "_law_flat" s_law_flat f fd ∧ mg "_law_flat" = some (.ref f)
  f_law_form : ∃ f fd, Fun K "_law_form" "_law_form" s_law_form f fd ∧ mg "_law_form" = some (.ref f)
  f_law_pattern : ∃ f fd, Fun K "_law_pattern" "_law_pattern" s_law_pattern f fd ∧ mg "_law_pattern" = some (.ref f)
  f_law_written : ∃ f fd, Fun K "_law_written" "_law_written" s_law_written f fd ∧ mg "_law_written" = some (.ref f)
  f_law_right_v5 : ∃ f fd, Fun K "_law_right" "_law_right" s_law_right_v5 f fd ∧ mg "_law_right" = some (.ref f)
  f_law_v7 : ∃ f fd, Fun K "law" "law" s_law_v7 f fd ∧ mg "law" = some (.ref f)
theorem al_all {P : Program} {w : World} {K : Fg} {mg : Str → Option Value} {base : Heap} (T : Top w K mg) (F : Fs K mg) : ∀ k, Al P w K mg base k
  | k, i, x, n, h => by
    unfold tab at h
    split at h
    · cases h
      obtain ⟨f, fd, F0, hm⟩ := F.f_write
      have b := F0.binds (ps := ["pattern"]) fun _ _ _ _ _ _ us hl => match us, hl with | [_], _ => rfl
      exact ⟨f, fd, _, match k with | 0 => fn_zeroG (by rfl) | k + 1 => ok_write T (al_all T F k) F0, hm, F0.kp, b⟩
    · cases h
      obtain ⟨f, fd, F0, hm⟩ := F.f_write_signs
      have b := F0.binds (ps := ["signs"]) fun _ _ _ _ _ _ us hl => match us, hl with | [_], _ => rfl
      exact ⟨f, fd, _, match k with | 0 => fn_zeroG (by rfl) | k + 1 => ok_write_signs T (al_all T F k) F0, hm, F0.kp, b⟩
    · cases h
      obtain ⟨f, fd, F0, hm⟩ := F.f_bracketed
      have b := F0.binds (ps := ["pattern", "kinds"]) fun _ _ _ _ _ _ us hl => match us, hl with | [_, _], _ => rfl
      exact ⟨f, fd, _, match k with | 0 => fn_zeroG (by rfl) | k + 1 => ok_bracketed T (al_all T F k) F0, hm, F0.kp, b⟩
    · cases h
      obtain ⟨f, fd, F0, hm⟩ := F.f_write_times
      have b := F0.binds (ps := ["low", "high"]) fun _ _ _ _ _ _ us hl => match us, hl with | [_, _], _ => rfl
      exact ⟨f, fd, _, match k with | 0 => fn_zeroG (by rfl) | k + 1 => ok_write_times T (al_all T F k) F0, hm, F0.kp, b⟩
    · cases h
      obtain ⟨f, fd, F0, hm⟩ := F.f_law_deck
      have b := F0.binds (ps := ["_law_script"]) fun _ _ _ _ _ _ us hl => match us, hl with | [_], _ => rfl
      exact ⟨f, fd, _, match k with | 0 => fn_zeroG (by rfl) | k + 1 => ok_law_deck T (al_all T F k) F0, hm, F0.kp, b⟩
    · cases h
      obtain ⟨f, fd, F0, hm⟩ := F.f_law_draw
      have b := F0.binds (ps := ["_law_deck_here", "_law_many"]) fun _ _ _ _ _ _ us hl => match us, hl with | [_, _], _ => rfl
      exact ⟨f, fd, _, match k with | 0 => fn_zeroG (by rfl) | k + 1 => ok_law_draw T (al_all T F k) F0, hm, F0.kp, b⟩
    · cases h
      obtain ⟨f, fd, F0, hm⟩ := F.f_law_letters
      have b := F0.binds (ps := ["_law_deck_here", "_law_many"]) fun _ _ _ _ _ _ us hl => match us, hl with | [_, _], _ => rfl
      exact ⟨f, fd, _, match k with | 0 => fn_zeroG (by rfl) | k + 1 => ok_law_letters T (al_all T F k) F0, hm, F0.kp, b⟩
    · cases h
      obtain ⟨f, fd, F0, hm⟩ := F.f_law_names
      have b := F0.binds (ps := ["_law_deck_here", "_law_many"]) fun _ _ _ _ _ _ us hl => match us, hl with | [_, _], _ => rfl
      exact ⟨f, fd, _, match k with | 0 => fn_zeroG (by rfl) | k + 1 => ok_law_names T (al_all T F k) F0, hm, F0.kp, b⟩
    · cases h
      obtain ⟨f, fd, F0, hm⟩ := F.f_law_signs
      have b := F0.binds (ps := ["_law_deck_here"]) fun _ _ _ _ _ _ us hl => match us, hl with | [_], _ => rfl
      exact ⟨f, fd, _, match k with | 0 => fn_zeroG (by rfl) | k + 1 => ok_law_signs T (al_all T F k) F0, hm, F0.kp, b⟩
    · cases h
      obtain ⟨f, fd, F0, hm⟩ := F.f_law_flat
      have b := F0.binds (ps := ["_law_parts", "_law_word"]) fun _ _ _ _ _ _ us hl => match us, hl with | [_, _], _ => rfl
      exact ⟨f, fd, _, match k with | 0 => fn_zeroG (by rfl) | k + 1 => ok_law_flat T (al_all T F k) F0, hm, F0.kp, b⟩
    · cases h
      obtain ⟨f, fd, F0, hm⟩ := F.f_law_form
      have b := F0.binds (ps := ["_law_deck_here", "_law_left", "_law_deep", "_law_names_here"]) fun _ _ _ _ _ _ us hl => match us, hl with | [_, _, _, _], _ => rfl
      exact ⟨f, fd, _, match k with | 0 => fn_zeroG (by rfl) | k + 1 => ok_law_form T (al_all T F k) F0, hm, F0.kp, b⟩
    · cases h
      obtain ⟨f, fd, F0, hm⟩ := F.f_law_pattern
      have b := F0.binds (ps := ["_law_deck_here", "_law_most", "_law_deep"]) fun _ _ _ _ _ _ us hl => match us, hl with | [_, _, _], _ => rfl
      exact ⟨f, fd, _, match k with | 0 => fn_zeroG (by rfl) | k + 1 => ok_law_pattern T (al_all T F k) F0, hm, F0.kp, b⟩
    · cases h
      obtain ⟨f, fd, F0, hm⟩ := F.f_law_written
      have b := F0.binds (ps := ["_law_form_here"]) fun _ _ _ _ _ _ us hl => match us, hl with | [_], _ => rfl
      exact ⟨f, fd, _, match k with | 0 => fn_zeroG (by rfl) | k + 1 => ok_law_written T (al_all T F k) F0, hm, F0.kp, b⟩
    · cases h
      obtain ⟨f, fd, F0, hm⟩ := F.f_law_right_v5
      have b := F0.binds (ps := ["_law_pattern_here"]) fun _ _ _ _ _ _ us hl => match us, hl with | [_], _ => rfl
      exact ⟨f, fd, _, match k with | 0 => fn_zeroG (by rfl) | k + 1 => ok_law_right_v5 T (al_all T F k) F0, hm, F0.kp, b⟩
    · cases h
      obtain ⟨f, fd, F0, hm⟩ := F.f_law_v7
      have b := F0.binds (ps := ["_law_script"]) fun _ _ _ _ _ _ us hl => match us, hl with | [_], _ => rfl
      exact ⟨f, fd, _, match k with | 0 => fn_zeroG (by rfl) | k + 1 => ok_law_v7 T (al_all T F k) F0, hm, F0.kp, b⟩
    · cases h
end Pg
namespace Pg
open PySem PySem.Spec PyProof.Rows L2 MP
theorem fs_mk {w : World} {K : Fg} {h : Heap} {mg : Str → Option Value} (X : K.In h) (G : h.Ns mainGlobals mg) {f0 : Addr} {od0 an0 : Option Addr} {sl0 : Array (Option Value)} {oc0 kV0 dc0 pm0 cd0 ct0 : Value}
  {f1 : Addr} {od1 an1 : Option Addr} {sl1 : Array (Option Value)} {oc1 kV1 dc1 pm1 cd1 ct1 : Value}
  {f2 : Addr} {od2 an2 : Option Addr} {sl2 : Array (Option Value)} {oc2 kV2 dc2 pm2 cd2 ct2 : Value}
  {f3 : Addr} {od3 an3 : Option Addr} {sl3 : Array (Option Value)} {oc3 kV3 dc3 pm3 cd3 ct3 : Value}
  {f4 : Addr} {od4 an4 : Option Addr} {sl4 : Array (Option Value)} {oc4 kV4 dc4 pm4 cd4 ct4 : Value}
  {f5 : Addr} {od5 an5 : Option Addr} {sl5 : Array (Option Value)} {oc5 kV5 dc5 pm5 cd5 ct5 : Value}
  {f6 : Addr} {od6 an6 : Option Addr} {sl6 : Array (Option Value)} {oc6 kV6 dc6 pm6 cd6 ct6 : Value}
  {f7 : Addr} {od7 an7 : Option Addr} {sl7 : Array (Option Value)} {oc7 kV7 dc7 pm7 cd7 ct7 : Value}
  {f8 : Addr} {od8 an8 : Option Addr} {sl8 : Array (Option Value)} {oc8 kV8 dc8 pm8 cd8 ct8 : Value}
  {f9 : Addr} {od9 an9 : Option Addr} {sl9 : Array (Option Value)} {oc9 kV9 dc9 pm9 cd9 ct9 : Value}
  {f10 : Addr} {od10 an10 : Option Addr} {sl10 : Array (Option Value)} {oc10 kV10 dc10 pm10 cd10 ct10 : Value}
  {f11 : Addr} {od11 an11 : Option Addr} {sl11 : Array (Option Value)} {oc11 kV11 dc11 pm11 cd11 ct11 : Value}
  {f12 : Addr} {od12 an12 : Option Addr} {sl12 : Array (Option Value)} {oc12 kV12 dc12 pm12 cd12 ct12 : Value}
  {f13 : Addr} {od13 an13 : Option Addr} {sl13 : Array (Option Value)} {oc13 kV13 dc13 pm13 cd13 ct13 : Value}
  {f14 : Addr} {od14 an14 : Option Addr} {sl14 : Array (Option Value)} {oc14 kV14 dc14 pm14 cd14 ct14 : Value}
  {t0 : Tok}
  (a0 : PySem.W.nsIn K mainGlobals "write" = some (some (.ref f0))) (l0 : K.lookup f0 = some ⟨oc0, od0, .func (PySem.W.fnOf "write" "write" (defArgs s_write) (defBody s_write) (defScope s_write) .none kV0 dc0 pm0 an0 cd0 ct0), sl0⟩) (c0 : PySem.W.codeIn K cd0 "write" = true) (k0 : PySem.W.keepIn K (.ref f0) = true)
  (a1 : PySem.W.nsIn K mainGlobals "write_signs" = some (some (.ref f1))) (l1 : K.lookup f1 = some ⟨oc1, od1, .func (PySem.W.fnOf "write_signs" "write_signs" (defArgs s_write_signs) (defBody s_write_signs) (defScope s_write_signs) .none kV1 dc1 pm1 an1 cd1 ct1), sl1⟩) (c1 : PySem.W.codeIn K cd1 "write_signs" = true) (k1 : PySem.W.keepIn K (.ref f1) = true)
  (a2 : PySem.W.nsIn K mainGlobals "bracketed" = some (some (.ref f2))) (l2 : K.lookup f2 = some ⟨oc2, od2, .func (PySem.W.fnOf "bracketed" "bracketed" (defArgs s_bracketed) (defBody s_bracketed) (defScope s_bracketed) .none kV2 dc2 pm2 an2 cd2 ct2), sl2⟩) (c2 : PySem.W.codeIn K cd2 "bracketed" = true) (k2 : PySem.W.keepIn K (.ref f2) = true)
  (a3 : PySem.W.nsIn K mainGlobals "write_times" = some (some (.ref f3))) (l3 : K.lookup f3 = some ⟨oc3, od3, .func (PySem.W.fnOf "write_times" "write_times" (defArgs s_write_times) (defBody s_write_times) (defScope s_write_times) .none kV3 dc3 pm3 an3 cd3 ct3), sl3⟩) (c3 : PySem.W.codeIn K cd3 "write_times" = true) (k3 : PySem.W.keepIn K (.ref f3) = true)
  (a4 : PySem.W.nsIn K mainGlobals "_law_deck" = some (some (.ref f4))) (l4 : K.lookup f4 = some ⟨oc4, od4, .func (PySem.W.fnOf "_law_deck" "_law_deck" (defArgs s_law_deck) (defBody s_law_deck) (defScope s_law_deck) .none kV4 dc4 pm4 an4 cd4 ct4), sl4⟩) (c4 : PySem.W.codeIn K cd4 "_law_deck" = true) (k4 : PySem.W.keepIn K (.ref f4) = true)
  (a5 : PySem.W.nsIn K mainGlobals "_law_draw" = some (some (.ref f5))) (l5 : K.lookup f5 = some ⟨oc5, od5, .func (PySem.W.fnOf "_law_draw" "_law_draw" (defArgs s_law_draw) (defBody s_law_draw) (defScope s_law_draw) .none kV5 dc5 pm5 an5 cd5 ct5), sl5⟩) (c5 : PySem.W.codeIn K cd5 "_law_draw" = true) (k5 : PySem.W.keepIn K (.ref f5) = true)
  (a6 : PySem.W.nsIn K mainGlobals "_law_letters" = some (some (.ref f6))) (l6 : K.lookup f6 = some ⟨oc6, od6, .func (PySem.W.fnOf "_law_letters" "_law_letters" (defArgs s_law_letters) (defBody s_law_letters) (defScope s_law_letters) .none kV6 dc6 pm6 an6 cd6 ct6), sl6⟩) (c6 : PySem.W.codeIn K cd6 "_law_letters" = true) (k6 : PySem.W.keepIn K (.ref f6) = true)
  (a7 : PySem.W.nsIn K mainGlobals "_law_names" = some (some (.ref f7))) (l7 : K.lookup f7 = some ⟨oc7, od7, .func (PySem.W.fnOf "_law_names" "_law_names" (defArgs s_law_names) (defBody s_law_names) (defScope s_law_names) .none kV7 dc7 pm7 an7 cd7 ct7), sl7⟩) (c7 : PySem.W.codeIn K cd7 "_law_names" = true) (k7 : PySem.W.keepIn K (.ref f7) = true)
  (a8 : PySem.W.nsIn K mainGlobals "_law_signs" = some (some (.ref f8))) (l8 : K.lookup f8 = some ⟨oc8, od8, .func (PySem.W.fnOf "_law_signs" "_law_signs" (defArgs s_law_signs) (defBody s_law_signs) (defScope s_law_signs) .none kV8 dc8 pm8 an8 cd8 ct8), sl8⟩) (c8 : PySem.W.codeIn K cd8 "_law_signs" = true) (k8 : PySem.W.keepIn K (.ref f8) = true)
  (a9 : PySem.W.nsIn K mainGlobals "_law_flat" = some (some (.ref f9))) (l9 : K.lookup f9 = some ⟨oc9, od9, .func (PySem.W.fnOf "_law_flat" "_law_flat" (defArgs s_law_flat) (defBody s_law_flat) (defScope s_law_flat) .none kV9 dc9 pm9 an9 cd9 ct9), sl9⟩) (c9 : PySem.W.codeIn K cd9 "_law_flat" = true) (k9 : PySem.W.keepIn K (.ref f9) = true)
  (a10 : PySem.W.nsIn K mainGlobals "_law_form" = some (some (.ref f10))) (l10 : K.lookup f10 = some ⟨oc10, od10, .func (PySem.W.fnOf "_law_form" "_law_form" (defArgs s_law_form) (defBody s_law_form) (defScope s_law_form) .none kV10 dc10 pm10 an10 cd10 ct10), sl10⟩) (c10 : PySem.W.codeIn K cd10 "_law_form" = true) (k10 : PySem.W.keepIn K (.ref f10) = true)
  (a11 : PySem.W.nsIn K mainGlobals "_law_pattern" = some (some (.ref f11))) (l11 : K.lookup f11 = some ⟨oc11, od11, .func (PySem.W.fnOf "_law_pattern" "_law_pattern" (defArgs s_law_pattern) (defBody s_law_pattern) (defScope s_law_pattern) .none kV11 dc11 pm11 an11 cd11 ct11), sl11⟩) (c11 : PySem.W.codeIn K cd11 "_law_pattern" = true) (k11 : PySem.W.keepIn K (.ref f11) = true)
  (a12 : PySem.W.nsIn K mainGlobals "_law_written" = some (some (.ref f12))) (l12 : K.lookup f12 = some ⟨oc12, od12, .func (PySem.W.fnOf "_law_written" "_law_written" (defArgs s_law_written) (defBody s_law_written) (defScope s_law_written) .none kV12 dc12 pm12 an12 cd12 ct12), sl12⟩) (c12 : PySem.W.codeIn K cd12 "_law_written" = true) (k12 : PySem.W.keepIn K (.ref f12) = true)
  (a13 : PySem.W.nsIn K mainGlobals "_law_right" = some (some (.ref f13))) (l13 : K.lookup f13 = some ⟨oc13, od13, .func (PySem.W.fnOf "_law_right" "_law_right" (defArgs s_law_right_v5) (defBody s_law_right_v5) (defScope s_law_right_v5) .none kV13 dc13 pm13 an13 cd13 ct13), sl13⟩) (c13 : PySem.W.codeIn K cd13 "_law_right" = true) (k13 : PySem.W.keepIn K (.ref f13) = true)
  (a14 : PySem.W.nsIn K mainGlobals "law" = some (some (.ref f14))) (l14 : K.lookup f14 = some ⟨oc14, od14, .func (PySem.W.fnOf "law" "law" (defArgs s_law_v7) (defBody s_law_v7) (defScope s_law_v7) .none kV14 dc14 pm14 an14 cd14 ct14), sl14⟩) (c14 : PySem.W.codeIn K cd14 "law" = true) (k14 : PySem.W.keepIn K (.ref f14) = true)
  (z0 : PySem.W.nsIn K mainGlobals "abs" = some none)
  (z1 : PySem.W.nsIn K mainGlobals "int" = some none)
  (z2 : PySem.W.nsIn K mainGlobals "isinstance" = some none)
  (z3 : PySem.W.nsIn K mainGlobals "len" = some none)
  (z4 : PySem.W.nsIn K mainGlobals "list" = some none)
  (z5 : PySem.W.nsIn K mainGlobals "range" = some none)
  (z6 : PySem.W.nsIn K mainGlobals "repr" = some none)
  (z7 : PySem.W.nsIn K mainGlobals "str" = some none)
  (z8 : PySem.W.nsIn K mainGlobals "tuple" = some none)
  (g0 : PySem.W.nsIn K mainGlobals "SIGNS" = some (some (.str " abcdefghijklmnopqrstuvwxyz" t0))) : Fs K mg ∧ Top w K mg := by
  exact ⟨⟨⟨_, _, fun_mk (st := s_write) l0 c0 k0, PySem.W.mg_of X G a0⟩, ⟨_, _, fun_mk (st := s_write_signs) l1 c1 k1, PySem.W.mg_of X G a1⟩, ⟨_, _, fun_mk (st := s_bracketed) l2 c2 k2, PySem.W.mg_of X G a2⟩, ⟨_, _, fun_mk (st := s_write_times) l3 c3 k3, PySem.W.mg_of X G a3⟩, ⟨_, _, fun_mk (st := s_law_deck) l4 c4 k4, PySem.W.mg_of X G a4⟩, ⟨_, _, fun_mk (st := s_law_draw) l5 c5 k5, PySem.W.mg_of X G a5⟩, ⟨_, _, fun_mk (st := s_law_letters) l6 c6 k6, PySem.W.mg_of X G a6⟩, ⟨_, _, fun_mk (st := s_law_names) l7 c7 k7, PySem.W.mg_of X G a7⟩, ⟨_, _, fun_mk (st := s_law_signs) l8 c8 k8, PySem.W.mg_of X G a8⟩, ⟨_, _, fun_mk (st := s_law_flat) l9 c9 k9, PySem.W.mg_of X G a9⟩, ⟨_, _, fun_mk (st := s_law_form) l10 c10 k10, PySem.W.mg_of X G a10⟩, ⟨_, _, fun_mk (st := s_law_pattern) l11 c11 k11, PySem.W.mg_of X G a11⟩, ⟨_, _, fun_mk (st := s_law_written) l12 c12 k12, PySem.W.mg_of X G a12⟩, ⟨_, _, fun_mk (st := s_law_right_v5) l13 c13 k13, PySem.W.mg_of X G a13⟩, ⟨_, _, fun_mk (st := s_law_v7) l14 c14 k14, PySem.W.mg_of X G a14⟩⟩, ⟨PySem.W.mg_none_of X G z0, PySem.W.mg_none_of X G z1, PySem.W.mg_none_of X G z2, PySem.W.mg_none_of X G z3, PySem.W.mg_none_of X G z4, PySem.W.mg_none_of X G z5, PySem.W.mg_none_of X G z6, PySem.W.mg_none_of X G z7, PySem.W.mg_none_of X G z8, ⟨_, PySem.W.mg_of X G g0⟩⟩⟩
end Pg
open PySem PySem.W PyProof.Rows
set_option maxHeartbeats 0 in
theorem PySem.Challenge.cw_markpieces_k07_patterns_written_holds : PySem.Challenge.rw_markpieces_k07_patterns_written.Holds := by
  w_on; o_law; k_head; (case hw => w_witness2)
  k_fill
  refine MP.walkG (l := PySem.Challenge.rw_markpieces_k07_patterns_written) (n := 63) (k := 60) (x := "_law_script") (sp := fun K => MP.spD K (MP.callF Pg.ds 60) 77 1) rfl (by decide) rfl ⟨rfl, by decide, by decide⟩ (fun w h Y => PySem.W.kIn_of Y) ?F (fun K H a ns hl hO hS => ?G)
  case G => exact MP.law_in hO hS (Pg.law_true ns hl)
  case F =>
    intro w mg fa h KX G hmg
    obtain ⟨hF, hT⟩ : Pg.Fs _ mg ∧ Pg.Top w _ mg := by
      refine' Pg.fs_mk KX G ?mp_a0 ?mp_l0 ?mp_c0 ?mp_k0 ?mp_a1 ?mp_l1 ?mp_c1 ?mp_k1 ?mp_a2 ?mp_l2 ?mp_c2 ?mp_k2 ?mp_a3 ?mp_l3 ?mp_c3 ?mp_k3 ?mp_a4 ?mp_l4 ?mp_c4 ?mp_k4 ?mp_a5 ?mp_l5 ?mp_c5 ?mp_k5 ?mp_a6 ?mp_l6 ?mp_c6 ?mp_k6 ?mp_a7 ?mp_l7 ?mp_c7 ?mp_k7 ?mp_a8 ?mp_l8 ?mp_c8 ?mp_k8 ?mp_a9 ?mp_l9 ?mp_c9 ?mp_k9 ?mp_a10 ?mp_l10 ?mp_c10 ?mp_k10 ?mp_a11 ?mp_l11 ?mp_c11 ?mp_k11 ?mp_a12 ?mp_l12 ?mp_c12 ?mp_k12 ?mp_a13 ?mp_l13 ?mp_c13 ?mp_k13 ?mp_a14 ?mp_l14 ?mp_c14 ?mp_k14 ?mp_z0 ?mp_z1 ?mp_z2 ?mp_z3 ?mp_z4 ?mp_z5 ?mp_z6 ?mp_z7 ?mp_z8 ?mp_g0
      (case mp_a0 => k_is)
      (case mp_l0 => k_is)
      (case mp_c0 => k_is)
      (case mp_k0 => k_is)
      (case mp_a1 => k_is)
      (case mp_l1 => k_is)
      (case mp_c1 => k_is)
      (case mp_k1 => k_is)
      (case mp_a2 => k_is)
      (case mp_l2 => k_is)
      (case mp_c2 => k_is)
      (case mp_k2 => k_is)
      (case mp_a3 => k_is)
      (case mp_l3 => k_is)
      (case mp_c3 => k_is)
      (case mp_k3 => k_is)
      (case mp_a4 => k_is)
      (case mp_l4 => k_is)
      (case mp_c4 => k_is)
      (case mp_k4 => k_is)
      (case mp_a5 => k_is)
      (case mp_l5 => k_is)
      (case mp_c5 => k_is)
      (case mp_k5 => k_is)
      (case mp_a6 => k_is)
      (case mp_l6 => k_is)
      (case mp_c6 => k_is)
      (case mp_k6 => k_is)
      (case mp_a7 => k_is)
      (case mp_l7 => k_is)
      (case mp_c7 => k_is)
      (case mp_k7 => k_is)
      (case mp_a8 => k_is)
      (case mp_l8 => k_is)
      (case mp_c8 => k_is)
      (case mp_k8 => k_is)
      (case mp_a9 => k_is)
      (case mp_l9 => k_is)
      (case mp_c9 => k_is)
      (case mp_k9 => k_is)
      (case mp_a10 => k_is)
      (case mp_l10 => k_is)
      (case mp_c10 => k_is)
      (case mp_k10 => k_is)
      (case mp_a11 => k_is)
      (case mp_l11 => k_is)
      (case mp_c11 => k_is)
      (case mp_k11 => k_is)
      (case mp_a12 => k_is)
      (case mp_l12 => k_is)
      (case mp_c12 => k_is)
      (case mp_k12 => k_is)
      (case mp_a13 => k_is)
      (case mp_l13 => k_is)
      (case mp_c13 => k_is)
      (case mp_k13 => k_is)
      (case mp_a14 => k_is)
      (case mp_l14 => k_is)
      (case mp_c14 => k_is)
      (case mp_k14 => k_is)
      (case mp_z0 => k_is)
      (case mp_z1 => k_is)
      (case mp_z2 => k_is)
      (case mp_z3 => k_is)
      (case mp_z4 => k_is)
      (case mp_z5 => k_is)
      (case mp_z6 => k_is)
      (case mp_z7 => k_is)
      (case mp_z8 => k_is)
      (case mp_g0 => k_is)
    obtain ⟨f, fd, F0, hm⟩ := hF.f_law_v7
    have e := hmg.symm.trans hm
    cases e
    exact ⟨fd, MP.bind_one F0 (fun _ _ _ _ _ _ _ => rfl), fun base _ _ => Pg.ok_law_v7 hT (Pg.al_all hT hF 59) F0⟩
