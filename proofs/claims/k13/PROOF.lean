import PyProof.Rows.All
import Wide.All
import OpenK.AllK
import Wide.FinOn
import HandS.ForMost
import HandS.IsInst
import HandS.Deep
import HandS.Style
import HandS.TupAny
import HandS.SetFor
import HandS.Strs
import HandS.TryOnly
import HandS.Steps
import HandS.SortKw
import KE.KMinKey
import HandS.Zip
import HandS.IterVal
import KE.GoesEnum
import KE.GoesMore
import KE.KDictZip
import HandS.OwnIter
import HandS.DictComp
import PySem.Challenge.RW_markpieces_k13_pieces_and_rows
set_option Elab.async false
set_option linter.all false
set_option autoImplicit false
set_option maxRecDepth 100000
set_option maxHeartbeats 4000000
/-! A small reader of the programs at hand: expressions and statements by slots, over a store of lists. -/
namespace MP

/-- a value: lists stand in the store; rol: a list that is only read, not in the store -/
inductive W where
  | non | bl (b : Bool) | int (i : Int) | str (x : List Nat) | tup (xs : List W) | ref (k : Nat) | rol (xs : List W) | fn (x : List Nat) | dic (kvs : List (List Nat × W))
  deriving Inhabited

/-- what stands in the store: a list -/
inductive SO where
  | lst (xs : List W)
abbrev Sto := List SO
abbrev Env := List (Option W)
abbrev R := Option (W × Sto)

def LIM : Nat := 1000000

def rdL (S : Sto) (k : Nat) : Option (List W) :=
  match S[k]? with
  | some (.lst xs) => some xs
  | none => none
abbrev rdM (S : Sto) (k : Nat) : Option (List W) := rdL S k
def new (S : Sto) (xs : List W) : R := if xs.length ≤ LIM then some (.ref S.length, S ++ [.lst xs]) else none

/-! ### data, for == -/
inductive D where
  | non | bl (b : Bool) | int (i : Int) | str (x : List Nat) | lst (xs : List D) | tup (xs : List D)
def dats (f : W → Option D) : List W → Option (List D)
  | [] => some []
  | x :: r => match f x, dats f r with
    | some d, some ds => some (d :: ds)
    | _, _ => none
def dat (S : Sto) : Nat → W → Option D
  | _, .non => some .non
  | _, .bl b => some (.bl b)
  | _, .int i => some (.int i)
  | _, .str x => if x.all (fun c => decide (c < 1114112)) then some (.str x) else none
  | 0, _ => none
  | n + 1, .tup xs => (dats (dat S n) xs).map .tup
  | n + 1, .ref k => match rdL S k with
    | some xs => (dats (dat S n) xs).map .lst
    | none => none
  | _ + 1, .rol _ => none
  | _ + 1, .fn _ => none
  | _ + 1, .dic _ => none
mutual
def D.eqv : D → D → Bool
  | .non, .non => true
  | .bl a, .bl b => a == b
  | .bl a, .int j => (if a then 1 else 0) == j
  | .int i, .bl b => i == (if b then 1 else 0)
  | .int i, .int j => i == j
  | .str x, .str y => x == y
  | .lst xs, .lst ys => D.eqvs xs ys
  | .tup xs, .tup ys => D.eqvs xs ys
  | _, _ => false
def D.eqvs : List D → List D → Bool
  | [], [] => true
  | x :: xs, y :: ys => D.eqv x y && D.eqvs xs ys
  | _, _ => false
end
def eqW (S : Sto) : W → W → Option Bool
  | .int i, .int j => some (decide (i = j))
  | .str x, .str y => some (decide (x = y))
  | .bl x, .bl y => some (decide (x = y))
  | .non, .non => some true
  | .non, .int _ => some false
  | .non, .bl _ => some false
  | .non, .str _ => some false
  | .int _, .non => some false
  | .bl _, .non => some false
  | .str _, .non => some false
  | .int _, .str _ => some false
  | .str _, .int _ => some false
  | .bl _, .str _ => some false
  | .str _, .bl _ => some false
  | x, y => match dat S 60 x, dat S 60 y with
    | some d, some e => some (D.eqv d e)
    | _, _ => none

/-! ### operators -/
inductive BO where | add | sub | mul | fdiv | mod | pow
def opB : BO → W → W → Sto → R
  | .add, .int i, .int j, S => some (.int (i + j), S)
  | .add, .str x, .str y, S => if x.length + y.length ≤ LIM then some (.str (x ++ y), S) else none
  | .add, .tup x, .tup y, S => if x.length + y.length ≤ LIM then some (.tup (x ++ y), S) else none
  | .add, .ref a, .ref b, S => match rdM S a, rdM S b with
    | some x, some y => new S (x ++ y)
    | _, _ => none
  | .sub, .int i, .int j, S => some (.int (i - j), S)
  | .mul, .int i, .int j, S => if (-(2 ^ 64) < i ∧ i < 2 ^ 64) ∨ (-(2 ^ 64) < j ∧ j < 2 ^ 64) then some (.int (i * j), S) else none
  | .mul, .str x, .int j, S => if j ≤ 1000000 ∧ -1000000 ≤ j ∧ x.length * j.toNat ≤ LIM then some (.str (List.replicate j.toNat x).flatten, S) else none
  | .mul, .ref a, .int j, S => match rdM S a with
    | some x => if j ≤ 1000000 ∧ -1000000 ≤ j ∧ x.length * j.toNat ≤ LIM then new S (List.replicate j.toNat x).flatten else none
    | none => none
  | .fdiv, .int i, .int j, S => if 0 < j ∧ j < 1073741824 then some (.int (i / j), S) else none
  | .mod, .int i, .int j, S => if 0 < j then some (.int (i % j), S) else none
  | .pow, .int i, .int j, S => if 0 ≤ j ∧ j ≤ 1000000 ∧ i.natAbs < 2 ^ 64 then some (.int (i ^ j.toNat), S) else none
  | _, _, _, _ => none

inductive CO where | eq | ne | lt | le | gt | ge | isIn | notIn
def inW (S : Sto) (x : W) : W → Option Bool
  | .str z => match x with
    | .str [c] => some (decide (c ∈ z))
    | _ => none
  | .ref k => match dat S 60 x, rdL S k with
    | some d, some ys => match dats (dat S 59) ys with
      | some ds => some (ds.any fun z => D.eqv z d)
      | none => none
    | _, _ => none
  | _ => none
def opC (o : CO) (x y : W) (S : Sto) : Option Bool :=
  match o with
  | .eq => eqW S x y
  | .ne => (eqW S x y).map (!·)
  | .isIn => inW S x y
  | .notIn => (inW S x y).map (!·)
  | .lt => match x, y with
    | .int i, .int j => some (decide (i < j))
    | .str i, .str j => some (decide (i < j))
    | _, _ => none
  | .le => match x, y with
    | .int i, .int j => some (decide (i ≤ j))
    | .str i, .str j => some (!decide (j < i))
    | _, _ => none
  | .gt => match x, y with
    | .int i, .int j => some (decide (j < i))
    | _, _ => none
  | .ge => match x, y with
    | .int i, .int j => some (decide (j ≤ i))
    | _, _ => none

/-- the place that an index of any sign means -/
def ixN (n : Nat) (i : Int) : Option Nat := if 0 ≤ i then (if i < n then some i.toNat else none) else if -(n : Int) ≤ i then some (i + n).toNat else none
def atI {α : Type} (xs : List α) (i : Int) : Option α := (ixN xs.length i).bind fun j => xs[j]?
def opIx (x y : W) (S : Sto) : R :=
  match x, y with
  | .str z, .int i => if z.length ≤ LIM then (atI z i).map fun c => (.str [c], S) else none
  | .tup z, .int i => (atI z i).map fun c => (c, S)
  | .ref k, .int i => match rdL S k with
    | some z => (atI z i).map fun c => (c, S)
    | none => none
  | _, _ => none
/-- a slice's bound as a place among n (d where it is left out) -/
def sIx (n d : Nat) : Option Int → Nat
  | none => d
  | some v => if v < 0 then (v + (n : Int)).toNat else min v.toNat n
def cut {α : Type} (xs : List α) (lo hi : Option Int) : List α := (xs.drop (sIx xs.length 0 lo)).take (sIx xs.length xs.length hi - sIx xs.length 0 lo)
def opSl (x : W) (lo hi : Option Int) (S : Sto) : R :=
  match x with
  | .str z => if z.length ≤ LIM then some (.str (cut z lo hi), S) else none
  | .tup z => some (.tup (cut z lo hi), S)
  | .ref k => match rdL S k with
    | some z => new S (cut z lo hi)
    | none => none
  | .rol z => new S (cut z lo hi)
  | _ => none

/-! ### texts rising, each once -/
def insU (x : List Nat) : List (List Nat) → List (List Nat)
  | [] => [x]
  | y :: r => if x < y then x :: y :: r else if y < x then y :: insU x r else y :: r
def sortU (ys : List (List Nat)) : List (List Nat) := ys.foldr insU []
/-! ### built-in functions of values -/
inductive BI where
  | len | abs | tuple | list | all | any | int | isi (t : Nat) | isN | notN | neg | rev | join | tru | sset | maxd | max2 | min2 | sum | maxl | minl | fcat | dget (t : List (List Nat × W)) | popl | popi | zip | iadd | isub | rem | isTr (b : Bool) | enum | revt | dgt
def bls : List W → Option (List Bool)
  | [] => some []
  | .bl b :: r => (bls r).map (b :: ·)
  | _ => none
def txts : List W → Option (List (List Nat))
  | [] => some []
  | .str b :: r => (txts r).map (b :: ·)
  | _ => none
def intsW : List W → Option (List Int)
  | [] => some []
  | .int b :: r => (intsW r).map (b :: ·)
  | _ => none
def maxI : List Int → Int
  | [] => 0
  | [x] => x
  | x :: y :: r => if maxI (y :: r) ≤ x then x else maxI (y :: r)
def minI : List Int → Int
  | [] => 0
  | [x] => x
  | x :: y :: r => if x ≤ minI (y :: r) then x else minI (y :: r)
def zipT : List W → List W → List W
  | x :: a, y :: b => .tup [x, y] :: zipT a b
  | _, _ => []
def enumT : Nat → List W → List W
  | _, [] => []
  | n, x :: a => .tup [.int n, x] :: enumT (n + 1) a
def isTrW (b : Bool) : W → Bool
  | .bl c => b == c
  | _ => false
def seqW (S : Sto) : W → Option (List W)
  | .ref k => rdL S k
  | .tup z => some z
  | _ => none
def atT (t : List (List Nat × W)) (x : List Nat) : W :=
  match t with
  | [] => .non
  | (y, w) :: r => if x = y then w else atT r x
/-- the types by numbers: str 0, int 1, bool 2, tuple 3, list 4 -/
def isT (t : Nat) : W → Bool
  | .non => false
  | .bl _ => t == 2 || t == 1
  | .int _ => t == 1
  | .str _ => t == 0
  | .tup _ => t == 3
  | .ref _ => t == 4
  | .rol _ => t == 4
  | .fn _ => false
  | .dic _ => false
def isFn : W → Bool
  | .fn _ => true
  | .non => false
  | .bl _ => false
  | .int _ => false
  | .str _ => false
  | .tup _ => false
  | .ref _ => false
  | .rol _ => false
  | .dic _ => false
def joinL (sep : List Nat) : List (List Nat) → List Nat
  | [] => []
  | [x] => x
  | x :: r => x ++ sep ++ joinL sep r
def lens : List (List Nat) → Nat
  | [] => 0
  | x :: r => x.length + lens r
def isNon : W → Bool
  | .non => true
  | _ => false
def opI : BI → List W → Sto → R
  | .len, [.str z], S => if z.length ≤ LIM then some (.int z.length, S) else none
  | .len, [.tup z], S => some (.int z.length, S)
  | .len, [.rol z], S => some (.int z.length, S)
  | .len, [.ref k], S => (rdL S k).map fun z => (.int z.length, S)
  | .abs, [.int i], S => some (.int (if i < 0 then -i else i), S)
  | .tuple, [.ref k], S => (rdL S k).map fun z => (.tup z, S)
  | .tuple, [.tup z], S => some (.tup z, S)
  | .list, [.ref k], S => match rdL S k with
    | some z => new S z
    | none => none
  | .list, [.tup z], S => new S z
  | .all, [.ref k], S => match rdL S k with
    | some z => (bls z).map fun bs => (.bl (bs.all id), S)
    | none => none
  | .any, [.ref k], S => match rdL S k with
    | some z => (bls z).map fun bs => (.bl (bs.any id), S)
    | none => none
  | .int, [.int i], S => some (.int i, S)
  | .int, [.bl b], S => some (.int (if b then 1 else 0), S)
  | .isi _, [.fn _], _ => none
  | .isi t, [x], S => some (.bl (isT t x), S)
  | .isN, [x], S => some (.bl (isNon x), S)
  | .notN, [x], S => some (.bl (!isNon x), S)
  | .neg, [.int i], S => some (.int (-i), S)
  | .rev, [.ref k], S => match rdL S k with
    | some z => new S z.reverse
    | none => none
  | .tru, [.non], S => some (.bl false, S)
  | .tru, [.bl b], S => some (.bl b, S)
  | .tru, [.int i], S => some (.bl (i != 0), S)
  | .tru, [.str z], S => if z.length ≤ LIM then some (.bl (!z.isEmpty), S) else none
  | .tru, [.tup z], S => some (.bl (!z.isEmpty), S)
  | .tru, [.ref k], S => (rdL S k).map fun z => (.bl (!z.isEmpty), S)
  | .sset, [.ref k], S => match rdL S k with
    | some z => match txts z with
      | some ys => if ys.length ≤ 60 then new S ((sortU ys).map .str) else none
      | none => none
    | none => none
  | .maxd, [.ref k, .int d], S => match rdL S k with
    | some z => (intsW z).map fun ns => (.int (if ns.isEmpty then d else maxI ns), S)
    | none => none
  | .max2, [.int i, .int j], S => some (.int (if j > i then j else i), S)
  | .min2, [.int i, .int j], S => some (.int (if j < i then j else i), S)
  | .sum, [.ref k], S => match rdL S k with
    | some z => (intsW z).map fun ns => (.int ns.sum, S)
    | none => none
  | .maxl, [.ref k], S => match rdL S k with
    | some z => match intsW z with
      | some ns => if ns.isEmpty then none else some (.int (maxI ns), S)
      | none => none
    | none => none
  | .minl, [.ref k], S => match rdL S k with
    | some z => match intsW z with
      | some ns => if ns.isEmpty then none else some (.int (minI ns), S)
      | none => none
    | none => none
  | .fcat, ws, S => match txts ws with
    | some ys => if lens ys ≤ LIM then some (.str ys.flatten, S) else none
    | none => none
  | .dget t, [.str x], S => some (atT t x, S)
  | .popl, [.ref k], S => match rdL S k with
    | some z => match z.getLast? with
      | some y => some (y, S.set k (.lst z.dropLast))
      | none => none
    | none => none
  | .popi, [.ref k, .int i], S => match rdL S k with
    | some z => match ixN z.length i with
      | some n => match z[n]? with
        | some y => if z.length ≤ LIM then some (y, S.set k (.lst (z.eraseIdx n))) else none
        | none => none
      | none => none
    | none => none
  | .rem, [.ref k, .str x], S => match rdL S k with
    | some z => match txts z with
      | some ys => if x ∈ ys then some (.non, S.set k (.lst ((ys.erase x).map .str))) else none
      | none => none
    | none => none
  | .isTr b, [x], S => some (.bl (isTrW b x), S)
  | .revt, [.tup z], S => some (.tup z.reverse, S)
  | .dgt, [.dic kvs, .str x], S => some (atT kvs x, S)
  | .enum, [a], S => match seqW S a with
    | some x => new S (enumT 0 x)
    | _ => none
  | .iadd, [.int i, .int j], S => some (.int (i + j), S)
  | .iadd, [.str x, .str y], S => if x.length + y.length ≤ LIM then some (.str (x ++ y), S) else none
  | .isub, [.int i, .int j], S => some (.int (i - j), S)
  | .zip, [.tup x, .tup y], S => new S (zipT x y)
  | .join, [.str sep, .ref k], S => match rdL S k with
    | some z => match txts z with
      | some ys => if lens ys + ys.length * sep.length ≤ LIM then some (.str (joinL sep ys), S) else none
      | none => none
    | none => none
  | _, _, _ => none

/-! ### what is walked -/
inductive Src where
  | seq (w : W) | rng (lo : Int) (n : Nat)
def Src.len (S : Sto) : Src → Option Nat
  | .rng _ n => some n
  | .seq (.tup xs) => some xs.length
  | .seq (.str xs) => some xs.length
  | .seq (.ref k) => (rdL S k).map List.length
  | .seq _ => none
def Src.item (S : Sto) (i : Nat) : Src → Option W
  | .rng lo n => if i < n then some (.int (lo + i)) else none
  | .seq (.tup xs) => xs[i]?
  | .seq (.str xs) => xs[i]?.map fun c => .str [c]
  | .seq (.ref k) => (rdL S k).bind (·[i]?)
  | .seq _ => none

/-! ### expressions -/
mutual
inductive CE where
  | var (i : Nat)
  | c (w : W)
  | bin (o : BO) (a b : CE)
  | cmp (o : CO) (a b : CE)
  | chain (o o' : CO) (a b d : CE)
  | and (a b : CE)
  | or (a b : CE)
  | not (a : CE)
  | ite (t a b : CE)
  | tup (es : CEs)
  | lst (es : CEs)
  | ix (a b : CE)
  | sl (a : CE) (l h : CP)
  | call (f : Nat) (es : CEs)
  | callv (f : Nat) (x : List Nat) (j : Nat) (es : CEs)
  | bi (f : BI) (es : CEs)
  | comp (vs : List Nat) (tg : List Nat) (s : CI) (t : CE) (e : CE)
  | dcomp (vs : List Nat) (tg : List Nat) (s : CI) (t : CE) (k e : CE)
inductive CEs where
  | nil | cons (e : CE) (es : CEs)
inductive CP where
  | no | yes (e : CE)
inductive CI where
  | val (e : CE) | rng1 (e : CE) | rng2 (a b : CE) | enum (e : CE) | zip (a b : CE)
end

def wipe (env : Env) : List Nat → Env
  | [] => env
  | i :: r => (wipe env r).set i none
def bindL (env : Env) : List Nat → List W → Option Env
  | [], [] => some env
  | i :: is, x :: xs => bindL (env.set i (some x)) is xs
  | _, _ => none
def bindT (S : Sto) (env : Env) : List Nat → W → Option Env
  | [i], w => some (env.set i (some w))
  | i :: j :: r, .tup xs => bindL env (i :: j :: r) xs
  | i :: j :: r, .ref k => match rdL S k with
    | some xs => bindL env (i :: j :: r) xs
    | none => none
  | _, _ => none
/-- the turns of a comprehension: the turn's own answer is none (left out) or a value -/
def compGo (turn : Nat → Sto → Option (Option W × Sto)) : Nat → Nat → List W → Sto → Option (List W × Sto)
  | _, 0, acc, S => some (acc, S)
  | i, m + 1, acc, S => match turn i S with
    | some (some w, S') => if acc.length < LIM then compGo turn (i + 1) m (acc ++ [w]) S' else none
    | some (none, S') => compGo turn (i + 1) m acc S'
    | none => none

/-- in its place, or at the end -/
def putD (kvs : List (List Nat × W)) (x : List Nat) (w : W) : List (List Nat × W) :=
  if (kvs.any fun p => decide (p.1 = x)) = true then kvs.map (fun p => if p.1 = x then (p.1, w) else p) else kvs ++ [(x, w)]
/-- the turns of a dict's comprehension -/
def dictGo (turn : Nat → Sto → Option (Option (W × W) × Sto)) : Nat → Nat → List (List Nat × W) → Sto → Option (List (List Nat × W) × Sto)
  | _, 0, acc, S => some (acc, S)
  | i, m + 1, acc, S => match turn i S with
    | some (some (.str x, w), S') => if acc.length < LIM then dictGo turn (i + 1) m (putD acc x w) S' else none
    | some (none, S') => dictGo turn (i + 1) m acc S'
    | _ => none

abbrev Fns := Nat → List W → Sto → R
def rngOk (j : Int) : Bool := decide (-(2 ^ 62) ≤ j ∧ j < 2 ^ 62)
mutual
def ev (Φ : Fns) : CE → Env → Sto → R
  | .var i, env, S => match env[i]? with
    | some (some w) => some (w, S)
    | _ => none
  | .c w, _, S => some (w, S)
  | .bin o a b, env, S => match ev Φ a env S with
    | some (x, S1) => match ev Φ b env S1 with
      | some (y, S2) => opB o x y S2
      | none => none
    | none => none
  | .cmp o a b, env, S => match ev Φ a env S with
    | some (x, S1) => match ev Φ b env S1 with
      | some (y, S2) => (opC o x y S2).map fun k => (.bl k, S2)
      | none => none
    | none => none
  | .chain o o' a b d, env, S => match ev Φ a env S with
    | some (x, S1) => match ev Φ b env S1 with
      | some (y, S2) => match opC o x y S2 with
        | some true => match ev Φ d env S2 with
          | some (z, S3) => (opC o' y z S3).map fun k => (.bl k, S3)
          | none => none
        | some false => some (.bl false, S2)
        | none => none
      | none => none
    | none => none
  | .and a b, env, S => match ev Φ a env S with
    | some (.bl true, S1) => ev Φ b env S1
    | some (.bl false, S1) => some (.bl false, S1)
    | _ => none
  | .or a b, env, S => match ev Φ a env S with
    | some (.bl true, S1) => some (.bl true, S1)
    | some (.bl false, S1) => ev Φ b env S1
    | _ => none
  | .not a, env, S => match ev Φ a env S with
    | some (.bl k, S1) => some (.bl (!k), S1)
    | _ => none
  | .ite t a b, env, S => match ev Φ t env S with
    | some (.bl true, S1) => ev Φ a env S1
    | some (.bl false, S1) => ev Φ b env S1
    | _ => none
  | .tup es, env, S => match evs Φ es env S with
    | some (xs, S1) => if xs.length ≤ LIM then some (.tup xs, S1) else none
    | none => none
  | .lst es, env, S => match evs Φ es env S with
    | some (xs, S1) => new S1 xs
    | none => none
  | .ix a b, env, S => match ev Φ a env S with
    | some (x, S1) => match ev Φ b env S1 with
      | some (y, S2) => opIx x y S2
      | none => none
    | none => none
  | .sl a l h, env, S => match ev Φ a env S with
    | some (x, S1) => match evp Φ l env S1 with
      | some (y, S2) => match evp Φ h env S2 with
        | some (z, S3) => opSl x y z S3
        | none => none
      | none => none
    | none => none
  | .call f es, env, S => match evs Φ es env S with
    | some (xs, S1) => Φ f xs S1
    | none => none
  | .callv f x j es, env, S => match env[j]? with
    | some (some (.fn y)) => if y = x then (match evs Φ es env S with
      | some (xs, S1) => Φ f xs S1
      | none => none) else none
    | _ => none
  | .bi f es, env, S => match evs Φ es env S with
    | some (xs, S1) => opI f xs S1
    | none => none
  | .comp vs tg s t e, env, S => match evi Φ s env S with
    | some (J, S1) => match J.len S1 with
      | some n => match compGo (fun i S' => match J.item S' i with
          | some x => match bindT S' (wipe env vs) tg x with
            | some env' => match ev Φ t env' S' with
              | some (.bl true, S2) => match ev Φ e env' S2 with
                | some (w, S3) => some (some w, S3)
                | none => none
              | some (.bl false, S2) => some (none, S2)
              | _ => none
            | none => none
          | none => none) 0 n [] S1 with
        | some (acc, S4) => match J.len S4 with
          | some n' => if n' ≤ n then new S4 acc else none
          | none => none
        | none => none
      | none => none
    | none => none
  | .dcomp vs tg s t k e, env, S => match evi Φ s env S with
    | some (J, S1) => match J.len S1 with
      | some n => match dictGo (fun i S' => match J.item S' i with
          | some x => match bindT S' (wipe env vs) tg x with
            | some env' => match ev Φ t env' S' with
              | some (.bl true, S2) => match ev Φ k env' S2 with
                | some (u, S3) => match ev Φ e env' S3 with
                  | some (w, S4) => some (some (u, w), S4)
                  | none => none
                | none => none
              | some (.bl false, S2) => some (none, S2)
              | _ => none
            | none => none
          | none => none) 0 n [] S1 with
        | some (acc, S4) => match J.len S4 with
          | some n' => if n' ≤ n then some (.dic acc, S4) else none
          | none => none
        | none => none
      | none => none
    | none => none
def evs (Φ : Fns) : CEs → Env → Sto → Option (List W × Sto)
  | .nil, _, S => some ([], S)
  | .cons e es, env, S => match ev Φ e env S with
    | some (x, S1) => match evs Φ es env S1 with
      | some (xs, S2) => some (x :: xs, S2)
      | none => none
    | none => none
def evp (Φ : Fns) : CP → Env → Sto → Option (Option Int × Sto)
  | .no, _, S => some (none, S)
  | .yes e, env, S => match ev Φ e env S with
    | some (.int i, S1) => some (some i, S1)
    | _ => none
def evi (Φ : Fns) : CI → Env → Sto → Option (Src × Sto)
  | .val e, env, S => match ev Φ e env S with
    | some (x, S1) => some (.seq x, S1)
    | none => none
  | .rng1 e, env, S => match ev Φ e env S with
    | some (.int j, S1) => if rngOk j then some (.rng 0 j.toNat, S1) else none
    | _ => none
  | .rng2 a b, env, S => match ev Φ a env S with
    | some (.int i, S1) => match ev Φ b env S1 with
      | some (.int j, S2) => if rngOk i && rngOk j then some (.rng i (j - i).toNat, S2) else none
      | _ => none
    | _ => none
  | .enum e, env, S => match ev Φ e env S with
    | some (.tup z, S1) => some (.seq (.tup (enumT 0 z)), S1)
    | _ => none
  | .zip a b, env, S => match ev Φ a env S with
    | some (.tup x, S1) => match ev Φ b env S1 with
      | some (.tup y, S2) => some (.seq (.tup (zipT x y)), S2)
      | _ => none
    | _ => none
end

/-! ### statements -/
inductive Fl where
  | nx (env : Env) (S : Sto) | rt (w : W) (S : Sto) | bk (env : Env) (S : Sto) | ct (env : Env) (S : Sto)
mutual
inductive CS where
  | set (tg : List Nat) (e : CE)
  | ret (e : CE)
  | expr (e : CE)
  | ifs (t : CE) (a b : CSs)
  | for_ (tg : List Nat) (s : CI) (b : CSs)
  | whl (n : Nat) (t : CE) (b : CSs)
  | setix (o i e : CE)
  | app (o e : CE)
  | ext (o e : CE)
  | ins (o i e : CE)
  | pass | brk | cont | never
inductive CSs where
  | nil | cons (s : CS) (ss : CSs)
end
def forGo (turn : Nat → Env → Sto → Option Fl) : Nat → Nat → Env → Sto → Option Fl
  | _, 0, env, S => some (.nx env S)
  | i, m + 1, env, S => match turn i env S with
    | some (.nx env' S') => forGo turn (i + 1) m env' S'
    | some (.ct env' S') => forGo turn (i + 1) m env' S'
    | some (.bk env' S') => some (.bk env' S')
    | some (.rt w S') => some (.rt w S')
    | none => none
def whlGo (test : Env → Sto → R) (turn : Env → Sto → Option Fl) : Nat → Env → Sto → Option Fl
  | 0, _, _ => none
  | m + 1, env, S => match test env S with
    | some (.bl true, S1) => match turn env S1 with
      | some (.nx env' S') => whlGo test turn m env' S'
      | some (.ct env' S') => whlGo test turn m env' S'
      | some (.bk env' S') => some (.nx env' S')
      | some (.rt w S') => some (.rt w S')
      | none => none
    | some (.bl false, S1) => some (.nx env S1)
    | _ => none
mutual
def ex (Φ : Fns) : CS → Env → Sto → Option Fl
  | .set tg e, env, S => match ev Φ e env S with
    | some (w, S1) => (bindT S1 env tg w).map fun env' => .nx env' S1
    | none => none
  | .ret e, env, S => match ev Φ e env S with
    | some (w, S1) => some (.rt w S1)
    | none => none
  | .expr e, env, S => match ev Φ e env S with
    | some (_, S1) => some (.nx env S1)
    | none => none
  | .ifs t a b, env, S => match ev Φ t env S with
    | some (.bl true, S1) => exs Φ a env S1
    | some (.bl false, S1) => exs Φ b env S1
    | _ => none
  | .for_ tg s b, env, S => match evi Φ s env S with
    | some (J, S1) => match J.len S1 with
      | some n => match forGo (fun i env' S' => match J.item S' i with
          | some x => match bindT S' env' tg x with
            | some env2 => exs Φ b env2 S'
            | none => none
          | none => none) 0 n env S1 with
        | some (.nx env' S4) => match J.len S4 with
          | some n' => if n' ≤ n then some (.nx env' S4) else none
          | none => none
        | some (.bk env' S4) => some (.nx env' S4)
        | r => r
      | none => none
    | none => none
  | .whl n t b, env, S => whlGo (ev Φ t) (exs Φ b) n env S
  | .setix o i e, env, S => match ev Φ e env S with
    | some (w, S1) => match ev Φ o env S1 with
      | some (.ref k, S2) => match ev Φ i env S2 with
        | some (.int j, S3) => match rdM S3 k with
          | some xs => match ixN xs.length j with
            | some n => some (.nx env (S3.set k (.lst (xs.set n w))))
            | none => none
          | none => none
        | _ => none
      | _ => none
    | none => none
  | .app o e, env, S => match ev Φ o env S with
    | some (.ref k, S1) => match ev Φ e env S1 with
      | some (w, S2) => match rdM S2 k with
        | some xs => if xs.length < LIM then some (.nx env (S2.set k (.lst (xs ++ [w])))) else none
        | none => none
      | none => none
    | _ => none
  | .ext o e, env, S => match ev Φ o env S with
    | some (.ref k, S1) => match ev Φ e env S1 with
      | some (y, S2) => match rdM S2 k, seqW S2 y with
        | some xs, some ys => if xs.length + ys.length ≤ LIM then some (.nx env (S2.set k (.lst (xs ++ ys)))) else none
        | _, _ => none
      | _ => none
    | _ => none
  | .ins _ _ _, _, _ => none
  | .pass, env, S => some (.nx env S)
  | .brk, env, S => some (.bk env S)
  | .cont, env, S => some (.ct env S)
  | .never, _, _ => none
def exs (Φ : Fns) : CSs → Env → Sto → Option Fl
  | .nil, env, S => some (.nx env S)
  | .cons s ss, env, S => match ex Φ s env S with
    | some (.nx env' S') => exs Φ ss env' S'
    | r => r
end

/-! ### turns by name -/
def turnC (Φ : Fns) (vs ts : List Nat) (t e : CE) (env : Env) (J : Src) (i : Nat) (S' : Sto) : Option (Option W × Sto) := match J.item S' i with
  | some x => match bindT S' (wipe env vs) ts x with
    | some env' => match ev Φ t env' S' with
      | some (.bl true, S2) => match ev Φ e env' S2 with
        | some (w, S3) => some (some w, S3)
        | none => none
      | some (.bl false, S2) => some (none, S2)
      | _ => none
    | none => none
  | none => none
def turnD (Φ : Fns) (vs ts : List Nat) (t k e : CE) (env : Env) (J : Src) (i : Nat) (S' : Sto) : Option (Option (W × W) × Sto) := match J.item S' i with
  | some x => match bindT S' (wipe env vs) ts x with
    | some env' => match ev Φ t env' S' with
      | some (.bl true, S2) => match ev Φ k env' S2 with
        | some (u, S3) => match ev Φ e env' S3 with
          | some (w, S4) => some (some (u, w), S4)
          | none => none
        | none => none
      | some (.bl false, S2) => some (none, S2)
      | _ => none
    | none => none
  | none => none
def turnF (Φ : Fns) (ts : List Nat) (b : CSs) (J : Src) (i : Nat) (env' : Env) (S' : Sto) : Option Fl := match J.item S' i with
  | some x => match bindT S' env' ts x with
    | some env2 => exs Φ b env2 S'
    | none => none
  | none => none
theorem ev_comp_eq (Φ : Fns) (vs ts : List Nat) (s : CI) (t e : CE) (env : Env) (S : Sto) : ev Φ (.comp vs ts s t e) env S = (match evi Φ s env S with
    | some (J, S1) => match J.len S1 with
      | some n => match compGo (turnC Φ vs ts t e env J) 0 n [] S1 with
        | some (acc, S4) => match J.len S4 with
          | some n' => if n' ≤ n then new S4 acc else none
          | none => none
        | none => none
      | none => none
    | none => none) := by
  simp only [ev]
  rfl
theorem ev_dcomp_eq (Φ : Fns) (vs ts : List Nat) (s : CI) (t k e : CE) (env : Env) (S : Sto) : ev Φ (.dcomp vs ts s t k e) env S = (match evi Φ s env S with
    | some (J, S1) => match J.len S1 with
      | some n => match dictGo (turnD Φ vs ts t k e env J) 0 n [] S1 with
        | some (acc, S4) => match J.len S4 with
          | some n' => if n' ≤ n then some (.dic acc, S4) else none
          | none => none
        | none => none
      | none => none
    | none => none) := by
  simp only [ev]
  rfl
theorem ex_for_eq (Φ : Fns) (ts : List Nat) (s : CI) (b : CSs) (env : Env) (S : Sto) : ex Φ (.for_ ts s b) env S = (match evi Φ s env S with
    | some (J, S1) => match J.len S1 with
      | some n => match forGo (turnF Φ ts b J) 0 n env S1 with
        | some (.nx env' S4) => match J.len S4 with
          | some n' => if n' ≤ n then some (.nx env' S4) else none
          | none => none
        | some (.bk env' S4) => some (.nx env' S4)
        | r => r
      | none => none
    | none => none) := by
  simp only [ex]
  rfl
/-! ### a program: defs by numbers: how many parameters, how many slots, the body -/
structure Def where
  ar : Nat
  sl : Nat
  body : CSs
def start (n : Nat) (ws : List W) : Env := ws.map some ++ List.replicate (n - ws.length) none
def fin : Option Fl → R
  | some (.rt w S) => some (w, S)
  | some (.nx _ S) => some (.non, S)
  | _ => none
def callF (ds : Nat → Option Def) : Nat → Fns
  | 0 => fun _ _ _ => none
  | k + 1 => fun f ws S => match ds f with
    | some d => if ws.length = d.ar then fin (exs (callF ds k) d.body (start d.sl ws) S) else none
    | none => none
end MP
namespace MP
open PySem PySem.Spec PyProof.Rows L2
abbrev Fg := PySem.W.Frag

/-- a list that is only read: frozen, or the module's -/
def FzL (K : Fg) (H : Hp) (a : Addr) (xs : List V) : Prop := (∃ o, H a = some (.frz o (.lst xs))) ∨ ∃ (o : Obj) (its : Array Value) (n : Nat), K.lookup a = some o ∧ o.cls = .type "list" ∧ o.dict = none ∧ o.data = .seq its n ∧ its.size ≤ sizeLine ∧ Vals xs its.toList
theorem FzL.sq {K : Fg} {H : Hp} {a : Addr} {xs : List V} (h : FzL K H a xs) : SqL K H a xs := by
  rcases h with ⟨o, h⟩ | h
  · exact .inl (.inr ⟨o, h⟩)
  · exact .inr h
/-! ### values and what stands for them -/
mutual
inductive VW (K : Fg) (μ : List Addr) (H : Hp) : V → W → Prop
  | non : VW K μ H .non .non
  | bl (b : Bool) : VW K μ H (.bl b) (.bl b)
  | int (i : Int) : VW K μ H (.int i) (.int i)
  | str (x : Str) (l : List Nat) (e : x.cps.toList = l) : VW K μ H (.str x) (.str l)
  | tup {a : Addr} {xs : List V} {ws : List W} : SqT K H a xs → VWs K μ H xs ws → VW K μ H (.ref a) (.tup ws)
  | ref {a : Addr} {k : Nat} : μ[k]? = some a → VW K μ H (.ref a) (.ref k)
  | rol {a : Addr} {xs : List V} {ws : List W} : FzL K H a xs → VWs K μ H xs ws → VW K μ H (.ref a) (.rol ws)
  | fn {a : Addr} (x : Str) (l : List Nat) (e : x.cps.toList = l) : PySem.W.nsIn K mainGlobals x = some (some (.ref a)) → VW K μ H (.ref a) (.fn l)
  | dic {a : Addr} {o : Obj} {ks : List (Key × V)} {ws : List (List Nat × W)} : H a = some (.frz o (.dK ks)) → VWd K μ H ks ws → VW K μ H (.ref a) (.dic ws)
inductive VWs (K : Fg) (μ : List Addr) (H : Hp) : List V → List W → Prop
  | nil : VWs K μ H [] []
  | cons {v : V} {vs : List V} {w : W} {ws : List W} : VW K μ H v w → VWs K μ H vs ws → VWs K μ H (v :: vs) (w :: ws)
inductive VWd (K : Fg) (μ : List Addr) (H : Hp) : List (Key × V) → List (List Nat × W) → Prop
  | nil : VWd K μ H [] []
  | cons {x : Str} {l : List Nat} {v : V} {ks : List (Key × V)} {w : W} {ws : List (List Nat × W)} : x.cps.toList = l → VW K μ H v w → VWd K μ H ks ws → VWd K μ H ((.inr x, v) :: ks) ((l, w) :: ws)
end
/-- what comes later: the store's places and the tuples stay; and all that is tracked outside the store -/
structure Ey (K : Fg) (μ : List Addr) (H : Hp) (μ' : List Addr) (H' : Hp) : Prop where
  pre : ∀ (k : Nat) (a : Addr), μ[k]? = some a → μ'[k]? = some a
  tup : ∀ a xs, SqT K H a xs → SqT K H' a xs
  fz : ∀ a xs, FzL K H a xs → FzL K H' a xs
  dk : ∀ a o ks, H a = some (.frz o (.dK ks)) → H' a = some (.frz o (.dK ks))
structure Ex (K : Fg) (μ : List Addr) (H : Hp) (μ' : List Addr) (H' : Hp) : Prop extends Ey K μ H μ' H' where
  fr : ∀ a o, H a = some o → (∀ k : Nat, μ[k]? ≠ some a) → H' a = some o ∧ ∀ k : Nat, μ'[k]? ≠ some a
section
variable {K : Fg} {μ μ1 μ2 : List Addr} {H H1 H2 : Hp}
theorem Ex.refl : Ex K μ H μ H := ⟨⟨fun _ _ h => h, fun _ _ h => h, fun _ _ h => h, fun _ _ _ h => h⟩, fun _ _ h q => ⟨h, q⟩⟩
theorem Ex.trans (a : Ex K μ H μ1 H1) (b : Ex K μ1 H1 μ2 H2) : Ex K μ H μ2 H2 := ⟨⟨fun k x h => b.pre k x (a.pre k x h), fun k x h => b.tup k x (a.tup k x h), fun k x h => b.fz k x (a.fz k x h), fun k o x h => b.dk k o x (a.dk k o x h)⟩, fun c o h q => b.fr c o (a.fr c o h q).1 (a.fr c o h q).2⟩
mutual
theorem VW.monoY (e : Ey K μ H μ1 H1) : ∀ {v : V} {w : W}, VW K μ H v w → VW K μ1 H1 v w
  | _, _, .non => .non
  | _, _, .bl b => .bl b
  | _, _, .int i => .int i
  | _, _, .str x l q => .str x l q
  | _, _, .tup s h => .tup (e.tup _ _ s) (VWs.monoY e h)
  | _, _, .ref h => .ref (e.pre _ _ h)
  | _, _, .rol s h => .rol (e.fz _ _ s) (VWs.monoY e h)
  | _, _, .fn x l q h => .fn x l q h
  | _, _, .dic s h => .dic (e.dk _ _ _ s) (VWd.monoY e h)
theorem VWs.monoY (e : Ey K μ H μ1 H1) : ∀ {v : List V} {w : List W}, VWs K μ H v w → VWs K μ1 H1 v w
  | _, _, .nil => .nil
  | _, _, .cons h t => .cons (VW.monoY e h) (VWs.monoY e t)
theorem VWd.monoY (e : Ey K μ H μ1 H1) : ∀ {v : List (Key × V)} {w : List (List Nat × W)}, VWd K μ H v w → VWd K μ1 H1 v w
  | _, _, .nil => .nil
  | _, _, .cons q h t => .cons q (VW.monoY e h) (VWd.monoY e t)
end
theorem VWd.mono (e : Ex K μ H μ1 H1) {v : List (Key × V)} {w : List (List Nat × W)} (h : VWd K μ H v w) : VWd K μ1 H1 v w := h.monoY e.toEy
theorem VW.mono (e : Ex K μ H μ1 H1) {v : V} {w : W} (h : VW K μ H v w) : VW K μ1 H1 v w := h.monoY e.toEy
theorem VWs.mono (e : Ex K μ H μ1 H1) {v : List V} {w : List W} (h : VWs K μ H v w) : VWs K μ1 H1 v w := h.monoY e.toEy
theorem VWs.length : ∀ {v : List V} {w : List W}, VWs K μ H v w → v.length = w.length
  | _, _, .nil => rfl
  | _, _, .cons _ t => congrArg (· + 1) (VWs.length t)
theorem VWs.get : ∀ {v : List V} {w : List W} {i : Nat} {x : W}, VWs K μ H v w → w[i]? = some x → ∃ y, v[i]? = some y ∧ VW K μ H y x
  | _, _, _, _, .nil, e => by simp at e
  | _, _, 0, _, .cons h _, e => by simp at e; subst e; exact ⟨_, rfl, h⟩
  | _, _, i + 1, x, .cons _ t, e => by
    obtain ⟨y, h1, h2⟩ := VWs.get (i := i) (x := x) t (by simpa using e)
    exact ⟨y, by simpa using h1, h2⟩
theorem VWs.get' : ∀ {v : List V} {w : List W} {i : Nat} {y : V}, VWs K μ H v w → v[i]? = some y → ∃ x, w[i]? = some x ∧ VW K μ H y x
  | _, _, _, _, .nil, e => by simp at e
  | _, _, 0, _, .cons h _, e => by simp at e; subst e; exact ⟨_, rfl, h⟩
  | _, _, i + 1, x, .cons _ t, e => by
    obtain ⟨y, h1, h2⟩ := VWs.get' (i := i) (y := x) t (by simpa using e)
    exact ⟨y, by simpa using h1, h2⟩
theorem VWs.append : ∀ {v v' : List V} {w w' : List W}, VWs K μ H v w → VWs K μ H v' w' → VWs K μ H (v ++ v') (w ++ w')
  | _, _, _, _, .nil, s => s
  | _, _, _, _, .cons r t, s => .cons r (VWs.append t s)
theorem VWs.drop : ∀ {v : List V} {w : List W} (n : Nat), VWs K μ H v w → VWs K μ H (v.drop n) (w.drop n)
  | _, _, 0, r => r
  | _, _, _ + 1, .nil => .nil
  | _, _, n + 1, .cons _ t => VWs.drop n t
theorem VWs.take : ∀ {v : List V} {w : List W} (n : Nat), VWs K μ H v w → VWs K μ H (v.take n) (w.take n)
  | _, _, 0, _ => .nil
  | _, _, _ + 1, .nil => .nil
  | _, _, n + 1, .cons r t => .cons r (VWs.take n t)
theorem VWs.set {x : V} {y : W} (r : VW K μ H x y) : ∀ {v : List V} {w : List W} (n : Nat), VWs K μ H v w → VWs K μ H (v.set n x) (w.set n y)
  | _, _, _, .nil => .nil
  | _, _, 0, .cons _ t => .cons r t
  | _, _, n + 1, .cons q t => .cons q (VWs.set r n t)
theorem VWs.erase : ∀ {v : List V} {w : List W} (n : Nat), VWs K μ H v w → VWs K μ H (v.eraseIdx n) (w.eraseIdx n)
  | _, _, _, .nil => .nil
  | _, _, 0, .cons _ t => t
  | _, _, n + 1, .cons q t => .cons q (VWs.erase n t)
theorem VWs.reverse : ∀ {v : List V} {w : List W}, VWs K μ H v w → VWs K μ H v.reverse w.reverse
  | _, _, .nil => .nil
  | _, _, .cons r t => by
    rw [List.reverse_cons, List.reverse_cons]
    exact VWs.append (VWs.reverse t) (.cons r .nil)
theorem VWs.rep {v : List V} {w : List W} (h : VWs K μ H v w) : ∀ k : Nat, VWs K μ H (List.replicate k v).flatten (List.replicate k w).flatten
  | 0 => .nil
  | k + 1 => by
    rw [List.replicate_succ, List.replicate_succ, List.flatten_cons, List.flatten_cons]
    exact VWs.append h (VWs.rep h k)
theorem VWs.snoc {v : List V} {w : List W} {x : V} {y : W} (h : VWs K μ H v w) (r : VW K μ H x y) : VWs K μ H (v ++ [x]) (w ++ [y]) := VWs.append h (.cons r .nil)
end

/-! ### the store -/
def SOk (K : Fg) (μ : List Addr) (H : Hp) (a : Addr) : SO → Prop
  | .lst ws => ∃ vs, H a = some (.lst vs) ∧ VWs K μ H vs ws
structure SR (K : Fg) (μ : List Addr) (H : Hp) (S : Sto) : Prop where
  len : μ.length = S.length
  nd : ∀ (i j : Nat) (a : Addr), μ[i]? = some a → μ[j]? = some a → i = j
  at_ : ∀ (k : Nat) (a : Addr) (o : SO), μ[k]? = some a → S[k]? = some o → SOk K μ H a o
section
variable {K : Fg} {μ : List Addr} {H : Hp} {S : Sto}
theorem SR.there (s : SR K μ H S) {k : Nat} {o : SO} (h : S[k]? = some o) : ∃ a, μ[k]? = some a := by
  have h1 : k < S.length := (List.getElem?_eq_some_iff.mp h).1
  have h2 : k < μ.length := by rw [s.len]; exact h1
  exact ⟨μ[k], List.getElem?_eq_getElem h2⟩
theorem SR.back (s : SR K μ H S) {k : Nat} {a : Addr} (h : μ[k]? = some a) : ∃ o, S[k]? = some o := by
  have h1 : k < μ.length := (List.getElem?_eq_some_iff.mp h).1
  have h2 : k < S.length := by rw [← s.len]; exact h1
  exact ⟨S[k], List.getElem?_eq_getElem h2⟩
theorem SR.trk (s : SR K μ H S) {k : Nat} {a : Addr} (h : μ[k]? = some a) : ∃ o, H a = some o ∧ (∀ xs, o ≠ .tup xs) ∧ ∀ ob u, o ≠ .frz ob u := by
  obtain ⟨o, h1⟩ := s.back h
  have q := s.at_ k a o h h1
  cases o with
  | lst ws => obtain ⟨vs, e, _⟩ := q; exact ⟨_, e, fun _ z => (nomatch z), fun _ _ z => (nomatch z)⟩
/-- a list that is read -/
theorem SR.rd (s : SR K μ H S) {k : Nat} {a : Addr} {ws : List W} (h : μ[k]? = some a) (r : rdL S k = some ws) : ∃ vs, SqL K H a vs ∧ VWs K μ H vs ws := by
  obtain ⟨o, h1⟩ := s.back h
  have q := s.at_ k a o h h1
  unfold rdL at r
  rw [h1] at r
  cases o with
  | lst ws' =>
    obtain ⟨vs, e, hv⟩ := q
    cases r
    exact ⟨vs, .inl (.inl e), hv⟩
/-- a list that may be written -/
theorem SR.rm (s : SR K μ H S) {k : Nat} {a : Addr} {ws : List W} (h : μ[k]? = some a) (r : rdM S k = some ws) : S[k]? = some (.lst ws) ∧ ∃ vs, H a = some (.lst vs) ∧ VWs K μ H vs ws := by
  obtain ⟨o, h1⟩ := s.back h
  have q := s.at_ k a o h h1
  unfold rdM rdL at r
  rw [h1] at r
  cases o with
  | lst ws' =>
    cases r
    exact ⟨h1, q⟩
theorem sqT_upd {a p : Addr} {xs : List V} {o : HO} (h : SqT K H a xs) (hp : ∀ u, H p = some u → (∀ xs, u ≠ .tup xs) ∧ ∀ ob z, u ≠ .frz ob z) : SqT K (upd H p o) a xs := by
  rcases h with (h | ⟨ob, h⟩) | h
  · have ne : a ≠ p := fun e => by
      subst e
      exact (hp _ h).1 _ rfl
    exact .inl (.inl (by rw [upd_ne ne]; exact h))
  · have ne : a ≠ p := fun e => by
      subst e
      exact (hp _ h).2 _ _ rfl
    exact .inl (.inr ⟨ob, by rw [upd_ne ne]; exact h⟩)
  · exact .inr h
theorem fz_upd {a p : Addr} {xs : List V} {o : HO} (h : FzL K H a xs) (hp : ∀ u, H p = some u → (∀ xs, u ≠ .tup xs) ∧ ∀ ob z, u ≠ .frz ob z) : FzL K (upd H p o) a xs := by
  rcases h with ⟨ob, h⟩ | h
  · have ne : a ≠ p := fun e => by
      subst e
      exact (hp _ h).2 _ _ rfl
    exact .inl ⟨ob, by rw [upd_ne ne]; exact h⟩
  · exact .inr h
theorem dk_upd {a p : Addr} {ob : Obj} {ks : List (Key × V)} {o : HO} (h : H a = some (.frz ob (.dK ks))) (hp : ∀ u, H p = some u → ∀ ob z, u ≠ .frz ob z) : upd H p o a = some (.frz ob (.dK ks)) := by
  have ne : a ≠ p := fun e => by
    subst e
    exact hp _ h _ _ rfl
  rw [upd_ne ne]; exact h
theorem ey_upd {p : Addr} {o : HO} (hp : ∀ u, H p = some u → (∀ xs, u ≠ .tup xs) ∧ ∀ ob z, u ≠ .frz ob z) : Ey K μ H μ (upd H p o) := ⟨fun _ _ h => h, fun _ _ h => sqT_upd h hp, fun _ _ h => fz_upd h hp, fun _ _ _ h => dk_upd h fun u e => (hp u e).2⟩
theorem ex_fresh {p : Addr} {o : HO} (hp : H p = none) : Ex K μ H μ (upd H p o) := ⟨ey_upd (fun u e => by rw [hp] at e; cases e), fun a u h q => ⟨by rw [upd_ne (ne_of_none h hp)]; exact h, q⟩⟩
/-- something new that the store does not hold -/
theorem SR.fresh (s : SR K μ H S) {p : Addr} {o : HO} (hp : H p = none) : SR K μ (upd H p o) S := by
  refine ⟨s.len, s.nd, fun k a so h1 h2 => ?_⟩
  have q := s.at_ k a so h1 h2
  have ne : a ≠ p := fun e => by
    obtain ⟨u, hu, _⟩ := s.trk h1
    rw [e, hp] at hu
    cases hu
  cases so with
  | lst ws => obtain ⟨vs, e, hv⟩ := q; exact ⟨vs, by rw [upd_ne ne]; exact e, hv.mono (ex_fresh hp)⟩
theorem ey_snoc {p : Addr} : Ey K μ H (μ ++ [p]) H := ⟨fun k a h => by
    rw [List.getElem?_append_left (List.getElem?_eq_some_iff.mp h).1]
    exact h, fun _ _ h => h, fun _ _ h => h, fun _ _ _ h => h⟩
theorem snoc_cases {p : Addr} (i : Nat) (a : Addr) (h : (μ ++ [p])[i]? = some a) : (μ[i]? = some a ∧ i < μ.length) ∨ (i = μ.length ∧ a = p) := by
  by_cases hi : i < μ.length
  · rw [List.getElem?_append_left hi] at h
    exact .inl ⟨h, hi⟩
  · have h3 := (List.getElem?_eq_some_iff.mp h).1
    rw [List.length_append, List.length_singleton] at h3
    have e : i = μ.length := by omega
    subst e
    rw [List.getElem?_append_right (Nat.le_refl _), Nat.sub_self] at h
    exact .inr ⟨rfl, (Option.some.inj h).symm⟩
/-- from ahead of p's making: p comes into the store -/
theorem Ex.snoc {μ1 : List Addr} {H1 : Hp} {p : Addr} (e : Ex K μ1 H1 μ H) (hp : H1 p = none) : Ex K μ1 H1 (μ ++ [p]) H := ⟨⟨fun k a h => ey_snoc (K := K) (H := H) |>.pre k a (e.pre k a h), e.tup, e.fz, e.dk⟩, fun a o h q => ⟨(e.fr a o h q).1, fun k z => by
  rcases snoc_cases k a z with ⟨z1, _⟩ | ⟨_, z1⟩
  · exact (e.fr a o h q).2 k z1
  · subst z1
    rw [hp] at h
    cases h⟩⟩
/-- from ahead of p's making: p is changed -/
theorem Ex.mut {μ1 : List Addr} {H1 : Hp} {p : Addr} {o : HO} (e : Ex K μ1 H1 μ H) (hp : H1 p = none) : Ex K μ1 H1 μ (upd H p o) := ⟨⟨e.pre, fun a xs h => by
  rcases h with (h | ⟨ob, h⟩) | h
  · have q := e.tup a xs (.inl (.inl h))
    rcases q with (q | ⟨ob, q⟩) | q
    · exact .inl (.inl (by rw [upd_ne (ne_of_none h hp)]; exact q))
    · exact .inl (.inr ⟨ob, by rw [upd_ne (ne_of_none h hp)]; exact q⟩)
    · exact .inr q
  · have q := e.tup a xs (.inl (.inr ⟨ob, h⟩))
    rcases q with (q | ⟨ob, q⟩) | q
    · exact .inl (.inl (by rw [upd_ne (ne_of_none h hp)]; exact q))
    · exact .inl (.inr ⟨ob, by rw [upd_ne (ne_of_none h hp)]; exact q⟩)
    · exact .inr q
  · exact .inr h, fun a xs h => by
  rcases h with ⟨ob, h⟩ | h
  · have q := e.fz a xs (.inl ⟨ob, h⟩)
    rcases q with ⟨ob, q⟩ | q
    · exact .inl ⟨ob, by rw [upd_ne (ne_of_none h hp)]; exact q⟩
    · exact .inr q
  · exact .inr h, fun a o' ks h => by rw [upd_ne (ne_of_none h hp)]; exact e.dk a o' ks h⟩, fun a u h q => ⟨by rw [upd_ne (ne_of_none h hp)]; exact (e.fr a u h q).1, (e.fr a u h q).2⟩⟩
theorem ex_new {p : Addr} {o : HO} (hp : H p = none) : Ex K μ H (μ ++ [p]) (upd H p o) := (ex_fresh hp).snoc hp
/-- a new list of the store -/
theorem SR.new (s : SR K μ H S) {p : Addr} {vs : List V} {ws : List W} (hp : H p = none) (hv : VWs K μ H vs ws) : SR K (μ ++ [p]) (upd H p (.lst vs)) (S ++ [.lst ws]) := by
  have s2 := s.fresh (o := .lst vs) hp
  have e2 : Ey K μ (upd H p (.lst vs)) (μ ++ [p]) (upd H p (.lst vs)) := ey_snoc
  have np : ∀ i : Nat, μ[i]? ≠ some p := fun i h => by
    obtain ⟨u, hu, _⟩ := s.trk h
    rw [hp] at hu
    cases hu
  refine ⟨by rw [List.length_append, List.length_append, s.len]; rfl, fun i j a hi hj => ?_, fun k a so h1 h2 => ?_⟩
  · rcases snoc_cases i a hi with ⟨h1, l1⟩ | ⟨h1, l1⟩
    · rcases snoc_cases j a hj with ⟨h2, l2⟩ | ⟨h2, l2⟩
      · exact s.nd i j a h1 h2
      · rw [l2] at h1; exact absurd h1 (np i)
    · rcases snoc_cases j a hj with ⟨h2, l2⟩ | ⟨h2, l2⟩
      · rw [l1] at h2; exact absurd h2 (np j)
      · omega
  · rcases snoc_cases k a h1 with ⟨h3, l3⟩ | ⟨h3, l3⟩
    · rw [List.getElem?_append_left (by rw [← s.len]; exact l3)] at h2
      have q := s2.at_ k a so h3 h2
      cases so with
      | lst ws => obtain ⟨vs, e, hv⟩ := q; exact ⟨vs, e, hv.monoY e2⟩
    · subst h3
      subst l3
      rw [s.len, List.getElem?_append_right (Nat.le_refl _), Nat.sub_self] at h2
      cases h2
      exact ⟨vs, upd_same, (hv.mono (ex_fresh hp)).monoY e2⟩
theorem SR.newRef (s : SR K μ H S) {p : Addr} : VW K (μ ++ [p]) H (.ref p) (.ref S.length) := .ref (by
  rw [← s.len, List.getElem?_append_right (Nat.le_refl _), Nat.sub_self]
  rfl)
/-- a list of the store is written -/
theorem SR.write (s : SR K μ H S) {k : Nat} {a : Addr} {vs : List V} {ws ws0 : List W} (hk : μ[k]? = some a) (h0 : S[k]? = some (.lst ws0)) (hv : VWs K μ H vs ws) : SR K μ (upd H a (.lst vs)) (S.set k (.lst ws)) ∧ Ex K μ H μ (upd H a (.lst vs)) := by
  have ee : Ex K μ H μ (upd H a (.lst vs)) := ⟨ey_upd (fun u e => by
    obtain ⟨u', e', h1, h2⟩ := s.trk hk
    rw [e] at e'
    cases e'
    exact ⟨h1, h2⟩), fun b u h q => ⟨by
      have ne : b ≠ a := fun z => by
        subst z
        exact q k hk
      rw [upd_ne ne]
      exact h, q⟩⟩
  refine ⟨⟨by rw [List.length_set]; exact s.len, s.nd, fun j b so h1 h2 => ?_⟩, ee⟩
  by_cases e : j = k
  · subst e
    rw [hk] at h1
    cases h1
    rw [List.getElem?_set_self (List.getElem?_eq_some_iff.mp h0).1] at h2
    cases h2
    exact ⟨vs, upd_same, hv.mono ee⟩
  · rw [List.getElem?_set_ne (Ne.symm e)] at h2
    have ne : b ≠ a := fun q => by
      subst q
      exact e (s.nd j k b h1 hk)
    have q := s.at_ j b so h1 h2
    cases so with
    | lst ws => obtain ⟨vs', e', hv'⟩ := q; exact ⟨vs', by rw [upd_ne ne]; exact e', hv'.mono ee⟩
/-- a list outside the store is changed -/
theorem SR.other (s : SR K μ H S) {p : Addr} {xs ys : List V} (hp : H p = some (.lst xs)) (hn : ∀ k : Nat, μ[k]? ≠ some p) : SR K μ (upd H p (.lst ys)) S ∧ Ey K μ H μ (upd H p (.lst ys)) := by
  have ee : Ey K μ H μ (upd H p (.lst ys)) := ey_upd fun u e => by
    rw [hp] at e
    cases e
    exact ⟨fun _ z => (nomatch z), fun _ _ z => (nomatch z)⟩
  refine ⟨⟨s.len, s.nd, fun k a so h1 h2 => ?_⟩, ee⟩
  have q := s.at_ k a so h1 h2
  have ne : a ≠ p := fun e => by
    subst e
    exact hn k h1
  cases so with
  | lst ws => obtain ⟨vs, e, hv⟩ := q; exact ⟨vs, by rw [upd_ne ne]; exact e, hv.monoY ee⟩
/-- a list outside the store comes into it -/
theorem SR.adopt (s : SR K μ H S) {p : Addr} {vs : List V} {ws : List W} (hp : H p = some (.lst vs)) (hn : ∀ k : Nat, μ[k]? ≠ some p) (hv : VWs K μ H vs ws) : SR K (μ ++ [p]) H (S ++ [.lst ws]) := by
  have e2 : Ey K μ H (μ ++ [p]) H := ey_snoc
  refine ⟨by rw [List.length_append, List.length_append, s.len]; rfl, fun i j a hi hj => ?_, fun k a so h1 h2 => ?_⟩
  · rcases snoc_cases i a hi with ⟨h1, l1⟩ | ⟨h1, l1⟩
    · rcases snoc_cases j a hj with ⟨h2, l2⟩ | ⟨h2, l2⟩
      · exact s.nd i j a h1 h2
      · rw [l2] at h1; exact absurd h1 (hn i)
    · rcases snoc_cases j a hj with ⟨h2, l2⟩ | ⟨h2, l2⟩
      · rw [l1] at h2; exact absurd h2 (hn j)
      · omega
  · rcases snoc_cases k a h1 with ⟨h3, l3⟩ | ⟨h3, l3⟩
    · rw [List.getElem?_append_left (by rw [← s.len]; exact l3)] at h2
      have q := s.at_ k a so h3 h2
      cases so with
      | lst ws => obtain ⟨vs, e, hv⟩ := q; exact ⟨vs, e, hv.monoY e2⟩
    · subst h3
      subst l3
      rw [s.len, List.getElem?_append_right (Nat.le_refl _), Nat.sub_self] at h2
      cases h2
      exact ⟨vs, hp, hv.monoY e2⟩
end

/-! ### slots -/
def ER (K : Fg) (μ : List Addr) (H : Hp) (σ : L2.St) (env : Env) : Prop := σ.length = env.length ∧ ∀ (i : Nat) w, env[i]? = some (some w) → ∃ v, σ[i]? = some (some v) ∧ VW K μ H v w
section
variable {K : Fg} {μ μ1 : List Addr} {H H1 : Hp} {σ : L2.St} {env : Env}
theorem ER.monoY (e : Ey K μ H μ1 H1) (h : ER K μ H σ env) : ER K μ1 H1 σ env := ⟨h.1, fun i w q => by
  obtain ⟨v, h1, h2⟩ := h.2 i w q
  exact ⟨v, h1, h2.monoY e⟩⟩
theorem ER.mono (e : Ex K μ H μ1 H1) (h : ER K μ H σ env) : ER K μ1 H1 σ env := h.monoY e.toEy
theorem ER.set (h : ER K μ H σ env) (i : Nat) {v : V} {w : W} (r : VW K μ H v w) : ER K μ H (σ.set i (some v)) (env.set i (some w)) := by
  refine ⟨by rw [List.length_set, List.length_set]; exact h.1, fun j x q => ?_⟩
  by_cases e : i = j
  · subst e
    by_cases hl : i < env.length
    · rw [List.getElem?_set_self hl] at q
      cases q
      rw [List.getElem?_set_self (by rw [h.1]; exact hl)]
      exact ⟨v, rfl, r⟩
    · rw [List.getElem?_eq_none (by rw [List.length_set]; omega)] at q
      cases q
  · rw [List.getElem?_set_ne e] at q
    rw [List.getElem?_set_ne e]
    exact h.2 j x q
theorem ER.clear (h : ER K μ H σ env) (i : Nat) : ER K μ H (σ.set i none) (env.set i none) := by
  refine ⟨by rw [List.length_set, List.length_set]; exact h.1, fun j x q => ?_⟩
  by_cases e : i = j
  · subst e
    by_cases hl : i < env.length
    · rw [List.getElem?_set_self hl] at q
      cases q
    · rw [List.getElem?_eq_none (by rw [List.length_set]; omega)] at q
      cases q
  · rw [List.getElem?_set_ne e] at q
    rw [List.getElem?_set_ne e]
    exact h.2 j x q
theorem ER.wipe (h : ER K μ H σ env) : ∀ vs : List Nat, ER K μ H (L2.wipe σ vs) (MP.wipe env vs)
  | [] => h
  | v :: vs => (ER.wipe h vs).clear v
end
theorem wipe_get (σ : L2.St) : ∀ (vs : List Nat) (j : Nat), (L2.wipe σ vs)[j]? = if j ∈ vs then (σ[j]?).map (fun _ => none) else σ[j]?
  | [], j => by simp [L2.wipe]
  | v :: vs, j => by
    unfold L2.wipe
    by_cases e : v = j
    · subst e
      rw [List.getElem?_set_self', wipe_get σ vs v]
      by_cases h : v ∈ vs
      · simp [h]
        rfl
      · simp [h]
        rfl
    · rw [List.getElem?_set_ne e, wipe_get σ vs j]
      have : j ∈ v :: vs ↔ j ∈ vs := by
        rw [List.mem_cons]
        exact ⟨fun q => q.elim (fun z => absurd z.symm e) id, .inr⟩
      simp only [this]
theorem wipe_same {σ σ' : L2.St} {vs tg : List Nat} (hl : σ'.length = σ.length) (ht : ∀ i ∈ tg, i ∈ vs) (h : ∀ i, i ∉ tg → σ'[i]? = (L2.wipe σ vs)[i]?) : L2.wipe σ' vs = L2.wipe σ vs := by
  apply List.ext_getElem?
  intro j
  rw [wipe_get, wipe_get]
  by_cases e : j ∈ vs
  · rw [if_pos e, if_pos e]
    by_cases q : j < σ.length
    · rw [List.getElem?_eq_getElem q, List.getElem?_eq_getElem (by omega)]
      rfl
    · rw [List.getElem?_eq_none (by omega), List.getElem?_eq_none (by omega)]
  · rw [if_neg e, if_neg e, h j (fun q => e (ht j q)), wipe_get, if_neg e]
end MP
namespace MP
open PySem PySem.Spec PyProof.Rows L2

theorem lim_ok {n : Nat} (h : n ≤ LIM) : n ≤ sizeLine := Nat.le_trans h (by decide)
theorem lim_lt {n : Nat} (h : n < LIM) : n < sizeLine := Nat.lt_of_lt_of_le h (by decide)
theorem str_len {x : Str} {l : List Nat} (e : x.cps.toList = l) : x.length = l.length := by
  rw [← e]
  show x.cps.size = x.cps.toList.length
  simp

/-- what is wanted behind: any later state that stands for it -/
def Aft (K : Fg) (μ : List Addr) (H : Hp) (S' : Sto) (w : W) (Q : VK) : Prop := ∀ v μ' H', Ex K μ H μ' H' → SR K μ' H' S' → VW K μ' H' v w → Q v H'
theorem Aft.mono {K : Fg} {μ μ1 : List Addr} {H H1 : Hp} {S' : Sto} {w : W} {Q : VK} (e : Ex K μ H μ1 H1) (a : Aft K μ H S' w Q) : Aft K μ1 H1 S' w Q := fun v μ' H' e' s r => a v μ' H' (e.trans e') s r
/-- a two-place operation on values is sound -/
def OpS (K : Fg) (f : W → W → Sto → R) (r : R2) : Prop := ∀ μ H S x y w S' vx vy Q, SR K μ H S → VW K μ H vx x → VW K μ H vy y → f x y S = some (w, S') → Aft K μ H S' w Q → r vx vy H Q
section
variable {K : Fg} {μ : List Addr} {H : Hp} {S S' : Sto} {w : W} {Q : VK}
theorem Aft.now (s : SR K μ H S) {v : V} (r : VW K μ H v w) (a : Aft K μ H S w Q) : Q v H := a v μ H .refl s r
/-- a new list -/
theorem Aft.new {vs : List V} {ws : List W} (s : SR K μ H S) (hv : VWs K μ H vs ws) (e : new S ws = some (w, S')) (a : Aft K μ H S' w Q) : vs.length ≤ sizeLine ∧ ∀ p, H p = none → Q (.ref p) (upd H p (.lst vs)) := by
  unfold MP.new at e
  split at e
  · rename_i hl
    cases e
    refine ⟨by rw [hv.length]; exact lim_ok hl, fun p hp => ?_⟩
    exact a _ (μ ++ [p]) _ (ex_new hp) (s.new hp hv) (.ref (by
      rw [← s.len, List.getElem?_append_right (Nat.le_refl _), Nat.sub_self]
      rfl))
  · cases e
/-- a new tuple -/
theorem Aft.tup {vs : List V} {ws : List W} (s : SR K μ H S) (hv : VWs K μ H vs ws) (a : Aft K μ H S (.tup ws) Q) : ∀ p, H p = none → Q (.ref p) (upd H p (.tup vs)) := fun p hp =>
  a _ μ _ (ex_fresh hp) (s.fresh hp) (.tup (.inl (.inl upd_same)) (hv.mono (ex_fresh hp)))
end

/-! ### == -/
mutual
def D.py : D → PyData
  | .non => .none
  | .bl b => .bool b
  | .int i => .int i
  | .str x => .str ⟨x.toArray⟩
  | .lst xs => .list (D.pys xs)
  | .tup xs => .tuple (D.pys xs)
def D.pys : List D → List PyData
  | [] => []
  | d :: ds => D.py d :: D.pys ds
end
theorem str_beq (x y : List Nat) : ((⟨x.toArray⟩ : Str) == (⟨y.toArray⟩ : Str)) = (x == y) := by
  by_cases h : x = y
  · subst h
    simp
  · have h2 : ¬ ((⟨x.toArray⟩ : Str) = (⟨y.toArray⟩ : Str)) := fun q => h (by
      injection q with q
      simpa using congrArg Array.toList q)
    rw [beq_eq_false_iff_ne.mpr h, beq_eq_false_iff_ne.mpr h2]
mutual
theorem eqv_py : ∀ d e : D, PyData.eqv d.py e.py = D.eqv d e
  | .non, e => by cases e <;> simp [D.py, D.eqv, PyData.eqv]
  | .bl b, e => by cases e <;> simp [D.py, D.eqv, PyData.eqv]
  | .int i, e => by cases e <;> simp [D.py, D.eqv, PyData.eqv]
  | .str x, e => by cases e <;> simp [D.py, D.eqv, PyData.eqv, str_beq]
  | .lst xs, e => by
    cases e with
    | lst ys => simp only [D.py, D.eqv, PyData.eqv]; exact eqv_pys xs ys
    | _ => simp [D.py, D.eqv, PyData.eqv]
  | .tup xs, e => by
    cases e with
    | tup ys => simp only [D.py, D.eqv, PyData.eqv]; exact eqv_pys xs ys
    | _ => simp [D.py, D.eqv, PyData.eqv]
theorem eqv_pys : ∀ d e : List D, PyData.eqvAll (D.pys d) (D.pys e) = D.eqvs d e
  | [], e => by cases e <;> simp [D.pys, D.eqvs, PyData.eqvAll]
  | d :: ds, e => by
    cases e with
    | nil => simp [D.pys, D.eqvs, PyData.eqvAll]
    | cons e es => simp only [D.pys, D.eqvs, PyData.eqvAll, eqv_py d e, eqv_pys ds es]
end
theorem any_pys (e : D) : ∀ ds : List D, ((D.pys ds).any fun z => PyData.eqv z e.py) = ds.any fun z => D.eqv z e
  | [] => rfl
  | d :: ds => by
    show (PyData.eqv d.py e.py || (D.pys ds).any _) = (D.eqv d e || ds.any _)
    rw [eqv_py, any_pys e ds]
section
variable {K : Fg} {μ : List Addr} {H : Hp} {S : Sto}
theorem str_eta {x : Str} {l : List Nat} (e : x.cps.toList = l) : x = ⟨l.toArray⟩ := by
  subst e
  cases x
  simp
theorem dats_lay {f : W → Option D} {n : Nat} (hf : ∀ w d, f w = some d → d.py.canLay0 = true ∧ d.py.depth ≤ n) : ∀ {ws : List W} {ds : List D}, dats f ws = some ds → PyData.canLayAll0 (D.pys ds) = true ∧ PyData.depthAll (D.pys ds) ≤ n
  | [], ds, h => by
    cases h
    simp [D.pys, PyData.canLayAll0, PyData.depthAll]
  | w :: ws, ds, h => by
    unfold dats at h
    split at h
    · rename_i d ds' h1 h2
      cases h
      obtain ⟨a1, a2⟩ := hf _ _ h1
      obtain ⟨b1, b2⟩ := dats_lay hf h2
      simp only [D.pys, PyData.canLayAll0, PyData.depthAll, a1, b1, Bool.and_self, true_and]
      omega
    · cases h
theorem dat_lay : ∀ (n : Nat) (w : W) (d : D), dat S n w = some d → d.py.canLay0 = true ∧ d.py.depth ≤ n
  | n, .non, d, h => by
    have e : d = .non := by cases n <;> (simp only [dat] at h; cases h; rfl)
    subst e
    simp [D.py, PyData.canLay0, PyData.depth]
  | n, .bl b, d, h => by
    have e : d = .bl b := by cases n <;> (simp only [dat] at h; cases h; rfl)
    subst e
    simp [D.py, PyData.canLay0, PyData.depth]
  | n, .int i, d, h => by
    have e : d = .int i := by cases n <;> (simp only [dat] at h; cases h; rfl)
    subst e
    simp [D.py, PyData.canLay0, PyData.depth]
  | n, .str x, d, h => by
    have e : (x.all fun c => decide (c < 1114112)) = true ∧ d = .str x := by
      cases n <;>
      · simp only [dat] at h
        split at h
        · rename_i hx
          cases h
          exact ⟨hx, rfl⟩
        · cases h
    obtain ⟨hx, e⟩ := e
    subst e
    refine ⟨?_, by simp [D.py, PyData.depth]⟩
    simp only [D.py, PyData.canLay0, PyData.strOk]
    rw [← Array.all_toList]
    simpa using hx
  | 0, .tup xs, d, h => by simp [dat] at h
  | 0, .ref k, d, h => by simp [dat] at h
  | n, .rol xs, d, h => by cases n <;> simp [dat] at h
  | n, .fn xs, d, h => by cases n <;> simp [dat] at h
  | n, .dic xs, d, h => by cases n <;> simp [dat] at h
  | n + 1, .tup xs, d, h => by
    simp only [dat, Option.map_eq_some_iff] at h
    obtain ⟨ds, h1, h2⟩ := h
    subst h2
    obtain ⟨a1, a2⟩ := dats_lay (n := n) (fun w d q => dat_lay n w d q) h1
    simp only [D.py, PyData.canLay0, PyData.depth]
    exact ⟨a1, by omega⟩
  | n + 1, .ref k, d, h => by
    simp only [dat] at h
    split at h
    · rename_i xs _
      simp only [Option.map_eq_some_iff] at h
      obtain ⟨ds, h1, h2⟩ := h
      subst h2
      obtain ⟨a1, a2⟩ := dats_lay (n := n) (fun w d q => dat_lay n w d q) h1
      simp only [D.py, PyData.canLay0, PyData.depth]
      exact ⟨a1, by omega⟩
    · cases h
theorem dat_shaped {n : Nat} {w : W} {d : D} (hn : n ≤ 60) (h : dat S n w = some d) : SeqAt.shaped d.py = true := by
  obtain ⟨h1, h2⟩ := dat_lay n w d h
  unfold SeqAt.shaped
  rw [h1, decide_eq_true (by omega)]
  rfl
theorem dats_dp {f : W → Option D} (hf : ∀ v w d, f w = some d → VW K μ H v w → Dp K H v d.py) : ∀ {vs : List V} {ws : List W} {ds : List D}, dats f ws = some ds → VWs K μ H vs ws → DpAll K H vs (D.pys ds)
  | _, [], ds, h, hv => by
    cases hv
    cases h
    exact .nil
  | _, w :: ws, ds, h, hv => by
    cases hv with
    | cons r t =>
      unfold dats at h
      split at h
      · rename_i d ds' h1 h2
        cases h
        exact .cons (hf _ _ _ h1 r) (dats_dp hf h2 t)
      · cases h
theorem dat_dp (s : SR K μ H S) : ∀ (n : Nat) (v : V) (w : W) (d : D), dat S n w = some d → VW K μ H v w → Dp K H v d.py
  | n, v, .non, d, h, r => by
    have e : d = .non := by cases n <;> (simp only [dat] at h; cases h; rfl)
    subst e
    cases r
    exact .non
  | n, v, .bl b, d, h, r => by
    have e : d = .bl b := by cases n <;> (simp only [dat] at h; cases h; rfl)
    subst e
    cases r
    exact .bl b
  | n, v, .int i, d, h, r => by
    have e : d = .int i := by cases n <;> (simp only [dat] at h; cases h; rfl)
    subst e
    cases r
    exact .int i
  | n, v, .str x, d, h, r => by
    have e : d = .str x := by
      cases n <;>
      · simp only [dat] at h
        split at h
        · cases h
          rfl
        · cases h
    subst e
    cases r with
    | str z _ q =>
      have e2 := str_eta q
      subst e2
      exact .str _
  | 0, v, .tup xs, d, h, r => by simp [dat] at h
  | 0, v, .ref k, d, h, r => by simp [dat] at h
  | n, v, .rol xs, d, h, r => by cases n <;> simp [dat] at h
  | n, v, .fn xs, d, h, r => by cases n <;> simp [dat] at h
  | n, v, .dic xs, d, h, r => by cases n <;> simp [dat] at h
  | n + 1, v, .tup xs, d, h, r => by
    simp only [dat, Option.map_eq_some_iff] at h
    obtain ⟨ds, h1, h2⟩ := h
    subst h2
    cases r with
    | tup q t => exact .tup q (dats_dp (fun v w d a b => dat_dp s n v w d a b) h1 t)
  | n + 1, v, .ref k, d, h, r => by
    simp only [dat] at h
    split at h
    · rename_i xs hx
      simp only [Option.map_eq_some_iff] at h
      obtain ⟨ds, h1, h2⟩ := h
      subst h2
      cases r with
      | ref hk =>
        obtain ⟨vs, q, t⟩ := s.rd hk hx
        exact .lst q (dats_dp (fun v w d a b => dat_dp s n v w d a b) h1 t)
    · cases h
end
def rEqA (K : Fg) : R2 := fun x y H Q => rEq x y H Q ∨ rEqD K x y H Q
def rNeA (K : Fg) : R2 := fun x y H Q => rNe x y H Q ∨ rNeD K x y H Q
theorem op_eqA {X : Cx} (hu : X.A.units + 64 < cLine) : OpR X (compareOp .Eq) (rEqA X.K) := OpR.or op_eq (op_eqD hu)
theorem op_neA {X : Cx} (hu : X.A.units + 64 < cLine) : OpR X (compareOp .NotEq) (rNeA X.K) := OpR.or op_ne (op_neD hu)
theorem dec_str2 {x y : Str} {l m : List Nat} (e : x.cps.toList = l) (e' : y.cps.toList = m) : decide (V.str x = V.str y) = decide (l = m) := by
  subst e e'
  by_cases h : x = y
  · subst h
    simp
  · have h1 : ¬ V.str x = V.str y := fun q => h (V.str.inj q)
    have h2 : ¬ x.cps.toList = y.cps.toList := fun q => h (by
      cases x
      cases y
      simp only [Str.mk.injEq]
      exact Array.ext' q)
    rw [decide_eq_false h1, decide_eq_false h2]
/-- what the two rules give -/
theorem eqW_ok {K : Fg} {μ : List Addr} {H : Hp} {S : Sto} {x y : W} {vx vy : V} {k : Bool} (s : SR K μ H S) (rx : VW K μ H vx x) (ry : VW K μ H vy y) (h : eqW S x y = some k) :
    (scal vx vy = true ∧ decide (vx = vy) = k) ∨ ∃ d e, Dp K H vx d ∧ Dp K H vy e ∧ SeqAt.shaped d = true ∧ SeqAt.shaped e = true ∧ PyData.eqv d e = k := by
  have gen : (match dat S 60 x, dat S 60 y with | some d, some e => some (D.eqv d e) | _, _ => none) = some k → ∃ d e, Dp K H vx d ∧ Dp K H vy e ∧ SeqAt.shaped d = true ∧ SeqAt.shaped e = true ∧ PyData.eqv d e = k := by
    intro h
    split at h
    · rename_i d e h1 h2
      cases h
      exact ⟨d.py, e.py, dat_dp s 60 _ _ _ h1 rx, dat_dp s 60 _ _ _ h2 ry, dat_shaped (Nat.le_refl _) h1, dat_shaped (Nat.le_refl _) h2, eqv_py d e⟩
    · cases h
  cases x <;> cases y <;> first
    | (right; exact gen h)
    | (cases rx; cases ry; simp only [eqW] at h; cases h; refine .inl ⟨rfl, ?_⟩; simp; done)
    | (cases rx; cases ry; rename_i a b c d; simp only [eqW] at h; cases h; exact .inl ⟨rfl, dec_str2 (by assumption) (by assumption)⟩)
theorem os_eq {K : Fg} : OpS K (fun x y S => (opC .eq x y S).map fun k => (.bl k, S)) (rEqA K) := by
  intro μ H S x y w S' vx vy Q s rx ry h a
  simp only [opC, Option.map_eq_some_iff] at h
  obtain ⟨k, h1, h2⟩ := h
  cases h2
  rcases eqW_ok s rx ry h1 with ⟨q1, q2⟩ | ⟨d, e, q1, q2, q3, q4, q5⟩
  · subst q2
    exact .inl ⟨q1, a.now s (.bl _)⟩
  · subst q5
    exact .inr ⟨d, e, q1, q2, q3, q4, a.now s (.bl _)⟩
theorem os_ne {K : Fg} : OpS K (fun x y S => (opC .ne x y S).map fun k => (.bl k, S)) (rNeA K) := by
  intro μ H S x y w S' vx vy Q s rx ry h a
  simp only [opC, Option.map_eq_some_iff] at h
  obtain ⟨k, ⟨k0, h1, h3⟩, h2⟩ := h
  cases h2
  subst h3
  rcases eqW_ok s rx ry h1 with ⟨q1, q2⟩ | ⟨d, e, q1, q2, q3, q4, q5⟩
  · subst q2
    exact .inl ⟨q1, a.now s (.bl _)⟩
  · subst q5
    exact .inr ⟨d, e, q1, q2, q3, q4, a.now s (.bl _)⟩

/-! ### order, in -/
def rLtA : R2 := fun x y H Q => (rI0 fun i j => .bl (decide (i < j))) x y H Q ∨ ∃ i j, x = .str i ∧ y = .str j ∧ Q (.bl (decide (i.cps.toList < j.cps.toList))) H
theorem op_ltA {X : Cx} : OpR X (compareOp .Lt) rLtA := OpR.or op_lt op_lt_str
theorem os_lt {K : Fg} : OpS K (fun x y S => (opC .lt x y S).map fun k => (.bl k, S)) rLtA := by
  intro μ H S x y w S' vx vy Q s rx ry h a
  simp only [opC, Option.map_eq_some_iff] at h
  obtain ⟨k, h1, h2⟩ := h
  cases h2
  split at h1
  · cases rx
    cases ry
    cases h1
    exact .inl ⟨_, _, rfl, rfl, a.now s (.bl _)⟩
  · cases rx with
    | str x _ e =>
      cases ry with
      | str y _ e' =>
        subst e e'
        cases h1
        exact .inr ⟨_, _, rfl, rfl, a.now s (.bl _)⟩
  · cases h1
def rLeA : R2 := fun x y H Q => (rI0 fun i j => .bl (decide (i ≤ j))) x y H Q ∨ ∃ i j, x = .str i ∧ y = .str j ∧ Q (.bl (!decide (j.cps.toList < i.cps.toList))) H
theorem op_leA {X : Cx} : OpR X (compareOp .LtE) rLeA := OpR.or op_le op_le_str
theorem os_le {K : Fg} : OpS K (fun x y S => (opC .le x y S).map fun k => (.bl k, S)) rLeA := by
  intro μ H S x y w S' vx vy Q s rx ry h a
  simp only [opC, Option.map_eq_some_iff] at h
  obtain ⟨k, h1, h2⟩ := h
  cases h2
  split at h1
  · cases rx
    cases ry
    cases h1
    exact .inl ⟨_, _, rfl, rfl, a.now s (.bl _)⟩
  · cases rx with
    | str x _ e =>
      cases ry with
      | str y _ e' =>
        subst e e'
        cases h1
        exact .inr ⟨_, _, rfl, rfl, a.now s (.bl _)⟩
  · cases h1
theorem os_gt {K : Fg} : OpS K (fun x y S => (opC .gt x y S).map fun k => (.bl k, S)) (rI0 fun i j => .bl (decide (j < i))) := by
  intro μ H S x y w S' vx vy Q s rx ry h a
  simp only [opC, Option.map_eq_some_iff] at h
  obtain ⟨k, h1, h2⟩ := h
  cases h2
  split at h1
  · cases rx
    cases ry
    cases h1
    exact ⟨_, _, rfl, rfl, a.now s (.bl _)⟩
  · cases h1
theorem os_ge {K : Fg} : OpS K (fun x y S => (opC .ge x y S).map fun k => (.bl k, S)) (rI0 fun i j => .bl (decide (j ≤ i))) := by
  intro μ H S x y w S' vx vy Q s rx ry h a
  simp only [opC, Option.map_eq_some_iff] at h
  obtain ⟨k, h1, h2⟩ := h
  cases h2
  split at h1
  · cases rx
    cases ry
    cases h1
    exact ⟨_, _, rfl, rfl, a.now s (.bl _)⟩
  · cases h1
def rInA (K : Fg) : R2 := fun x y H Q => (∃ (c : Nat) (z : Str), x = .str ⟨#[c]⟩ ∧ y = .str z ∧ Q (.bl (decide (c ∈ z.cps.toList))) H) ∨ rInD K x y H Q
def rNotInA (K : Fg) : R2 := fun x y H Q => (∃ (c : Nat) (z : Str), x = .str ⟨#[c]⟩ ∧ y = .str z ∧ Q (.bl (!decide (c ∈ z.cps.toList))) H) ∨ rNotInD K x y H Q
theorem op_inA {X : Cx} (hu : X.A.units + 65 < cLine) : OpR X (compareOp .In) (rInA X.K) := OpR.or op_in_sign (op_inD hu)
theorem op_notInA {X : Cx} (hu : X.A.units + 65 < cLine) : OpR X (compareOp .NotIn) (rNotInA X.K) := OpR.or op_notIn_sign (op_notInD hu)
theorem inW_ok {K : Fg} {μ : List Addr} {H : Hp} {S : Sto} {x y : W} {vx vy : V} {k : Bool} (s : SR K μ H S) (rx : VW K μ H vx x) (ry : VW K μ H vy y) (h : inW S x y = some k) :
    (∃ (c : Nat) (z : Str), vx = .str ⟨#[c]⟩ ∧ vy = .str z ∧ decide (c ∈ z.cps.toList) = k) ∨
      ∃ d ds, Dp K H vx d ∧ Dp K H vy (.list ds) ∧ SeqAt.shaped d = true ∧ SeqAt.shaped (.list ds) = true ∧ (ds.any fun z => PyData.eqv z d) = k := by
  unfold inW at h
  split at h
  · split at h
    · cases h
      cases ry with
      | str z _ e =>
        cases rx with
        | str q _ e2 =>
          refine .inl ⟨_, z, ?_, rfl, by rw [e]⟩
          rw [str_eta e2]
    · cases h
  · rename_i j
    split at h
    · rename_i d ys h1 h2
      split at h
      · rename_i ds h3
        cases h
        cases ry with
        | ref hk =>
          obtain ⟨vs, q, t⟩ := s.rd hk h2
          have h4 : dat S 60 (.ref j) = some (.lst ds) := by
            simp only [dat, h2, h3]
            rfl
          refine .inr ⟨d.py, D.pys ds, dat_dp s 60 _ _ _ h1 rx, .lst q (dats_dp (fun v w d a b => dat_dp s 59 v w d a b) h3 t), dat_shaped (Nat.le_refl _) h1, dat_shaped (d := .lst ds) (Nat.le_refl _) h4, any_pys d ds⟩
      · cases h
    · cases h
  · cases h
theorem os_in {K : Fg} : OpS K (fun x y S => (opC .isIn x y S).map fun k => (.bl k, S)) (rInA K) := by
  intro μ H S x y w S' vx vy Q s rx ry h a
  simp only [opC, Option.map_eq_some_iff] at h
  obtain ⟨k, h1, h2⟩ := h
  cases h2
  rcases inW_ok s rx ry h1 with ⟨c, z, q1, q2, q3⟩ | ⟨d, e, q1, q2, q3, q4, q5⟩
  · subst q3
    exact .inl ⟨c, z, q1, q2, a.now s (.bl _)⟩
  · subst q5
    exact .inr ⟨d, e, q1, q2, q3, q4, a.now s (.bl _)⟩
theorem os_notIn {K : Fg} : OpS K (fun x y S => (opC .notIn x y S).map fun k => (.bl k, S)) (rNotInA K) := by
  intro μ H S x y w S' vx vy Q s rx ry h a
  simp only [opC, Option.map_eq_some_iff] at h
  obtain ⟨k, ⟨k0, h1, h3⟩, h2⟩ := h
  cases h2
  subst h3
  rcases inW_ok s rx ry h1 with ⟨c, z, q1, q2, q3⟩ | ⟨d, e, q1, q2, q3, q4, q5⟩
  · subst q3
    exact .inl ⟨c, z, q1, q2, a.now s (.bl _)⟩
  · subst q5
    exact .inr ⟨d, e, q1, q2, q3, q4, a.now s (.bl _)⟩

/-! ### arithmetic, + and * of sequences -/
def rAddA (K : Fg) : R2 := fun x y H Q => (rI0 fun i j => .int (i + j)) x y H Q ∨ (∃ i j, x = .str i ∧ y = .str j ∧ i.length + j.length ≤ sizeLine ∧ Q (.str (i ++ j)) H) ∨ rCatA K x y H Q ∨ rCat x y H Q
theorem op_addA {X : Cx} : OpR X (binaryOp .Add) (rAddA X.K) := OpR.or op_add (OpR.or op_add_str (OpR.or op_catA op_cat))
theorem os_add {K : Fg} : OpS K (opB .add) (rAddA K) := by
  intro μ H S x y w S' vx vy Q s rx ry h a
  cases x <;> cases y <;> simp only [opB] at h <;> try (cases h; done)
  · cases rx
    cases ry
    cases h
    exact .inl ⟨_, _, rfl, rfl, a.now s (.int _)⟩
  · cases rx with
    | str x _ e =>
      cases ry with
      | str y _ e' =>
        split at h
        · rename_i hl
          cases h
          refine .inr (.inl ⟨x, y, rfl, rfl, ?_, a.now s (.str _ _ ?_)⟩)
          · rw [str_len e, str_len e']
            exact lim_ok hl
          · rw [cps_toList_append, e, e']
        · cases h
  · cases rx with
    | tup q t =>
      cases ry with
      | tup q' t' =>
        split at h
        · rename_i hl
          cases h
          refine .inr (.inr (.inl ⟨_, _, _, _, rfl, rfl, q, q', ?_, fun e => ?_, fun _ e => ?_, fun _ _ => ?_⟩))
          · rw [t.length, t'.length]
            exact lim_ok hl
          · subst e
            cases t
            exact a.now s (.tup q' t')
          · subst e
            cases t'
            rw [List.append_nil] at a
            exact a.now s (.tup q t)
          · exact a.tup s (t.append t')
        · cases h
  · split at h
    · rename_i xs ys h1 h2
      cases rx with
      | ref hk =>
        cases ry with
        | ref hj =>
          obtain ⟨_, vs, q1, t1⟩ := s.rm hk h1
          obtain ⟨_, us, q2, t2⟩ := s.rm hj h2
          obtain ⟨b1, b2⟩ := a.new s (t1.append t2) h
          rw [List.length_append] at b1
          exact .inr (.inr (.inr ⟨_, _, _, _, rfl, rfl, q1, q2, b1, b2⟩))
    · cases h
theorem os_sub {K : Fg} : OpS K (opB .sub) (rI0 fun i j => .int (i - j)) := by
  intro μ H S x y w S' vx vy Q s rx ry h a
  cases x <;> cases y <;> simp only [opB] at h <;> try (cases h; done)
  cases rx
  cases ry
  cases h
  exact ⟨_, _, rfl, rfl, a.now s (.int _)⟩
theorem os_fdiv {K : Fg} : OpS K (opB .fdiv) (rI CDiv fun i j => .int (i / j)) := by
  intro μ H S x y w S' vx vy Q s rx ry h a
  cases x <;> cases y <;> simp only [opB] at h <;> try (cases h; done)
  cases rx
  cases ry
  split at h
  · rename_i hc
    cases h
    exact ⟨_, _, rfl, rfl, hc, a.now s (.int _)⟩
  · cases h
theorem os_mod {K : Fg} : OpS K (opB .mod) (rI (fun _ j => 0 < j) fun i j => .int (i % j)) := by
  intro μ H S x y w S' vx vy Q s rx ry h a
  cases x <;> cases y <;> simp only [opB] at h <;> try (cases h; done)
  cases rx
  cases ry
  split at h
  · rename_i hc
    cases h
    exact ⟨_, _, rfl, rfl, hc, a.now s (.int _)⟩
  · cases h
theorem os_pow {K : Fg} : OpS K (opB .pow) (rI CPow fun i j => .int (i ^ j.toNat)) := by
  intro μ H S x y w S' vx vy Q s rx ry h a
  cases x <;> cases y <;> simp only [opB] at h <;> try (cases h; done)
  cases rx
  cases ry
  split at h
  · rename_i hc
    cases h
    exact ⟨_, _, rfl, rfl, hc, a.now s (.int _)⟩
  · cases h
/-- text * int -/
theorem op_mul_str {X : Cx} : OpR X (binaryOp .Mult) (fun x y H Q => ∃ (i : Str) (j : Int), x = .str i ∧ y = .int j ∧ (j ≤ 1000000 ∧ -1000000 ≤ j ∧ i.length * j.toNat ≤ sizeLine) ∧ ∀ z : Str, z.cps.toList = (List.replicate j.toNat i.cps.toList).flatten → Q (.str z) H) := by
  intro pins s σ H x y v u Q I rx ry h
  obtain ⟨i, j, rfl, rfl, ⟨h1, h2, h3⟩, q⟩ := h
  obtain ⟨t, rfl⟩ := rx
  obtain ⟨t', rfl⟩ := ry
  have big : ∀ (l : List Nat) (n : Nat) (acc : Array Nat) (b : Array Nat), b.toList = l → ((List.replicate n b).foldl (· ++ ·) acc).toList = acc.toList ++ (List.replicate n l).flatten := by
    intro l n
    induction n with
    | zero => intro acc b e; simp
    | succ n ih =>
      intro acc b e
      rw [List.replicate_succ, List.replicate_succ, List.foldl_cons, List.flatten_cons, ih (acc ++ b) b e, Array.toList_append, e, List.append_assoc]
  refine SB.mul (n := j) ⟨?_, fun _ _ => ?_, fun _ _ => ?_⟩ fun t' k => ⟨.str (Txt.mul i j), H, I.tok _, ⟨_, rfl⟩, q _ ?_⟩
  · have e1 : ¬ j < -(2 ^ 63 : Int) := by omega
    have e2 : ¬ j ≥ 2 ^ 63 := by omega
    simp [e1, e2]
    omega
  · rename_i c1 c2
    intro c3
    have e1 : (2 ^ 63 - 1 : Int) / 1000000 ≤ (2 ^ 63 - 1) / j := by
      apply Int.le_ediv_of_mul_le (by omega)
      have : (2 ^ 63 - 1 : Int) / 1000000 = 9223372036854 := by decide
      rw [this]
      omega
    have e2 : i.length * 1 ≤ i.length * j.toNat := Nat.mul_le_mul_left _ (by omega)
    have e3 : (2 ^ 63 - 1 : Int) / 1000000 = 9223372036854 := by decide
    rw [e3] at e1
    have e4 := sizeLine_eq
    omega
  · unfold Builtin.Str.tooLong
    simpa using h3
  · unfold Txt.mul
    split
    · rename_i c
      have : j.toNat = 0 := by omega
      rw [this]
      rfl
    · split
      · rename_i c1 c2
        simp only [Bool.or_eq_true, beq_iff_eq] at c2
        rcases c2 with c2 | c2
        · subst c2
          simp
        · have e : i.cps.toList = [] := by
            have : i.cps.size = 0 := c2
            simpa using this
          rw [e]
          simp
      · rw [big i.cps.toList j.toNat #[] i.cps rfl]
        simp
def rMulA (K : Fg) : R2 := fun x y H Q => (rI CMul fun i j => .int (i * j)) x y H Q ∨ (∃ (i : Str) (j : Int), x = .str i ∧ y = .int j ∧ (j ≤ 1000000 ∧ -1000000 ≤ j ∧ i.length * j.toNat ≤ sizeLine) ∧ ∀ z : Str, z.cps.toList = (List.replicate j.toNat i.cps.toList).flatten → Q (.str z) H) ∨ rRep x y H Q
theorem op_mulA {X : Cx} : OpR X (binaryOp .Mult) (rMulA X.K) := OpR.or op_mul (OpR.or op_mul_str op_rep)
theorem os_mul {K : Fg} : OpS K (opB .mul) (rMulA K) := by
  intro μ H S x y w S' vx vy Q s rx ry h a
  cases x <;> cases y <;> simp only [opB] at h <;> try (cases h; done)
  · cases rx
    cases ry
    split at h
    · rename_i hc
      cases h
      exact .inl ⟨_, _, rfl, rfl, hc, a.now s (.int _)⟩
    · cases h
  · cases rx with
    | str x _ e =>
      cases ry
      split at h
      · rename_i hc
        cases h
        subst e
        refine .inr (.inl ⟨_, _, rfl, rfl, ⟨hc.1, hc.2.1, ?_⟩, fun z hz => a.now s (.str _ _ hz)⟩)
        rw [str_len rfl]
        exact lim_ok hc.2.2
      · cases h
  · cases rx with
    | ref hk =>
      cases ry
      split at h
      · rename_i xs h1
        split at h
        · rename_i hc
          obtain ⟨_, vs, q1, t1⟩ := s.rm hk h1
          obtain ⟨b1, b2⟩ := a.new s (t1.rep _) h
          refine .inr (.inr ⟨_, _, _, rfl, rfl, q1, by omega, by omega, ?_, b2⟩)
          rw [t1.length]
          exact lim_ok hc.2.2
        · cases h
      · cases h
end MP
namespace MP
open PySem PySem.Spec PyProof.Rows L2
theorem atI_eq {α : Type} (xs : List α) (i : Int) : L2.atI xs i = MP.atI xs i := rfl
theorem sIx_eq (n d : Nat) (o : Option Int) : HT.sIx n d o = MP.sIx n d o := by
  cases o with
  | none => rfl
  | some v => rfl
theorem VWs.cutt {K : Fg} {μ : List Addr} {H : Hp} {vs : List V} {ws : List W} (h : VWs K μ H vs ws) (lo hi : Option Int) : VWs K μ H (cutV vs lo hi) (cut ws lo hi) := by
  unfold cutV MP.cut
  rw [sIx_eq, sIx_eq, h.length]
  exact (h.drop _).take _
/-! ### subscripts, slices -/
theorem os_ix {K : Fg} : OpS K opIx (rIx K) := by
  intro μ H S x y w S' vx vy Q s rx ry h a
  unfold opIx at h
  split at h
  · rename_i z i
    cases rx with
    | str x _ e =>
      cases ry
      split at h
      · rename_i hl
        simp only [Option.map_eq_some_iff] at h
        obtain ⟨c, h1, h2⟩ := h
        cases h2
        refine .inr (.inr ⟨x, i, c, rfl, rfl, ?_, ?_, a.now s (.str _ _ rfl)⟩)
        · rw [str_len e]
          exact lim_ok hl
        · rw [e]
          exact h1
      · cases h
  · rename_i z i
    cases rx with
    | tup q t =>
      cases ry
      simp only [Option.map_eq_some_iff] at h
      obtain ⟨c, h1, h2⟩ := h
      cases h2
      unfold MP.atI at h1
      rw [Option.bind_eq_some_iff] at h1
      obtain ⟨j, h3, h4⟩ := h1
      obtain ⟨v, h5, h6⟩ := t.get h4
      refine .inr (.inl ⟨_, _, i, v, rfl, rfl, q, ?_, a.now s h6⟩)
      rw [atI_eq]
      unfold MP.atI
      rw [t.length, h3]
      exact h5
  · rename_i k i
    split at h
    · rename_i z hz
      cases rx with
      | ref hk =>
        cases ry
        simp only [Option.map_eq_some_iff] at h
        obtain ⟨c, h1, h2⟩ := h
        cases h2
        obtain ⟨vs, q, t⟩ := s.rd hk hz
        unfold MP.atI at h1
        rw [Option.bind_eq_some_iff] at h1
        obtain ⟨j, h3, h4⟩ := h1
        obtain ⟨v, h5, h6⟩ := t.get h4
        refine .inl ⟨_, _, i, v, rfl, rfl, q, ?_, a.now s h6⟩
        rw [atI_eq]
        unfold MP.atI
        rw [t.length, h3]
        exact h5
    · cases h
  · cases h
def rSlAll (K : Fg) : V → Option Int → Option Int → Hp → VK → Prop := fun x lo hi H Q => rSlS x lo hi H Q ∨ rSlA K x lo hi H Q ∨ rSlL K x lo hi H Q
theorem sl_all {X : Cx} : SlR X (rSlAll X.K) := SlR.or sl_str (SlR.or sl_tupA sl_list)
theorem cut_all {α : Type} {xs : List α} {lo hi : Option Int} (h1 : MP.sIx xs.length 0 lo = 0) (h2 : MP.sIx xs.length xs.length hi = xs.length) : cut xs lo hi = xs := by
  unfold cut
  rw [h1, h2, List.drop_zero, Nat.sub_zero, List.take_length]
theorem ss_all {K : Fg} {μ : List Addr} {H : Hp} {S S' : Sto} {x w : W} {vx : V} {lo hi : Option Int} {Q : VK} (s : SR K μ H S) (rx : VW K μ H vx x) (e : opSl x lo hi S = some (w, S')) (a : Aft K μ H S' w Q) : rSlAll K vx lo hi H Q := by
  unfold opSl at e
  split at e
  · split at e
    · rename_i z hz
      cases e
      cases rx with
      | str x _ q =>
        refine .inl ⟨x, rfl, ?_, a.now s (.str _ _ ?_)⟩
        · rw [str_len q]
          exact lim_ok hz
        · unfold cutS MP.cut
          rw [sIx_eq, sIx_eq, str_len q, q]
    · cases e
  · rename_i z
    cases e
    cases rx with
    | tup q t =>
      refine .inr (.inl ⟨_, _, rfl, q, fun c => ?_, fun _ => a.tup s (t.cutt lo hi)⟩)
      rw [sIx_eq, sIx_eq, t.length] at c
      rw [cut_all c.1 c.2] at a
      exact a.now s (.tup q t)
  · split at e
    · rename_i k z hz
      cases rx with
      | ref hk =>
        obtain ⟨vs, q, t⟩ := s.rd hk hz
        exact .inr (.inr ⟨_, _, rfl, q, (a.new s (t.cutt lo hi) e).2⟩)
    · cases e
  · cases rx with
    | rol q t => exact .inr (.inr ⟨_, _, rfl, q.sq, (a.new s (t.cutt lo hi) e).2⟩)
  · cases e
/-! ### calls of built-ins -/
def ClS (K : Fg) (f : List W → Sto → R) (r : List V → Hp → VK → Prop) : Prop := ∀ μ H S ws vs w S' Q, SR K μ H S → VWs K μ H vs ws → f ws S = some (w, S') → Aft K μ H S' w Q → r vs H Q
section
variable {K : Fg}
theorem VWs.one {μ : List Addr} {H : Hp} {vs : List V} {w : W} (h : VWs K μ H vs [w]) : ∃ v, vs = [v] ∧ VW K μ H v w := by
  cases h with
  | cons r t => cases t; exact ⟨_, rfl, r⟩
theorem VWs.two {μ : List Addr} {H : Hp} {vs : List V} {w u : W} (h : VWs K μ H vs [w, u]) : ∃ v v', vs = [v, v'] ∧ VW K μ H v w ∧ VW K μ H v' u := by
  cases h with
  | cons r t => cases t with | cons r' t' => cases t'; exact ⟨_, _, rfl, r, r'⟩
theorem cs_len : ClS K (opI .len) (fun xs H Q => ∃ x n, xs = [x] ∧ LenV K x H n ∧ Q (.int n) H) := by
  intro μ H S ws vs w S' Q s hv h a
  unfold opI at h
  split at h <;> try (cases h; done)
  all_goals rename_i hb; cases hb
  all_goals obtain ⟨v, rfl, r⟩ := hv.one
  · split at h
    · rename_i hl
      cases h
      cases r with
      | str x _ e =>
        refine ⟨_, _, rfl, ⟨?_, rfl⟩, ?_⟩
        · rw [str_len e]; exact lim_ok hl
        · rw [str_len e]; exact a.now s (.int _)
    · cases h
  · cases h
    cases r with
    | tup q t =>
      refine ⟨_, _, rfl, .inr ⟨_, q, rfl⟩, ?_⟩
      rw [t.length]; exact a.now s (.int _)
  · cases h
    cases r with
    | rol q t =>
      refine ⟨_, _, rfl, .inl ⟨_, q.sq, rfl⟩, ?_⟩
      rw [t.length]; exact a.now s (.int _)
  · simp only [Option.map_eq_some_iff] at h
    obtain ⟨z, h1, h2⟩ := h
    cases h2
    cases r with
    | ref hk =>
      obtain ⟨vs, q, t⟩ := s.rd hk h1
      refine ⟨_, _, rfl, .inl ⟨_, q, rfl⟩, ?_⟩
      rw [t.length]; exact a.now s (.int _)
theorem cs_abs : ClS K (opI .abs) (fun xs H Q => ∃ i, xs = [.int i] ∧ Q (.int (if i < 0 then -i else i)) H) := by
  intro μ H S ws vs w S' Q s hv h a
  unfold opI at h
  split at h <;> try (cases h; done)
  all_goals rename_i hb; cases hb
  all_goals obtain ⟨v, rfl, r⟩ := hv.one
  cases h
  cases r
  exact ⟨_, rfl, a.now s (.int _)⟩
theorem cs_tuple : ClS K (opI .tuple) (fun xs H Q => ∃ p ys, xs = [.ref p] ∧ ((SqL K H p ys ∧ ∀ l, H l = none → Q (.ref l) (upd H l (.tup ys))) ∨ (SqT K H p ys ∧ Q (.ref p) H))) := by
  intro μ H S ws vs w S' Q s hv h a
  unfold opI at h
  split at h <;> try (cases h; done)
  all_goals rename_i hb; cases hb
  all_goals obtain ⟨v, rfl, r⟩ := hv.one
  · simp only [Option.map_eq_some_iff] at h
    obtain ⟨z, h1, h2⟩ := h
    cases h2
    cases r with
    | ref hk =>
      obtain ⟨vs, q, t⟩ := s.rd hk h1
      exact ⟨_, _, rfl, .inl ⟨q, a.tup s t⟩⟩
  · cases h
    cases r with
    | tup q t => exact ⟨_, _, rfl, .inr ⟨q, a.now s (.tup q t)⟩⟩
theorem cs_list : ClS K (opI .list) (fun xs H Q => ∃ p ys, xs = [.ref p] ∧ (SqL K H p ys ∨ SqT K H p ys) ∧ ∀ l, H l = none → Q (.ref l) (upd H l (.lst ys))) := by
  intro μ H S ws vs w S' Q s hv h a
  unfold opI at h
  split at h <;> try (cases h; done)
  all_goals rename_i hb; cases hb
  all_goals obtain ⟨v, rfl, r⟩ := hv.one
  · split at h
    · rename_i z h1
      cases r with
      | ref hk =>
        obtain ⟨vs, q, t⟩ := s.rd hk h1
        exact ⟨_, _, rfl, .inl q, (a.new s t h).2⟩
    · cases h
  · cases r with
    | tup q t => exact ⟨_, _, rfl, .inr q, (a.new s t h).2⟩
theorem bls_ok {μ : List Addr} {H : Hp} : ∀ {vs : List V} {ws : List W} {bs : List Bool}, bls ws = some bs → VWs K μ H vs ws → vs = bs.map V.bl
  | _, [], _, h, hv => by cases hv; cases h; rfl
  | _, w :: ws, bs, h, hv => by
    cases hv with
    | cons r t =>
      cases w <;> simp only [bls] at h <;> try (cases h; done)
      rw [Option.map_eq_some_iff] at h
      obtain ⟨bs', h1, h2⟩ := h
      subst h2
      cases r
      rw [bls_ok h1 t]
      rfl
theorem cs_all : ClS K (opI .all) (rAll K) := by
  intro μ H S ws vs w S' Q s hv h a
  unfold opI at h
  split at h <;> try (cases h; done)
  all_goals rename_i hb; cases hb
  all_goals obtain ⟨v, rfl, r⟩ := hv.one
  split at h
  · rename_i z hz
    rw [Option.map_eq_some_iff] at h
    obtain ⟨bs, h1, h2⟩ := h
    cases h2
    cases r with
    | ref hk =>
      obtain ⟨vs, q, t⟩ := s.rd hk hz
      rw [bls_ok h1 t] at q
      exact ⟨_, bs, rfl, q, a.now s (.bl _)⟩
  · cases h
theorem cs_any : ClS K (opI .any) (rAny K) := by
  intro μ H S ws vs w S' Q s hv h a
  unfold opI at h
  split at h <;> try (cases h; done)
  all_goals rename_i hb; cases hb
  all_goals obtain ⟨v, rfl, r⟩ := hv.one
  split at h
  · rename_i z hz
    rw [Option.map_eq_some_iff] at h
    obtain ⟨bs, h1, h2⟩ := h
    cases h2
    cases r with
    | ref hk =>
      obtain ⟨vs, q, t⟩ := s.rd hk hz
      rw [bls_ok h1 t] at q
      exact ⟨_, bs, rfl, q, a.now s (.bl _)⟩
  · cases h
theorem cs_int : ClS K (opI .int) (fun xs H Q => (∃ i, xs = [.int i] ∧ Q (.int i) H) ∨ ∃ k, xs = [.bl k] ∧ Q (.int (if k then 1 else 0)) H) := by
  intro μ H S ws vs w S' Q s hv h a
  unfold opI at h
  split at h <;> try (cases h; done)
  all_goals rename_i hb; cases hb
  all_goals obtain ⟨v, rfl, r⟩ := hv.one
  · cases h
    cases r
    exact .inl ⟨_, rfl, a.now s (.int _)⟩
  · cases h
    cases r
    exact .inr ⟨_, rfl, a.now s (.int _)⟩
end
/-! ### isinstance -/
def tyN : Nat → String
  | 0 => "str" | 1 => "int" | 2 => "bool" | 3 => "tuple" | _ => "list"
def wTy : W → String
  | .non => "NoneType" | .bl _ => "bool" | .int _ => "int" | .str _ => "str" | .tup _ => "tuple" | .ref _ => "list" | .rol _ => "list" | .fn _ => "function" | .dic _ => "dict"
theorem tyX_ok {K : Fg} {μ : List Addr} {H : Hp} {S : Sto} {v : V} {w : W} (s : SR K μ H S) (r : VW K μ H v w) (hf : isFn w = false) : TyX K H v (.type (wTy w)) := by
  cases r with
  | fn x l e q => cases hf
  | dic q t => exact .fDict q
  | non => exact .base .non
  | bl b => exact .base (.bl b)
  | int i => exact .base (.int i)
  | str x l e => exact .base (.str x)
  | tup q t =>
    rcases q with (q | ⟨o, q⟩) | ⟨o, its, n, h1, h2, _⟩
    · exact .base (.tup q)
    · exact .fTuple q
    · exact .kTuple h1 h2
  | ref hk =>
    obtain ⟨o, ho⟩ := s.back hk
    have q := s.at_ _ _ o hk ho
    cases o with
    | lst ws => obtain ⟨vs, e, _⟩ := q; exact .base (.lst e)
  | rol q t =>
    rcases q with ⟨o, q⟩ | ⟨o, its, n, h1, h2, _⟩
    · exact .base (.frz q)
    · exact .kList h1 h2
theorem kit_all (w : W) (t : Nat) (ht : t < 5) : kitB (wTy w) (tyN t) = some (isT t w) := by
  have : t = 0 ∨ t = 1 ∨ t = 2 ∨ t = 3 ∨ t = 4 := by omega
  rcases this with h | h | h | h | h <;> subst h <;> cases w <;> (simp only [wTy, tyN, isT]; decide +kernel)
theorem isi_ok {K : Fg} {μ : List Addr} {H : Hp} {S : Sto} {v : V} {w : W} {t : Nat} {Q : VK} (ht : t < 5) (s : SR K μ H S) (r : VW K μ H v w) (hf : isFn w = false) (a : Aft K μ H S (.bl (isT t w)) Q) : rIsi K [v, .ty (tyN t)] H Q :=
  ⟨_, _, _, _, _, rfl, .ty _, tyX_ok s r hf, kit_ty (kit_all w t ht), a.now s (.bl _)⟩
/-! ### join -/
theorem txts_ok {K : Fg} {μ : List Addr} {H : Hp} : ∀ {vs : List V} {ws : List W} {ls : List (List Nat)}, txts ws = some ls → VWs K μ H vs ws → ∃ ys : List Str, vs = ys.map V.str ∧ ys.map (fun y => y.cps.toList) = ls
  | _, [], _, h, hv => by cases hv; cases h; exact ⟨[], rfl, rfl⟩
  | _, w :: ws, bs, h, hv => by
    cases hv with
    | cons r t =>
      cases w <;> simp only [txts] at h <;> try (cases h; done)
      rw [Option.map_eq_some_iff] at h
      obtain ⟨bs', h1, h2⟩ := h
      subst h2
      cases r with
      | str x _ e =>
        obtain ⟨ys, h3, h4⟩ := txts_ok h1 t
        exact ⟨x :: ys, by rw [h3]; rfl, by rw [List.map_cons, h4, e]⟩
theorem join_toList (sep : Str) : ∀ ys : List Str, (Txt.join sep ys).cps.toList = joinL sep.cps.toList (ys.map fun y => y.cps.toList) := by
  intro ys
  show (Builtin.Str.glued sep ys).cps.toList = _
  rw [StrLaws.glued_eq_join]
  induction ys with
  | nil => rfl
  | cons x r ih =>
    cases r with
    | nil => rfl
    | cons y r =>
      show (x ++ sep ++ Str.join sep (y :: r)).cps.toList = x.cps.toList ++ sep.cps.toList ++ joinL sep.cps.toList ((y :: r).map fun y => y.cps.toList)
      rw [cps_toList_append, cps_toList_append, ih]
theorem lens_eq : ∀ ys : List Str, (ys.map (·.length)).sum = lens (ys.map fun y => y.cps.toList)
  | [] => rfl
  | y :: r => by
    rw [List.map_cons, List.map_cons, List.sum_cons, lens_eq r, str_len rfl]
    rfl
def rJoin (K : Fg) : V → List V → Hp → VK → Prop := fun x xs H Q => ∃ a p, ∃ ys : List Str, x = .str a ∧ xs = [.ref p] ∧ (SqL K H p (ys.map V.str) ∨ SqT K H p (ys.map V.str)) ∧
    (ys.map (·.length)).sum + ys.length * a.length ≤ 16777216 ∧ Q (.str (Txt.join a ys)) H
theorem join_ok {K : Fg} {μ : List Addr} {H : Hp} {S S' : Sto} {v u : V} {x y w : W} {Q : VK} (s : SR K μ H S) (rx : VW K μ H v x) (ry : VW K μ H u y) (h : opI .join [x, y] S = some (w, S')) (a : Aft K μ H S' w Q) : (∃ z, v = .str z) ∧ rJoin K v [u] H Q := by
  cases x <;> cases y <;> simp only [opI] at h <;> try (cases h; done)
  cases rx with
  | str x _ e =>
    cases ry with
    | ref hk =>
      split at h
      · rename_i z hz
        split at h
        · rename_i ls hls
          split at h
          · rename_i hl
            cases h
            obtain ⟨vs, q, t⟩ := s.rd hk hz
            obtain ⟨ys, h3, h4⟩ := txts_ok hls t
            subst h3
            refine ⟨⟨x, rfl⟩, x, _, ys, rfl, rfl, .inl q, ?_, ?_⟩
            · rw [lens_eq, h4, str_len e]
              have : ys.length = ls.length := by rw [← h4, List.length_map]
              rw [this]
              exact Nat.le_trans hl (by decide)
            · refine a.now s (.str _ _ ?_)
              rw [join_toList, h4, e]
          · cases h
        · cases h
      · cases h
/-! ### truth -/
theorem tru_w {K : Fg} {μ : List Addr} {H : Hp} {S S' : Sto} {v : V} {x w : W} {Q : Bool → Hp → Prop} (s : SR K μ H S) (rx : VW K μ H v x) (h : opI .tru [x] S = some (w, S')) (a : ∀ k, w = .bl k → S' = S → Q k H) : ∃ k, TruV K v H k ∧ Q k H := by
  cases x <;> simp only [opI] at h <;> try (cases h; done)
  · cases rx; cases h; exact ⟨_, rfl, a _ rfl rfl⟩
  · cases rx; cases h; exact ⟨_, rfl, a _ rfl rfl⟩
  · cases rx; cases h; exact ⟨_, rfl, a _ rfl rfl⟩
  · cases rx with
    | str x _ e =>
      split at h
      · rename_i hl
        cases h
        refine ⟨_, ⟨by rw [str_len e]; exact lim_ok hl, ?_⟩, a _ rfl rfl⟩
        rw [str_len e]
        rename_i l
        cases l with
        | nil => rfl
        | cons c r =>
          simp
          omega
      · cases h
  · cases rx with
    | tup q t =>
      cases h
      refine ⟨_, .inr (.inl ⟨_, q, ?_⟩), a _ rfl rfl⟩
      cases t <;> rfl
  · rw [Option.map_eq_some_iff] at h
    obtain ⟨z, h1, h2⟩ := h
    cases h2
    cases rx with
    | ref hk =>
      obtain ⟨vs, q, t⟩ := s.rd hk h1
      refine ⟨_, .inl ⟨_, q, ?_⟩, a _ rfl rfl⟩
      cases t <;> rfl
end MP
namespace MP
open PySem PySem.Spec PyProof.Rows L2
/-! ### readings -/
def tD (K : Fg) (Φ : Fns) (c : CE) : TE := fun σ H Q => ∃ μ env S w S', SR K μ H S ∧ ER K μ H σ env ∧ ev Φ c env S = some (w, S') ∧ Aft K μ H S' w Q
def AftA (K : Fg) (μ : List Addr) (H : Hp) (S' : Sto) (ws : List W) (Q : List V → Hp → Prop) : Prop := ∀ vs μ' H', Ex K μ H μ' H' → SR K μ' H' S' → VWs K μ' H' vs ws → Q vs H'
def tDA (K : Fg) (Φ : Fns) (c : CEs) : TA := fun σ H Q => ∃ μ env S ws S', SR K μ H S ∧ ER K μ H σ env ∧ evs Φ c env S = some (ws, S') ∧ AftA K μ H S' ws Q
def tDT (K : Fg) (Φ : Fns) (c : CE) : TT := fun σ H Q => ∃ μ env S k S', SR K μ H S ∧ ER K μ H σ env ∧ ev Φ c env S = some (.bl k, S') ∧ ∀ μ' H', Ex K μ H μ' H' → SR K μ' H' S' → Q k H'
abbrev DE (X : Cx) (Φ : Fns) (e : Expr) (c : CE) : Prop := PE X e (tD X.K Φ c)
abbrev DA (X : Cx) (Φ : Fns) (e : List Expr) (c : CEs) : Prop := PA X e (tDA X.K Φ c)
abbrev DT (X : Cx) (Φ : Fns) (e : Expr) (c : CE) : Prop := PT X e (tDT X.K Φ c)
abbrev DW (X : Cx) (Φ : Fns) (e : Expr) (c : CE) : Prop := PW X e (tDT X.K Φ c)
section
variable {X : Cx}
theorem peW {e : Expr} {t t' : TE} (h : PE X e t) (i : ∀ σ H Q, t' σ H Q → t σ H Q) : PE X e t' := ⟨fun pins s σ H Q I q => h.run pins s σ H Q I (i σ H Q q)⟩
theorem paW {e : List Expr} {t t' : TA} (h : PA X e t) (i : ∀ σ H Q, t' σ H Q → t σ H Q) : PA X e t' := ⟨fun pos pins s σ H Q I q => h.run pos pins s σ H Q I (i σ H Q q)⟩
theorem ptW {e : Expr} {t t' : TT} (h : PT X e t) (i : ∀ σ H Q, t' σ H Q → t σ H Q) : PT X e t' := ⟨fun pins s σ H Q I q => h.run pins s σ H Q I (i σ H Q q)⟩
theorem pwW {e : Expr} {t t' : TT} (h : PW X e t) (i : ∀ σ H Q, t' σ H Q → t σ H Q) : PW X e t' := ⟨fun wh pins s σ H Q I q => h.run wh pins s σ H Q I (i σ H Q q)⟩
variable {Φ : Fns} {a b d e : Expr} {es : List Expr} {ca cb cd ce : CE} {cs : CEs} {pos : Pos}
/-! ### names, constants -/
theorem tVar_of {i : Nat} {σ : L2.St} {H : Hp} {Q : VK} (h : tD X.K Φ (.var i) σ H Q) : tVar i σ H Q := by
  obtain ⟨μ, env, S, w, S', s, er, h1, h2⟩ := h
  simp only [ev] at h1
  split at h1
  · rename_i w' hw
    cases h1
    obtain ⟨v, q1, q2⟩ := er.2 i w hw
    exact ⟨v, q1, h2.now s q2⟩
  · cases h1
theorem de_var (i : Nat) {x : Str} (hN : X.N[i]? = some x := by rfl) (hv : Vis X.env.scope x := by first | exact Or.inl rfl | exact Or.inr (Or.inl rfl) | exact Or.inr (Or.inr rfl)) (hd : (x == ("__debug__" : Str)) = false := by decide) (hcd : (x == ("__classdict__" : Str)) = false := by decide) : DE X Φ (.Name x pos) (.var i) :=
  peW (pe_var hN hv hd hcd) fun _ _ _ h => tVar_of h
theorem tC_of {v : V} {w : W} (r : ∀ μ H, VW X.K μ H v w) {σ : L2.St} {H : Hp} {Q : VK} (h : tD X.K Φ (.c w) σ H Q) : tC v σ H Q := by
  obtain ⟨μ, env, S, w', S', s, er, h1, h2⟩ := h
  simp only [ev] at h1
  cases h1
  exact h2.now s (r _ _)
theorem de_int {i j} : DE X Φ (.Constant (.int i) j pos) (.c (.int i)) := peW pe_int fun _ _ _ h => tC_of (fun _ _ => .int i) h
theorem de_bl {i j} : DE X Φ (.Constant (.bool i) j pos) (.c (.bl i)) := peW pe_bl fun _ _ _ h => tC_of (fun _ _ => .bl i) h
theorem de_non {j} : DE X Φ (.Constant .none j pos) (.c .non) := peW pe_non fun _ _ _ h => tC_of (fun _ _ => .non) h
theorem de_str {x : Str} {l : List Nat} {j} (e : x.cps.toList = l := by decide +kernel) : DE X Φ (.Constant (.str x) j pos) (.c (.str l)) := peW pe_str fun _ _ _ h => tC_of (fun _ _ => .str x l e) h
theorem de_glob {x : Str} {v : V} {w : W} {u : Value} (hm : X.mg x = some u) (r : RelV v u) (q : ∀ μ H, VW X.K μ H v w) (hg : Gl X x := by rfl) (hd : (x == ("__debug__" : Str)) = false := by decide) : DE X Φ (.Name x pos) (.c w) :=
  peW (pe_glob hg hm r hd) fun _ _ _ h => tC_of q h
/-! ### operators -/
theorem tOp_of {r : R2} {f : W → W → Sto → R} {c : CE} (hs : OpS X.K f r) (he : ∀ env S w S', ev Φ c env S = some (w, S') → ∃ x S1 y S2, ev Φ ca env S = some (x, S1) ∧ ev Φ cb env S1 = some (y, S2) ∧ f x y S2 = some (w, S')) {σ : L2.St} {H : Hp} {Q : VK} (h : tD X.K Φ c σ H Q) :
    tOp r (tD X.K Φ ca) (tD X.K Φ cb) σ H Q := by
  obtain ⟨μ, env, S, w, S', s, er, h1, h2⟩ := h
  obtain ⟨x, S1, y, S2, e1, e2, e3⟩ := he _ _ _ _ h1
  refine ⟨μ, env, S, x, S1, s, er, e1, fun vx μ1 H1 x1 s1 r1 => ⟨μ1, env, S1, y, S2, s1, er.mono x1, e2, fun vy μ2 H2 x2 s2 r2 => ?_⟩⟩
  exact hs μ2 H2 S2 x y w S' vx vy Q s2 (r1.mono x2) r2 e3 (h2.mono (x1.trans x2))
theorem ev_bin {o : BO} {env : Env} {S S' : Sto} {w : W} (h : ev Φ (.bin o ca cb) env S = some (w, S')) : ∃ x S1 y S2, ev Φ ca env S = some (x, S1) ∧ ev Φ cb env S1 = some (y, S2) ∧ opB o x y S2 = some (w, S') := by
  simp only [ev] at h
  split at h
  · rename_i x S1 h1
    split at h
    · rename_i y S2 h2
      exact ⟨x, S1, y, S2, h1, h2, h⟩
    · cases h
  · cases h
theorem ev_cmp {o : CO} {env : Env} {S S' : Sto} {w : W} (h : ev Φ (.cmp o ca cb) env S = some (w, S')) : ∃ x S1 y S2, ev Φ ca env S = some (x, S1) ∧ ev Φ cb env S1 = some (y, S2) ∧ (fun x y S => (opC o x y S).map fun k => ((.bl k : W), S)) x y S2 = some (w, S') := by
  simp only [ev] at h
  split at h
  · rename_i x S1 h1
    split at h
    · rename_i y S2 h2
      exact ⟨x, S1, y, S2, h1, h2, h⟩
    · cases h
  · cases h
theorem ev_ix {env : Env} {S S' : Sto} {w : W} (h : ev Φ (.ix ca cb) env S = some (w, S')) : ∃ x S1 y S2, ev Φ ca env S = some (x, S1) ∧ ev Φ cb env S1 = some (y, S2) ∧ opIx x y S2 = some (w, S') := by
  simp only [ev] at h
  split at h
  · rename_i x S1 h1
    split at h
    · rename_i y S2 h2
      exact ⟨x, S1, y, S2, h1, h2, h⟩
    · cases h
  · cases h
theorem de_bin {op : Operator} {o : BO} {r : R2} (ho : OpR X (binaryOp op) r) (hs : OpS X.K (opB o) r) (ha : DE X Φ a ca) (hb : DE X Φ b cb) : DE X Φ (.BinOp a op b pos) (.bin o ca cb) :=
  peW (pe_op ho ha hb) fun _ _ _ h => tOp_of hs (fun _ _ _ _ q => ev_bin q) h
theorem de_add (ha : DE X Φ a ca) (hb : DE X Φ b cb) : DE X Φ (.BinOp a .Add b pos) (.bin .add ca cb) := de_bin op_addA os_add ha hb
theorem de_sub (ha : DE X Φ a ca) (hb : DE X Φ b cb) : DE X Φ (.BinOp a .Sub b pos) (.bin .sub ca cb) := de_bin op_sub os_sub ha hb
theorem de_mul (ha : DE X Φ a ca) (hb : DE X Φ b cb) : DE X Φ (.BinOp a .Mult b pos) (.bin .mul ca cb) := de_bin op_mulA os_mul ha hb
theorem de_fdiv (ha : DE X Φ a ca) (hb : DE X Φ b cb) : DE X Φ (.BinOp a .FloorDiv b pos) (.bin .fdiv ca cb) := de_bin op_fdiv os_fdiv ha hb
theorem de_mod (ha : DE X Φ a ca) (hb : DE X Φ b cb) : DE X Φ (.BinOp a .Mod b pos) (.bin .mod ca cb) := de_bin op_mod os_mod ha hb
theorem de_pow (ha : DE X Φ a ca) (hb : DE X Φ b cb) : DE X Φ (.BinOp a .Pow b pos) (.bin .pow ca cb) := de_bin op_pow os_pow ha hb
/-- a comparison's operator: its rule and its soundness -/
structure CmpOk (X : Cx) (op : CmpOp) (o : CO) : Prop where
  ex : ∃ r, OpR X (compareOp op) r ∧ OpS X.K (fun x y S => (opC o x y S).map fun k => ((.bl k : W), S)) r
theorem ck_eq {k : Nat} (hr : Room k X.A) : CmpOk X .Eq .eq := ⟨_, op_eqA hr.units, os_eq⟩
theorem ck_ne {k : Nat} (hr : Room k X.A) : CmpOk X .NotEq .ne := ⟨_, op_neA hr.units, os_ne⟩
theorem u65 {k : Nat} {A : Around} (hr : Room k A) : A.units + 65 < cLine := by have := hr.un; omega
theorem ck_in {k : Nat} (hr : Room k X.A) : CmpOk X .In .isIn := ⟨_, op_inA (u65 hr), os_in⟩
theorem ck_notIn {k : Nat} (hr : Room k X.A) : CmpOk X .NotIn .notIn := ⟨_, op_notInA (u65 hr), os_notIn⟩
theorem ck_lt : CmpOk X .Lt .lt := ⟨_, op_ltA, os_lt⟩
theorem ck_le : CmpOk X .LtE .le := ⟨_, op_leA, os_le⟩
theorem ck_gt : CmpOk X .Gt .gt := ⟨_, op_gt, os_gt⟩
theorem ck_ge : CmpOk X .GtE .ge := ⟨_, op_ge, os_ge⟩
theorem de_cmp {op : CmpOp} {o : CO} (ho : CmpOk X op o) (ha : DE X Φ a ca) (hb : DE X Φ b cb) (hm : behindInMarks op b = false := by first | exact nomark _ | rfl) : DE X Φ (.Compare a [op] [b] pos) (.cmp o ca cb) := by
  obtain ⟨r, h1, h2⟩ := ho.ex
  exact peW (pe_cmpR h1 ha hb hm) fun _ _ _ h => tOp_of h2 (fun _ _ _ _ q => ev_cmp q) h
theorem tTest_of {c : CE} {t : TE} (i : ∀ σ H Q, tD X.K Φ c σ H Q → t σ H Q) {σ : L2.St} {H : Hp} {Q : Bool → Hp → Prop} (h : tDT X.K Φ c σ H Q) : t σ H fun x H' => ∃ k, x = .bl k ∧ Q k H' := by
  obtain ⟨μ, env, S, k, S', s, er, h1, h2⟩ := h
  refine i _ _ _ ⟨μ, env, S, _, S', s, er, h1, fun v μ' H' x s' r => ?_⟩
  cases r
  exact ⟨k, rfl, h2 μ' H' x s'⟩
theorem dt_cmp {op : CmpOp} {o : CO} (ho : CmpOk X op o) (ha : DE X Φ a ca) (hb : DE X Φ b cb) (hm : behindInMarks op b = false := by first | exact nomark _ | rfl) : DT X Φ (.Compare a [op] [b] pos) (.cmp o ca cb) := by
  obtain ⟨r, h1, h2⟩ := ho.ex
  exact ptW (pt_cmpR h1 ha hb hm) fun _ _ _ h => tTest_of (fun _ _ _ q => tOp_of h2 (fun _ _ _ _ q => ev_cmp q) q) h
theorem tChain_of {r r' : R2} {o o' : CO} (h2 : OpS X.K (fun x y S => (opC o x y S).map fun k => ((.bl k : W), S)) r) (h2' : OpS X.K (fun x y S => (opC o' x y S).map fun k => ((.bl k : W), S)) r') {σ : L2.St} {H : Hp} {Q : VK} (h : tD X.K Φ (.chain o o' ca cb cd) σ H Q) :
    tChain r r' (tD X.K Φ ca) (tD X.K Φ cb) (tD X.K Φ cd) σ H Q := by
  obtain ⟨μ, env, S, w, S', s, er, h1, a⟩ := h
  simp only [ev] at h1
  split at h1
  · rename_i x S1 e1
    split at h1
    · rename_i y S2 e2
      refine ⟨μ, env, S, x, S1, s, er, e1, fun vx μ1 H1 x1 s1 r1 => ⟨μ1, env, S1, y, S2, s1, er.mono x1, e2, fun vy μ2 H2 x2 s2 r2 => ?_⟩⟩
      split at h1
      · rename_i e3
        refine h2 μ2 H2 S2 x y (.bl true) S2 vx vy _ s2 (r1.mono x2) r2 (by simp only [e3]; rfl) fun v μ3 H3 x3 s3 r3 => ?_
        cases r3
        refine ⟨true, rfl, ?_⟩
        refine iteT ?_
        split at h1
        · rename_i z S3 e4
          refine ⟨μ3, env, S2, z, S3, s3, er.mono ((x1.trans x2).trans x3), e4, fun vz μ4 H4 x4 s4 r4 => ?_⟩
          exact h2' μ4 H4 S3 y z w S' vy vz Q s4 (r2.mono (x3.trans x4)) r4 h1 (a.mono (((x1.trans x2).trans x3).trans x4))
        · cases h1
      · rename_i e3
        cases h1
        refine h2 μ2 H2 _ x y (.bl false) _ vx vy _ s2 (r1.mono x2) r2 (by simp only [e3]; rfl) fun v μ3 H3 x3 s3 r3 => ?_
        cases r3
        refine ⟨false, rfl, ?_⟩
        refine iteF ?_
        exact a _ μ3 H3 ((x1.trans x2).trans x3) s3 (.bl _)
      · cases h1
    · cases h1
  · cases h1
theorem de_chain {op op' : CmpOp} {o o' : CO} (ho : CmpOk X op o) (ho' : CmpOk X op' o') (ha : DE X Φ a ca) (hb : DE X Φ b cb) (hd : DE X Φ d cd) (hm : lastMarks [op, op'] [b, d] = false := by rfl) : DE X Φ (.Compare a [op, op'] [b, d] pos) (.chain o o' ca cb cd) := by
  obtain ⟨r, h1, h2⟩ := ho.ex
  obtain ⟨r', h1', h2'⟩ := ho'.ex
  exact peW (pe_chain h1 h1' ha hb hd hm) fun _ _ _ h => tChain_of h2 h2' h
theorem dt_chain {op op' : CmpOp} {o o' : CO} (ho : CmpOk X op o) (ho' : CmpOk X op' o') (ha : DE X Φ a ca) (hb : DE X Φ b cb) (hd : DE X Φ d cd) (hm : lastMarks [op, op'] [b, d] = false := by rfl) : DT X Φ (.Compare a [op, op'] [b, d] pos) (.chain o o' ca cb cd) := by
  obtain ⟨r, h1, h2⟩ := ho.ex
  obtain ⟨r', h1', h2'⟩ := ho'.ex
  exact ptW (pt_chain h1 h1' ha hb hd hm) fun _ _ _ h => tTest_of (fun _ _ _ q => tChain_of h2 h2' q) h
theorem de_ix (ha : DE X Φ a ca) (hb : DE X Φ b cb) (hs : PlainIx b := by intro _ _; rfl) : DE X Φ (.Subscript a b pos) (.ix ca cb) :=
  peW (pe_ix ix_seq ha hb hs) fun _ _ _ h => tOp_of os_ix (fun _ _ _ _ q => ev_ix q) h
/-! ### and, or, not, if else -/
theorem de_one {op} (h : DE X Φ a ca) : DE X Φ (.BoolOp op [a] pos) ca := pe_one h
theorem de_and {rest : List Expr} (ha : DE X Φ a ca) (hb : DE X Φ (.BoolOp .And (b :: rest) pos) cb) : DE X Φ (.BoolOp .And (a :: b :: rest) pos) (.and ca cb) := by
  refine peW (pe_and ha hb) fun σ H Q h => ?_
  obtain ⟨μ, env, S, w, S', s, er, h1, h2⟩ := h
  simp only [ev] at h1
  split at h1
  · rename_i S1 e1
    refine ⟨μ, env, S, _, S1, s, er, e1, fun v μ1 H1 x1 s1 r1 => ?_⟩
    cases r1
    refine ⟨true, rfl, ?_⟩
    refine iteT ?_
    exact ⟨μ1, env, S1, w, S', s1, er.mono x1, h1, h2.mono x1⟩
  · rename_i S1 e1
    cases h1
    refine ⟨μ, env, S, _, S', s, er, e1, fun v μ1 H1 x1 s1 r1 => ?_⟩
    cases r1
    refine ⟨false, rfl, ?_⟩
    refine iteF ?_
    exact h2 _ μ1 H1 x1 s1 (.bl _)
  · cases h1
theorem de_or {rest : List Expr} (ha : DE X Φ a ca) (hb : DE X Φ (.BoolOp .Or (b :: rest) pos) cb) : DE X Φ (.BoolOp .Or (a :: b :: rest) pos) (.or ca cb) := by
  refine peW (pe_or ha hb) fun σ H Q h => ?_
  obtain ⟨μ, env, S, w, S', s, er, h1, h2⟩ := h
  simp only [ev] at h1
  split at h1
  · rename_i S1 e1
    cases h1
    refine ⟨μ, env, S, _, S', s, er, e1, fun v μ1 H1 x1 s1 r1 => ?_⟩
    cases r1
    refine ⟨true, rfl, ?_⟩
    refine iteT ?_
    exact h2 _ μ1 H1 x1 s1 (.bl _)
  · rename_i S1 e1
    refine ⟨μ, env, S, _, S1, s, er, e1, fun v μ1 H1 x1 s1 r1 => ?_⟩
    cases r1
    refine ⟨false, rfl, ?_⟩
    refine iteF ?_
    exact ⟨μ1, env, S1, w, S', s1, er.mono x1, h1, h2.mono x1⟩
  · cases h1
theorem de_not (ha : DE X Φ a ca) : DE X Φ (.UnaryOp .Not a pos) (.not ca) := by
  refine peW (pe_not ha) fun σ H Q h => ?_
  obtain ⟨μ, env, S, w, S', s, er, h1, h2⟩ := h
  simp only [ev] at h1
  split at h1
  · rename_i k S1 e1
    cases h1
    refine ⟨μ, env, S, _, S', s, er, e1, fun v μ1 H1 x1 s1 r1 => ?_⟩
    cases r1
    exact ⟨k, rfl, h2 _ μ1 H1 x1 s1 (.bl _)⟩
  · cases h1
theorem dt_val (h : DE X Φ e ce) (he : ∀ whole, isTrue e X.env whole = (do let v ← whole; standAt e.pos; holding [v] (truthy v)) := by intro _; rfl) : DT X Φ e ce :=
  ptW (pt_val h he) fun _ _ _ q => tTest_of (fun _ _ _ q => q) q
theorem dw_and1 (ha : DT X Φ a ca) : DW X Φ (.BoolOp .And [a] pos) ca := pw_and1 ha
theorem dw_or1 (ha : DT X Φ a ca) : DW X Φ (.BoolOp .Or [a] pos) ca := pw_or1 ha
theorem dw_and {rest : List Expr} (ha : DT X Φ a ca) (hb : DW X Φ (.BoolOp .And (b :: rest) pos) cb) : DW X Φ (.BoolOp .And (a :: b :: rest) pos) (.and ca cb) := by
  refine pwW (pw_and ha hb) fun σ H Q h => ?_
  obtain ⟨μ, env, S, k, S', s, er, h1, h2⟩ := h
  simp only [ev] at h1
  split at h1
  · rename_i S1 e1
    refine ⟨μ, env, S, _, S1, s, er, e1, fun μ1 H1 x1 s1 => ?_⟩
    refine iteT ?_
    exact ⟨μ1, env, S1, k, S', s1, er.mono x1, h1, fun μ2 H2 x2 s2 => h2 μ2 H2 (x1.trans x2) s2⟩
  · rename_i S1 e1
    cases h1
    refine ⟨μ, env, S, _, S', s, er, e1, fun μ1 H1 x1 s1 => ?_⟩
    refine iteF ?_
    exact h2 μ1 H1 x1 s1
  · cases h1
theorem dw_or {rest : List Expr} (ha : DT X Φ a ca) (hb : DW X Φ (.BoolOp .Or (b :: rest) pos) cb) : DW X Φ (.BoolOp .Or (a :: b :: rest) pos) (.or ca cb) := by
  refine pwW (pw_or ha hb) fun σ H Q h => ?_
  obtain ⟨μ, env, S, k, S', s, er, h1, h2⟩ := h
  simp only [ev] at h1
  split at h1
  · rename_i S1 e1
    cases h1
    refine ⟨μ, env, S, _, S', s, er, e1, fun μ1 H1 x1 s1 => ?_⟩
    refine iteT ?_
    exact h2 μ1 H1 x1 s1
  · rename_i S1 e1
    refine ⟨μ, env, S, _, S1, s, er, e1, fun μ1 H1 x1 s1 => ?_⟩
    refine iteF ?_
    exact ⟨μ1, env, S1, k, S', s1, er.mono x1, h1, fun μ2 H2 x2 s2 => h2 μ2 H2 (x1.trans x2) s2⟩
  · cases h1
theorem dt_w (h : DW X Φ e ce) : DT X Φ e ce := PW.pt h
theorem dt_not (ha : DT X Φ a ca) : DT X Φ (.UnaryOp .Not a pos) (.not ca) := by
  refine ptW (pt_not ha) fun σ H Q h => ?_
  obtain ⟨μ, env, S, k, S', s, er, h1, h2⟩ := h
  simp only [ev] at h1
  split at h1
  · rename_i k' S1 e1
    cases h1
    exact ⟨μ, env, S, _, S', s, er, e1, fun μ1 H1 x1 s1 => h2 μ1 H1 x1 s1⟩
  · cases h1
theorem dt_truth (ha : DE X Φ a ca) (he : ∀ whole, isTrue a X.env whole = (do let v ← whole; standAt a.pos; holding [v] (truthy v)) := by intro _; rfl) : DT X Φ a (.bi .tru (.cons ca .nil)) := by
  refine ptW (pt_truth ha he) fun σ H Q h => ?_
  obtain ⟨μ, env, S, k, S', s, er, h1, h2⟩ := h
  simp only [ev, evs] at h1
  split at h1
  · rename_i xs S1 e1
    split at e1
    · rename_i x S2 e2
      cases e1
      refine ⟨μ, env, S, _, S1, s, er, e2, fun v μ1 H1 x1 s1 r1 => ?_⟩
      refine tru_w s1 r1 h1 fun k' q1 q2 => ?_
      cases q1
      subst q2
      exact h2 μ1 H1 x1 s1
    · cases e1
  · cases h1
theorem de_ite (hd : DT X Φ d cd) (ha : DE X Φ a ca) (hb : DE X Φ b cb) : DE X Φ (.IfExp d a b pos) (.ite cd ca cb) := by
  refine peW (pe_ifExp hd ha hb) fun σ H Q h => ?_
  obtain ⟨μ, env, S, w, S', s, er, h1, h2⟩ := h
  simp only [ev] at h1
  split at h1
  · rename_i S1 e1
    refine ⟨μ, env, S, _, S1, s, er, e1, fun μ1 H1 x1 s1 => ?_⟩
    refine iteT ?_
    exact ⟨μ1, env, S1, w, S', s1, er.mono x1, h1, h2.mono x1⟩
  · rename_i S1 e1
    refine ⟨μ, env, S, _, S1, s, er, e1, fun μ1 H1 x1 s1 => ?_⟩
    refine iteF ?_
    exact ⟨μ1, env, S1, w, S', s1, er.mono x1, h1, h2.mono x1⟩
  · cases h1
/-! ### argument lists, displays -/
theorem da_nil : DA X Φ [] .nil := by
  refine paW pa_nil fun σ H Q h => ?_
  obtain ⟨μ, env, S, w, S', s, er, h1, h2⟩ := h
  simp only [evs] at h1
  cases h1
  exact h2 _ μ H .refl s .nil
theorem da_cons (ha : DE X Φ e ce) (hr : DA X Φ es cs) (hs : starEach (e :: es) X.env = (false, eval e X.env) :: starEach es X.env := by rfl) : DA X Φ (e :: es) (.cons ce cs) := by
  refine paW (pa_cons ha hr hs) fun σ H Q h => ?_
  obtain ⟨μ, env, S, w, S', s, er, h1, h2⟩ := h
  simp only [evs] at h1
  split at h1
  · rename_i x S1 e1
    split at h1
    · rename_i xs S2 e2
      cases h1
      refine ⟨μ, env, S, x, S1, s, er, e1, fun v μ1 H1 x1 s1 r1 => ⟨μ1, env, S1, xs, _, s1, er.mono x1, e2, fun vs μ2 H2 x2 s2 r2 => ?_⟩⟩
      exact h2 _ μ2 H2 (x1.trans x2) s2 (.cons (r1.mono x2) r2)
    · cases h1
  · cases h1
theorem de_tup {x1} (h : DA X Φ es cs) : DE X Φ (.Tuple es x1 pos) (.tup cs) := by
  refine peW (pe_tup h) fun σ H Q h => ?_
  obtain ⟨μ, env, S, w, S', s, er, h1, h2⟩ := h
  simp only [ev] at h1
  split at h1
  · rename_i xs S1 e1
    split at h1
    · rename_i hl
      cases h1
      refine ⟨μ, env, S, xs, _, s, er, e1, fun vs μ1 H1 x1 s1 r1 => ⟨?_, ?_⟩⟩
      · rw [r1.length]
        exact lim_ok hl
      · exact (h2.mono x1).tup s1 r1
    · cases h1
  · cases h1
theorem de_lst (h : DA X Φ es cs) : DE X Φ (.List es pos) (.lst cs) := by
  refine peW (pe_lst h) fun σ H Q h => ?_
  obtain ⟨μ, env, S, w, S', s, er, h1, h2⟩ := h
  simp only [ev] at h1
  split at h1
  · rename_i xs S1 e1
    exact ⟨μ, env, S, xs, _, s, er, e1, fun vs μ1 H1 x1 s1 r1 => (h2.mono x1).new s1 r1 h1⟩
  · cases h1
/-! ### slices -/
def tDO (K : Fg) (Φ : Fns) (c : CP) : TO := fun σ H Q => ∃ μ env S o S', SR K μ H S ∧ ER K μ H σ env ∧ evp Φ c env S = some (o, S') ∧ ∀ μ' H', Ex K μ H μ' H' → SR K μ' H' S' → Q o H'
abbrev DO (X : Cx) (Φ : Fns) (e : Option Expr) (c : CP) : Prop := PO X e (tDO X.K Φ c)
theorem poW {e : Option Expr} {t t' : TO} (h : PO X e t) (i : ∀ σ H Q, t' σ H Q → t σ H Q) : PO X e t' := ⟨fun pins s σ H Q I q => h.run pins s σ H Q I (i σ H Q q)⟩
theorem do_none : DO X Φ none .no := by
  refine poW po_none fun σ H Q h => ?_
  obtain ⟨μ, env, S, o, S', s, er, h1, h2⟩ := h
  simp only [evp] at h1
  cases h1
  exact h2 μ H .refl s
theorem do_some (h : DE X Φ e ce) : DO X Φ (some e) (.yes ce) := by
  refine poW (po_some h) fun σ H Q h => ?_
  obtain ⟨μ, env, S, o, S', s, er, h1, h2⟩ := h
  simp only [evp] at h1
  split at h1
  · rename_i i S1 e1
    cases h1
    refine ⟨μ, env, S, _, S', s, er, e1, fun v μ1 H1 x1 s1 r1 => ?_⟩
    cases r1
    exact ⟨i, rfl, h2 μ1 H1 x1 s1⟩
  · cases h1
theorem de_sl {lo hi : Option Expr} {cl ch : CP} {p2 : Pos} (ha : DE X Φ a ca) (hl : DO X Φ lo cl) (hh : DO X Φ hi ch) : DE X Φ (.Subscript a (.Slice lo hi none p2) pos) (.sl ca cl ch) := by
  refine peW (pe_slice sl_all ha hl hh) fun σ H Q h => ?_
  obtain ⟨μ, env, S, w, S', s, er, h1, h2⟩ := h
  simp only [ev] at h1
  split at h1
  · rename_i x S1 e1
    split at h1
    · rename_i y S2 e2
      split at h1
      · rename_i z S3 e3
        refine ⟨μ, env, S, x, S1, s, er, e1, fun v μ1 H1 x1 s1 r1 => ⟨μ1, env, S1, y, S2, s1, er.mono x1, e2, fun μ2 H2 x2 s2 => ⟨μ2, env, S2, z, S3, s2, er.mono (x1.trans x2), e3, fun μ3 H3 x3 s3 => ?_⟩⟩⟩
        exact ss_all s3 (r1.mono (x2.trans x3)) h1 (h2.mono ((x1.trans x2).trans x3))
      · cases h1
    · cases h1
  · cases h1
theorem de_rev {k : Nat} {p1 p2 p3 : Pos} (ha : DE X Φ a ca) : DE X Φ (.Subscript a (.Slice none none (some (.UnaryOp .USub (.Constant (.int 1) k p1) p2)) p3) pos) (.bi .rev (.cons ca .nil)) := by
  refine peW (pe_revL ha) fun σ H Q h => ?_
  obtain ⟨μ, env, S, w, S', s, er, h1, h2⟩ := h
  simp only [ev, evs] at h1
  split at h1
  · rename_i xs S1 e1
    split at e1
    · rename_i x S2 e2
      cases e1
      refine ⟨μ, env, S, x, _, s, er, e2, fun v μ1 H1 x1 s1 r1 => ?_⟩
      cases x <;> simp only [opI] at h1 <;> try (cases h1; done)
      split at h1
      · rename_i z hz
        cases r1 with
        | ref hk =>
          obtain ⟨vs, q, t⟩ := s1.rd hk hz
          exact ⟨_, _, rfl, q, ((h2.mono x1).new s1 t.reverse h1).2⟩
      · cases h1
    · cases e1
  · cases h1
/-! ### calls -/
/-- a def's promise -/
def spD (K : Fg) (Φ : Fns) (f n : Nat) : Sp := fun vs H Q _ => vs.length = n ∧ ∃ μ S ws w S', SR K μ H S ∧ VWs K μ H vs ws ∧ Φ f ws S = some (w, S') ∧ Aft K μ H S' w Q
/-- a def that may be called: its name in the module, its number -/
structure Cal (P : Program) (w : World) (K : Fg) (mg : Str → Option Value) (base : Heap) (k : Nat) (Φ : Fns) (x : Str) (i n : Nat) : Prop where
  ex : ∃ (f : Addr) (fd : FuncData) (ps : List Str), FnOk P w K mg base CX0 k f fd ps (spD K Φ i n) ∧ mg x = some (.ref f) ∧ PySem.W.keepIn K (.ref f) = true ∧ Binds K fd ps []
def CEs.len : CEs → Nat
  | .nil => 0
  | .cons _ r => r.len + 1
theorem evs_len : ∀ (cs : CEs) {env : Env} {S S' : Sto} {ws : List W}, evs Φ cs env S = some (ws, S') → ws.length = cs.len
  | .nil, env, S, S', ws, h => by
    simp only [evs] at h
    cases h
    rfl
  | .cons c cs, env, S, S', ws, h => by
    simp only [evs] at h
    split at h
    · split at h
      · rename_i xs S2 e2
        cases h
        show xs.length + 1 = cs.len + 1
        rw [evs_len cs e2]
      · cases h
    · cases h
theorem de_call {x : Str} {i n k : Nat} {p : Pos} (G : Cal X.prog X.w X.K X.mg X.base k Φ x i n) (hr : Room k X.A) (ha : DA X Φ (e :: es) cs) (hn : cs.len = n := by rfl) (hg : Gl X x := by rfl) (hdb : (x == ("__debug__" : Str)) = false := by decide)
    (he : starEach (e :: es) X.env = (false, eval e X.env) :: starEach es X.env := by rfl) (hpl : (backTo pos (starEach es X.env)).any (·.1) = false := by rfl) : DE X Φ (.Call (.Name x p) (e :: es) [] pos) (.call i cs) := by
  obtain ⟨f, fd, ps, F, hm, hk, hb⟩ := G.ex
  refine peW (pe_call F hr hg hm hk hb .nil pass0 ha hdb he hpl) fun σ H Q h => ?_
  obtain ⟨μ, env, S, w, S', s, er, h1, h2⟩ := h
  simp only [ev] at h1
  split at h1
  · rename_i xs S1 e1
    refine ⟨μ, env, S, xs, S1, s, er, e1, fun vs μ1 H1 x1 s1 r1 => ?_⟩
    show spD X.K Φ i n (vs ++ []) H1 Q E0
    rw [List.append_nil]
    exact ⟨by rw [r1.length, evs_len cs e1]; exact hn, μ1, S1, xs, w, S', s1, r1, h1, h2.mono x1⟩
  · cases h1
/-- a call of what a slot holds: the def of that name -/
theorem de_callv {x y : Str} {i j n k : Nat} {l : List Nat} {p : Pos} (G : Cal X.prog X.w X.K X.mg X.base k Φ x i n) (hns : ∃ u, PySem.W.nsIn X.K mainGlobals x = some (some u) ∧ X.mg x = some u) (hr : Room k X.A) (hN : X.N[j]? = some y) (hl : x.cps.toList = l) (ha : DA X Φ (e :: es) cs) (hn : cs.len = n := by rfl) (hv : Vis X.env.scope y := by first | exact .inl rfl | exact .inr rfl) (hdb : (y == ("__debug__" : Str)) = false := by decide) (hcd : (y == ("__classdict__" : Str)) = false := by decide)
    (he : starEach (e :: es) X.env = (false, eval e X.env) :: starEach es X.env := by rfl) (hpl : (backTo pos (starEach es X.env)).any (·.1) = false := by rfl) : DE X Φ (.Call (.Name y p) (e :: es) [] pos) (.callv i l j cs) := by
  obtain ⟨f, fd, ps, F, hm, hk, hb⟩ := G.ex
  obtain ⟨u, hu, hmu⟩ := hns
  rw [hm] at hmu
  cases hmu
  refine peW (ItX.pe_callV (i := j) (FnOk.raw F hb .nil) hr hk pass0 hN hv ha hdb hcd he hpl) fun σ H Q h => ?_
  obtain ⟨μ, env, S, w, S', s, er, h1, h2⟩ := h
  simp only [ev] at h1
  split at h1
  · rename_i l' e0
    split at h1
    · rename_i el
      subst el
      split at h1
      · rename_i xs S1 e1
        obtain ⟨v, q1, q2⟩ := er.2 j _ e0
        cases q2 with
        | fn z _ ez hz =>
          have ex : z = x := (str_eta ez).trans (str_eta hl).symm
          subst ex
          rw [hu] at hz
          cases hz
          refine ⟨q1, μ, env, S, xs, S1, s, er, e1, fun vs μ1 H1 x1 s1 r1 => ?_⟩
          show spD X.K Φ i n (vs ++ []) H1 Q E0
          rw [List.append_nil]
          exact ⟨by rw [r1.length, evs_len cs e1]; exact hn, μ1, S1, xs, w, S', s1, r1, h1, h2.mono x1⟩
      · cases h1
    · cases h1
  · cases h1
theorem tCB_of {f : BI} {r : List V → Hp → VK → Prop} (hs : ClS X.K (opI f) r) {σ : L2.St} {H : Hp} {Q : VK} (h : tD X.K Φ (.bi f cs) σ H Q) : tCB r (tDA X.K Φ cs) σ H Q := by
  obtain ⟨μ, env, S, w, S', s, er, h1, h2⟩ := h
  simp only [ev] at h1
  split at h1
  · rename_i xs S1 e1
    exact ⟨μ, env, S, xs, S1, s, er, e1, fun vs μ1 H1 x1 s1 r1 => hs μ1 H1 S1 xs vs w S' Q s1 r1 h1 (h2.mono x1)⟩
  · cases h1
theorem de_callB {x : Str} {id : String} {f : BI} {r : List V → Hp → VK → Prop} {p : Pos} (hc : CallR X (.builtin id) r) (hs : ClS X.K (opI f) r) (hm : X.mg x = none) (hv : bootBuiltins x = some (.builtin id)) (ha : DA X Φ (e :: es) cs) (hg : Gl X x := by rfl) (hn : x ≠ "__name__" := by decide) (hdb : (x == ("__debug__" : Str)) = false := by decide)
    (he : starEach (e :: es) X.env = (false, eval e X.env) :: starEach es X.env := by rfl) (hpl : (backTo pos (starEach es X.env)).any (·.1) = false := by rfl) : DE X Φ (.Call (.Name x p) (e :: es) [] pos) (.bi f cs) :=
  peW (pe_callB hc hg hm hv ha hn hdb he hpl) fun _ _ _ h => tCB_of hs h
theorem de_callTy {x : Str} {T : String} {f : BI} {r : List V → Hp → VK → Prop} {p : Pos} (hc : CallR X (.type T) r) (hs : ClS X.K (opI f) r) (hm : X.mg x = none) (hv : bootBuiltins x = some (.type T)) (ha : DA X Φ (e :: es) cs) (hg : Gl X x := by rfl) (hn : x ≠ "__name__" := by decide) (hdb : (x == ("__debug__" : Str)) = false := by decide)
    (he : starEach (e :: es) X.env = (false, eval e X.env) :: starEach es X.env := by rfl) (hpl : (backTo pos (starEach es X.env)).any (·.1) = false := by rfl) : DE X Φ (.Call (.Name x p) (e :: es) [] pos) (.bi f cs) :=
  peW (pe_callTy hc hg hm hv ha hn hdb he hpl) fun _ _ _ h => tCB_of hs h
end
end MP
namespace MP
open PySem PySem.Spec PyProof.Rows L2
section
variable {X : Cx} {Φ : Fns} {a b d e : Expr} {es : List Expr} {ca cb cd ce : CE} {cs : CEs} {pos : Pos}
/-! ### more built-ins -/
theorem de_isi {t : Nat} {T : Str} {p p1 : Pos} (ht : t < 5) (hT : bootBuiltins T = some (.type (tyN t))) (hm : X.mg "isinstance" = none) (hmT : X.mg T = none) (ha : DE X Φ a ca)
    (hg : Gl X "isinstance" := by rfl) (hgT : Gl X T := by rfl) (hnT : T ≠ "__name__" := by decide) (hdT : (T == ("__debug__" : Str)) = false := by decide)
    (hs0 : starEach [(.Name T p1 : Expr)] X.env = (false, eval (.Name T p1) X.env) :: starEach [] X.env := by rfl)
    (he : starEach [a, (.Name T p1 : Expr)] X.env = (false, eval a X.env) :: starEach [(.Name T p1 : Expr)] X.env := by rfl) (hpl : (backTo pos (starEach [(.Name T p1 : Expr)] X.env)).any (·.1) = false := by rfl) :
    DE X Φ (.Call (.Name "isinstance" p) [a, .Name T p1] [] pos) (.bi (.isi t) (.cons ca .nil)) := by
  refine peW (pe_callB (x := "isinstance") (id := "isinstance") call_isi hg hm (by decide +kernel) (pa_cons ha (pa_cons (pe_bltn (v := .ty (tyN t)) hgT hmT hT rfl hnT hdT) pa_nil hs0) he) (by decide) (by decide) he hpl) fun σ H Q h => ?_
  obtain ⟨μ, env, S, w, S', s, er, h1, h2⟩ := h
  simp only [ev, evs] at h1
  split at h1
  · rename_i xs S1 e1
    split at e1
    · rename_i x S2 e2
      cases e1
      by_cases hf : isFn x = true
      · cases x <;> first | (cases hf; done) | (simp only [opI] at h1; cases h1)
      · have hq : opI (.isi t) [x] S1 = some (.bl (isT t x), S1) := by cases x <;> first | rfl | exact absurd rfl hf
        rw [hq] at h1
        cases h1
        exact ⟨μ, env, S, x, _, s, er, e2, fun v μ1 H1 x1 s1 r1 => isi_ok ht s1 r1 (by simpa using hf) (h2.mono x1)⟩
    · cases e1
  · cases h1
theorem de_isN {j p} (ha : DE X Φ a ca) : DE X Φ (.Compare a [.Is] [.Constant .none j p] pos) (.bi .isN (.cons ca .nil)) := by
  refine peW (pe_cmp (pc_isN ha)) fun σ H Q h => ?_
  obtain ⟨μ, env, S, w, S', s, er, h1, h2⟩ := h
  simp only [ev, evs] at h1
  split at h1
  · rename_i xs S1 e1
    split at e1
    · rename_i x S2 e2
      cases e1
      simp only [opI] at h1
      cases h1
      refine ⟨μ, env, S, x, _, s, er, e2, fun v μ1 H1 x1 s1 r1 => ?_⟩
      have q : decide (v = .non) = isNon x := by cases r1 <;> simp [isNon]
      show Q (V.bl (decide (v = V.non))) H1
      rw [q]
      exact h2 _ μ1 H1 x1 s1 (.bl _)
    · cases e1
  · cases h1
theorem de_notN {j p} (ha : DE X Φ a ca) : DE X Φ (.Compare a [.IsNot] [.Constant .none j p] pos) (.bi .notN (.cons ca .nil)) := by
  refine peW (pe_cmp (pc_notN ha)) fun σ H Q h => ?_
  obtain ⟨μ, env, S, w, S', s, er, h1, h2⟩ := h
  simp only [ev, evs] at h1
  split at h1
  · rename_i xs S1 e1
    split at e1
    · rename_i x S2 e2
      cases e1
      simp only [opI] at h1
      cases h1
      refine ⟨μ, env, S, x, _, s, er, e2, fun v μ1 H1 x1 s1 r1 => ?_⟩
      have q : decide (v = .non) = isNon x := by cases r1 <;> simp [isNon]
      show Q (V.bl (!decide (v = V.non))) H1
      rw [q]
      exact h2 _ μ1 H1 x1 s1 (.bl _)
    · cases e1
  · cases h1
theorem de_neg (ha : DE X Φ a ca) : DE X Φ (.UnaryOp .USub a pos) (.bi .neg (.cons ca .nil)) := by
  refine peW (pe_un un_neg ha) fun σ H Q h => ?_
  obtain ⟨μ, env, S, w, S', s, er, h1, h2⟩ := h
  simp only [ev, evs] at h1
  split at h1
  · rename_i xs S1 e1
    split at e1
    · rename_i x S2 e2
      cases e1
      cases x <;> simp only [opI] at h1 <;> try (cases h1; done)
      cases h1
      refine ⟨μ, env, S, _, _, s, er, e2, fun v μ1 H1 x1 s1 r1 => ?_⟩
      cases r1
      exact ⟨_, rfl, h2 _ μ1 H1 x1 s1 (.int _)⟩
    · cases e1
  · cases h1
theorem de_join {apos : Pos} (ha : DE X Φ a ca) (hb : DE X Φ b cb) (h1 : attributeBase a "join" X.env (eval a X.env) = eval a X.env := by rfl)
    (h2 : ((((backTo pos (starEach [b] X.env)).all fun x => !x.fst) && (backToKw pos (keywordEach [] X.env)).all fun x => x.fst.isSome) && decide (([b].length + ([] : List Keyword).length + if ([] : List Keyword).isEmpty = true then 0 else 1) < 30)) = true := by rfl)
    (h3 : (apos.endLine == pos.line) = true := by rfl) (h4 : starEach [b] X.env = (false, eval b X.env) :: starEach [] X.env := by rfl) (h5 : ((backTo pos (starEach [] X.env)).any fun x => x.fst) = false := by rfl) :
    DE X Φ (.Call (.Attribute a "join" apos) [b] [] pos) (.bi .join (.cons ca (.cons cb .nil))) := by
  refine peW (pe_bm PySem.F.plainAttrs_str PySem.F.slot_str_join PySem.F.type_str_join mt_join ha (pa_cons hb pa_nil h4) h1 h2 h3 h4 h5) fun σ H Q h => ?_
  obtain ⟨μ, env, S, w, S', s, er, h1, h2⟩ := h
  simp only [ev, evs] at h1
  split at h1
  · rename_i xs S1 e1
    split at e1
    · rename_i x S2 e2
      split at e1
      · rename_i ys S3 e3
        cases e1
        split at e3
        · rename_i y S4 e4
          cases e3
          have hx : ∃ l, x = .str l := by cases x <;> cases y <;> simp only [opI] at h1 <;> first | exact ⟨_, rfl⟩ | cases h1
          obtain ⟨l, rfl⟩ := hx
          refine ⟨μ, env, S, _, S2, s, er, e2, fun v μ1 H1 x1 s1 r1 => ?_⟩
          cases r1 with
          | str z _ ez =>
            refine ⟨rfl, μ1, env, S2, y, _, s1, er.mono x1, e4, fun u μ2 H2 x2 s2 r2 => ?_⟩
            exact (join_ok s2 (.str z _ ez) r2 h1 (h2.mono (x1.trans x2))).2
        · cases e3
      · cases e1
    · cases e1
  · cases h1
end
end MP
namespace MP
open PySem PySem.Spec PyProof.Rows L2
/-! ### what is walked -/
def ItOk (K : Fg) (μ : List Addr) (H : Hp) (J : Src) (It : It) : Prop := ∀ μ2 H2 S2, Ey K μ H μ2 H2 → SR K μ2 H2 S2 →
  (∀ (i : Nat) x, J.item S2 i = some x → It.go i H2 ∧ ∀ v H3, It.yld i H2 v H3 → Ex K μ2 H2 μ2 H3 ∧ SR K μ2 H3 S2 ∧ VW K μ2 H3 v x) ∧ ∀ i n, J.len S2 = some n → n ≤ i → It.stop i H2
def tDI (K : Fg) (Φ : Fns) (c : CI) : TI := fun σ H R => ∃ μ env S J S', SR K μ H S ∧ ER K μ H σ env ∧ evi Φ c env S = some (J, S') ∧ ((∃ n, J.len S' = some n) → ∀ μ' H' T, Ex K μ H μ' H' → SR K μ' H' S' → ItOk K μ' H' J T → R T H') ∧ ∃ n, J.len S' = some n
abbrev DI (X : Cx) (Φ : Fns) (tg e : Expr) (c : CI) : Prop := PI X tg e (tDI X.K Φ c)
section
variable {X : Cx} {Φ : Fns} {a b d e tg : Expr} {es : List Expr} {ca cb cd ce : CE} {cs : CEs} {pos : Pos}
theorem piW {tg e : Expr} {t t' : TI} (h : PI X tg e t) (i : ∀ σ H Q, t' σ H Q → t σ H Q) : PI X tg e t' := ⟨fun pins s σ H Q I q => h.run pins s σ H Q I (i σ H Q q)⟩
theorem piOr {tg e : Expr} {t t' : TI} (h : PI X tg e t) (h' : PI X tg e t') : PI X tg e (fun σ H R => t σ H R ∨ t' σ H R) := ⟨fun pins s σ H Q I q => q.elim (h.run pins s σ H Q I) (h'.run pins s σ H Q I)⟩
theorem it_list {K : Fg} {μ : List Addr} {H : Hp} {k : Nat} {a : Addr} (hk : μ[k]? = some a) : ItOk K μ H (.seq (.ref k)) (Itl K a) := by
  intro μ2 H2 S2 x s
  have hk2 := x.pre k a hk
  refine ⟨fun i w h => ?_, fun i n h hn => ?_⟩
  · simp only [Src.item, Option.bind_eq_some_iff] at h
    obtain ⟨ws, h1, h2⟩ := h
    obtain ⟨vs, q, t⟩ := s.rd hk2 h1
    obtain ⟨v, h3, h4⟩ := t.get h2
    refine ⟨⟨vs, v, q, h3⟩, fun u H3 y => ?_⟩
    obtain ⟨e1, e2⟩ := y
    have e3 := e2 vs q
    rw [h3] at e3
    cases e3
    subst e1
    exact ⟨.refl, s, h4⟩
  · simp only [Src.len, Option.map_eq_some_iff] at h
    obtain ⟨ws, h1, h2⟩ := h
    obtain ⟨vs, q, t⟩ := s.rd hk2 h1
    exact ⟨vs, q, by rw [t.length]; omega⟩
theorem it_tup {K : Fg} {μ : List Addr} {H : Hp} {ws : List W} {vs : List V} {a : Addr} (q0 : SqT K H a vs) (t0 : VWs K μ H vs ws) : ItOk K μ H (.seq (.tup ws)) (Itt K a) := by
  intro μ2 H2 S2 x s
  have q := x.tup _ _ q0
  have t := t0.monoY x
  refine ⟨fun i w h => ?_, fun i n h hn => ?_⟩
  · simp only [Src.item] at h
    obtain ⟨v, h3, h4⟩ := t.get h
    refine ⟨⟨vs, v, q, h3⟩, fun u H3 y => ?_⟩
    obtain ⟨e1, e2⟩ := y
    have e3 := e2 vs q
    rw [h3] at e3
    cases e3
    subst e1
    exact ⟨.refl, s, h4⟩
  · simp only [Src.len] at h
    cases h
    exact ⟨vs, q, by rw [t.length]; omega⟩
theorem it_str {K : Fg} {μ : List Addr} {H : Hp} {l : List Nat} {x : Str} (e : x.cps.toList = l) : ItOk K μ H (.seq (.str l)) (Its x) := by
  intro μ2 H2 S2 _ s
  subst e
  refine ⟨fun i w h => ?_, fun i n h hn => ?_⟩
  · simp only [Src.item, Option.map_eq_some_iff] at h
    obtain ⟨c, h1, h2⟩ := h
    subst h2
    have h3 : x.cps[i]? = some c := by
      rw [← Array.getElem?_toList]
      exact h1
    refine ⟨?_, fun u H3 y => ?_⟩
    · show i < x.cps.size
      have := (List.getElem?_eq_some_iff.mp h1).1
      simpa using this
    · obtain ⟨e1, c', e2, e3⟩ := y
      rw [h3] at e2
      cases e2
      subst e3
      subst e1
      exact ⟨.refl, s, .str _ _ rfl⟩
  · simp only [Src.len] at h
    cases h
    show x.cps.size ≤ i
    simpa using hn
theorem it_rng {K : Fg} {μ : List Addr} {H : Hp} {lo : Int} {n : Nat} : ItOk K μ H (.rng lo n) (Itr lo n) := by
  intro μ2 H2 S2 _ s
  refine ⟨fun i w h => ?_, fun i m h hn => ?_⟩
  · simp only [Src.item] at h
    split at h
    · rename_i hi
      cases h
      refine ⟨hi, fun u H3 y => ?_⟩
      obtain ⟨e1, e2⟩ := y
      subst e2
      subst e1
      exact ⟨.refl, s, .int _⟩
    · cases h
  · simp only [Src.len] at h
    cases h
    exact hn
theorem di_val (ha : DE X Φ a ca) : DI X Φ tg a (.val ca) := by
  refine piW (piOr (pi_list ha) (piOr (pi_tup ha) (pi_str ha))) fun σ H R h => ?_
  obtain ⟨μ, env, S, J, S', s, er, h1, h2, n, hn⟩ := h
  simp only [evi] at h1
  split at h1
  · rename_i x S1 e1
    cases h1
    cases x with
    | ref k =>
      refine .inl ⟨μ, env, S, _, _, s, er, e1, fun v μ1 H1 x1 s1 r1 => ?_⟩
      cases r1 with
      | ref hk =>
        simp only [Src.len, Option.map_eq_some_iff] at hn
        obtain ⟨ws, hn1, _⟩ := hn
        obtain ⟨vs, q, t⟩ := s1.rd hk hn1
        exact ⟨_, rfl, ⟨vs, q⟩, h2 ⟨ws.length, by simp only [Src.len, hn1]; rfl⟩ μ1 H1 _ x1 s1 (it_list hk)⟩
    | tup ws =>
      refine .inr (.inl ⟨μ, env, S, _, _, s, er, e1, fun v μ1 H1 x1 s1 r1 => ?_⟩)
      cases r1 with
      | tup q t => exact ⟨_, rfl, ⟨_, q⟩, h2 ⟨n, hn⟩ μ1 H1 _ x1 s1 (it_tup q t)⟩
    | str l =>
      refine .inr (.inr ⟨μ, env, S, _, _, s, er, e1, fun v μ1 H1 x1 s1 r1 => ?_⟩)
      cases r1 with
      | str z _ e => exact ⟨_, rfl, h2 ⟨n, hn⟩ μ1 H1 _ x1 s1 (it_str e)⟩
    | _ => simp [Src.len] at hn
  · cases h1
theorem rng_ok {j : Int} (h : rngOk j = true) : -(2 ^ 62) ≤ j ∧ j < 2 ^ 62 := of_decide_eq_true h
theorem di_rng1 {p : Pos} (hm : X.mg "range" = none) (ha : DE X Φ a ca) (hg : Gl X "range" := by rfl) (hs : starEach [a] X.env = [(false, eval a X.env)] := by rfl) : DI X Φ tg (.Call (.Name "range" p) [a] [] pos) (.rng1 ca) := by
  refine piW (pi_range1 hg hm (pa_cons ha pa_nil hs) hs) fun σ H R h => ?_
  obtain ⟨μ, env, S, J, S', s, er, h1, h2, n, hn⟩ := h
  simp only [evi] at h1
  split at h1
  · rename_i j S1 e1
    split at h1
    · rename_i hj
      cases h1
      refine ⟨μ, env, S, _, _, s, er, e1, fun v μ1 H1 x1 s1 r1 => ?_⟩
      cases r1
      exact ⟨j, rfl, (rng_ok hj).1, (rng_ok hj).2, h2 ⟨n, hn⟩ μ1 H1 _ x1 s1 it_rng⟩
    · cases h1
  · cases h1
theorem di_rng2 {p : Pos} (hm : X.mg "range" = none) (ha : DE X Φ a ca) (hb : DE X Φ b cb) (hg : Gl X "range" := by rfl) (hs : starEach [a, b] X.env = [(false, eval a X.env), (false, eval b X.env)] := by rfl) (hs2 : starEach [b] X.env = [(false, eval b X.env)] := by rfl) : DI X Φ tg (.Call (.Name "range" p) [a, b] [] pos) (.rng2 ca cb) := by
  refine piW (pi_range2 hg hm (pa_cons ha (pa_cons hb pa_nil hs2) (by rw [hs, hs2])) hs hs2) fun σ H R h => ?_
  obtain ⟨μ, env, S, J, S', s, er, h1, h2, n, hn⟩ := h
  simp only [evi] at h1
  split at h1
  · rename_i i S1 e1
    split at h1
    · rename_i j S2 e2
      split at h1
      · rename_i hj
        rw [Bool.and_eq_true] at hj
        cases h1
        refine ⟨μ, env, S, _, _, s, er, e1, fun v μ1 H1 x1 s1 r1 => ⟨μ1, env, _, _, _, s1, er.mono x1, e2, fun v' μ2 H2 x2 s2 r2 => ?_⟩⟩
        cases r1
        cases r2
        exact ⟨i, j, rfl, ⟨(rng_ok hj.1).1, (rng_ok hj.1).2, (rng_ok hj.2).1, (rng_ok hj.2).2⟩, h2 ⟨n, hn⟩ μ2 H2 _ (x1.trans x2) s2 it_rng⟩
      · cases h1
    · cases h1
  · cases h1
/-! ### targets -/
def GOk (K : Fg) (ts : List Nat) (g : TG) : Prop := ∀ (μ : List Addr) (H : Hp) (S : Sto) (σ : L2.St) (env env' : Env) (v : V) (w : W) (Q : L2.St → Hp → Prop), SR K μ H S → ER K μ H σ env → VW K μ H v w → bindT S env ts w = some env' →
  (∀ σ', ER K μ H σ' env' → σ'.length = σ.length → (∀ i, i ∉ ts → σ'[i]? = σ[i]?) → Q σ' H) → g v σ H Q
theorem go_name (K : Fg) (i : Nat) : GOk K [i] (gName i) := by
  intro μ H S σ env env' v w Q sr er r h q
  simp only [bindT] at h
  cases h
  refine q _ (er.set i r) (List.length_set ..) fun j hj => ?_
  rw [List.getElem?_set_ne (fun e => hj (by rw [e]; exact List.mem_singleton.mpr rfl))]
/-- names one behind another -/
def gNames : List Nat → TGs
  | [] => gNil
  | i :: r => gCons (gName i) (gNames r)
theorem go_names {K : Fg} {μ : List Addr} {H : Hp} : ∀ (is : List Nat) (xs : List W) (vs : List V) (σ : L2.St) (env env' : Env) (Q : L2.St → Hp → Prop), ER K μ H σ env → VWs K μ H vs xs → bindL env is xs = some env' →
    (∀ σ', ER K μ H σ' env' → σ'.length = σ.length → (∀ i, i ∉ is → σ'[i]? = σ[i]?) → Q σ' H) → vs.length = is.length ∧ gNames is vs σ H Q
  | [], [], vs, σ, env, env', Q, er, r, h, q => by
    cases r
    simp only [bindL] at h
    cases h
    exact ⟨rfl, rfl, q σ er rfl fun _ _ => rfl⟩
  | [], _ :: _, vs, σ, env, env', Q, er, r, h, q => by simp [bindL] at h
  | _ :: _, [], vs, σ, env, env', Q, er, r, h, q => by simp [bindL] at h
  | i :: is, x :: xs, vs, σ, env, env', Q, er, r, h, q => by
    cases r with
    | cons r1 r2 =>
      simp only [bindL] at h
      rename_i v vs
      have ih := go_names is xs vs (σ.set i (some v)) _ env' Q (er.set i r1) r2 h fun σ' e1 e2 e3 => q σ' e1 (by rw [e2, List.length_set]) fun k hk => by
        rw [e3 k (fun m => hk (List.mem_cons_of_mem _ m)), List.getElem?_set_ne (fun e => hk (by rw [e]; exact List.mem_cons_self ..))]
      exact ⟨by rw [List.length_cons, List.length_cons, ih.1], _, _, rfl, ih.2⟩
/-- a tuple or a list of so many -/
def gSeq (K : Fg) (is : List Nat) : TG := fun v σ H Q => gTup K is.length (gNames is) v σ H Q ∨ gLst K is.length (gNames is) v σ H Q
theorem go_seq (K : Fg) (i j : Nat) (is : List Nat) : GOk K (i :: j :: is) (gSeq K (i :: j :: is)) := by
  intro μ H S σ env env' v w Q sr er r h q
  cases w with
  | tup xs =>
    simp only [bindT] at h
    cases r with
    | tup q0 t =>
      obtain ⟨l, g⟩ := go_names _ xs _ σ env env' Q er t h q
      exact .inl ⟨_, _, rfl, q0, l, g⟩
  | ref k =>
    simp only [bindT] at h
    split at h
    · rename_i xs hx
      cases r with
      | ref hk =>
        obtain ⟨vs, q0, t⟩ := sr.rd hk hx
        obtain ⟨l, g⟩ := go_names _ xs _ σ env env' Q er t h q
        exact .inr ⟨_, _, rfl, q0, l, g⟩
    · cases h
  | _ => simp [bindT] at h
theorem pg_or {X : Cx} {tg : Expr} {g1 g2 : TG} (h1 : PG X tg g1) (h2 : PG X tg g2) : PG X tg (fun v σ H Q => g1 v σ H Q ∨ g2 v σ H Q) :=
  ⟨fun pins s σ H v u Q I r hw => hw.elim (h1.run pins s σ H v u Q I r) (h2.run pins s σ H v u Q I r)⟩
theorem pg_seq {X : Cx} {es : List Expr} {k : Nat} {is : List Nat} {pos : Pos} (hc : X.calm = true) (h : PGs X es (gNames is)) (hn : (assignEach es X.env).length = is.length := by rfl) (hst : (assignEach es X.env).findIdx? (·.1) = none := by rfl) : PG X (.Tuple es k pos) (gSeq X.K is) :=
  pg_or (pg_tup hc h hn hst) (pg_lst hc h hn hst)
/-- a target: its rule -/
structure DG (X : Cx) (tg : Expr) (ts : List Nat) : Prop where
  ex : ∃ g, PG X tg g ∧ GOk X.K ts g
theorem dg_name (i : Nat) {x : Str} (hN : X.N.Nodup) (hi : X.N[i]? = some x := by rfl) (hx : Loc X.env.scope x := by first | exact .inl rfl | exact .inr rfl) (hf : X.fn x = true ∨ X.env.scope.names.lookup x = some .local := by first | exact .inl rfl | exact .inr rfl) : DG X (.Name x pos) [i] :=
  ⟨_, pg_name (i := i) hN hi hx hf, go_name _ i⟩
theorem dg_seq (i j : Nat) (is : List Nat) {es : List Expr} {k : Nat} (h : PGs X es (gNames (i :: j :: is))) (hc : X.calm = true := by rfl) (hn : (assignEach es X.env).length = (i :: j :: is).length := by rfl) (hst : (assignEach es X.env).findIdx? (·.1) = none := by rfl) : DG X (.Tuple es k pos) (i :: j :: is) :=
  ⟨_, pg_seq hc h hn hst, go_seq _ i j is⟩
/-! ### list comprehensions -/
theorem ev_comp {vs ts : List Nat} {s : CI} {t e : CE} {env : Env} {S S' : Sto} {w : W} (h : ev Φ (.comp vs ts s t e) env S = some (w, S')) :
    ∃ J S1 n acc S4 n', evi Φ s env S = some (J, S1) ∧ J.len S1 = some n ∧ compGo (turnC Φ vs ts t e env J) 0 n [] S1 = some (acc, S4) ∧ J.len S4 = some n' ∧ n' ≤ n ∧ new S4 acc = some (w, S') := by
  simp only [ev] at h
  split at h
  · rename_i J S1 e1
    split at h
    · rename_i n e2
      split at h
      · rename_i acc S4 e3
        split at h
        · rename_i n' e4
          split at h
          · rename_i e5
            exact ⟨J, S1, n, acc, S4, n', e1, e2, e3, e4, e5, h⟩
          · cases h
        · cases h
      · cases h
    · cases h
  · cases h
theorem tLc_of {K : Fg} {vs ts : List Nat} {s : CI} {t e : CE} {g : TG} (hg : GOk K ts g) (ht : ∀ i ∈ ts, i ∈ vs) {σ : L2.St} {H : Hp} {Q : VK} (h : tD K Φ (.comp vs ts s t e) σ H Q) : tLc (tDI K Φ s) g (tDT K Φ t) (tD K Φ e) vs σ H Q := by
  obtain ⟨μ, env, S, w, S', sr, er, h1, h2⟩ := h
  obtain ⟨J, S1, n, accF, S4, n', e1, e2, e3, e4, e5, e6⟩ := ev_comp h1
  refine ⟨μ, env, S, J, S1, sr, er, e1, fun _ μ1 H1 T x1 s1 it => ?_, n, e2⟩
  intro D hD
  refine ⟨fun i m H2 => ∃ μ2 S2 acc us, Ex K μ1 H1 μ2 H2 ∧ SR K μ2 H2 S2 ∧ H2 D = some (.lst us) ∧ (∀ k : Nat, μ2[k]? ≠ some D) ∧ VWs K μ2 H2 us acc ∧ compGo (turnC Φ vs ts t e env J) i m acc S2 = some (accF, S4) ∧ i + m = n, ⟨n, μ1, S1, [], [], ?_, s1.fresh hD, upd_same, ?_, .nil, e3, Nat.zero_add n⟩, ?_⟩
  · exact ex_fresh hD
  · intro k hk
    obtain ⟨u, hu, _⟩ := s1.trk hk
    rw [hD] at hu
    cases hu
  rintro i m H2 ⟨μ2, S2, acc, us, x2, s2, hDl, hDn, hv, hgo, him⟩
  have ito := it μ2 H2 S2 x2.toEy s2
  cases m with
  | zero =>
    simp only [compGo] at hgo
    cases hgo
    refine .inl ⟨ito.2 i n' e4 (by omega), ?_⟩
    have hl : us.length ≤ sizeLine := by
      unfold MP.new at e6
      split at e6
      · rename_i hl
        rw [hv.length]
        exact lim_ok hl
      · cases e6
    unfold MP.new at e6
    split at e6
    · cases e6
      exact h2 _ (μ2 ++ [D]) H2 (x1.trans (x2.snoc hD)) (s2.adopt hDl hDn hv) (.ref (by
        rw [← s2.len, List.getElem?_append_right (Nat.le_refl _), Nat.sub_self]
        rfl))
    · cases e6
  | succ m =>
    simp only [compGo] at hgo
    -- the item
    have key : ∃ x, J.item S2 i = some x := by
      cases hx : J.item S2 i with
      | some x => exact ⟨x, rfl⟩
      | none =>
        simp only [turnC, hx] at hgo
        cases hgo
    obtain ⟨x, hx⟩ := key
    obtain ⟨hgo1, hyl⟩ := ito.1 i x hx
    refine .inr ⟨hgo1, fun H' => ∃ μ3 S3 acc' us', Ex K μ1 H1 μ3 H' ∧ SR K μ3 H' S3 ∧ H' D = some (.lst us') ∧ (∀ k : Nat, μ3[k]? ≠ some D) ∧ VWs K μ3 H' us' acc' ∧ compGo (turnC Φ vs ts t e env J) (i + 1) m acc' S3 = some (accF, S4), fun H' hN => ?_, fun v H' y => ?_⟩
    · obtain ⟨μ3, S3, acc', us', a1, a2, a3, a4, a5, a6⟩ := hN
      exact ⟨m, by omega, μ3, S3, acc', us', a1, a2, a3, a4, a5, a6, by omega⟩
    · obtain ⟨xy, sy, rv⟩ := hyl v H' y
      have x2 := x2.trans xy
      obtain ⟨hDl, hDn⟩ := xy.fr D _ hDl hDn
      have hv := hv.mono xy
      have s2 := sy
      cases hb : bindT S2 (MP.wipe env vs) ts x with
      | none =>
        simp only [turnC, hx, hb] at hgo
        cases hgo
      | some env' =>
        refine hg μ2 H' S2 _ _ env' v x _ s2 (((er.mono x1).mono x2).wipe vs) rv hb fun σ' er' hl hs => ⟨?_, ?_⟩
        · exact wipe_same (by rw [hl, L2.wipe_length]) ht hs
        · have fin3 : ∀ {μa : List Addr} {Ha : Hp}, Ex K μ2 H' μa Ha → Ha D = some (.lst us) ∧ ∀ k : Nat, μa[k]? ≠ some D := fun xa => xa.fr D _ hDl hDn
          cases ht1 : ev Φ t env' S2 with
          | none =>
            simp only [turnC, hx, hb, ht1] at hgo
            cases hgo
          | some p =>
            obtain ⟨wt, S3⟩ := p
            have hbl : ∃ k, wt = .bl k := by
              cases wt with
              | bl k => exact ⟨k, rfl⟩
              | _ => simp only [turnC, hx, hb, ht1] at hgo; cases hgo
            obtain ⟨k, rfl⟩ := hbl
            refine ⟨μ2, env', S2, k, S3, s2, er', ht1, fun μ3 H3 x3 s3 => ?_⟩
            cases k with
            | false =>
              refine iteF ?_
              simp only [turnC, hx, hb, ht1] at hgo
              obtain ⟨d1, d2⟩ := fin3 x3
              exact ⟨μ3, S3, acc, us, x2.trans x3, s3, d1, d2, hv.mono x3, hgo⟩
            | true =>
              refine iteT ?_
              cases he1 : ev Φ e env' S3 with
              | none =>
                simp only [turnC, hx, hb, ht1, he1] at hgo
                cases hgo
              | some p =>
                obtain ⟨w1, S5⟩ := p
                simp only [turnC, hx, hb, ht1, he1] at hgo
                split at hgo
                · rename_i hlim
                  refine ⟨μ3, env', S3, w1, S5, s3, er'.mono x3, he1, fun y μ4 H4 x4 s4 r4 => ?_⟩
                  obtain ⟨d1, d2⟩ := fin3 (x3.trans x4)
                  obtain ⟨s5, y5⟩ := s4.other (ys := us ++ [y]) d1 d2
                  refine ⟨us, d1, ?_, μ4, S5, acc ++ [w1], us ++ [y], ((x2.trans x3).trans x4).mut hD, s5, upd_same, d2, ?_, hgo⟩
                  · rw [hv.length]
                    exact lim_lt hlim
                  · exact ((hv.mono (x3.trans x4)).snoc r4).monoY y5
                · cases hgo
end
end MP
namespace MP
open PySem PySem.Spec PyProof.Rows L2
section
variable {X : Cx} {Φ : Fns} {a b d e tg : Expr} {es : List Expr} {ca cb cd ce : CE} {cs : CEs} {pos : Pos}
theorem ptsW {ifs : List Expr} {t t' : TT} (h : PTs X ifs t) (i : ∀ σ H Q, t' σ H Q → t σ H Q) : PTs X ifs t' := ⟨fun pins s σ H Q I q => h.run pins s σ H Q I (i σ H Q q)⟩
abbrev DTs (X : Cx) (Φ : Fns) (ifs : List Expr) (c : CE) : Prop := PTs X ifs (tDT X.K Φ c)
theorem dts_nil : DTs X Φ [] (.c (.bl true)) := ptsW pts_nil fun σ H Q h => by
  obtain ⟨μ, env, S, k, S', s, er, h1, h2⟩ := h
  simp only [ev] at h1
  cases h1
  exact h2 μ H .refl s
theorem dts_one (h : DT X Φ e ce) : DTs X Φ [e] ce := pts_one h
theorem de_comp {elt iter : Expr} {ifs : List Expr} {scope : Scope} {own : List (Str × Nat)} {ts : List Nat} {g : TG} {s : CI} {t : CE} (gk : GOk X.K ts g) (hN : X.N.Nodup) (hi : DI X Φ tg iter s) (ok : BlkOk X.N X.env.scope scope own)
    (hg : ∀ (s : Shared) (H : Hp) (C : Addr) (cl : List (Str × Addr)) (fp : List Addr), PG (X.blk s H scope (compEnvC scope cl C X.env) fp) tg g)
    (ht : ∀ (s : Shared) (H : Hp) (C : Addr) (cl : List (Str × Addr)) (fp : List Addr), DTs (X.blk s H scope (compEnvC scope cl C X.env) fp) Φ ifs t)
    (he : ∀ (s : Shared) (H : Hp) (C : Addr) (cl : List (Str × Addr)) (fp : List Addr), DE (X.blk s H scope (compEnvC scope cl C X.env) fp) Φ elt ce) (hsub : ∀ i ∈ ts, i ∈ own.map (·.2) := by decide) (hc : X.calm = true := by rfl) (hs : ∀ x, foldedSetIterable iter X.env x = pure x := by intro _; rfl) :
    DE X Φ (.ListComp elt [⟨tg, iter, ifs, 0⟩] scope pos) (.comp (own.map (·.2)) ts s t ce) :=
  peW (pe_lc hc hN hi ok hg ht he hs) fun _ _ _ h => tLc_of gk hsub h
/-! ### statements -/
def FlOk (K : Fg) (μ : List Addr) (H : Hp) (D : Ends) : Fl → Prop
  | .nx env S => ∀ σ' μ' H', Ex K μ H μ' H' → SR K μ' H' S → ER K μ' H' σ' env → D.nx σ' H'
  | .rt w S => Aft K μ H S w D.rt
  | .bk env S => ∀ σ' μ' H', Ex K μ H μ' H' → SR K μ' H' S → ER K μ' H' σ' env → D.bk σ' H'
  | .ct env S => ∀ σ' μ' H', Ex K μ H μ' H' → SR K μ' H' S → ER K μ' H' σ' env → D.ct σ' H'
theorem FlOk.mono {K : Fg} {μ μ1 : List Addr} {H H1 : Hp} {D : Ends} {r : Fl} (x : Ex K μ H μ1 H1) (h : FlOk K μ H D r) : FlOk K μ1 H1 D r := by
  cases r with
  | nx env S => exact fun σ' μ' H' x' s' e' => h σ' μ' H' (x.trans x') s' e'
  | rt w S => exact Aft.mono x h
  | bk env S => exact fun σ' μ' H' x' s' e' => h σ' μ' H' (x.trans x') s' e'
  | ct env S => exact fun σ' μ' H' x' s' e' => h σ' μ' H' (x.trans x') s' e'
def tDS (K : Fg) (Φ : Fns) (c : CS) : TS := fun D σ H => ∃ μ env S r, SR K μ H S ∧ ER K μ H σ env ∧ ex Φ c env S = some r ∧ FlOk K μ H D r
def tDSs (K : Fg) (Φ : Fns) (c : CSs) : TS := fun D σ H => ∃ μ env S r, SR K μ H S ∧ ER K μ H σ env ∧ exs Φ c env S = some r ∧ FlOk K μ H D r
abbrev DS (X : Cx) (Φ : Fns) (st : Stmt) (c : CS) : Prop := PS X st (tDS X.K Φ c)
abbrev DSs (X : Cx) (Φ : Fns) (st : List Stmt) (c : CSs) : Prop := PSs X st (tDSs X.K Φ c)
theorem psW {st : Stmt} {t t' : TS} (h : PS X st t) (i : ∀ D σ H, t' D σ H → t D σ H) : PS X st t' := ⟨fun pins s σ H Q I q => h.run pins s σ H Q I (i Q σ H q)⟩
theorem pssW {st : List Stmt} {t t' : TS} (h : PSs X st t) (i : ∀ D σ H, t' D σ H → t D σ H) : PSs X st t' := ⟨fun pins s σ H Q I q => h.run pins s σ H Q I (i Q σ H q)⟩
theorem dss_nil : DSs X Φ [] .nil := pssW pss_nil fun D σ H h => by
  obtain ⟨μ, env, S, r, s, er, h1, h2⟩ := h
  simp only [exs] at h1
  cases h1
  exact h2 σ μ H .refl s er
theorem dss_cons {st : Stmt} {rest : List Stmt} {c : CS} {cr : CSs} (h1 : DS X Φ st c) (h2 : DSs X Φ rest cr) : DSs X Φ (st :: rest) (.cons c cr) := pssW (pss_cons h1 h2) fun D σ H h => by
  obtain ⟨μ, env, S, r, s, er, e1, f⟩ := h
  simp only [exs] at e1
  split at e1
  · rename_i env' S' e2
    refine ⟨μ, env, S, _, s, er, e2, fun σ' μ' H' x' s' er' => ?_⟩
    exact ⟨μ', env', S', r, s', er', e1, f.mono x'⟩
  · rename_i r' hn
    refine ⟨μ, env, S, r, s, er, e1, ?_⟩
    cases r with
    | nx env' S' => exact absurd e1 (hn env' S')
    | rt w S' => exact f
    | bk env' S' => exact f
    | ct env' S' => exact f
theorem ds_ret (h : DE X Φ e ce) : DS X Φ (.Return (some e) pos) (.ret ce) := psW (ps_ret h) fun D σ H h => by
  obtain ⟨μ, env, S, r, s, er, e1, f⟩ := h
  simp only [ex] at e1
  split at e1
  · rename_i w S1 e2
    cases e1
    exact ⟨μ, env, S, w, S1, s, er, e2, f⟩
  · cases e1
theorem ds_expr (h : DE X Φ e ce) (hs : swapsWith e none pos.line X.env = pure false := by rfl) : DS X Φ (.Expr e pos) (.expr ce) := psW (ps_expr h hs) fun D σ H h => by
  obtain ⟨μ, env, S, r, s, er, e1, f⟩ := h
  simp only [ex] at e1
  split at e1
  · rename_i w S1 e2
    cases e1
    exact ⟨μ, env, S, w, S1, s, er, e2, fun v μ' H' x' s' _ => f σ μ' H' x' s' (er.mono x')⟩
  · cases e1
theorem ds_if {A B : List Stmt} {sa sb : CSs} (hc : DT X Φ d cd) (ha : DSs X Φ A sa) (hb : DSs X Φ B sb) : DS X Φ (.If d A B pos) (.ifs cd sa sb) := psW (ps_if hc ha hb) fun D σ H h => by
  obtain ⟨μ, env, S, r, s, er, e1, f⟩ := h
  simp only [ex] at e1
  split at e1
  · rename_i S1 e2
    refine ⟨μ, env, S, _, S1, s, er, e2, fun μ' H' x' s' => iteT ?_⟩
    exact ⟨μ', env, S1, r, s', er.mono x', e1, f.mono x'⟩
  · rename_i S1 e2
    refine ⟨μ, env, S, _, S1, s, er, e2, fun μ' H' x' s' => iteF ?_⟩
    exact ⟨μ', env, S1, r, s', er.mono x', e1, f.mono x'⟩
  · cases e1
theorem ds_pass : DS X Φ (.Pass pos) .pass := psW ps_pass fun D σ H h => by
  obtain ⟨μ, env, S, r, s, er, e1, f⟩ := h
  simp only [ex] at e1
  cases e1
  exact f σ μ H .refl s er
theorem ds_break : DS X Φ (.Break pos) .brk := psW ps_break fun D σ H h => by
  obtain ⟨μ, env, S, r, s, er, e1, f⟩ := h
  simp only [ex] at e1
  cases e1
  exact f σ μ H .refl s er
theorem ds_continue : DS X Φ (.Continue pos) .cont := psW ps_continue fun D σ H h => by
  obtain ⟨μ, env, S, r, s, er, e1, f⟩ := h
  simp only [ex] at e1
  cases e1
  exact f σ μ H .refl s er
theorem ds_never {st : Stmt} : DS X Φ st .never := psW ps_never fun D σ H h => by
  obtain ⟨μ, env, S, r, s, er, e1, f⟩ := h
  simp only [ex] at e1
  cases e1
theorem tAsg_of {K : Fg} {ts : List Nat} {g : TG} {te : TE} (gk : GOk K ts g) (ht : ∀ σ H Q, tD K Φ ce σ H Q → te σ H Q) {D : Ends} {σ : L2.St} {H : Hp} (h : tDS K Φ (.set ts ce) D σ H) : tAsg te g D σ H := by
  obtain ⟨μ, env, S, r, s, er, e1, f⟩ := h
  simp only [ex] at e1
  split at e1
  · rename_i w S1 e2
    rw [Option.map_eq_some_iff] at e1
    obtain ⟨env', h1, h2⟩ := e1
    subst h2
    refine ht _ _ _ ⟨μ, env, S, w, S1, s, er, e2, fun v μ' H' x' s' r' => ?_⟩
    exact gk μ' H' S1 σ env env' v w _ s' (er.mono x') r' h1 fun σ' er' _ _ => f σ' μ' H' x' s' er'
  · cases e1
theorem ds_set {ts : List Nat} {x : Expr} (hg : DG X x ts) (he : DE X Φ e ce) (hs : swapsWithSole [x] e pos.line X.env = pure false := by rfl) (hw : swappedStores [x] e X.env = pure none := by rfl) (h3 : List.map (fun x => x.snd) (assignEach [x] X.env) = [assign x X.env] := by rfl) : DS X Φ (.Assign [x] e pos) (.set ts ce) := by
  obtain ⟨g, h1, h2⟩ := hg.ex
  exact psW (ps_asg he h1 hs hw h3) fun D σ H h => tAsg_of h2 (fun _ _ _ q => q) h
/-- x = [..] on one line, x a local -/
theorem ds_setLc {i : Nat} {y : Str} {py spos : Pos} {elt iter : Expr} {ifs : List Expr} {scope : Scope} {own : List (Str × Nat)} {ts : List Nat} {g : TG} {s : CI} {t : CE} (gk : GOk X.K ts g) (hN : X.N.Nodup) (hi : DI X Φ tg iter s) (ok : BlkOk X.N X.env.scope scope own)
    (hg : ∀ (s : Shared) (H : Hp) (C : Addr) (cl : List (Str × Addr)) (fp : List Addr), PG (X.blk s H scope (compEnvC scope cl C X.env) fp) tg g)
    (ht : ∀ (s : Shared) (H : Hp) (C : Addr) (cl : List (Str × Addr)) (fp : List Addr), DTs (X.blk s H scope (compEnvC scope cl C X.env) fp) Φ ifs t)
    (he : ∀ (s : Shared) (H : Hp) (C : Addr) (cl : List (Str × Addr)) (fp : List Addr), DE (X.blk s H scope (compEnvC scope cl C X.env) fp) Φ elt ce)
    (hsw : swapsWith (.ListComp elt [⟨tg, iter, ifs, 0⟩] scope pos) (some (.Name y py)) spos.line X.env = pure true) (hsub : ∀ i ∈ ts, i ∈ own.map (·.2) := by decide) (hy : X.N[i]? = some y := by rfl) (hyl : X.env.scope.names.lookup y = some .local := by rfl) (hc : X.calm = true := by rfl) (hs : ∀ x, foldedSetIterable iter X.env x = pure x := by intro _; rfl) :
    DS X Φ (.Assign [.Name y py] (.ListComp elt [⟨tg, iter, ifs, 0⟩] scope pos) spos) (.set [i] (.comp (own.map (·.2)) ts s t ce)) :=
  psW (ps_setLc hc hN hy hyl hsw hi ok hg ht he hs) fun D σ H h => tAsg_of (go_name _ i) (fun _ _ _ q => tLc_of gk hsub q) h
def endF (J : Src) (n : Nat) : Option Fl → Option Fl
  | some (.nx env' S4) => match J.len S4 with
    | some n' => if n' ≤ n then some (.nx env' S4) else none
    | none => none
  | some (.bk env' S4) => some (.nx env' S4)
  | r => r
theorem ex_for {ts : List Nat} {s : CI} {b : CSs} {env : Env} {S : Sto} {r : Fl} (h : ex Φ (.for_ ts s b) env S = some r) : ∃ J S1 n, evi Φ s env S = some (J, S1) ∧ J.len S1 = some n ∧ endF J n (forGo (turnF Φ ts b J) 0 n env S1) = some r := by
  simp only [ex] at h
  split at h
  · rename_i J S1 e1
    split at h
    · rename_i n e2
      exact ⟨J, S1, n, e1, e2, h⟩
    · cases h
  · cases h
theorem ds_for {ts : List Nat} {iter : Expr} {body : List Stmt} {s : CI} {b : CSs} (hg : DG X tg ts) (hi : DI X Φ tg iter s) (hb : DSs X Φ body b) (hp : PassesOwn (model X.prog X.w) X.A X.env X.xe) (hc : X.calm = true := by rfl) (hs : ∀ x, foldedSetIterable iter X.env x = pure x := by intro _; rfl) : DS X Φ (.For tg iter body [] pos) (.for_ ts s b) := by
  obtain ⟨g, h1, gk⟩ := hg.ex
  refine psW (ps_for hp hc hi h1 hb hs) fun D σ H h => ?_
  obtain ⟨μ, env, S, r, sr, er, e0, f⟩ := h
  obtain ⟨J, S1, n, e1, e2, e3⟩ := ex_for e0
  refine ⟨μ, env, S, J, S1, sr, er, e1, fun _ μ1 H1 T x1 s1 it => ?_, n, e2⟩
  have f1 := f.mono x1
  refine ⟨fun i m σ2 H2 => ∃ μ2 env2 S2, Ex X.K μ1 H1 μ2 H2 ∧ SR X.K μ2 H2 S2 ∧ ER X.K μ2 H2 σ2 env2 ∧ endF J n (forGo (turnF Φ ts b J) i m env2 S2) = some r ∧ i + m = n, ⟨n, μ1, env, S1, .refl, s1, er.mono x1, e3, Nat.zero_add n⟩, ?_⟩
  rintro i m σ2 H2 ⟨μ2, env2, S2, x2, s2, er2, hgo, him⟩
  have ito := it μ2 H2 S2 x2.toEy s2
  cases m with
  | zero =>
    simp only [forGo, endF] at hgo
    split at hgo
    · rename_i n' e4
      split at hgo
      · rename_i e5
        cases hgo
        exact .inl ⟨ito.2 i n' e4 (by omega), f1 σ2 μ2 H2 x2 s2 er2⟩
      · cases hgo
    · cases hgo
  | succ m =>
    simp only [forGo] at hgo
    have key : ∃ x, J.item S2 i = some x := by
      cases hx : J.item S2 i with
      | some x => exact ⟨x, rfl⟩
      | none =>
        simp only [turnF, hx, endF] at hgo
        cases hgo
    obtain ⟨x, hx⟩ := key
    obtain ⟨hgo1, hyl⟩ := ito.1 i x hx
    refine .inr ⟨hgo1, fun σ' H' => ∃ μ3 env3 S3, Ex X.K μ1 H1 μ3 H' ∧ SR X.K μ3 H' S3 ∧ ER X.K μ3 H' σ' env3 ∧ endF J n (forGo (turnF Φ ts b J) (i + 1) m env3 S3) = some r, fun σ' H' hN => ?_, fun v H' y => ?_⟩
    · obtain ⟨μ3, env3, S3, a1, a2, a3, a4⟩ := hN
      exact ⟨m, by omega, μ3, env3, S3, a1, a2, a3, a4, by omega⟩
    · obtain ⟨xy, sy, rv⟩ := hyl v H' y
      have x2 := x2.trans xy
      have s2 := sy
      have er2 := er2.mono xy
      cases hb' : bindT S2 env2 ts x with
      | none =>
        simp only [turnF, hx, hb', endF] at hgo
        cases hgo
      | some env' =>
        refine gk μ2 H' S2 σ2 env2 env' v x _ s2 er2 rv hb' fun σ' er' _ _ => ?_
        simp only [turnF, hx, hb'] at hgo
        cases hr : exs Φ b env' S2 with
        | none =>
          simp only [hr, endF] at hgo
          cases hgo
        | some r2 =>
          refine ⟨μ2, env', S2, r2, s2, er', hr, ?_⟩
          simp only [hr] at hgo
          cases r2 with
          | nx env3 S3 => exact fun σ3 μ3 H3 x3 s3 er3 => ⟨μ3, env3, S3, x2.trans x3, s3, er3, hgo⟩
          | ct env3 S3 => exact fun σ3 μ3 H3 x3 s3 er3 => ⟨μ3, env3, S3, x2.trans x3, s3, er3, hgo⟩
          | bk env3 S3 =>
            simp only [endF] at hgo
            cases hgo
            exact fun σ3 μ3 H3 x3 s3 er3 => f1 σ3 μ3 H3 (x2.trans x3) s3 er3
          | rt w S3 =>
            simp only [endF] at hgo
            cases hgo
            exact Aft.mono x2 f1
theorem ds_while {body : List Stmt} {b : CSs} (n : Nat) (hc : DT X Φ d cd) (hb : DSs X Φ body b) (hp : PassesOwn (model X.prog X.w) X.A X.env X.xe) : DS X Φ (.While d body [] pos) (.whl n cd b) := by
  refine psW (ps_while hp hc hb) fun D σ H h => ?_
  obtain ⟨μ, env, S, r, sr, er, e0, f⟩ := h
  simp only [ex] at e0
  refine ⟨fun m σ2 H2 => ∃ μ2 env2 S2, Ex X.K μ H μ2 H2 ∧ SR X.K μ2 H2 S2 ∧ ER X.K μ2 H2 σ2 env2 ∧ whlGo (ev Φ cd) (exs Φ b) m env2 S2 = some r, ⟨n, μ, env, S, .refl, sr, er, e0⟩, ?_⟩
  rintro m σ2 H2 ⟨μ2, env2, S2, x2, s2, er2, hgo⟩
  cases m with
  | zero =>
    simp only [whlGo] at hgo
    cases hgo
  | succ m =>
    simp only [whlGo] at hgo
    split at hgo
    · rename_i S3 e3
      refine ⟨μ2, env2, S2, _, S3, s2, er2, e3, fun μ3 H3 x3 s3 => iteT ?_⟩
      refine ⟨fun σ' H' => ∃ μ3 env3 S3, Ex X.K μ H μ3 H' ∧ SR X.K μ3 H' S3 ∧ ER X.K μ3 H' σ' env3 ∧ whlGo (ev Φ cd) (exs Φ b) m env3 S3 = some r, fun σ' H' hN => ⟨m, by omega, hN⟩, ?_⟩
      cases hr : exs Φ b env2 S3 with
      | none =>
        simp only [hr] at hgo
        cases hgo
      | some r2 =>
        refine ⟨μ3, env2, S3, r2, s3, er2.mono x3, hr, ?_⟩
        simp only [hr] at hgo
        cases r2 with
        | nx env4 S4 => exact fun σ4 μ4 H4 x4 s4 er4 => ⟨μ4, env4, S4, (x2.trans x3).trans x4, s4, er4, hgo⟩
        | ct env4 S4 => exact fun σ4 μ4 H4 x4 s4 er4 => ⟨μ4, env4, S4, (x2.trans x3).trans x4, s4, er4, hgo⟩
        | bk env4 S4 =>
          cases hgo
          exact fun σ4 μ4 H4 x4 s4 er4 => f σ4 μ4 H4 ((x2.trans x3).trans x4) s4 er4
        | rt w S4 =>
          cases hgo
          exact Aft.mono (x2.trans x3) f
    · rename_i S3 e3
      cases hgo
      exact ⟨μ2, env2, S2, _, S3, s2, er2, e3, fun μ3 H3 x3 s3 => iteF (f σ2 μ3 H3 (x2.trans x3) s3 (er2.mono x3))⟩
    · cases hgo
/-! ### stores into lists -/
theorem SR.isL {K : Fg} {μ : List Addr} {H : Hp} {S : Sto} {k : Nat} {a : Addr} (s : SR K μ H S) (hk : μ[k]? = some a) : ∃ xs, SqL K H a xs := by
  obtain ⟨o1, ho1⟩ := s.back hk
  have q := s.at_ _ _ o1 hk ho1
  cases o1 with
  | lst ws => obtain ⟨vs, q, _⟩ := q; exact ⟨vs, .inl (.inl q)⟩
theorem ds_setix {o i : Expr} {co ci : CE} {p2 : Pos} (ho : DE X Φ o co) (hi : DE X Φ i ci) (he : DE X Φ e ce) (hg : PG X (.Subscript o i p2) (gSub (tD X.K Φ co) (tD X.K Φ ci) rSetL)) (hs : swapsWithSole [(.Subscript o i p2 : Expr)] e pos.line X.env = pure false := by rfl) (hw : swappedStores [(.Subscript o i p2 : Expr)] e X.env = pure none := by rfl)
    (h3 : List.map (fun x => x.snd) (assignEach [(.Subscript o i p2 : Expr)] X.env) = [assign (.Subscript o i p2) X.env] := by rfl) : DS X Φ (.Assign [.Subscript o i p2] e pos) (.setix co ci ce) := by
  refine psW (ps_asg he hg hs hw h3) fun D σ H h => ?_
  obtain ⟨μ, env, S, r, sr, er, e0, f⟩ := h
  simp only [ex] at e0
  split at e0
  · rename_i w S1 e1
    split at e0
    · rename_i k S2 e2
      split at e0
      · rename_i j S3 e3
        split at e0
        · rename_i xs e4
          split at e0
          · rename_i n e5
            cases e0
            refine ⟨μ, env, S, w, S1, sr, er, e1, fun v μ1 H1 x1 s1 r1 => ⟨μ1, env, S1, _, S2, s1, er.mono x1, e2, fun v2 μ2 H2 x2 s2 r2 => ⟨μ2, env, S2, _, S3, s2, er.mono (x1.trans x2), e3, fun v3 μ3 H3 x3 s3 r3 => ?_⟩⟩⟩
            cases r3
            cases r2 with
            | ref hk =>
              have hk3 := x3.pre _ _ hk
              obtain ⟨q0, vs, q1, t1⟩ := s3.rm hk3 e4
              obtain ⟨s4, x4⟩ := s3.write hk3 q0 (t1.set (r1.mono (x2.trans x3)) n)
              refine ⟨_, vs, j, n, rfl, rfl, q1, ?_, ?_⟩
              · rw [t1.length]
                exact e5
              · exact f σ μ3 _ (((x1.trans x2).trans x3).trans x4) s4 (er.mono (((x1.trans x2).trans x3).trans x4))
          · cases e0
        · cases e0
      · cases e0
    · cases e0
  · cases e0
theorem ds_app {o : Expr} {co : CE} {apos cpos : Pos} (ho : DE X Φ o co) (he : DE X Φ e ce) (hs : swapsWith (.Call (.Attribute o "append" apos) [e] [] cpos) none pos.line X.env = pure false := by rfl) (h1 : attributeBase o "append" X.env (eval o X.env) = eval o X.env := by rfl)
    (h2 : ((((backTo cpos (starEach [e] X.env)).all fun x => !x.fst) && (backToKw cpos (keywordEach [] X.env)).all fun x => x.fst.isSome) && decide (([e].length + ([] : List Keyword).length + if ([] : List Keyword).isEmpty = true then 0 else 1) < 30)) = true := by rfl)
    (h3 : (apos.endLine == cpos.line) = true := by rfl) (h4 : starEach [e] X.env = (false, eval e X.env) :: starEach [] X.env := by rfl) (h5 : ((backTo cpos (starEach [] X.env)).any fun x => x.fst) = false := by rfl) :
    DS X Φ (.Expr (.Call (.Attribute o "append" apos) [e] [] cpos) pos) (.app co ce) := by
  refine psW (ps_expr (pe_bm PySem.F.plainAttrs_list PySem.F.slot_list_append PySem.F.type_list_append mt_append ho (pa_cons he pa_nil h4) h1 h2 h3 h4 h5) hs) fun D σ H h => ?_
  obtain ⟨μ, env, S, r, sr, er, e0, f⟩ := h
  simp only [ex] at e0
  split at e0
  · rename_i k S1 e1
    split at e0
    · rename_i w S2 e2
      split at e0
      · rename_i xs e3
        split at e0
        · rename_i hl
          cases e0
          refine ⟨μ, env, S, _, S1, sr, er, e1, fun v μ1 H1 x1 s1 r1 => ?_⟩
          cases r1 with
          | ref hk =>
            refine ⟨.inl ⟨rfl, s1.isL hk⟩, μ1, env, S1, w, S2, s1, er.mono x1, e2, fun u μ2 H2 x2 s2 r2 => ?_⟩
            have hk2 := x2.pre _ _ hk
            obtain ⟨q0, vs, q1, t1⟩ := s2.rm hk2 e3
            obtain ⟨s3, x3⟩ := s2.write hk2 q0 (t1.snoc r2)
            refine ⟨_, vs, u, rfl, rfl, q1, by rw [t1.length]; exact lim_lt hl, ?_⟩
            exact f σ μ2 _ ((x1.trans x2).trans x3) s3 (er.mono ((x1.trans x2).trans x3))
        · cases e0
      · cases e0
    · cases e0
  · cases e0
theorem tupAt {pins : List (Addr × Obj)} {s : Shared} {σ : L2.St} {H : Hp} {a : Addr} {xs : List V} (I : L2.Inv X pins σ H s) (q : SqT X.K H a xs) : ∃ (ws : List Value) (ob : Obj) (m : Nat), Vals xs ws ∧ s.heap.get? a = some ob ∧ ob.cls = .type "tuple" ∧ ob.data = .seq ws.toArray m := by
  rcases q with q | ⟨ob, ws, m, e, hc, hd, _, hv⟩
  · obtain ⟨_, ws, hv, ob, e, hc, m, hd⟩ := (show ObjOk _ _ H s.heap a (.tup xs) from q.ok I.hok)
    exact ⟨ws, ob, m, hv, e, hc, hd⟩
  · exact ⟨ws.toList, ob, m, hv, I.kIn _ _ e, hc, by simp [hd]⟩
theorem meets_extT (l : Addr) (us : Array Value) (n : Nat) (b : Addr) (o : Obj) (vs : Array Value) (m : Nat) (q0 : ¬(!us.isEmpty && Builtin.List.listTooLong (us.size + vs.size)) = true) (q1 : us.size ≤ sizeLine) (q2 : us.size + vs.size ≤ sizeLine + 1) (hc : o.cls = .type "tuple") (hdt : o.data = .seq vs m) :
    Meets (Builtin.«list.extend» ⟨[.ref l, .ref b], []⟩) (fun _ R s => s.heap.get? l = some { cls := .type "list", dict := none, data := .seq us n, slots := #[] } ∧ s.heap.get? b = some o ∧ R (.ok (.ret Value.none)) { s with heap := s.heap.update l (Obj.mapSeq fun x => x ++ vs), toks := s.toks }) :=
  .of_wp fun prog w A R s h => by
    obtain ⟨oc, od, odt, osl⟩ := o
    cases hc
    cases hdt
    obtain ⟨hp, g, d, tk, os⟩ := s
    obtain ⟨k1, k2, k3⟩ := h
    have f1 := AutoSeq1.idx_int
    have f2 := AutoSeq1.sub_tuple_tuple
    have f3 := AutoSeq1.sub_list_list
    have f4 := AutoSeq1.sub_tuple_list
    have f5 := AutoSeq1.sub_list_tuple
    have q3 : (us ++ vs).size ≤ sizeLine + 1 := by rw [Array.size_append]; exact q2
    wp_walk using (wpAny_updateSeq k1 rfl (hz := q1) (_hz' := q3)), AutoSeq1.wpAny_loadPart' k1, AutoSeq1.wpAny_loadPart' k2
    exact ⟨_, rfl, k3⟩
def rExtA (K : Fg) : V → List V → Hp → VK → Prop := fun x vs H Q => rExtend x vs H Q ∨ ∃ l b xs zs, x = .ref l ∧ vs = [.ref b] ∧ H l = some (.lst xs) ∧ SqT K H b zs ∧ xs.length + zs.length ≤ sizeLine ∧ Q .non (upd H l (.lst (xs ++ zs)))
theorem mt_extA : MtM X "list.extend" (rExtA X.K) := by
  intro pins s σ H x vs v us Q I rx rv h
  rcases h with h | h
  · exact mt_extend pins s σ H x vs v us Q I rx rv h
  obtain ⟨l, b, xs, zs, rfl, rfl, k1, k2, k3, q⟩ := h
  cases rx
  obtain ⟨u, rfl, ru⟩ := rv.one
  cases ru
  obtain ⟨l0, ps, n, r, l1, e⟩ := I.lstM k1
  obtain ⟨qs, o, m, r2, e2, oc, od⟩ := tupAt I k2
  have l2 := r2.length
  have l3 : ps.toArray.size + qs.toArray.size ≤ sizeLine := by rw [List.size_toArray, List.size_toArray]; omega
  have l4 : ¬ (!ps.toArray.isEmpty && Builtin.List.listTooLong (ps.toArray.size + qs.toArray.size)) = true := by
    rw [notLongL l3, Bool.and_false]
    decide
  refine call_meets F.slot_list_extend ⟨_, e, rfl⟩ F.entry_list_extend (F.args_list_extend_2 _ _) (meets_extT l ps.toArray n b o qs.toArray m l4 (by rw [List.size_toArray]; omega) (by omega) oc od) ⟨e, e2, .non, _, I.lset (its' := ps ++ qs) k1 e (by simp) (r.append r2) ?_, rfl, q⟩
  rw [List.length_append]
  omega
theorem ds_ext {o : Expr} {co : CE} {apos cpos : Pos} (ho : DE X Φ o co) (he : DE X Φ e ce) (hs : swapsWith (.Call (.Attribute o "extend" apos) [e] [] cpos) none pos.line X.env = pure false := by rfl) (h1 : attributeBase o "extend" X.env (eval o X.env) = eval o X.env := by rfl)
    (h2 : ((((backTo cpos (starEach [e] X.env)).all fun x => !x.fst) && (backToKw cpos (keywordEach [] X.env)).all fun x => x.fst.isSome) && decide (([e].length + ([] : List Keyword).length + if ([] : List Keyword).isEmpty = true then 0 else 1) < 30)) = true := by rfl)
    (h3 : (apos.endLine == cpos.line) = true := by rfl) (h4 : starEach [e] X.env = (false, eval e X.env) :: starEach [] X.env := by rfl) (h5 : ((backTo cpos (starEach [] X.env)).any fun x => x.fst) = false := by rfl) :
    DS X Φ (.Expr (.Call (.Attribute o "extend" apos) [e] [] cpos) pos) (.ext co ce) := by
  refine psW (ps_expr (pe_bm PySem.F.plainAttrs_list PySem.F.slot_list_extend PySem.F.type_list_extend mt_extA ho (pa_cons he pa_nil h4) h1 h2 h3 h4 h5) hs) fun D σ H h => ?_
  obtain ⟨μ, env, S, r, sr, er, e0, f⟩ := h
  simp only [ex] at e0
  split at e0
  · rename_i k S1 e1
    split at e0
    · rename_i j S2 e2
      split at e0
      · rename_i xs ys e3 e4
        split at e0
        · rename_i hl
          cases e0
          refine ⟨μ, env, S, _, S1, sr, er, e1, fun v μ1 H1 x1 s1 r1 => ?_⟩
          cases r1 with
          | ref hk =>
            refine ⟨.inl ⟨rfl, s1.isL hk⟩, μ1, env, S1, _, S2, s1, er.mono x1, e2, fun u μ2 H2 x2 s2 r2 => ?_⟩
            have hk2 := x2.pre _ _ hk
            obtain ⟨q0, vs, q1, t1⟩ := s2.rm hk2 e3
            cases j <;> simp only [seqW] at e4 <;> try (cases e4; done)
            · cases e4
              cases r2 with
              | tup p1 t2 =>
                obtain ⟨s3, x3⟩ := s2.write hk2 q0 (t1.append t2)
                refine .inr ⟨_, _, vs, _, rfl, rfl, q1, p1, by rw [t1.length, t2.length]; exact lim_ok hl, ?_⟩
                exact f σ μ2 _ ((x1.trans x2).trans x3) s3 (er.mono ((x1.trans x2).trans x3))
            · cases r2 with
              | ref hj =>
                obtain ⟨p0, us, p1, t2⟩ := s2.rm hj e4
                obtain ⟨s3, x3⟩ := s2.write hk2 q0 (t1.append t2)
                refine .inl ⟨_, _, vs, us, rfl, rfl, q1, p1, by rw [t1.length, t2.length]; exact lim_ok hl, ?_⟩
                exact f σ μ2 _ ((x1.trans x2).trans x3) s3 (er.mono ((x1.trans x2).trans x3))
        · cases e0
      · cases e0
    · cases e0
  · cases e0
end
/-! ### a def -/
theorem VWs.start {K : Fg} {μ : List Addr} {H : Hp} {vs : List V} {ws : List W} {N : List Str} (h : VWs K μ H vs ws) : ER K μ H (L2.start N vs) (MP.start N.length ws) := by
  refine ⟨?_, fun i w q => ?_⟩
  · unfold L2.start MP.start
    rw [List.length_append, List.length_append, List.length_map, List.length_map, List.length_replicate, List.length_replicate, h.length]
  · unfold MP.start at q
    unfold L2.start
    by_cases hi : i < ws.length
    · rw [List.getElem?_append_left (by rw [List.length_map]; exact hi), List.getElem?_map, Option.map_eq_some_iff] at q
      obtain ⟨w', q1, q2⟩ := q
      cases q2
      obtain ⟨v, h1, h2⟩ := h.get q1
      refine ⟨v, ?_, h2⟩
      rw [List.getElem?_append_left (by rw [List.length_map, h.length]; exact hi), List.getElem?_map, h1]
      rfl
    · rw [List.getElem?_append_right (by rw [List.length_map]; omega), List.getElem?_replicate] at q
      split at q <;> cases q
theorem fn_ok {P : Program} {w : World} {K : Fg} {mg : Str → Option Value} {base : Heap} {x : Str} {st : Stmt} {f : Addr} {fd : FuncData} {N ps : List Str} {k i n : Nat} {ds : Nat → Option Def} {body : CSs} (F : Fun K x x st f fd) (Sc : FnScope N ps (defScope st)) (hd : ds i = some ⟨n, N.length, body⟩) (hn : ps.length = n)
    (hbody : ∀ (cdv : Value) (A : Around) (outer : List PySem.Env) (s : Shared) (H : Hp) (E : XK), Room k (A.deeper (envOfC x (defScope st) s.heap.objs.size f cdv)) → DSs (cxOf CX0 P w K mg base N x (defScope st) f cdv A outer s H E).nox (callF ds k) (defBody st) body) : FnOk P w K mg base CX0 (k + 1) f fd ps (spD K (callF ds (k + 1)) i n) := by
  refine F.ok Sc (fun vs H Q E h => h.1.trans hn.symm) (fun cdv A outer s H vs Q E hr h => ⟨_, hbody cdv A outer s H E hr, ?_⟩)
  obtain ⟨hl, μ, S, ws, w', S', sr, hv, h1, h2⟩ := h
  simp only [callF, hd] at h1
  split at h1
  · cases hr : exs (callF ds k) body (MP.start N.length ws) S with
    | none =>
      rw [hr] at h1
      cases h1
    | some r =>
      rw [hr] at h1
      refine ⟨μ, _, S, r, sr, hv.start, hr, ?_⟩
      cases r with
      | nx env S2 =>
        cases h1
        exact fun σ' μ' H' x' s' _ => h2 _ μ' H' x' s' .non
      | rt w2 S2 =>
        cases h1
        exact h2
      | bk env S2 => cases h1
      | ct env S2 => cases h1
  · cases h1
end MP
namespace MP
open PySem PySem.Spec PyProof.Rows L2
section
variable {X : Cx} {Φ : Fns} {a b d e tg : Expr} {es : List Expr} {ca cb cd ce : CE} {cs : CEs} {pos : Pos}
theorem de_gstr {x s : Str} {l : List Nat} (h : ∃ t, X.mg x = some (.str s t)) (e : s.cps.toList = l := by decide +kernel) (hg : Gl X x := by rfl) (hd : (x == ("__debug__" : Str)) = false := by decide) : DE X Φ (.Name x pos) (.c (.str l)) := by
  obtain ⟨t, h⟩ := h
  exact de_glob h (v := .str s) ⟨t, rfl⟩ (fun _ _ => .str s l e) hg hd
theorem de_gint {x : Str} {i : Int} (h : ∃ t, X.mg x = some (.int i t)) (hg : Gl X x := by rfl) (hd : (x == ("__debug__" : Str)) = false := by decide) : DE X Φ (.Name x pos) (.c (.int i)) := by
  obtain ⟨t, h⟩ := h
  exact de_glob h (v := .int i) ⟨t, rfl⟩ (fun _ _ => .int i) hg hd
theorem de_gval {x : Str} {w : W} (h : ∃ v u, X.mg x = some u ∧ RelV v u ∧ ∀ μ H, VW X.K μ H v w) (hg : Gl X x := by rfl) (hd : (x == ("__debug__" : Str)) = false := by decide) : DE X Φ (.Name x pos) (.c w) := by
  obtain ⟨v, u, h1, h2, h3⟩ := h
  exact de_glob h1 h2 h3 hg hd
theorem tT_of {c : CE} {t : TE} (i : ∀ σ H Q, tD X.K Φ c σ H Q → t σ H Q) {σ : L2.St} {H : Hp} {Q : Bool → Hp → Prop} (h : tDT X.K Φ c σ H Q) : tB t σ H Q := tTest_of i h
theorem isN_of {neg : Bool} {σ : L2.St} {H : Hp} {Q : VK} (h : tD X.K Φ (.bi (if neg then .notN else .isN) (.cons ca .nil)) σ H Q) : (if neg then tNotN (tD X.K Φ ca) else tIsN (tD X.K Φ ca)) σ H Q := by
  obtain ⟨μ, env, S, w, S', s, er, h1, h2⟩ := h
  simp only [ev, evs] at h1
  split at h1
  · rename_i xs S1 e1
    split at e1
    · rename_i x S2 e2
      cases e1
      cases neg with
      | true =>
        simp only [opI, if_true] at h1
        cases h1
        refine ⟨μ, env, S, x, _, s, er, e2, fun v μ1 H1 x1 s1 r1 => ?_⟩
        have q : decide (v = .non) = isNon x := by cases r1 <;> simp [isNon]
        show Q (V.bl (!decide (v = V.non))) H1
        rw [q]
        exact h2 _ μ1 H1 x1 s1 (.bl _)
      | false =>
        simp only [opI] at h1
        cases h1
        refine ⟨μ, env, S, x, _, s, er, e2, fun v μ1 H1 x1 s1 r1 => ?_⟩
        have q : decide (v = .non) = isNon x := by cases r1 <;> simp [isNon]
        show Q (V.bl (decide (v = V.non))) H1
        rw [q]
        exact h2 _ μ1 H1 x1 s1 (.bl _)
    · cases e1
  · cases h1
theorem dt_isN {j p} (ha : DE X Φ a ca) : DT X Φ (.Compare a [.Is] [.Constant .none j p] pos) (.bi .isN (.cons ca .nil)) :=
  ptW (pt_cmp (pc_isN ha)) fun _ _ _ h => tT_of (fun _ _ _ q => isN_of (neg := false) q) h
theorem dt_notN {j p} (ha : DE X Φ a ca) : DT X Φ (.Compare a [.IsNot] [.Constant .none j p] pos) (.bi .notN (.cons ca .nil)) :=
  ptW (pt_cmp (pc_notN ha)) fun _ _ _ h => tT_of (fun _ _ _ q => isN_of (neg := true) q) h
end
/-! ### ends -/
theorem fn_zero {P : Program} {w : World} {K : Fg} {mg : Str → Option Value} {base : Heap} {f : Addr} {fd : FuncData} {ps : List Str} {i n : Nat} {ds : Nat → Option Def} (h : ps.length = n) : FnOk P w K mg base CX0 0 f fd ps (spD K (callF ds 0) i n) :=
  ⟨fun vs H Q E q => q.1.trans h.symm, fun A outer s H args us vs Q E hr he hb hv q => by
    obtain ⟨_, μ, S, ws, w', S', _, _, h1, _⟩ := q
    cases h1⟩
theorem VWs.ints {K : Fg} {μ : List Addr} {H : Hp} : ∀ ns : List Int, VWs K μ H (ns.map V.int) (ns.map W.int)
  | [] => .nil
  | n :: ns => .cons (.int n) (VWs.ints ns)
/-- the law's call at the script -/
theorem law_in {K : Fg} {H : Hp} {a : Addr} {ns : List Int} {Φ : Fns} {f : Nat} {E : XK} (hO : Only H) (hS : SqL K H a (ns.map V.int)) (h : ∃ S', Φ f [.rol (ns.map W.int)] [] = some (.bl true, S')) : spD K Φ f 1 [.ref a] H (fun v _ => v = .bl true) E := by
  obtain ⟨S', h⟩ := h
  have hz : FzL K H a (ns.map V.int) := by
    rcases hS with (q | ⟨o, q⟩) | q
    · rcases hO a with z | ⟨o, xs, z⟩
      · rw [z] at q; cases q
      · rw [z] at q; cases q
    · exact .inl ⟨o, q⟩
    · exact .inr q
  refine ⟨rfl, [], [], _, _, S', ⟨rfl, fun i j a h => by simp at h, fun k a o h => by simp at h⟩, .cons (.rol hz (VWs.ints ns)) .nil, h, fun v μ' H' _ _ r => ?_⟩
  cases r
  rfl
theorem bind_one {K : Fg} {x y : Str} {st : Stmt} {f : Addr} {fd : FuncData} (F : Fun K x x st f fd) (h : ∀ (kV doc pm : Value) (an : Option Addr) (cdv ct : Value) (u : Value), bindArgs (PySem.W.fnOf x x (defArgs st) (defBody st) (defScope st) .none kV doc pm an cdv ct) ⟨[u], []⟩ = pure [(y, u)]) : ∀ (s : Shared) (u : Value), BindsTo s fd ⟨[u], []⟩ [(y, u)] := by
  obtain ⟨oc, od, kV, doc, pm, an, cdv, ct, osl, rfl, lk, hcd⟩ := F.ex
  exact fun s u => .of_eq (h kV doc pm an cdv ct u)
end MP
namespace MP
abbrev Srt (l : List (List Nat)) : Prop := l.Pairwise (· < ·)
theorem mem_insU (x z : List Nat) : ∀ l : List (List Nat), z ∈ insU x l ↔ z = x ∨ z ∈ l
  | [] => by simp [insU]
  | y :: r => by
    unfold insU
    split
    · simp
    · split
      · rw [List.mem_cons, mem_insU x z r, List.mem_cons]
        constructor
        · rintro (h | h | h)
          · exact .inr (.inl h)
          · exact .inl h
          · exact .inr (.inr h)
        · rintro (h | h | h)
          · exact .inr (.inl h)
          · exact .inl h
          · exact .inr (.inr h)
      · rename_i h1 h2
        have e : x = y := List.le_antisymm h2 h1
        subst e
        simp
theorem srt_insU (x : List Nat) : ∀ l : List (List Nat), Srt l → Srt (insU x l)
  | [], _ => by simp [insU]
  | y :: r, h => by
    have h := List.pairwise_cons.mp h
    unfold insU
    split
    · rename_i hx
      refine List.pairwise_cons.mpr ⟨fun z hz => ?_, List.pairwise_cons.mpr h⟩
      rcases List.mem_cons.mp hz with q | q
      · rw [q]; exact hx
      · exact List.lt_trans hx (h.1 z q)
    · split
      · rename_i hy
        refine List.pairwise_cons.mpr ⟨fun z hz => ?_, srt_insU x r h.2⟩
        rcases (mem_insU x z r).mp hz with q | q
        · rw [q]; exact hy
        · exact h.1 z q
      · exact List.pairwise_cons.mpr h
theorem srt_sortU : ∀ ys : List (List Nat), Srt (sortU ys)
  | [] => .nil
  | y :: r => srt_insU y _ (srt_sortU r)
theorem mem_sortU (z : List Nat) : ∀ ys : List (List Nat), z ∈ sortU ys ↔ z ∈ ys
  | [] => by simp [sortU]
  | y :: r => by
    show z ∈ insU y (sortU r) ↔ _
    rw [mem_insU, mem_sortU z r, List.mem_cons]
theorem srt_uniq : ∀ l m : List (List Nat), Srt l → Srt m → (∀ z, z ∈ l ↔ z ∈ m) → l = m
  | [], [], _, _, _ => rfl
  | [], y :: r, _, _, h => absurd ((h y).mpr List.mem_cons_self) (by simp)
  | x :: r, [], _, _, h => absurd ((h x).mp List.mem_cons_self) (by simp)
  | x :: r, y :: t, hl, hm, h => by
    have hl := List.pairwise_cons.mp hl
    have hm := List.pairwise_cons.mp hm
    have e : x = y := by
      rcases List.mem_cons.mp ((h x).mp List.mem_cons_self) with q | q
      · exact q
      · rcases List.mem_cons.mp ((h y).mpr List.mem_cons_self) with q' | q'
        · exact q'.symm
        · exact absurd (List.lt_trans (hl.1 y q') (hm.1 x q)) (List.lt_irrefl x)
    subst e
    rw [srt_uniq r t hl.2 hm.2 fun z => ?_]
    constructor
    · intro hz
      rcases List.mem_cons.mp ((h z).mp (List.mem_cons_of_mem _ hz)) with q | q
      · subst q
        exact absurd (hl.1 z hz) (List.lt_irrefl z)
      · exact q
    · intro hz
      rcases List.mem_cons.mp ((h z).mpr (List.mem_cons_of_mem _ hz)) with q | q
      · subst q
        exact absurd (hm.1 z hz) (List.lt_irrefl z)
      · exact q
/-- what is the same as a set is sorted alike -/
theorem sortU_congr {a b : List (List Nat)} (h : ∀ z, z ∈ a ↔ z ∈ b) : sortU a = sortU b :=
  srt_uniq _ _ (srt_sortU a) (srt_sortU b) fun z => by rw [mem_sortU, mem_sortU, h]
theorem len_insU (x : List Nat) : ∀ l : List (List Nat), (insU x l).length ≤ l.length + 1
  | [] => by simp [insU]
  | y :: r => by
    unfold insU
    split
    · simp
    · split
      · simp only [List.length_cons]
        have := len_insU x r
        omega
      · simp
theorem len_sortU : ∀ ys : List (List Nat), (sortU ys).length ≤ ys.length
  | [] => Nat.le_refl _
  | y :: r => by
    have h1 := len_insU y (sortU r)
    have h2 := len_sortU r
    show (insU y (sortU r)).length ≤ r.length + 1
    omega
end MP
namespace MP
open PySem PySem.Spec PyProof.Rows L2
/-! ### sets of texts: set(list), sorted(set) -/
def GoodT (w : World) (e : Int × Value) : Prop := ∃ x tk, e.2 = Value.str x tk ∧ e.1 = hashStr w x
def keyT (e : Int × Value) : Str := match e.2 with
  | .str x _ => x
  | _ => Str.empty
def SetT (w : World) (h : Heap) (a : Addr) (S : Str → Bool) (n : Nat) : Prop :=
  ∃ o es ep t, (h.get? a = some o ∧ o.ExactSet ∧ o.data = .set es ep t) ∧ ((∀ e ∈ es.toList, GoodT w e) ∧ (es.toList.map keyT).Nodup ∧ ∀ k, S k = true ↔ k ∈ es.toList.map keyT) ∧
    (es.size < scanBound ∧ t.fits es.size = true ∧ es.size = n) ∧ Ris t.place.toList ∧ (w.params.followText "set-order" = true ∨ t.led = true)
section
variable {P : Program} {w : World} {h h' : Heap} {a : Addr} {S : Str → Bool} {n : Nat}
theorem SetT.at (R : SetT w h a S n) (k : ∀ o, h.get? a = some o → h'.get? a = some o) : SetT w h' a S n := by
  obtain ⟨o, es, ep, t, ⟨ho, q⟩, r⟩ := R
  exact ⟨o, es, ep, t, ⟨k o ho, q⟩, r⟩
theorem SetT.congr {S' : Str → Bool} (R : SetT w h a S n) (e : ∀ k, S' k = S k) : SetT w h a S' n := by
  rw [show S' = S from funext e]
  exact R
theorem goodT_elems {l : List (Int × Value)} (g : ∀ e ∈ l, GoodT w e) : ElemsOf (PySem.strKind P w) l := fun e he => by
  obtain ⟨k, tk, h1, h2⟩ := g e he
  exact ⟨⟨k, by rw [h1]; exact PySem.strKind_is P w k tk, h2⟩, by rw [h1] <;> rfl⟩
theorem goodT_is {e : Int × Value} (g : GoodT w e) (k : Str) : (PySem.strKind P w).is k e.2 = true ↔ keyT e = k := by
  obtain ⟨k0, tk, h1, _⟩ := g
  unfold keyT
  rw [h1]
  constructor
  · intro q
    obtain ⟨t, q2⟩ := Value.isStrOf_shape (x := k) (v := Value.str k0 tk) q
    cases q2
    rfl
  · intro q
    have q2 : k0 = k := q
    rw [q2]
    exact PySem.strKind_is P w k tk
theorem goodT_mem {l : List (Int × Value)} (g : ∀ e ∈ l, GoodT w e) (k : Str) : k ∈ l.map keyT ↔ ∃ e ∈ l, (PySem.strKind P w).is k e.2 = true := by
  rw [List.mem_map]
  exact ⟨fun ⟨e, he, q⟩ => ⟨e, he, (goodT_is (g e he) k).2 q⟩, fun ⟨e, he, q⟩ => ⟨e, he, (goodT_is (P := P) (g e he) k).1 q⟩⟩
end
section
variable {P : Program} {w : World} {A : Around} {E : Value → Shared → Prop} {s : Shared} {a : Addr} {S : Str → Bool} {n : Nat}
theorem setT_tail {g : Bool → Sem Unit} (hg : ∀ (b : Bool) (s₁ : Shared) (Q' : Unit → Shared → Prop), Q' () s₁ → wpAny (model P w) A (g b) Q' E s₁) {o : Obj} {es : Array (Int × Value)} {ep : Nat} {t : SetTable} (ho : s.heap.get? a = some o) (hex : o.ExactSet) (hd : o.data = .set es ep t)
    {es1 : Array (Int × Value)} {t2 : SetTable} {S' : Str → Bool} (g1 : ∀ e ∈ es1.toList, GoodT w e) (nd1 : (es1.toList.map keyT).Nodup) (m1 : ∀ k, S' k = true ↔ k ∈ es1.toList.map keyT) (hb1 : es1.size < scanBound) (hf2 : t2.fits es1.size = true)
    (hr : Ris t2.place.toList) (hl : w.params.followText "set-order" = true ∨ t2.led = true) {wasDummy : Bool} {R : Option Bool → Shared → Prop} (hR : ∀ h', Heap.SameBut a s.heap h' → SetT w h' a S' es1.size → R (some true) { s with heap := h' }) :
    wpAny (model P w) A (do
        storeSet a es1 t2
        if (!wasDummy && t2.tooFull) = true then do
            g (relayAll t2 es1 (SetTable.grown es1.size)).2.2
            storeSet a (relayAll t2 es1 (SetTable.grown es1.size)).1 (relayAll t2 es1 (SetTable.grown es1.size)).2.1
            pure (some true)
          else pure (some true)) R E s := by
  have ho1 := store_at (es' := es1) (t' := t2) ho hd; have sb1 := Heap.SameBut.update s.heap a (Obj.putSet es1 t2)
  refine wpAny_bind (wpAny_storeSet_of ho hd (?_ : _) (fits_of_scanBound hb1))
  split
  · have pm := relayAll_perm t2 es1 (SetTable.grown es1.size); have hf3 := relayAll_fits t2 es1 (SetTable.grown es1.size); have hr3 := relayAll_ris t2 es1 (SetTable.grown es1.size); have hl3 := relayAll_led t2 es1 (SetTable.grown es1.size)
    generalize relayAll t2 es1 (SetTable.grown es1.size) = Z at pm hf3 hr3 hl3 ⊢; obtain ⟨es2, t3, gave⟩ := Z
    dsimp only at pm hf3 hr3 hl3 ⊢
    have hsz : es2.size = es1.size := by
      have q := pm.length_eq
      simpa using q
    have hb2 : es2.size < scanBound := by omega
    have ho2 := store_at (es' := es2) (t' := t3) ho1 rfl
    refine wpAny_bind (hg _ _ _ (wpAny_bind (wpAny_storeSet_of ho1 rfl (wpAny_pure (hR _ (sb1.trans (Heap.SameBut.update _ a _)) ?_)) (fits_of_scanBound hb2))))
    exact ⟨_, es2, _, t3, ⟨ho2, hex, rfl⟩, ⟨fun e he => g1 e (pm.mem_iff.mp he), (pm.map keyT).nodup_iff.mpr nd1, fun k => (m1 k).trans (pm.map keyT).mem_iff.symm⟩, ⟨hb2, hf3, hsz⟩, hr3, hl.imp id fun z => by rw [hl3]; exact z⟩
  · exact wpAny_pure (hR _ sb1 ⟨_, es1, _, t2, ⟨ho1, hex, rfl⟩, ⟨g1, nd1, m1⟩, ⟨hb1, hf2, rfl⟩, hr, hl⟩)
theorem setT_add {k : Str} {tk : Tok} {Q : Bool → Shared → Prop} (R : SetT w s.heap a S n) (room : n + 1 < scanBound) (hQ : ∀ h', Heap.SameBut a s.heap h' → SetT w h' a (fun j => S j || decide (j = k)) (if S k = true then n else n + 1) → Q (!S k) { s with heap := h' }) :
    wpAny (model P w) A (setAddHashed a (.str k tk) ((PySem.strKind P w).hash k)) Q E s := by
  obtain ⟨o, es, ep, t, ⟨ho, hex, hd⟩, ⟨g, nd, hm⟩, ⟨hb, hf, hn⟩, hr, hl⟩ := R
  have hkey : (PySem.strKind P w).is k (.str k tk) = true := PySem.strKind_is P w k tk
  have hsc : (Value.str k tk).scannable = true := rfl
  have hel : ElemsOf (PySem.strKind P w) es.toList := goodT_elems g
  unfold setAddHashed setAddHashedIn
  refine wpAny_holding (wpAny_bind (wpAny_setState_of ho hd hf (?_ : _)))
  dsimp only
  rw [byScan_of hsc hb hel]; simp only [↓reduceIte]; unfold setAddByScan
  refine wpAny_bind (wpAny_bind (wpAny_rule (wpAny_bind (wpAny_setScan_of hkey ho hd hf hel ?_))))
  cases hfi : List.findIdx? (fun e => (PySem.strKind P w).is k e.2) es.toList with
  | some j =>
    dsimp only
    obtain ⟨hj, pj, _⟩ := List.findIdx?_eq_some_iff_getElem.mp hfi
    have hSk : S k = true := (hm k).2 ((goodT_mem (P := P) (w := w) g k).2 ⟨es.toList[j], List.getElem_mem hj, pj⟩)
    have q := hQ s.heap (Heap.SameBut.refl a s.heap) ⟨o, es, ep, t, ⟨ho, hex, hd⟩, ⟨g, nd, fun i => by
      rw [Bool.or_eq_true, decide_eq_true_eq, ← hm i]
      exact ⟨fun z => z.elim id (fun e => e ▸ hSk), .inl⟩⟩, ⟨hb, hf, by rw [if_pos hSk]; exact hn⟩, hr, hl⟩
    rw [hSk] at q
    exact wpAny_pure (wpAny_pure q)
  | none =>
    dsimp only
    have hnk : k ∉ es.toList.map keyT := fun z => by
      obtain ⟨e, he, q⟩ := (goodT_mem (P := P) (w := w) g k).1 z
      rw [List.findIdx?_eq_none_iff.mp hfi e he] at q; cases q
    have hSk : S k = false := Bool.eq_false_iff.mpr fun q => hnk ((hm k).1 q)
    have hgw : ∀ (b : Bool) {s₁ : Shared} {Q' : Unit → Shared → Prop}, Q' () s₁ → wpAny (model P w) A (match b with | true => rule "set.scan.the-table-gave-way" | false => pure ()) Q' E s₁ := fun b s₁ Q' q => by
      cases b
      · exact wpAny_pure q
      · exact wpAny_rule q
    have pm := layNew_perm t es ((PySem.strKind P w).hash k) (.str k tk); have hf1 := layNew_fits t es ((PySem.strKind P w).hash k) (.str k tk); have hr1 := layNew_ris t es ((PySem.strKind P w).hash k) (.str k tk) hr; have hl1 := layNew_led t es ((PySem.strKind P w).hash k) (.str k tk)
    generalize layNew t es ((PySem.strKind P w).hash k) (.str k tk) = Z at pm hf1 hr1 hl1 ⊢; obtain ⟨es1, t1, wasDummy, gave⟩ := Z
    dsimp only at pm hf1 hr1 hl1 ⊢
    rw [Array.toList_push] at pm
    have pc : es1.toList.Perm (((PySem.strKind P w).hash k, Value.str k tk) :: es.toList) := pm.trans (List.perm_append_singleton _ _)
    have pk : (es1.toList.map keyT).Perm (k :: es.toList.map keyT) := pc.map keyT
    have g1 : ∀ e ∈ es1.toList, GoodT w e := fun e he => by
      rcases List.mem_cons.mp (pc.mem_iff.mp he) with z | z
      · exact ⟨k, tk, by rw [z], by rw [z]; rfl⟩
      · exact g e z
    have nd1 : (es1.toList.map keyT).Nodup := pk.nodup_iff.mpr (List.nodup_cons.mpr ⟨hnk, nd⟩)
    have m1 : ∀ i, (S i || decide (i = k)) = true ↔ i ∈ es1.toList.map keyT := fun i => by
      rw [Bool.or_eq_true, decide_eq_true_eq, hm i, pk.mem_iff, List.mem_cons, Or.comm]
    have hsz : es1.size = n + 1 := by
      have q := pc.length_eq
      simp at q
      omega
    have hb1 : es1.size < scanBound := by omega
    have hled : w.params.followText "set-order" = true ∨ t1.led = true := hl.imp id fun z => by rw [hl1, z]
    have fin : ∀ h', Heap.SameBut a s.heap h' → SetT w h' a (fun j => S j || decide (j = k)) es1.size → Q true { s with heap := h' } := fun h' sb r => by
      have q := hQ h' sb
      rw [hSk] at q; rw [hsz] at r
      exact q r
    refine wpAny_bind (hgw _ (?_ : _))
    split
    · refine wpAny_bind ?_; rw [hashByValue_scannable 8 hsc]
      refine wpAny_pure (setT_tail (?_ : _) ho hex hd g1 nd1 m1 hb1 ?_ ?_ ?_ ?_)
      · intro b s₁ Q' q; cases b <;> first | exact wpAny_pure q | exact wpAny_rule q
      · first | (split <;> first | exact hf1 | exact SetTable.fits_plain_off hf1) | exact hf1
      · first | (split <;> exact hr1) | exact hr1
      · first | (split <;> exact hled) | exact hled
      · exact fun h' sb r => by dsimp only; exact wpAny_pure (fin h' sb r)
    · refine wpAny_bind (wpAny_pure (?_ : _)); simp only [↓reduceIte]
      refine setT_tail (?_ : _) ho hex hd g1 nd1 m1 hb1 hf1 hr1 hled ?_
      · intro b s₁ Q' q; cases b <;> first | exact wpAny_pure q | exact wpAny_rule q
      · exact fun h' sb r => by dsimp only; exact wpAny_pure (fin h' sb r)
end
end MP
namespace MP
open PySem PySem.Spec PyProof.Rows L2
abbrev fset (w : World) : Obj := { cls := .type "set", dict := none, data := .set #[] 0 (.fresh 0 0 (!w.params.followText "set-order")) }
theorem setT_new {w : World} {h : Heap} {a : Addr} (ho : h.get? a = some (fset w)) : SetT w h a (fun _ => false) 0 :=
  ⟨_, #[], 0, _, ⟨ho, ⟨rfl, rfl, rfl⟩, rfl⟩, ⟨(fun e he => by simp at he), by simp, fun k => by simp⟩, ⟨by decide, by rfl, rfl⟩, List.Pairwise.nil, by
    show _ ∨ (!w.params.followText "set-order") = true
    cases w.params.followText "set-order" <;> simp⟩
theorem strs_at : ∀ {vs : List Value} {ns : List Str}, PyProof.Rows.StrsAre vs ns → ∀ (i : Nat) (v : Value), vs[i]? = some v → ∃ k t, ns[i]? = some k ∧ v = .str k t
  | _, _, .nil, i, v, h => by simp at h
  | _, _, .cons y t r, 0, v, h => by simp at h; exact ⟨y, t, rfl, h.symm⟩
  | _, _, .cons y t r, i + 1, v, h => strs_at r i v (by simpa using h)
section
variable {P : Program} {w : World} {A : Around} {E : Value → Shared → Prop} {s : Shared}
theorem set_update_txts {I : Addr} {fp wr : List Addr} {G : Array GenState → Array GenState → Prop} {n : Nat} {Pv : Nat → Value → Prop} {St : Nat → Shared → Prop} {R : Result → Shared → Prop} (W : WalksS P w A.in1 I fp wr G n Pv St) (S : Addr) (hSf : S ∉ fp)
    (ns : List Str) (hn : n = ns.length) (hb : ns.length + 1 < scanBound) (hval : ∀ i v, Pv i v → ∃ k t, ns[i]? = some k ∧ v = .str k t) : ∀ (k i : Nat) (s : Shared), n - i = k → i ≤ n → St i s → (∃ c, c ≤ i ∧ SetT w s.heap S (fun j => decide (j ∈ ns.take i)) c) →
      (∀ s' c, Moved (S :: wr) G s s' → c ≤ n → SetT w s'.heap S (fun j => decide (j ∈ ns)) c → R (.ok (.ret .none)) s') → codeAny (model P w) A (.builtin "set.update.loop" ⟨[.ref S, .ref I], []⟩) R s := by
  have hSw : S ∉ wr := fun h => hSf (W.sub _ h); have hsub : ∀ b ∈ wr, b ∈ S :: wr := fun b hb => List.mem_cons_of_mem _ hb
  intro k
  induction k with
  | zero =>
    intro i s hk' hi hst ⟨c, hc, hS⟩ hR
    obtain rfl : i = n := by omega
    refine codeAny_builtin PyProof.Rows.F.entry_set_update_loop (?_ : _); rw [Around.under_plainId PyProof.Rows.F.plain_set_update_loop _]
    show wpAny _ A.in1 (pyNext (.ref I) >>= _) _ _ s
    refine wpAny_bind (W.done s _ _ hst fun s' hm => (?_ : _)); show wpAny _ A.in1 (ret Value.none) _ _ s'
    rw [List.take_of_length_le (show ns.length ≤ i by omega)] at hS
    exact wpAny_pure (hR s' c (hm.mono hsub) hc (hS.at fun o e => hm.heap S o hSw e))
  | succ k ih =>
    intro i s hk' hi hst ⟨c, hc, hS⟩ hR
    have hlt : i < n := by omega
    refine codeAny_builtin PyProof.Rows.F.entry_set_update_loop (?_ : _); rw [Around.under_plainId PyProof.Rows.F.plain_set_update_loop _]
    show wpAny _ A.in1 (pyNext (.ref I) >>= _) _ _ s
    refine wpAny_bind (W.item i s _ _ hlt hst fun v s' hP hst' hm => (?_ : _)); obtain ⟨z, t, hz, rfl⟩ := hval i v hP
    have hS' : SetT w s'.heap S (fun j => decide (j ∈ ns.take i)) c := hS.at fun o e => hm.heap S o hSw e
    show wpAny _ A.in1 (holding [Value.str z t] (setAdd S (.str z t)) >>= _) _ _ s'
    refine wpAny_bind (wpAny_holding (?_ : _)); unfold setAdd
    refine wpAny_holding (wpAny_bind ((PySem.strKind P w).pyHash (k := z) (PySem.strKind_is _ _ _ _) (?_ : _)))
    refine setT_add (s := { s' with toks := s'.toks + 1 }) hS' (by omega) fun h' hsb hS2 => ?_
    have hS3 : SetT w h' S (fun j => decide (j ∈ ns.take (i + 1))) (if decide (z ∈ ns.take i) = true then c else c + 1) := hS2.congr fun j => by
      rw [List.take_add_one, hz]
      simp [List.mem_append]
    have hc3 : (if decide (z ∈ ns.take i) = true then c else c + 1) ≤ i + 1 := by split <;> omega
    refine wpAny_pure ⟨plainId_quiet PyProof.Rows.F.plain_set_update_loop _, ih (i + 1) _ (by omega) hlt (W.frame _ s' _ _ hst' (Nat.le_succ _) fun b hb o e => (?_ : _)) ⟨_, hc3, hS3⟩ fun s'' c2 hm'' hc'' hS'' => ?_⟩
    · rw [hsb.2 b (fun q : b = S => hSf (q ▸ hb))]; exact e
    · refine hR s'' c2 (Moved.trans W.gtrans ((hm.mono hsub).then_heap (Nat.le_succ _) fun b o hb e => (?_ : _)) hm'') hc'' hS''; rw [hsb.2 b (fun q : b = S => hb (q ▸ List.mem_cons_self))]; exact e
theorem call_set_txts {l : Addr} {items : Array Value} (ns : List Str) {Q : Value → Shared → Prop} (hh : A.handled = none) (hl : s.heap.IsList l items) (hit : PyProof.Rows.StrsAre items.toList ns) (hb : ns.length + 1 < scanBound)
    (h : ∀ (h' : Heap) (tk c : Nat), SetT w h' s.heap.objs.size (fun j => decide (j ∈ ns)) c → c ≤ ns.length → (∀ b o, s.heap.get? b = some o → h'.get? b = some o) → Q (.ref s.heap.objs.size) { s with heap := h', toks := tk }) : wpAny (model P w) A (call (.type "set") [.ref l]) Q E s := by
  have hisz : items.size = ns.length := by
    have q := PyProof.Rows.StrsAre.length hit
    simpa using q
  obtain ⟨c, tl, hmro⟩ := PySem.F.called_set.mro; have hmade := PySem.F.called_set.made; have hsub := PySem.F.called_set.sub
  refine wpAny_call (codeAny_of_tree (?_ : _)); show wpAny _ _ (callAny (.type "set") _) _ _ _
  refine wpAny_pure ⟨Code.quiet_builtin _ (by decide +kernel), codeAny_builtin PySem.F.entry_type_call (?_ : _)⟩
  rw [Around.under_plain (weight_type_call_type "set" [.ref l] []) rfl]
  have h1 := PySem.F.called_set.notType; have h2 := PySem.F.called_set.canCreate; have hct := PySem.F.typeCall_set_1 (.ref l)
  repeat (any_goals (first | assumption | wp_step))
  refine codeAny_mono (L2.code_set_led1 (.ref l) (E := E) (Q₁ := fun obj s₁ => obj = .ref s.heap.objs.size ∧ s₁ = { s with heap := s.heap.push (fset w) }) ⟨rfl, rfl⟩) fun r s₁ hr => ?_
  cases r with
  | error e => exact hr
  | ok fl =>
    cases fl with
    | ret obj =>
      obtain ⟨rfl, rfl⟩ := hr
      have hS : (s.heap.push (fset w)).get? s.heap.objs.size = some (fset w) := Heap.get?_push_size _ rfl
      have hT : Shared.TypeIs { s with heap := s.heap.push (fset w) } (.ref s.heap.objs.size) "set" := ⟨_, hS, rfl⟩
      have hli := PySem.F.called_set.init.lookup; have hbi := PySem.F.called_set.init.bind (.ref s.heap.objs.size)
      repeat (any_goals (first | assumption | wp_step))
      refine codeAny_mono (codeAny_call_builtin (R := wants (fun r s₂ => r = .none ∧ ∃ h' tk c, s₂ = { s with heap := h', toks := tk } ∧ SetT w h' s.heap.objs.size (fun j => decide (j ∈ ns)) c ∧ c ≤ ns.length ∧ (∀ b o, s.heap.get? b = some o → h'.get? b = some o)) E) PySem.F.called_set.init.plain PySem.F.entry_set_init (check_set_init_1 hT ?_)) fun r₂ s₂ hr₂ => ?_
      · obtain ⟨ol, hol, hcl, nl, hdl⟩ := hl; obtain ⟨ocls, odict, odata, oslots⟩ := ol
        simp only at hcl hdl
        subst hcl; subst hdl
        have hol' : (s.heap.push (fset w)).get? l = some { cls := .type "list", dict := odict, data := .seq items nl, slots := oslots } := Heap.get?_push_of_some _ hol
        have hsls := PySem.F.sub_list_set; have hslf := PySem.F.sub_list_frozenset; have hne : (Value.type "list" == Value.type "dict") = false := by decide
        have hl1 : (s.heap.push (fset w)).IsList l items := ⟨_, hol', rfl, nl, rfl⟩
        unfold Builtin.«set.__init__» noKeywords Builtin.Frozenset.updateFrom; generalize hPI : pyIter = PI
        wp_walk
        subst hPI
        refine wpAny_pyIter_list hl1 (wpAny_bind (wpAny_runValue (?_ : _)))
        have hlS : l < s.heap.objs.size := Heap.lt_size hol; have hh3 : A.in1.in1.in1.handled = none := by simp [hh]
        have hz : (s.heap.push (fset w)).objs.size = s.heap.objs.size + 1 := Heap.size_push ..
        have hneI : l ≠ (s.heap.push (fset w)).objs.size := by rw [hz]; exact Nat.ne_of_lt (Nat.lt_succ_of_lt hlS)
        have hSf : s.heap.objs.size ∉ [(s.heap.push (fset w)).objs.size, l] := by
          rw [hz]; simp only [List.mem_cons, List.not_mem_nil, or_false, not_or]
          exact ⟨Nat.ne_of_lt (Nat.lt_succ_self _), fun q => Nat.lt_irrefl _ (q ▸ hlS)⟩
        have hval : ∀ (i : Nat) (v : Value), items[i]? = some v → ∃ k t, ns[i]? = some k ∧ v = .str k t := fun i v hv => by
          have hv' : items.toList[i]? = some v := by rw [Array.getElem?_toList]; exact hv
          exact strs_at hit i v hv'
        refine set_update_txts ((Walks.list hh3 _ l hneI items).toS) s.heap.objs.size hSf ns hisz hb hval (items.size - 0) 0 _ (by omega) (Nat.zero_le _) ⟨⟨_, Heap.get?_push_size _ rfl, rfl, rfl⟩, (hl1.push _)⟩ ?hS0 ?hR
        case hS0 =>
          have hget : ((s.heap.push (fset w)).push { cls := .type "list_iterator", data := .fields #[.ref l, .int 0 0] }).get? s.heap.objs.size = some (fset w) := Heap.get?_push_of_some _ hS
          exact ⟨0, Nat.le_refl 0, (setT_new hget).congr fun k => by simp⟩
        case hR =>
          intro s' c' hm hc' hS'
          obtain ⟨h', g2, d', tk', os'⟩ := s'
          obtain rfl : g2 = s.gens := hm.gens
          obtain rfl : d' = s.drawn := hm.drawn
          obtain rfl : os' = s.os := hm.os
          show wpAny _ _ _ _ _ _
          refine wpAny_pure (?_ : _); show wpAny _ _ (ret Value.none) _ _ _
          refine wpAny_pure ⟨rfl, h', tk', c', rfl, hS', by omega, fun b o e => ?_⟩
          have hb0 : b < s.heap.objs.size := Heap.lt_size e
          refine hm.heap b o ?_ (Heap.get?_push_of_some _ (Heap.get?_push_of_some _ e)); rw [hz]; simp only [List.mem_cons, List.not_mem_nil, or_false, not_or]; exact ⟨Nat.ne_of_lt hb0, Nat.ne_of_lt (Nat.lt_succ_of_lt hb0)⟩
      · cases r₂ with
        | error e => exact hr₂
        | ok fl₂ =>
          cases fl₂ with
          | ret r =>
            obtain ⟨rfl, h', tk, c', rfl, hS', hc', hk'⟩ := hr₂
            repeat (any_goals (first | assumption | wp_step))
            exact h _ _ _ hS' hc' hk'
          | _ => exact hr₂.elim
    | _ => exact hr.elim
theorem strsAre_of_all : ∀ (l : List Value), (∀ v ∈ l, ∃ k tk, v = Value.str k tk) → PyProof.Rows.StrsAre l (l.map fun v => match v with | .str x _ => x | _ => Str.empty)
  | [], _ => .nil
  | v :: r, h => by
    obtain ⟨k, tk, rfl⟩ := h v List.mem_cons_self
    exact .cons _ _ (strsAre_of_all r fun u hu => h u (List.mem_cons_of_mem _ hu))
theorem sorted_setT {a : Addr} {S : Str → Bool} {n : Nat} {Q : Value → Shared → Prop} (R : SetT w s.heap a S n) (hh : A.handled = none) (h64 : n < 64)
    (hQ : ∀ s' p (out : Array Value) (c : Nat) (ns : List Str), (∀ b o, s.heap.get? b = some o → s'.heap.get? b = some o) → s'.gens = s.gens → s'.os = s.os → s.heap.objs.size ≤ p → s'.heap.get? p = some (seqObj "list" out c) → PyProof.Rows.StrsAre out.toList ns → sortedS ns = true → ns.Nodup → (∀ k, k ∈ ns ↔ S k = true) → ns.length = n → Q (.ref p) s') :
    wpAny (model P w) A (call (.builtin "sorted") [.ref a]) Q E s := by
  obtain ⟨o, es, ep, t, ⟨ho, hex, hd⟩, ⟨g, nd, hm⟩, ⟨hb, hf, hn⟩, hr, hl⟩ := R
  refine Calls.call_function_entry kind_sorted plain_sorted entry_sorted (args_sorted1 _) (?_ : _); unfold Builtin.«sorted»
  refine wpAny_bind (m := checkCount "sorted" 1 1 _) (wpAny_pure (wpAny_bind (collect_set (A := A.in1) hh ⟨o, ho, hex.1, hd⟩ hf hb hr hl fun s1 vs k1 hz g1 o1 pm => ?_)))
  have hvl : vs.length = n := by
    have q := pm.length_eq
    simp at q
    omega
  have hI := strsAre_of_all vs fun v hv => by
    obtain ⟨e, he, q⟩ := List.mem_map.mp (pm.mem_iff.mp hv)
    obtain ⟨k, tk, h1, _⟩ := g e he
    exact ⟨k, tk, by rw [← q]; exact h1⟩
  have pk : (vs.map fun v => match v with | .str x _ => x | _ => Str.empty).Perm (es.toList.map keyT) := by
    have q := pm.map fun v => (match v with | .str x _ => x | _ => Str.empty : Str)
    rw [List.map_map] at q
    exact q
  refine wpAny_bind (wpAny_newList (?_ : _) (by rw [hvl, sizeLine_eq]; omega))
  have hoL : (s1.heap.push (seqObj "list" vs.toArray 0)).get? s1.heap.objs.size = some (seqObj "list" vs.toArray 0) := Heap.get?_push_size _ rfl
  refine wpAny_bind (wpAny_holding (wpAny_call_entry slot_list_sort ⟨_, hoL, rfl⟩ entry_list_sort (list_sort_treeK strKind_oneLt hoL hI.keysOf (fun v₁ v₂ rest e => keyKind_strs (by rw [← e]; exact hI)) (by rw [hvl]; exact h64) fun st' hp hs => ⟨_, rfl, ?_⟩) (args_list_sort _)))
  obtain ⟨ns', a1, a2, a3⟩ := sorted_out_str hI hp hs
  obtain ⟨c, hc⟩ := sortedHeap_at (vs := vs) (out := (arrOf st').map (·.2)) hoL
  have pn : ns'.Perm (es.toList.map keyT) := a2.trans pk
  refine wpAny_pure ⟨_, rfl, hQ _ s1.heap.objs.size _ c ns' (fun b u e => ?_) g1 o1 hz hc a1 a3 (pn.nodup_iff.mpr nd) (fun k => by rw [pn.mem_iff, ← hm k]) ?_⟩
  · have q := k1 b u e; have hlt := Heap.lt_size q
    show (sortedHeap (s1.heap.push (seqObj "list" vs.toArray 0)) s1.heap.objs.size vs _).get? b = some u
    rw [sortedHeap_old (Nat.ne_of_lt hlt) (by rw [size_push']; exact Nat.lt_succ_of_lt hlt)]; exact Heap.get?_push_of_some _ q
  · have q := pn.length_eq
    simp at q
    omega
end
/-! ### the layer's rules -/
def SetTO (w : World) (a : Addr) (S : Str → Bool) (n : Nat) : HO := .ext fun h => SetT w h a S n
section
variable {X : Cx}
theorem setTO_new {w : World} {P : Program} {H : Hp} {h : Heap} {a : Addr} {S : Str → Bool} {n : Nat} (R : SetT w h a S n) : ObjOk P w H h a (SetTO w a S n) := by
  have ⟨o, _, _, _, ⟨ho, _⟩, _⟩ := R
  exact ⟨R, ⟨o, ho⟩, fun h1 h2 p k => SetT.at p k⟩
theorem strsAre_vals {xs : List Str} : ∀ {us : List Value}, Vals (xs.map V.str) us → PyProof.Rows.StrsAre us xs := by
  induction xs with
  | nil => intro us r; cases r; exact .nil
  | cons x r ih =>
    intro us q
    cases q with
    | cons a b =>
      obtain ⟨t, rfl⟩ := a
      exact .cons x t (ih b)
theorem vals_strsAre : ∀ {us : List Value} {xs : List Str}, PyProof.Rows.StrsAre us xs → Vals (xs.map V.str) us
  | _, _, .nil => .nil
  | _, _, .cons y t r => .cons ⟨t, rfl⟩ (vals_strsAre r)
def rSetL (K : Fg) (w : World) : List V → Hp → VK → Prop := fun vs H Q => ∃ (p : Addr) (xs : List Str), vs = [.ref p] ∧ SqL K H p (xs.map V.str) ∧ xs.length ≤ 60 ∧ ∀ q c, H q = none → c ≤ xs.length → Q (.ref q) (upd H q (SetTO w q (fun j => decide (j ∈ xs)) c))
theorem cr_setL (hc : X.calm = true) : CallR X (.type "set") (rSetL X.K X.w) := by
  intro pins s σ H vs us Q I r h
  obtain ⟨p, xs, rfl, hs, hl, q⟩ := h
  obtain ⟨its, rv, pl, hz⟩ := I.list hs
  rw [Vals.ref1 r]
  refine call_set_txts xs (I.ok.hd hc) pl.isList (by simpa using strsAre_vals rv) (by unfold scanBound; omega) fun h' tk c R hc' hk => ?_
  have hn : H s.heap.objs.size = none := I.hok.fresh (Nat.le_refl _)
  exact ⟨.ref _, upd H s.heap.objs.size (SetTO X.w s.heap.objs.size (fun j => decide (j ∈ xs)) c), I.laid (t' := tk) hk (Nat.le_refl _) (setTO_new R), rfl, q _ c hn hc'⟩
def rSortT (w : World) : List V → Hp → VK → Prop := fun vs H Q => ∃ (a : Addr) (S : Str → Bool) (n : Nat), vs = [V.ref a] ∧ H a = some (SetTO w a S n) ∧ n < 64 ∧
  ∀ (ns : List Str) (p : Addr), sortedS ns = true → ns.Nodup → (∀ k : Str, k ∈ ns ↔ S k = true) → H p = none → Q (.ref p) (upd H p (.lst (ns.map V.str)))
theorem cr_sortT (hc : X.calm = true) : CallR X (.builtin "sorted") (rSortT X.w) := by
  intro pins s σ H vs us Q I r h
  obtain ⟨a, S, n, rfl, ha, h64, q⟩ := h
  have R : SetT X.w s.heap a S n := (I.hok a _ ha).1
  rw [Vals.ref1 r]
  refine sorted_setT R (I.ok.hd hc) h64 fun s' p out c ns k g o hp hg hi hs hd hm hl => ?_
  have hlen : (ns.map V.str).length ≤ sizeLine := by rw [List.length_map, hl, sizeLine_eq]; omega
  have hn : H p = none := I.hok.fresh hp
  have J : Inv X pins σ (upd H p (.lst (ns.map V.str))) { s with heap := s'.heap, gens := s'.gens, drawn := s'.drawn, toks := s'.toks } :=
    I.call (ch := []) (Un.laid k hp hn) (I.hok.laid k hp ⟨hlen, out.toList, c, vals_strsAre hi, hg⟩) (by rw [g]; exact I.bare) (fun _ z => nomatch z)
  have e : s' = { s with heap := s'.heap, gens := s'.gens, drawn := s'.drawn, toks := s'.toks } := by
    cases s'; cases s; cases o; rfl
  rw [e]
  exact ⟨.ref p, _, J, rfl, q ns p hs hd hm hn⟩
end
end MP
namespace MP
open PySem PySem.Spec PyProof.Rows L2
theorem risingS_le : ∀ (p : Str) (l : List Str), risingS p l = true → ∀ x ∈ l, ¬ x.cps.toList < p.cps.toList
  | _, [], _, x, hx => by simp at hx
  | p, y :: r, h, x, hx => by
    simp only [risingS, Bool.and_eq_true, Bool.not_eq_true', ltCps_eq, decide_eq_false_iff_not] at h
    rcases List.mem_cons.mp hx with q | q
    · rw [q]; exact h.1
    · intro hlt
      have h1 := risingS_le y r h.2 x q
      -- p ≤ y ≤ x
      by_cases e : p.cps.toList < y.cps.toList
      · exact h1 (List.lt_trans hlt e)
      · have e2 : p.cps.toList = y.cps.toList := List.le_antisymm h.1 e
        rw [e2] at hlt
        exact h1 hlt
theorem risingS_tail : ∀ (p : Str) (l : List Str), risingS p l = true → sortedS l = true
  | _, [], _ => rfl
  | p, y :: r, h => by
    simp only [risingS, Bool.and_eq_true] at h
    exact h.2
theorem str_inj {x y : Str} (h : x.cps.toList = y.cps.toList) : x = y := by
  cases x
  cases y
  simp only [Str.mk.injEq]
  exact Array.ext' h
theorem sortedS_srt : ∀ l : List Str, sortedS l = true → l.Nodup → Srt (l.map fun x => x.cps.toList)
  | [], _, _ => .nil
  | x :: r, h, hn => by
    rw [List.nodup_cons] at hn
    refine List.pairwise_cons.mpr ⟨fun z hz => ?_, sortedS_srt r (risingS_tail x r h) hn.2⟩
    obtain ⟨y, hy, rfl⟩ := List.mem_map.mp hz
    have h1 := risingS_le x r h y hy
    by_cases e : x.cps.toList < y.cps.toList
    · exact e
    · have e2 : x.cps.toList = y.cps.toList := List.le_antisymm h1 e
      exact absurd (str_inj e2 ▸ hy) hn.1
theorem VWs.strs {K : Fg} {μ : List Addr} {H : Hp} : ∀ ns : List Str, VWs K μ H (ns.map V.str) ((ns.map fun x => x.cps.toList).map W.str)
  | [] => .nil
  | n :: ns => .cons (.str n _ rfl) (VWs.strs ns)
section
variable {X : Cx} {Φ : Fns} {a : Expr} {ca : CE} {pos : Pos}
theorem de_sset {p p1 p2 : Pos} (hm1 : X.mg "sorted" = none) (hm2 : X.mg "set" = none) (ha : DE X Φ a ca) (hg1 : Gl X "sorted" := by rfl) (hg2 : Gl X "set" := by rfl) (hc : X.calm = true := by rfl) (hs : starEach [a] X.env = (false, eval a X.env) :: starEach [] X.env := by rfl)
    (hs2 : starEach [(.Call (.Name "set" p1) [a] [] p2 : Expr)] X.env = (false, eval (.Call (.Name "set" p1) [a] [] p2) X.env) :: starEach [] X.env := by rfl) (hpl : (backTo p2 (starEach [] X.env)).any (·.1) = false := by rfl) (hpl2 : (backTo pos (starEach [] X.env)).any (·.1) = false := by rfl) :
    DE X Φ (.Call (.Name "sorted" p) [.Call (.Name "set" p1) [a] [] p2] [] pos) (.bi .sset (.cons ca .nil)) := by
  refine peW (pe_callB (x := "sorted") (id := "sorted") (cr_sortT hc) hg1 hm1 (by decide +kernel) (pa_cons (pe_callTy (x := "set") (T := "set") (cr_setL hc) hg2 hm2 (by decide +kernel) (pa_cons ha pa_nil hs) (by decide) (by decide) hs hpl) pa_nil hs2) (by decide) (by decide) hs2 hpl2) fun σ H Q h => ?_
  obtain ⟨μ, env, S, w, S', s, er, h1, h2⟩ := h
  simp only [ev, evs] at h1
  split at h1
  · rename_i xs S1 e1
    split at e1
    · rename_i x S2 e2
      cases e1
      refine ⟨μ, env, S, x, _, s, er, e2, fun v μ1 H1 x1 s1 r1 => ?_⟩
      cases x <;> simp only [opI] at h1 <;> try (cases h1; done)
      split at h1
      · rename_i z hz
        split at h1
        · rename_i ys hys
          split at h1
          · rename_i hl
            cases r1 with
            | ref hk =>
              obtain ⟨vs, q, t⟩ := s1.rd hk hz
              obtain ⟨ts, t1, t2⟩ := txts_ok hys t
              subst t1
              have hlen : ts.length = ys.length := by rw [← t2, List.length_map]
              refine ⟨_, ts, rfl, q, by omega, fun p c hp hc => ?_⟩
              refine ⟨p, _, c, rfl, upd_same, by omega, fun ns p2 k1 k2 k3 hp2 => ?_⟩
              have e : ns.map (fun x => x.cps.toList) = sortU ys := by
                refine srt_uniq _ _ (sortedS_srt ns k1 k2) (srt_sortU ys) fun u => ?_
                rw [mem_sortU, ← t2, List.mem_map, List.mem_map]
                constructor
                · rintro ⟨b, hb, rfl⟩
                  exact ⟨b, of_decide_eq_true ((k3 b).mp hb), rfl⟩
                · rintro ⟨b, hb, rfl⟩
                  exact ⟨b, (k3 b).mpr (decide_eq_true hb), rfl⟩
              have s2 := s1.fresh (o := SetTO X.w p (fun j => decide (j ∈ ts)) c) hp
              have a2 := (h2.mono x1).mono (ex_fresh (K := X.K) (μ := μ1) (o := SetTO X.w p (fun j => decide (j ∈ ts)) c) hp)
              rw [← e] at h1
              exact (a2.new s2 (VWs.strs ns) h1).2 p2 hp2
          · cases h1
        · cases h1
      · cases h1
    · cases e1
  · cases h1
end
end MP
namespace MP
open PySem PySem.Spec PyProof.Rows L2
/-! max of a list of numbers, with what is told of none -/
section
variable {prog : Program} {w : World} {A : Around} {R : Result → Shared → Prop} {I : Addr} {fp wr : List Addr} {n : Nat} {P : Nat → Value → Prop} {St : Nat → Heap → Prop} {kw : List (Str × Value)}
theorem mx_loop (W : Walks prog w A.in1 I fp wr n P St) (bt : Nat → Nat → Bool) (cm : CmpOf prog w A.in1 .Gt P bt) (Z : Addr) (hZ : Z ∉ fp) :
    ∀ (m j : Nat) (t : Shared) (vb : Value) (c : Nat), n - (j + 1) = m → j + 1 ≤ n → St (j + 1) t.heap → P (argBest bt j) vb → t.heap.get? Z = some { cls := .type "list", dict := none, data := .seq #[vb, vb] c, slots := #[] } →
      (∀ v g tk, P (argBest bt (n - 1)) v → (∀ b o, b ∉ wr → b ≠ Z → t.heap.get? b = some o → g.get? b = some o) → R (.ok (.ret v)) { t with heap := g, toks := tk }) →
      codeAny (model prog w) A (.builtin "max.loop" ⟨[.ref I, .none, .ref Z], kw⟩) R t := by
  have zw : Z ∉ wr := fun q => hZ (W.sub _ q)
  have nm : (toString "max" ++ toString ".loop" : String) = "max.loop" := by decide
  intro m
  induction m with
  | zero =>
    intro j t vb c e1 e2 st pb z fin
    have e3 : j + 1 = n := by omega
    refine codeAny_builtin F.entry_max_loop ?_
    rw [Around.under_plainId F.plain_max_loop _]
    show wpAny _ A.in1 (seqItems? (.ref Z) >>= _) _ _ t
    refine wpAny_bind (wpAny_seqItems z rfl ?_)
    show wpAny _ A.in1 (tryCatch (pyNext (.ref I)) _ >>= _) _ _ t
    refine wpAny_bind (wpAny_tryCatch (W.done t _ _ (e3 ▸ st) fun g tk k => ?_))
    have z2 := k Z _ zw z
    show wpAny _ A.in1 (updateSeq Z (fun _ => #[]) >>= _) _ _ _
    refine wpAny_bind (wpAny_updateSeq z2 rfl (wpAny_bind (wpAny_letGo (wpAny_pure ?_))))
    exact fin vb _ tk (by rw [← e3]; exact pb) fun b o b1 b2 e => (Heap.get?_update_other _ _ (Ne.symm b2)).trans (k b o b1 e)
  | succ m ih =>
    intro j t vb c e1 e2 st pb z fin
    have e3 : j + 1 < n := by omega
    refine codeAny_builtin F.entry_max_loop ?_
    rw [Around.under_plainId F.plain_max_loop _]
    show wpAny _ A.in1 (seqItems? (.ref Z) >>= _) _ _ t
    refine wpAny_bind (wpAny_seqItems z rfl ?_)
    show wpAny _ A.in1 (tryCatch (pyNext (.ref I)) _ >>= _) _ _ t
    refine wpAny_bind (wpAny_tryCatch (W.item (j + 1) t _ _ e3 st fun v g tk pv st2 k => ?_))
    have z2 := k Z _ zw z
    show wpAny _ A.in1 (tryCatch (holding [v, v] (richCompare .Gt v vb >>= _)) _ >>= _) _ _ _
    refine wpAny_bind (wpAny_tryCatch (wpAny_holding (wpAny_bind (cm (j + 1) (argBest bt j) v vb _ _ _ pv pb ?_))))
    refine wpAny_bind (wpAny_holding (wpAny_truthy_bool (wpAny_bind (wpAny_letGo (wpAny_pure ?_)))))
    cases hb : bt (j + 1) (argBest bt j) with
    | true =>
      simp only [if_true]
      refine wpAny_bind (wpAny_updateSeq z2 rfl (wpAny_bind (wpAny_letGo ?_)))
      rw [nm]
      refine wpAny_pure ⟨plainId_quiet F.plain_max_loop _, ih (j + 1) _ v _ (by omega) e3 (W.frame _ _ _ st2 fun b hb2 o e => ?_) (by simp only [argBest, hb, if_true]; exact pv) (Heap.get?_update_self _ z2 rfl) fun v2 g2 tk2 p2 k2 => ?_⟩
      · exact (Heap.get?_update_other _ _ (fun q : Z = b => hZ (by rw [q]; exact hb2))).trans e
      · exact fin v2 g2 tk2 p2 fun b o b1 b2 e => k2 b o b1 b2 ((Heap.get?_update_other _ _ (Ne.symm b2)).trans (k b o b1 e))
    | false =>
      simp only [Bool.false_eq_true, if_false]
      refine wpAny_bind (wpAny_letGo ?_)
      rw [nm]
      refine wpAny_pure ⟨plainId_quiet F.plain_max_loop _, ih (j + 1) _ vb c (by omega) e3 st2 (by simp only [argBest, hb, Bool.false_eq_true, if_false]; exact pb) z2 fun v2 g2 tk2 p2 k2 => ?_⟩
      exact fin v2 g2 tk2 p2 fun b o b1 b2 e => k2 b o b1 b2 (k b o b1 e)
theorem mx_first (W : Walks prog w A.in1 I fp wr n P St) (bt : Nat → Nat → Bool) (cm : CmpOf prog w A.in1 .Gt P bt) (Z : Addr) (hZ : Z ∉ fp) {t : Shared} {c : Nat} {d : Value} {dn : Str} (st : St 0 t.heap)
    (z : t.heap.get? Z = some { cls := .type "list", dict := none, data := .seq #[] c, slots := #[] })
    (no : n = 0 → ∀ g tk, (∀ b o, b ∉ wr → b ≠ Z → t.heap.get? b = some o → g.get? b = some o) → R (.ok (.ret d)) { t with heap := g, toks := tk })
    (fin : 0 < n → ∀ v g tk, P (argBest bt (n - 1)) v → (∀ b o, b ∉ wr → b ≠ Z → t.heap.get? b = some o → g.get? b = some o) → R (.ok (.ret v)) { t with heap := g, toks := tk }) :
    codeAny (model prog w) A (.builtin "max.loop" ⟨[.ref I, .none, .ref Z], [(dn, d)]⟩) R t := by
  have zw : Z ∉ wr := fun q => hZ (W.sub _ q)
  have nm : (toString "max" ++ toString ".loop" : String) = "max.loop" := by decide
  refine codeAny_builtin F.entry_max_loop ?_
  rw [Around.under_plainId F.plain_max_loop _]
  show wpAny _ A.in1 (seqItems? (.ref Z) >>= _) _ _ t
  refine wpAny_bind (wpAny_seqItems z rfl ?_)
  show wpAny _ A.in1 (tryCatch (pyNext (.ref I)) _ >>= _) _ _ t
  by_cases hn : n = 0
  · refine wpAny_bind (wpAny_tryCatch (W.done t _ _ (hn ▸ st) fun g tk k => ?_))
    show wpAny _ A.in1 (rule _ >>= _) _ _ _
    refine wpAny_bind (wpAny_rule (wpAny_pure ?_))
    exact no hn g tk fun b o b1 _ e => k b o b1 e
  · have h0 : 0 < n := by omega
    refine wpAny_bind (wpAny_tryCatch (W.item 0 t _ _ h0 st fun v g tk pv st2 k => ?_))
    have z2 := k Z _ zw z
    show wpAny _ A.in1 (updateSeq Z (fun _ => #[v, v]) >>= _) _ _ _
    refine wpAny_bind (wpAny_updateSeq z2 rfl ?_)
    rw [nm]
    refine wpAny_pure ⟨plainId_quiet F.plain_max_loop _, mx_loop W bt cm Z hZ _ 0 _ v _ rfl h0 (W.frame _ _ _ st2 fun b hb2 o e => ?_) pv (Heap.get?_update_self _ z2 rfl) fun v2 g2 tk2 p2 k2 => ?_⟩
    · exact (Heap.get?_update_other _ _ (fun q : Z = b => hZ (by rw [q]; exact hb2))).trans e
    · exact fin h0 v2 g2 tk2 p2 fun b o b1 b2 e => k2 b o b1 b2 ((Heap.get?_update_other _ _ (Ne.symm b2)).trans (k b o b1 e))
end
theorem mx_args (a v : Value) : argsOk "max" ⟨[a], [(Str.ofString "default", v)]⟩ := by unfold argsOk; kernel_rfl
section
variable {prog : Program} {w : World} {A : Around} {E : Value → Shared → Prop} {s : Shared} {l : Addr} {xs : Array (Int × Tok)} {d : Value}
theorem mx_call {Q : Value → Shared → Prop} (hh : A.handled = none) (hl : s.heap.IsList l (intItems xs))
    (no : xs.size = 0 → ∀ g tk, (∀ b o, s.heap.get? b = some o → g.get? b = some o) → Q d { s with heap := g, toks := tk })
    (fin : 0 < xs.size → ∀ v g tk, (intItems xs)[argBest (fun i j => decide (numAt xs i > numAt xs j)) (xs.size - 1)]? = some v → (∀ b o, s.heap.get? b = some o → g.get? b = some o) → Q v { s with heap := g, toks := tk }) :
    wpAny (model prog w) A (call (.builtin "max") [.ref l] [(Str.ofString "default", d)]) Q E s := by
  have nm : (toString "max" ++ toString ".loop" : String) = "max.loop" := by decide
  refine kmk_tree F.kind_max F.plain_max F.entry_max (mx_args _ _) ?_
  show wpAny _ A.in1 (Builtin.Builtins.bindParams "max" ["key", "default"] 0 ⟨[], [(Str.ofString "default", d)]⟩ >>= _) _ _ s
  refine wpAny_bind (wpAny_of_eq (show Builtin.Builtins.bindParams "max" ["key", "default"] 0 ⟨[], [(Str.ofString "default", d)]⟩ = pure [none, some d] from by first | rfl | kernel_rfl) ?_)
  refine wpAny_bind (wpAny_pure ?_)
  refine wpAny_bind (iter_intList hl fun s₂ e st hfp hlI => ?_)
  subst e
  refine wpAny_bind (wpAny_newObj_type ?_)
  rw [nm]
  have hsz : (intItems xs).size = xs.size := by simp [intItems]
  have W := Walks.list (prog := prog) (w := w) (A := A.in1) hh s.heap.objs.size l hlI (intItems xs)
  refine wpAny_pure ⟨plainId_quiet F.plain_max_loop _, mx_first W _ (CmpOf.ints_gt (numAt xs) (fun _ _ => intItems_at)) _ (fun hm => Nat.lt_irrefl _ (hfp _ hm)) (W.frame _ _ _ st fun b _ o e => Heap.get?_push_of_some _ e) (Heap.get?_push_size _ rfl) (fun h0 g tk k => ?_) fun h0 v g tk hP k => ?_⟩
  · exact no (by omega) g tk (old_kept fun b o hb e => k b o hb (Nat.ne_of_lt (Heap.lt_size e)) (Heap.get?_push_of_some _ e))
  · exact fin (by omega) v g tk (by rw [hsz] at hP; exact hP) (old_kept fun b o hb e => k b o hb (Nat.ne_of_lt (Heap.lt_size e)) (Heap.get?_push_of_some _ e))
end
/-! the greatest of numbers -/
theorem maxI_le : ∀ (l : List Int) (x : Int), x ∈ l → x ≤ maxI l
  | [], x, h => by simp at h
  | [y], x, h => by rw [List.mem_singleton.mp h, maxI]; omega
  | y :: z :: r, x, h => by
    have ih := maxI_le (z :: r)
    rw [maxI]
    rcases List.mem_cons.mp h with e | e
    · subst e; split <;> omega
    · have := ih x e; split <;> omega
theorem maxI_mem : ∀ (l : List Int), l ≠ [] → maxI l ∈ l
  | [], h => absurd rfl h
  | [y], _ => by simp [maxI]
  | y :: z :: r, _ => by
    have ih := maxI_mem (z :: r) (by simp)
    rw [maxI]
    split
    · simp
    · exact List.mem_cons_of_mem _ ih
theorem maxI_uniq {l : List Int} {m : Int} (h1 : m ∈ l) (h2 : ∀ y ∈ l, y ≤ m) : m = maxI l := by
  have a := maxI_le l m h1
  have b := h2 _ (maxI_mem l (fun e => by rw [e] at h1; simp at h1))
  omega
theorem minI_le : ∀ (l : List Int) (x : Int), x ∈ l → minI l ≤ x
  | [], x, h => by simp at h
  | [y], x, h => by rw [List.mem_singleton.mp h, minI]; omega
  | y :: z :: r, x, h => by
    have ih := minI_le (z :: r)
    rw [minI]
    rcases List.mem_cons.mp h with e | e
    · subst e; split <;> omega
    · have := ih x e; split <;> omega
theorem minI_mem : ∀ (l : List Int), l ≠ [] → minI l ∈ l
  | [], h => absurd rfl h
  | [y], _ => by simp [minI]
  | y :: z :: r, _ => by
    have ih := minI_mem (z :: r) (by simp)
    rw [minI]
    split
    · simp
    · exact List.mem_cons_of_mem _ ih
theorem minI_uniq {l : List Int} {m : Int} (h1 : m ∈ l) (h2 : ∀ y ∈ l, m ≤ y) : m = minI l := by
  have a := minI_le l m h1
  have b := h2 _ (minI_mem l (fun e => by rw [e] at h1; simp at h1))
  omega
theorem ints_ok {K : Fg} {μ : List Addr} {H : Hp} : ∀ {vs : List V} {ws : List W} {bs : List Int}, intsW ws = some bs → VWs K μ H vs ws → vs = bs.map V.int
  | _, [], _, h, hv => by cases hv; cases h; rfl
  | _, w :: ws, bs, h, hv => by
    cases hv with
    | cons r t =>
      cases w <;> simp only [intsW] at h <;> try (cases h; done)
      rw [Option.map_eq_some_iff] at h
      obtain ⟨bs', h1, h2⟩ := h
      subst h2
      cases r
      rw [ints_ok h1 t]
      rfl
def rMxD (K : Fg) : List V → List V → Hp → VK → Prop := fun vs zs H Q => ∃ (a : Addr) (ns : List Int) (d : Int), vs = [V.ref a] ∧ zs = [V.int d] ∧ SqL K H a (ns.map V.int) ∧ Q (.int (if ns.isEmpty then d else maxI ns)) H
section
variable {X : Cx} {Φ : Fns} {a b d e : Expr} {es : List Expr} {ca cb cd ce : CE} {cs : CEs} {pos : Pos}
theorem cr_mxD (hc : X.calm = true) : CallRK X (.builtin "max") [Str.ofString "default"] (rMxD X.K) := by
  intro pins s σ H vs zs us ws Q I r rz h
  obtain ⟨a, ns, d, rfl, rfl, hs, q⟩ := h
  obtain ⟨its, rv, hl, _⟩ := I.list hs
  rw [Vals.ref1 r]
  have rz1 : ∃ t, ws = [Value.int d t] := by
    cases rz with
    | cons r1 t1 =>
      cases t1
      obtain ⟨t, rfl⟩ := r1
      exact ⟨t, rfl⟩
  obtain ⟨td, rfl⟩ := rz1
  have hi := rv.ints
  obtain ⟨xs, e⟩ := hi.allInts.items
  have hn : numsOf (intItems xs).toList = ns := by rw [← e]; exact hi.numsOf
  rw [nums_intItems] at hn
  subst hn
  have hl2 := hl.isList
  rw [e] at hl2
  have hlen : (xs.toList.map (·.1)).length = xs.size := by rw [List.length_map, Array.length_toList]
  refine mx_call (I.ok.hd hc) hl2 (fun h0 g tk k => ?_) fun h0 v g tk hv k => ?_
  · refine ⟨.int d, H, I.kept k, ⟨_, rfl⟩, ?_⟩
    have e0 : (xs.toList.map (·.1)).isEmpty = true := by
      rw [List.isEmpty_iff_length_eq_zero, hlen, h0]
    rw [e0] at q
    exact q
  · obtain ⟨t, rfl⟩ := intItems_at hv
    obtain ⟨h1, h2⟩ := argBest_gt (numAt xs) (xs.size - 1)
    refine ⟨.int _, H, I.kept k, ⟨_, rfl⟩, ?_⟩
    have e0 : (xs.toList.map (·.1)).isEmpty = false := by
      cases hq : (xs.toList.map (·.1)).isEmpty with
      | false => rfl
      | true =>
        rw [List.isEmpty_iff_length_eq_zero, hlen] at hq
        omega
    rw [e0] at q
    have m1 : numAt xs (argBest (fun i j => decide (numAt xs i > numAt xs j)) (xs.size - 1)) ∈ xs.toList.map (·.1) := by
      rw [numAt_eq]
      exact PySem.getD_mem (by rw [hlen]; omega)
    rw [maxI_uniq m1 fun a ha => ?_]
    · exact q
    · obtain ⟨j, hj, rfl⟩ := mem_getD ha
      rw [hlen] at hj
      rw [← numAt_eq]
      exact h2 j (by omega)
theorem de_maxd {p kp : Pos} (hm : X.mg "max" = none) (ha : DE X Φ a ca) (hd : DE X Φ d cd) (hg : Gl X "max" := by rfl) (hc : X.calm = true := by rfl) (hs : starEach [a] X.env = (false, eval a X.env) :: starEach [] X.env := by rfl)
    (he : backTo pos (starEach [a] X.env) = (false, eval a X.env) :: backTo pos (starEach [] X.env) := by rfl) (hpl : (backTo pos (starEach [a] X.env)).any (·.1) = false := by rfl)
    (hall : (backToKw pos (keywordEach [⟨some "default", d, kp⟩] X.env)).all (·.1.isSome) = true := by rfl) (hnone : (backToKw pos (keywordEach [⟨some "default", d, kp⟩] X.env)).any (·.1.isNone) = false := by rfl) (hks : (backToKw pos (keywordEach [⟨some "default", d, kp⟩] X.env)).filterMap (·.1) = [Str.ofString "default"] := by rfl) :
    DE X Φ (.Call (.Name "max" p) [a] [⟨some "default", d, kp⟩] pos) (.bi .maxd (.cons ca (.cons cd .nil))) := by
  refine peW (pe_callBK (x := "max") (id := "max") (cr_mxD hc) hg hm (by decide +kernel) (pa_cons ha pa_nil hs) (pk_cons hd pk_nil) (by decide) (by decide) he hpl hall hnone hks) fun σ H Q h => ?_
  obtain ⟨μ, env, S, w, S', s, er, h1, h2⟩ := h
  simp only [ev, evs] at h1
  split at h1
  · rename_i xs S1 e1
    split at e1
    · rename_i x S2 e2
      split at e1
      · rename_i ys S3 e3
        cases e1
        split at e3
        · rename_i y S4 e4
          cases e3
          refine ⟨μ, env, S, x, S2, s, er, e2, fun v μ1 H1 x1 s1 r1 => ⟨μ1, env, S2, y, _, s1, er.mono x1, e4, fun u μ2 H2 x2 s2 r2 => ?_⟩⟩
          have r3 := r1.mono x2
          have a2 := h2.mono (x1.trans x2)
          cases x <;> cases y <;> simp only [opI] at h1 <;> try (cases h1; done)
          split at h1
          · rename_i z hz
            rw [Option.map_eq_some_iff] at h1
            obtain ⟨ns, h3, h4⟩ := h1
            cases h4
            cases r2
            cases r3 with
            | ref hk =>
              obtain ⟨vs, q, t⟩ := s2.rd hk hz
              rw [ints_ok h3 t] at q
              exact ⟨_, ns, _, rfl, rfl, q, a2.now s2 (.int _)⟩
          · cases h1
        · cases e3
      · cases e1
    · cases e1
  · cases h1
/-- what the pure side never comes to -/
theorem de_no : DE X Φ e (.bi .rev .nil) := ⟨fun pins s σ H Q I h => by
  obtain ⟨μ, env, S, w, S', s, er, h1, h2⟩ := h
  simp only [ev, evs, opI] at h1
  cases h1⟩
end
end MP
namespace MP
open PySem PySem.Spec PyProof.Rows L2
/-- a written dict of texts, as a table -/
def KTb (K : Fg) (w : World) (p : Addr) (t : List (List Nat × W)) : Prop := ∃ es n, K.lookup p = some ⟨.type "dict", none, .dict es n, #[]⟩ ∧ PySem.W.KeysLit w.params es.toList ∧ (p == sysModules) = false ∧
  ∀ z : Str, ∃ v, RelV v ((findBy Value.isStrOf es z).getD .none) ∧ ∀ μ H, VW K μ H v (atT t z.cps.toList)
section
variable {X : Cx} {Φ : Fns} {a b d e : Expr} {es : List Expr} {ca cb cd ce : CE} {cs : CEs} {pos apos cpos : Pos}
theorem de_dget {x : Str} {p : Addr} {t : List (List Nat × W)} (hm : X.mg x = some (.ref p)) (T : KTb X.K X.w p t) (he : DE X Φ e ce) (m : M1 X (.Name x pos) "get" apos e cpos) (hg : Gl X x := by rfl) (hd : (x == ("__debug__" : Str)) = false := by decide) :
    DE X Φ (.Call (.Attribute (.Name x pos) "get" apos) [e] [] cpos) (.bi (.dget t) (.cons ce .nil)) := by
  obtain ⟨es, n, l1, l2, l3, l4⟩ := T
  refine ⟨fun pins s σ H Q I h => ?_⟩
  have ho : PE X (.Name x pos) (tC (.ref p)) := pe_glob hg hm rfl hd
  have hq : tC (.ref p) σ H fun u H1 => u = .ref p ∧ H1 = H := ⟨rfl, rfl⟩
  refine wpAny_Call_method m.base m.few m.line PySem.F.plainAttrs_dict PySem.F.slot_dict_get PySem.F.type_dict_get (thn (ho.run pins s σ H _ I hq) fun u s1 ⟨x, H1, I1, rx, ex, eH⟩ => ?_)
  subst ex
  subst eH
  obtain rfl : u = Value.ref p := rx
  have mo := PySem.W.mapOf_K (prog := X.prog) (w := X.w) I1.kIn l1 l2
  refine ⟨mo.typeIs, fun b q => ?_, ?_⟩
  · cases q
    exact ⟨_, I1.kIn _ _ l1, rfl⟩
  rw [m.trees]
  obtain ⟨μ, env, S, w, S', sr, er, h1, h2⟩ := h
  simp only [ev, evs] at h1
  split at h1
  · rename_i ws S1 e1
    split at e1
    · rename_i y S2 e2
      cases e1
      have hy : tD X.K Φ ce σ H1 fun v H2 => ∃ z : Str, v = .str z ∧ ∀ u, (∀ μ H, VW X.K μ H u (atT t z.cps.toList)) → Q u H2 := by
        refine ⟨μ, env, S, y, _, sr, er, e2, fun v μ1 H2 x1 s1 r1 => ?_⟩
        cases y <;> simp only [opI] at h1 <;> try (cases h1; done)
        cases h1
        cases r1 with
        | str z l e => exact ⟨z, rfl, fun u hu => h2 _ μ1 H2 x1 s1 (by rw [← e]; exact hu _ _)⟩
      refine Calls.callWith_builtin rfl (Calls.evalArgs_plain (Calls.spliced_cons (thn (he.run pins s1 σ H1 _ I1 hy) fun iv s2 ⟨v, H2, I2, ry, z, ez, q2⟩ => Calls.spliced_nil ?_)))
      subst ez
      obtain ⟨tk, rfl⟩ := (show ∃ t, iv = Value.str z t from ry)
      obtain ⟨u, ru, hu⟩ := l4 z
      have mo2 := PySem.W.mapOf_K (prog := X.prog) (w := X.w) I2.kIn l1 l2
      exact call_meetsIn PySem.F.slot_dict_get mo2.typeIs PySem.F.entry_dict_get (PySem.F.args_dict_get_2 _ _) (meets_dict_get (strKind X.prog X.w) p (strKind_is X.prog X.w z tk) l3) ⟨_, mo2, u, H2, I2.tok _, ru, q2 u hu⟩
    · cases e1
  · cases h1
theorem de_dgetE {x : Str} {t : List (List Nat × W)} (h : ∃ p, X.mg x = some (.ref p) ∧ KTb X.K X.w p t) (he : DE X Φ e ce) (m : M1 X (.Name x pos) "get" apos e cpos := by exact ⟨rfl, rfl, rfl, rfl⟩) (hg : Gl X x := by rfl) (hd : (x == ("__debug__" : Str)) = false := by decide) :
    DE X Φ (.Call (.Attribute (.Name x pos) "get" apos) [e] [] cpos) (.bi (.dget t) (.cons ce .nil)) := by
  obtain ⟨p, h1, h2⟩ := h
  exact de_dget h1 h2 he m hg hd
end
/-- entries and table, row by row -/
inductive KR (K : Fg) : List DictEntry → List (List Nat × W) → Prop
  | nil : KR K [] []
  | cons {x : Str} {l : List Nat} {t : Tok} {h : Int} {u : Value} {v : V} {w : W} {es : List DictEntry} {ts : List (List Nat × W)} : x.cps.toList = l → RelV v u → (∀ μ H, VW K μ H v w) → KR K es ts → KR K (⟨h, .str x t, u⟩ :: es) ((l, w) :: ts)
theorem KR.find {K : Fg} : ∀ {es : List DictEntry} {ts : List (List Nat × W)}, KR K es ts → ∀ z : Str, ∃ v, RelV v ((findBy Value.isStrOf es.toArray z).getD .none) ∧ ∀ μ H, VW K μ H v (atT ts z.cps.toList)
  | _, _, .nil, z => ⟨.non, rfl, fun _ _ => .non⟩
  | _, _, .cons (x := x) (l := l) (t := t) (h := h) (u := u) (v := v) (w := w) (es := es) (ts := ts) e r q k, z => by
    obtain ⟨v2, r2, q2⟩ := k.find z
    unfold findBy at r2 ⊢
    rw [List.find?_toArray] at r2 ⊢
    rw [List.find?_cons]
    by_cases hx : x = z
    · subst hx
      rw [show Value.isStrOf x (Value.str x t) = true from by simp [Value.isStrOf]]
      refine ⟨v, r, fun μ H => ?_⟩
      rw [atT, if_pos e]
      exact q μ H
    · rw [show Value.isStrOf z (Value.str x t) = false from by simp [Value.isStrOf, hx]]
      refine ⟨v2, r2, fun μ H => ?_⟩
      rw [atT, if_neg (fun q3 => hx (str_inj (e.trans q3.symm)))]
      exact q2 μ H
theorem ktb_mk {K : Fg} {w : World} {p : Addr} {es : List DictEntry} {n : Nat} {t : List (List Nat × W)} (h1 : K.lookup p = some ⟨.type "dict", none, .dict es.toArray n, #[]⟩) (h2 : PySem.W.KeysLit w.params es) (h3 : (p == sysModules) = false) (h4 : KR K es t) : KTb K w p t :=
  ⟨es.toArray, n, h1, h2, h3, fun z => h4.find z⟩
theorem vw_ktup {K : Fg} {a : Addr} {o : Obj} {its : Array Value} {n : Nat} {vs : List V} {ws : List W} (h1 : K.lookup a = some o) (h2 : o.cls = .type "tuple") (h3 : o.data = .seq its n) (h4 : its.size ≤ sizeLine) (h5 : Vals vs its.toList) (h6 : ∀ μ H, VWs K μ H vs ws) : ∀ μ H, VW K μ H (.ref a) (.tup ws) :=
  fun μ H => .tup (.inr ⟨o, its, n, h1, h2, h3, h4, h5⟩) (h6 μ H)
end MP
namespace MP
open PySem PySem.Spec PyProof.Rows L2
section
variable {X : Cx} {Φ : Fns} {a b d e : Expr} {es : List Expr} {ca cb cd ce : CE} {cs : CEs} {pos pos' : Pos}
theorem ip_both : PIp X .Add (fun x y H Q => rAdd x y H Q ∨ rAddS x y H Q) := fun pins s σ H x y v u Q I rx ry h => h.elim (in_add pins s σ H x y v u Q I rx ry) (in_addS pins s σ H x y v u Q I rx ry)
theorem ip_subI : PIp X .Sub rSub := fun pins s σ H x y v u Q I rx ry h => in_sub pins s σ H x y v u Q I rx ry h
theorem ex_aug {i : Nat} {f : BI} {env : Env} {S : Sto} {r : Fl} (h : ex Φ (.set [i] (.bi f (.cons (.var i) (.cons ce .nil)))) env S = some r) : ∃ x y S1 w S2, env[i]? = some (some x) ∧ ev Φ ce env S = some (y, S1) ∧ opI f [x, y] S1 = some (w, S2) ∧ r = .nx (env.set i (some w)) S2 := by
  simp only [ex, ev, evs, bindT] at h
  split at h
  · rename_i w S1 e1
    simp only [Option.map_some, Option.some.injEq] at h
    split at e1
    · rename_i xs S2 e2
      split at e2
      · rename_i x S3 e3
        split at e3
        · rename_i x' hx
          cases e3
          split at e2
          · rename_i ys S4 e4
            cases e2
            split at e4
            · rename_i y S5 e5
              cases e4
              exact ⟨x, y, _, w, S1, hx, e5, e1, h.symm⟩
            · cases e4
          · cases e2
        · cases e3
      · cases e2
    · cases e1
  · cases h
theorem ds_aug_add (i : Nat) {x : Str} (hN : X.N.Nodup) (he : DE X Φ e ce) (hi : X.N[i]? = some x := by rfl) (hx : Loc X.env.scope x := by first | exact .inl rfl | exact .inr rfl) (hf : X.fn x = true ∨ X.env.scope.names.lookup x = some .local := by first | exact .inl rfl | exact .inr rfl) :
    DS X Φ (.AugAssign (.Name x pos') .Add e pos) (.set [i] (.bi .iadd (.cons (.var i) (.cons ce .nil)))) := by
  refine psW (ps_aug (i := i) hN hi hx he ip_both hf) fun D σ H h => ?_
  obtain ⟨μ, env, S, r, s, er, e1, f⟩ := h
  obtain ⟨xw, yw, S1, w, S2, q1, q2, q3, rfl⟩ := ex_aug e1
  obtain ⟨v, v1, v2⟩ := er.2 i xw q1
  refine ⟨v, v1, μ, env, S, yw, S1, s, er, q2, fun u μ1 H1 x1 s1 r1 => ?_⟩
  have v3 := v2.mono x1
  cases xw <;> cases yw <;> simp only [opI] at q3 <;> try (cases q3; done)
  · cases q3
    cases v3
    cases r1
    exact .inl ⟨_, _, rfl, rfl, f _ μ1 H1 x1 s1 ((er.mono x1).set i (.int _))⟩
  · split at q3
    · rename_i hl
      cases q3
      cases v3 with
      | str z _ ez =>
        cases r1 with
        | str z2 _ ez2 =>
          refine .inr ⟨z, z2, rfl, rfl, ?_, f _ μ1 H1 x1 s1 ((er.mono x1).set i (.str _ _ ?_))⟩
          · rw [str_len ez, str_len ez2]
            exact lim_ok hl
          · rw [cps_toList_append, ez, ez2]
    · cases q3
theorem ds_aug_sub (i : Nat) {x : Str} (hN : X.N.Nodup) (he : DE X Φ e ce) (hi : X.N[i]? = some x := by rfl) (hx : Loc X.env.scope x := by first | exact .inl rfl | exact .inr rfl) (hf : X.fn x = true ∨ X.env.scope.names.lookup x = some .local := by first | exact .inl rfl | exact .inr rfl) :
    DS X Φ (.AugAssign (.Name x pos') .Sub e pos) (.set [i] (.bi .isub (.cons (.var i) (.cons ce .nil)))) := by
  refine psW (ps_aug (i := i) hN hi hx he ip_subI hf) fun D σ H h => ?_
  obtain ⟨μ, env, S, r, s, er, e1, f⟩ := h
  obtain ⟨xw, yw, S1, w, S2, q1, q2, q3, rfl⟩ := ex_aug e1
  obtain ⟨v, v1, v2⟩ := er.2 i xw q1
  refine ⟨v, v1, μ, env, S, yw, S1, s, er, q2, fun u μ1 H1 x1 s1 r1 => ?_⟩
  have v3 := v2.mono x1
  cases xw <;> cases yw <;> simp only [opI] at q3 <;> try (cases q3; done)
  cases q3
  cases v3
  cases r1
  exact ⟨_, _, rfl, rfl, f _ μ1 H1 x1 s1 ((er.mono x1).set i (.int _))⟩
end
end MP
namespace MP
open PySem PySem.Spec PyProof.Rows L2
section
variable {K : Fg}
theorem intsW_ok {μ : List Addr} {H : Hp} : ∀ {vs : List V} {ws : List W} {ns : List Int}, intsW ws = some ns → VWs K μ H vs ws → vs = ns.map V.int
  | _, [], _, h, hv => by cases hv; cases h; rfl
  | _, w :: ws, bs, h, hv => by
    cases hv with
    | cons r t =>
      cases w <;> simp only [intsW] at h <;> try (cases h; done)
      rw [Option.map_eq_some_iff] at h
      obtain ⟨bs', h1, h2⟩ := h
      subst h2
      cases r
      rw [intsW_ok h1 t]
      rfl
theorem max_uniq {l : List Int} {m : Int} (hm : m ∈ l) (h : ∀ y ∈ l, y ≤ m) : m = maxI l := by
  have h1 := maxI_le l m hm
  have h2 := h _ (maxI_mem l (List.ne_nil_of_mem hm))
  omega
theorem min_uniq {l : List Int} {m : Int} (hm : m ∈ l) (h : ∀ y ∈ l, m ≤ y) : m = minI l := by
  have h1 := minI_le l m hm
  have h2 := h _ (minI_mem l (List.ne_nil_of_mem hm))
  omega
theorem cs_sum : ClS K (opI .sum) (rSum K) := by
  intro μ H S ws vs w S' Q s hv h a
  unfold opI at h
  split at h <;> try (cases h; done)
  all_goals rename_i hb; cases hb
  all_goals obtain ⟨v, rfl, r⟩ := hv.one
  split at h
  · rename_i z hz
    rw [Option.map_eq_some_iff] at h
    obtain ⟨ns, h1, h2⟩ := h
    cases h2
    cases r with
    | ref hk =>
      obtain ⟨us, q, t⟩ := s.rd hk hz
      rw [intsW_ok h1 t] at q
      exact ⟨_, ns, rfl, q, a.now s (.int _)⟩
  · cases h
theorem cs_maxl : ClS K (opI .maxl) (rMax K) := by
  intro μ H S ws vs w S' Q s hv h a
  unfold opI at h
  split at h <;> try (cases h; done)
  all_goals rename_i hb; cases hb
  all_goals obtain ⟨v, rfl, r⟩ := hv.one
  split at h
  · rename_i z hz
    split at h
    · rename_i ns h1
      split at h
      · cases h
      · rename_i hne
        cases h
        cases r with
        | ref hk =>
          obtain ⟨us, q, t⟩ := s.rd hk hz
          rw [intsW_ok h1 t] at q
          refine ⟨_, ns, rfl, q, ?_, fun m hm hle => ?_⟩
          · cases ns with
            | nil => simp at hne
            | cons _ _ => simp
          · rw [max_uniq hm hle]
            exact a.now s (.int _)
    · cases h
  · cases h
theorem cs_minl : ClS K (opI .minl) (rMin K) := by
  intro μ H S ws vs w S' Q s hv h a
  unfold opI at h
  split at h <;> try (cases h; done)
  all_goals rename_i hb; cases hb
  all_goals obtain ⟨v, rfl, r⟩ := hv.one
  split at h
  · rename_i z hz
    split at h
    · rename_i ns h1
      split at h
      · cases h
      · rename_i hne
        cases h
        cases r with
        | ref hk =>
          obtain ⟨us, q, t⟩ := s.rd hk hz
          rw [intsW_ok h1 t] at q
          refine ⟨_, ns, rfl, q, ?_, fun m hm hle => ?_⟩
          · cases ns with
            | nil => simp at hne
            | cons _ _ => simp
          · rw [min_uniq hm hle]
            exact a.now s (.int _)
    · cases h
  · cases h
theorem cs_max2 : ClS K (opI .max2) (fun xs H Q => ∃ i j, xs = [.int i, .int j] ∧ Q (.int (if j > i then j else i)) H) := by
  intro μ H S ws vs w S' Q s hv h a
  unfold opI at h
  split at h <;> try (cases h; done)
  all_goals rename_i hb; cases hb
  all_goals obtain ⟨v, u, rfl, r, r'⟩ := hv.two
  cases h
  cases r
  cases r'
  exact ⟨_, _, rfl, a.now s (.int _)⟩
theorem cs_min2 : ClS K (opI .min2) (fun xs H Q => ∃ i j, xs = [.int i, .int j] ∧ Q (.int (if j < i then j else i)) H) := by
  intro μ H S ws vs w S' Q s hv h a
  unfold opI at h
  split at h <;> try (cases h; done)
  all_goals rename_i hb; cases hb
  all_goals obtain ⟨v, u, rfl, r, r'⟩ := hv.two
  cases h
  cases r
  cases r'
  exact ⟨_, _, rfl, a.now s (.int _)⟩
/-! remove of a text -/
def eqT (x : Str) (v : Value) : Bool := match v with
  | .str y _ => y.cps.toList == x.cps.toList
  | _ => false
theorem vals_strs : ∀ {ys : List Str} {us : List Value}, Vals (ys.map V.str) us → ∀ (j : Nat) (u : Value), us[j]? = some u → ∃ y t, ys[j]? = some y ∧ u = .str y t
  | [], _, h, j, u, e => by cases h; simp at e
  | y :: ys, _, h, j, u, e => by
    cases h with
    | cons r t =>
      cases j with
      | zero =>
        simp at e
        subst e
        obtain ⟨tk, rfl⟩ := r
        exact ⟨y, tk, rfl, rfl⟩
      | succ j =>
        obtain ⟨y2, t2, q1, q2⟩ := vals_strs t j u (by simpa using e)
        exact ⟨y2, t2, by simpa using q1, q2⟩
theorem erase_mapS : ∀ (l : List Str) (j : Nat), (l.map V.str).eraseIdx j = (l.eraseIdx j).map V.str
  | [], j => by simp
  | a :: r, 0 => by simp
  | a :: r, j + 1 => by
    have ih := erase_mapS r j
    simp [ih]
end
section
variable {X : Cx}
def rRemS : V → List V → Hp → VK → Prop := fun x xs H Q => ∃ (l : Addr) (ys : List Str) (k : Str) (j : Nat), x = .ref l ∧ xs = [.str k] ∧ H l = some (.lst (ys.map V.str)) ∧ ys[j]? = some k ∧ (∀ m : Nat, m < j → ys[m]? ≠ some k) ∧ Q .non (upd H l (.lst ((ys.eraseIdx j).map V.str)))
theorem mt_remS : MtM X "list.remove" rRemS := by
  intro pins s σ H x xs v us Q I rx rv h
  obtain ⟨l, ys, k, j, rfl, rfl, k1, hj, hno, q⟩ := h
  cases rx
  obtain ⟨u, rfl, ru⟩ := rv.one
  obtain ⟨tk, rfl⟩ := ru
  obtain ⟨l0, ps, n, r, l1, e⟩ := I.lstM k1
  rw [List.length_map] at l1 l0
  have hjn : j < ys.length := (List.getElem?_eq_some_iff.mp hj).1
  have hjl : j < ps.toArray.size := by rw [List.size_toArray]; omega
  have each : ∀ (m : Nat) (hm : m < ps.length), ∃ t, ps[m] = .str (ys[m]'(by omega)) t := fun m hm => by
    obtain ⟨y, t, q1, q2⟩ := vals_strs r m ps[m] (List.getElem?_eq_getElem hm)
    rw [List.getElem?_eq_getElem (by omega)] at q1
    cases q1
    exact ⟨t, q2⟩
  refine call_meets PySem.F.slot_list_remove ⟨_, e, rfl⟩ PySem.F.entry_list_remove (PySem.F.args_list_remove_2 _ _)
    (MeetsSeq.list_remove l ps.toArray n (.str k tk) (eqT k) (fun y hy => ?_) j hjl ?_ ?_ (by rw [List.size_toArray]; omega)) ⟨e, ?_⟩
  · obtain ⟨m, hm, e2⟩ := List.mem_iff_getElem.mp (show y ∈ ps by simpa using hy)
    obtain ⟨t, e3⟩ := each m hm
    rw [← e2, e3]
    exact SeqRoads2.EqGives.str _ _ _ _
  · obtain ⟨t, e3⟩ := each j (by omega)
    have e1 : ps.toArray[j] = .str (ys[j]) t := by simpa using e3
    rw [e1]
    have e4 : ys[j] = k := by
      have := List.getElem?_eq_getElem hjn
      rw [hj] at this
      exact (Option.some.inj this).symm
    rw [e4]
    simp [eqT]
  · intro m hm hmj
    have hmn : m < ys.length := by omega
    obtain ⟨t, e3⟩ := each m (by omega)
    have e1 : ps.toArray[m] = .str (ys[m]) t := by simpa using e3
    rw [e1]
    refine beq_eq_false_iff_ne.mpr fun e2 => hno m hmj ?_
    rw [List.getElem?_eq_getElem hmn]
    congr 1
    exact str_inj e2
  · have rr := r.eraseIdx j
    rw [erase_mapS] at rr
    refine ⟨.non, _, I.lset (its' := ps.eraseIdx j) (t' := s.toks) k1 e ?_ rr ?_, rfl, q⟩
    · show ps.toArray.eraseIdxIfInBounds j = (ps.eraseIdx j).toArray
      rw [List.eraseIdxIfInBounds_toArray]
    · have z2 : (ys.eraseIdx j).length ≤ ys.length := by rw [List.length_eraseIdx]; split <;> omega
      rw [List.length_map]
      omega
variable {Φ : Fns} {a b d e : Expr} {es : List Expr} {ca cb cd ce : CE} {cs : CEs} {pos : Pos}
theorem ev_two {f : BI} {env : Env} {S S' : Sto} {w : W} (h : ev Φ (.bi f (.cons ca (.cons cb .nil))) env S = some (w, S')) : ∃ x S1 y S2, ev Φ ca env S = some (x, S1) ∧ ev Φ cb env S1 = some (y, S2) ∧ opI f [x, y] S2 = some (w, S') := by
  simp only [ev, evs] at h
  split at h
  · rename_i xs S1 e1
    split at e1
    · rename_i x S2 e2
      split at e1
      · rename_i ys S3 e3
        cases e1
        split at e3
        · rename_i y S5 e4
          cases e3
          exact ⟨x, S2, y, _, e2, e4, h⟩
        · cases e3
      · cases e1
    · cases e1
  · cases h
theorem erase_ok : ∀ (ys : List Str) (k : Str), k.cps.toList ∈ ys.map (fun y => y.cps.toList) → ∃ j : Nat, ys[j]? = some k ∧ (∀ m : Nat, m < j → ys[m]? ≠ some k) ∧ (ys.eraseIdx j).map (fun y => y.cps.toList) = (ys.map fun y => y.cps.toList).erase k.cps.toList
  | [], k, h => by simp at h
  | y :: r, k, h => by
    by_cases e : y = k
    · subst e
      exact ⟨0, rfl, fun m hm => by omega, by simp⟩
    · have ne : y.cps.toList ≠ k.cps.toList := fun q => e (str_inj q)
      have h2 : k.cps.toList ∈ r.map (fun y => y.cps.toList) := by
        rw [List.map_cons, List.mem_cons] at h
        exact h.resolve_left fun q => ne q.symm
      obtain ⟨j, h3, h4, h5⟩ := erase_ok r k h2
      refine ⟨j + 1, by simpa using h3, fun m hm => ?_, ?_⟩
      · cases m with
        | zero => simpa using e
        | succ m => simpa using h4 m (by omega)
      · rw [List.eraseIdx_cons_succ, List.map_cons, List.map_cons, List.erase_cons_tail (by simpa using ne), h5]
theorem de_rem {apos : Pos} (ha : DE X Φ a ca) (hb : DE X Φ b cb) (h1 : attributeBase a "remove" X.env (eval a X.env) = eval a X.env := by rfl)
    (h2 : ((((backTo pos (starEach [b] X.env)).all fun x => !x.fst) && (backToKw pos (keywordEach [] X.env)).all fun x => x.fst.isSome) && decide (([b].length + ([] : List Keyword).length + if ([] : List Keyword).isEmpty = true then 0 else 1) < 30)) = true := by rfl)
    (h3 : (apos.endLine == pos.line) = true := by rfl) (h4 : starEach [b] X.env = (false, eval b X.env) :: starEach [] X.env := by rfl) (h5 : ((backTo pos (starEach [] X.env)).any fun x => x.fst) = false := by rfl) :
    DE X Φ (.Call (.Attribute a "remove" apos) [b] [] pos) (.bi .rem (.cons ca (.cons cb .nil))) := by
  refine peW (pe_bm PySem.F.plainAttrs_list PySem.F.slot_list_remove PySem.F.type_list_remove mt_remS ha (pa_cons hb pa_nil h4) h1 h2 h3 h4 h5) fun σ H Q h => ?_
  obtain ⟨μ, env, S, w, S', s, er, h1, h2⟩ := h
  obtain ⟨x, S1, y, S2, e1, e2, e3⟩ := ev_two h1
  cases x <;> cases y <;> simp only [opI] at e3 <;> try (cases e3; done)
  rename_i k z
  refine ⟨μ, env, S, _, S1, s, er, e1, fun v μ1 H1 x1 s1 r1 => ?_⟩
  cases r1 with
  | ref hk =>
    refine ⟨.inl ⟨rfl, s1.isL hk⟩, μ1, env, S1, _, S2, s1, er.mono x1, e2, fun u μ2 H2 x2 s2 r2 => ?_⟩
    split at e3
    · rename_i zs hz
      split at e3
      · rename_i ls hls
        split at e3
        · rename_i hmem
          cases e3
          have hk2 := x2.pre _ _ hk
          obtain ⟨q0, vs, q1, t1⟩ := s2.rm hk2 hz
          obtain ⟨ys, h3, h4⟩ := txts_ok hls t1
          subst h3
          cases r2 with
          | str kk _ ek =>
            obtain ⟨j, j1, j2, j3⟩ := erase_ok ys kk (by rw [h4, ek]; exact hmem)
            have tt : VWs X.K μ2 H2 ((ys.eraseIdx j).map V.str) ((ls.erase z).map W.str) := by
              rw [← ek, ← h4, ← j3]
              generalize ys.eraseIdx j = l
              induction l with
              | nil => exact .nil
              | cons a r ih => exact .cons (.str _ _ rfl) ih
            obtain ⟨s3, x3⟩ := s2.write hk2 q0 tt
            exact ⟨_, ys, kk, j, rfl, rfl, q1, j1, j2, h2 _ μ2 _ ((x1.trans x2).trans x3) s3 .non⟩
        · cases e3
      · cases e3
    · cases e3
theorem de_popi {apos : Pos} (ha : DE X Φ a ca) (hb : DE X Φ b cb) (h1 : attributeBase a "pop" X.env (eval a X.env) = eval a X.env := by rfl)
    (h2 : ((((backTo pos (starEach [b] X.env)).all fun x => !x.fst) && (backToKw pos (keywordEach [] X.env)).all fun x => x.fst.isSome) && decide (([b].length + ([] : List Keyword).length + if ([] : List Keyword).isEmpty = true then 0 else 1) < 30)) = true := by rfl)
    (h3 : (apos.endLine == pos.line) = true := by rfl) (h4 : starEach [b] X.env = (false, eval b X.env) :: starEach [] X.env := by rfl) (h5 : ((backTo pos (starEach [] X.env)).any fun x => x.fst) = false := by rfl) :
    DE X Φ (.Call (.Attribute a "pop" apos) [b] [] pos) (.bi .popi (.cons ca (.cons cb .nil))) := by
  refine peW (pe_bm PySem.F.plainAttrs_list PySem.F.slot_list_pop PySem.F.type_list_pop mt_popAt ha (pa_cons hb pa_nil h4) h1 h2 h3 h4 h5) fun σ H Q h => ?_
  obtain ⟨μ, env, S, w, S', s, er, h1, h2⟩ := h
  obtain ⟨x, S1, y, S2, e1, e2, e3⟩ := ev_two h1
  cases x <;> cases y <;> simp only [opI] at e3 <;> try (cases e3; done)
  rename_i k i
  refine ⟨μ, env, S, _, S1, s, er, e1, fun v μ1 H1 x1 s1 r1 => ?_⟩
  cases r1 with
  | ref hk =>
    refine ⟨.inl ⟨rfl, s1.isL hk⟩, μ1, env, S1, _, S2, s1, er.mono x1, e2, fun u μ2 H2 x2 s2 r2 => ?_⟩
    split at e3
    · rename_i zs hz
      split at e3
      · rename_i n hn
        split at e3
        · rename_i y hy
          split at e3
          · rename_i lz
            cases e3
            have hk2 := x2.pre _ _ hk
            obtain ⟨q0, vs, q1, t1⟩ := s2.rm hk2 hz
            cases r2
            obtain ⟨vy, v1, v2⟩ := t1.get hy
            obtain ⟨s3, x3⟩ := s2.write hk2 q0 (t1.erase n)
            simp only [LIM] at lz
            unfold ixN at hn
            have hb : -(zs.length : Int) ≤ i ∧ i < zs.length := by
              split at hn
              · split at hn
                · omega
                · cases hn
              · split at hn
                · omega
                · cases hn
            refine ⟨_, vs, i, n, vy, rfl, rfl, q1, by omega, by omega, ?_, v1, h2 _ μ2 _ ((x1.trans x2).trans x3) s3 (v2.mono x3)⟩
            rw [t1.length]
            unfold seqIndex?
            simp only
            by_cases hi : i < 0
            · rw [if_pos hi, if_pos (by simp; omega)]
              rw [if_neg (by omega), if_pos (by omega)] at hn
              exact hn
            · rw [if_neg hi, if_pos (by simp; omega)]
              rw [if_pos (by omega), if_pos (by omega)] at hn
              exact hn
          · cases e3
        · cases e3
      · cases e3
    · cases e3
end
end MP
namespace MP
open PySem PySem.Spec PyProof.Rows L2
/-! enumerate of a tuple -/
def IteT (K : Fg) (a : Addr) : It :=
  ⟨fun i H => ∃ (us : List V) (x : V), SqT K H a us ∧ us[i]? = some x, fun i H v H' => ∃ T x, v = .ref T ∧ H T = none ∧ H' = upd H T (.tup [.int (i : Nat), x]) ∧ ∀ us, SqT K H a us → us[i]? = some x, fun i H => ∃ us : List V, SqT K H a us ∧ us.length ≤ i⟩
section
variable {prog : Program} {w : World} {A : Around} {E : Value → Shared → Prop} {s : Shared}
theorem meets_enumB1 {v : Value} {o : Obj} {G : Heap → Prop} (B : Begins v o G) :
    Meets (Builtin.«enumerate.__new__» ⟨[.type "enumerate", v], []⟩) (fun _ R s => G s.heap ∧
      R (.ok (.ret (.ref (s.heap.push o).objs.size))) { s with heap := (s.heap.push o).push { cls := .type "enumerate", data := .fields #[.none, .bool false, .ref s.heap.objs.size, rawInt 0, .none, .none] } }) :=
  .of_wp fun prog w A R s h => by
    obtain ⟨hp, g, d, tk, os⟩ := s
    obtain ⟨g1, g2⟩ := h
    have sb := sub_enumerate
    have it1 : ∀ {A' : Around} {E : Value → Shared → Prop} {Q : Value → Shared → Prop}, Q (.ref hp.objs.size) ⟨hp.push o, g, d, tk, os⟩ → wpAny (model prog w) A' (pyIter v) Q E ⟨hp, g, d, tk, os⟩ :=
      fun q => B.iter prog w _ _ ⟨hp, g, d, tk, os⟩ _ g1 q
    wp_walk using it1
    refine wpAny_stack_any fun st => wpAny_pure ?_
    split
    · rename_i c _ _ _ _ _
      cases (c == Value.type "enumerate")
      · wp_walk using it1
        exact ⟨_, rfl, g2⟩
      · wp_walk using it1
        exact ⟨_, rfl, g2⟩
    · wp_walk using it1
      exact ⟨_, rfl, g2⟩
theorem call_enumB1 {v : Value} {o : Obj} {G : Heap → Prop} {Q : Value → Shared → Prop} (B : Begins v o G) (g1 : G s.heap)
    (h : ∀ g, IsEnum g (s.heap.objs.size + 1) s.heap.objs.size 0 .none → g.get? s.heap.objs.size = some o → g.objs.size = s.heap.objs.size + 2 → (∀ b u, s.heap.get? b = some u → g.get? b = some u) → Q (.ref (s.heap.objs.size + 1)) { s with heap := g }) :
    wpAny (model prog w) A (call (.type "enumerate") [v]) Q E s := by
  refine callType_new F.called_enumerate (by decide) (F.typeCall_enumerate_1 _) (F.newCall_enumerate_1 _) (fun obj => F.args_object_init_2 obj _) F.entry_enumerate_new (meets_enumB1 B) ⟨g1, ?_⟩
  have z1 : (s.heap.push o).objs.size = s.heap.objs.size + 1 := Heap.size_push ..
  show _ ∧ _
  rw [z1]
  have z2 : IsEnum ((s.heap.push o).push { cls := .type "enumerate", data := .fields #[.none, .bool false, .ref s.heap.objs.size, rawInt 0, .none, .none] }) (s.heap.objs.size + 1) s.heap.objs.size 0 .none := by
    have z3 := Heap.get?_push_size (s.heap.push o) (o := { cls := .type "enumerate", data := .fields #[.none, .bool false, .ref s.heap.objs.size, rawInt 0, .none, .none] }) rfl
    rw [z1] at z3
    exact z3
  exact ⟨⟨_, z2, rfl⟩, h _ z2 (Heap.get?_push_of_some _ (Heap.get?_push_size _ B.free)) (by rw [Heap.size_push, z1]) fun b u x => Heap.get?_push_of_some _ (Heap.get?_push_of_some _ x)⟩
end
theorem turn_enumT {P : Program} {w : World} {K : Fg} {elts : List Expr} {kk : Nat} {tpos : Pos} (a e it : Addr) :
    Turn P w K (.Tuple elts kk tpos) (IteT K a) [e, it] e (fun i h => (∃ old, IsEnum h e it ((i : Nat) : Int) old) ∧ h.IsTupleIter it a i ∧ e ≠ it ∧ a ≠ it ∧ a ≠ e) where
  mem := by simp
  obj := fun i h st b hb => by
    obtain ⟨⟨old, he⟩, ⟨o, ho, hc, hd⟩, _⟩ := st
    have e1 : b = e ∨ b = it := by simpa using hb
    rcases e1 with z | z
    · rw [z]; exact ⟨_, he, fun v q => nomatch q⟩
    · rw [z]; exact ⟨o, ho, fun v q => by rw [hd] at q; cases q⟩
  keep := fun i h h' st k => let ⟨⟨old, he⟩, hi, hne⟩ := st; ⟨⟨old, k e (by simp) _ he⟩, hi.at fun o q => k it (by simp) o q, hne⟩
  item := by
    intro X hP hw hK hc i pins s σ H E I hf st hg
    subst hP hw hK
    obtain ⟨⟨old, he⟩, hit, hne, hai, hae⟩ := st
    obtain ⟨us, x, hq, hx⟩ := hg
    obtain ⟨ws, rv, pt, hz⟩ := I.tuple hq
    obtain ⟨u, hu, ru⟩ := rv.get hx
    have hel : e < s.heap.objs.size := Heap.lt_size he
    have hil : it < s.heap.objs.size := by obtain ⟨_, q, _⟩ := hit; exact Heap.lt_size q
    have hui : ws.toArray[i]? = some u := by simpa using hu
    have hin : i < ws.toArray.size := (Array.getElem?_eq_some_iff.mp hui).1
    have DD : Draws X.prog X.w X.A.in1 it [it, a] ws.toArray.size (fun i v => ws.toArray[i]? = some v) (fun i h => h.IsTupleIter it a i ∧ h.IsTuple a ws.toArray) := Draws.tuple (A := X.A.in1) (show X.A.in1.handled = none from I.ok.hd hc) it a hai ws.toArray
    refine wpAny_pyNext_enum_itemD DD he ⟨hit, pt⟩ hin hne (by simp [hne, Ne.symm hae]) fun x' h' tk hx' ho hst hT hsz hk => ?_
    have ex : x' = u := by
      rw [hui] at hx'
      exact (Option.some.inj hx').symm
    subst ex
    refine ⟨_, rfl, wpAny_letOwnedTupleGo_enum (s := { s with heap := h', toks := tk + 1 }) ho fun h2 he2 sb => ?_⟩
    have hT2 : h2.get? s.heap.objs.size = some { cls := .type "tuple", data := .seq #[.int i tk, x'] } := (sb.2 _ (Nat.ne_of_gt hel)).trans hT
    have nw : ObjOk X.prog X.w (upd H s.heap.objs.size (.tup [.int (i : Nat), x])) h2 s.heap.objs.size (.tup [.int (i : Nat), x]) :=
      ⟨by show 2 ≤ sizeLine; decide, [.int i tk, x'], .cons ⟨_, rfl⟩ (.cons ru .nil), ⟨_, hT2, rfl, _, rfl⟩⟩
    have I1 : L2.Inv X pins σ (upd H s.heap.objs.size (.tup [.int (i : Nat), x])) { s with heap := h2, toks := tk + 1 } :=
      I.turnedNew (ch := [e, it]) (fun b ob hb q => (sb.2 b (fun z => hb (by simp [z]))).trans (hk b ob (fun z => hb (by simp [z])) (fun z => hb (by simp [z])) q)) hf (Nat.le_refl _) nw
    refine ⟨.ref s.heap.objs.size, _, I1, rfl, ⟨_, x, rfl, I.hok.fresh (Nat.le_refl _), rfl, fun ys hy => by rw [I.tuple_inj hy hq]; exact hx⟩, ⟨⟨x', ?_⟩, hst.1.at fun o q => (sb.2 it (Ne.symm hne)).trans q, hne, hai, hae⟩, fun b hb => ?_⟩
    · rw [show ((i + 1 : Nat) : Int) = (i : Int) + 1 by omega]
      exact he2
    · have hbl : b < s.heap.objs.size := by
        have e1 : b = e ∨ b = it := by simpa using hb
        rcases e1 with z | z
        · rw [z]; exact hel
        · rw [z]; exact hil
      rw [upd_ne (Nat.ne_of_lt hbl)]
      exact (hf b hb).1
  done := by
    intro X hP hw hK hc i pins s σ H E I hf st hg
    subst hP hw hK
    obtain ⟨⟨old, he⟩, hit, hne, hai, hae⟩ := st
    obtain ⟨us, hq, hx⟩ := hg
    obtain ⟨ws, rv, pt, hz⟩ := I.tuple hq
    have lw := rv.length
    obtain ⟨f0, f1, f2, f3, f4, f5⟩ := hf it (by simp)
    have DD : Draws X.prog X.w X.A.in1 it [it, a] i (fun _ _ => True) (fun j h => j = i ∧ h.IsTupleIter it a i ∧ h.IsTuple a ws.toArray) := {
      live := fun _ _ st => let ⟨o, ho, _⟩ := st.2.1; ⟨o, ho⟩
      frame := fun _ _ _ st k => ⟨st.1, st.2.1.at fun o q => k it (by simp) o q, st.2.2.at fun o q => k a (by simp) o q⟩
      item := fun j s Q E hj st _ => absurd st.1 (by omega)
      done := fun s Q E st hE => wpAny_nextOf_tuple_end (A := X.A.in1) (show X.A.in1.handled = none from I.ok.hd hc) st.2.1 st.2.2 (by simp; omega) hE }
    exact wpAny_pyNext_enum_endD DD he ⟨rfl, hit, pt⟩ fun h' eb => ⟨rfl, I.turned (t' := s.toks) (fun b o hb q => eb b o hb q) f0 f1 f3 f4 f5⟩
  self := fun A i s Q E st h => let ⟨⟨_, he⟩, _⟩ := st; wpAny_pyIter_enum he h
theorem pi_enumT {X : Cx} {e : Expr} {ta : TA} {p pos tpos : Pos} {elts : List Expr} {kk : Nat} (hg : Gl X "enumerate") (hm : X.mg "enumerate" = none) (ha : PA X [e] ta) (hs : starEach [e] X.env = [(false, eval e X.env)] := by rfl) :
    PI X (.Tuple elts kk tpos) (.Call (.Name "enumerate" p) [e] [] pos) (fun σ H R => ta σ H fun vs H1 => ∃ a us, vs = [.ref a] ∧ SqT X.K H1 a us ∧ R (IteT X.K a) H1) := by
  refine ⟨fun pins s σ H R I h => ?_⟩
  refine Call_ (ld_blt I hg hm boot_enumerate (PyProof.Rows.callWith_type1 (thn (ha.run pos pins s σ H _ I h) fun us s1 ⟨vs, H1, I1, r1, q1⟩ => ?_) hs rfl))
  obtain ⟨a, zs, ex, hq, q⟩ := q1
  subst ex
  cases r1 with
  | cons r rr =>
    cases rr
    cases r
    obtain ⟨ws, rv, pt, hz⟩ := I1.tuple hq
    have hal : a < s1.heap.objs.size := by obtain ⟨_, q0, _⟩ := id pt; exact Heap.lt_size q0
    refine call_enumB1 (begins_tuple a ws.toArray) pt fun g he hit hsz hk => wpAny_pyIter_enum he ?_
    have I2 : L2.Inv X pins σ H1 { s1 with heap := g } := I1.kept (t' := s1.toks) hk
    refine ⟨s1.heap.objs.size + 1, [s1.heap.objs.size + 1, s1.heap.objs.size], _, _, H1, rfl, I2, turn_enumT a (s1.heap.objs.size + 1) s1.heap.objs.size, ⟨⟨.none, he⟩, ⟨_, hit, rfl, rfl⟩, Nat.succ_ne_self _, Nat.ne_of_lt hal, Nat.ne_of_lt (Nat.lt_succ_of_lt hal)⟩, fun b hb => ?_, q⟩
    have e1 : b = s1.heap.objs.size + 1 ∨ b = s1.heap.objs.size := by simpa using hb
    have le1 : s1.heap.objs.size ≤ b := by
      rcases e1 with z | z
      · rw [z]; exact Nat.le_add_right _ _
      · rw [z]; exact Nat.le_refl _
    exact I1.fpOk le1 (I1.hok.fresh le1)
theorem enumT_get : ∀ (z : List W) (m i : Nat), (enumT m z)[i]? = (z[i]?).map fun w => .tup [.int ((m + i : Nat) : Int), w]
  | [], m, i => by simp [enumT]
  | x :: r, m, 0 => by simp [enumT]
  | x :: r, m, i + 1 => by
    rw [enumT, List.getElem?_cons_succ, List.getElem?_cons_succ, enumT_get r (m + 1) i, show m + 1 + i = m + (i + 1) by omega]
theorem enumT_len : ∀ (z : List W) (m : Nat), (enumT m z).length = z.length
  | [], _ => rfl
  | x :: r, m => by rw [enumT, List.length_cons, List.length_cons, enumT_len r]
theorem zipT_get : ∀ (x y : List W) (i : Nat), (zipT x y)[i]? = match x[i]?, y[i]? with | some a, some b => some (.tup [a, b]) | _, _ => none
  | [], y, i => by simp [zipT]
  | a :: x, [], i => by simp [zipT]
  | a :: x, b :: y, 0 => by simp [zipT]
  | a :: x, b :: y, i + 1 => by
    rw [zipT, List.getElem?_cons_succ, List.getElem?_cons_succ, List.getElem?_cons_succ, zipT_get x y i]
theorem zipT_len : ∀ (x y : List W), (zipT x y).length = min x.length y.length
  | [], y => by simp [zipT]
  | a :: x, [] => by simp [zipT]
  | a :: x, b :: y => by rw [zipT, List.length_cons, List.length_cons, List.length_cons, zipT_len x y]; omega
theorem it_enumT {K : Fg} {μ : List Addr} {H : Hp} {ws : List W} {vs : List V} {a : Addr} (q0 : SqT K H a vs) (t0 : VWs K μ H vs ws) : ItOk K μ H (.seq (.tup (enumT 0 ws))) (IteT K a) := by
  intro μ2 H2 S2 x s
  have q := x.tup _ _ q0
  have t := t0.monoY x
  refine ⟨fun i w h => ?_, fun i n h hn => ?_⟩
  · simp only [Src.item, enumT_get, Option.map_eq_some_iff] at h
    obtain ⟨w0, h1, h2⟩ := h
    obtain ⟨v, h3, h4⟩ := t.get h1
    refine ⟨⟨vs, v, q, h3⟩, fun u H3 y => ?_⟩
    obtain ⟨T, v2, rfl, hT, rfl, e2⟩ := y
    have e3 := e2 vs q
    rw [h3] at e3
    cases e3
    subst h2
    rw [Nat.zero_add]
    exact ⟨ex_fresh hT, s.fresh hT, .tup (.inl (.inl upd_same)) (.cons (.int _) (.cons (h4.mono (ex_fresh hT)) .nil))⟩
  · simp only [Src.len, enumT_len] at h
    cases h
    exact ⟨vs, q, by rw [t.length]; exact hn⟩
theorem it_zipT {K : Fg} {μ : List Addr} {H : Hp} {ws zs : List W} {vs us : List V} {a b : Addr} (q0 : SqT K H a vs) (t0 : VWs K μ H vs ws) (p0 : SqT K H b us) (r0 : VWs K μ H us zs) : ItOk K μ H (.seq (.tup (zipT ws zs))) (RZ.ItzT K a b) := by
  intro μ2 H2 S2 x s
  have q := x.tup _ _ q0
  have t := t0.monoY x
  have p := x.tup _ _ p0
  have r := r0.monoY x
  refine ⟨fun i w h => ?_, fun i n h hn => ?_⟩
  · simp only [Src.item, zipT_get] at h
    split at h
    · rename_i w1 w2 h1 h2
      cases h
      obtain ⟨v1, h3, h4⟩ := t.get h1
      obtain ⟨v2, h5, h6⟩ := r.get h2
      refine ⟨⟨vs, us, v1, v2, q, p, h3, h5⟩, fun u H3 y => ?_⟩
      obtain ⟨T, y1, y2, rfl, hT, rfl, f1, f2⟩ := y
      have e1 := f1 vs q
      have e2 := f2 us p
      rw [h3] at e1
      rw [h5] at e2
      cases e1
      cases e2
      exact ⟨ex_fresh hT, s.fresh hT, .tup (.inl (.inl upd_same)) (.cons (h4.mono (ex_fresh hT)) (.cons (h6.mono (ex_fresh hT)) .nil))⟩
    · cases h
  · simp only [Src.len, zipT_len] at h
    cases h
    have l1 := t.length
    have l2 := r.length
    refine ⟨vs, us, q, p, ?_⟩
    omega
section
variable {X : Cx} {Φ : Fns} {a b d e tg : Expr} {es : List Expr} {ca cb cd ce : CE} {cs : CEs} {pos : Pos}
theorem di_enum {p tpos : Pos} {elts : List Expr} {kk : Nat} (hm : X.mg "enumerate" = none) (ha : DE X Φ a ca) (hg : Gl X "enumerate" := by rfl) (hs : starEach [a] X.env = [(false, eval a X.env)] := by rfl) : DI X Φ (.Tuple elts kk tpos) (.Call (.Name "enumerate" p) [a] [] pos) (.enum ca) := by
  refine piW (pi_enumT hg hm (pa_cons ha pa_nil hs) hs) fun σ H R h => ?_
  obtain ⟨μ, env, S, J, S', s, er, h1, h2, n, hn⟩ := h
  simp only [evi] at h1
  split at h1
  · rename_i z S1 e1
    cases h1
    refine ⟨μ, env, S, _, _, s, er, e1, fun v μ1 H1 x1 s1 r1 => ?_⟩
    cases r1 with
    | tup q t => exact ⟨_, _, rfl, q, h2 ⟨n, hn⟩ μ1 H1 _ x1 s1 (it_enumT q t)⟩
  · cases h1
theorem di_zip {p tpos : Pos} {elts : List Expr} {kk : Nat} (hm : X.mg "zip" = none) (ha : DE X Φ a ca) (hb : DE X Φ b cb) (hg : Gl X "zip" := by rfl) (hs : starEach [a, b] X.env = (false, eval a X.env) :: starEach [b] X.env := by rfl) (hs2 : starEach [b] X.env = [(false, eval b X.env)] := by rfl) (hpl : (backTo pos (starEach [b] X.env)).any (·.1) = false := by rfl) :
    DI X Φ (.Tuple elts kk tpos) (.Call (.Name "zip" p) [a, b] [] pos) (.zip ca cb) := by
  refine piW (RZ.pi_zipA hg hm (pa_cons ha (pa_cons hb pa_nil hs2) hs) hs hpl) fun σ H R h => ?_
  obtain ⟨μ, env, S, J, S', s, er, h1, h2, n, hn⟩ := h
  simp only [evi] at h1
  split at h1
  · rename_i x S1 e1
    split at h1
    · rename_i y S2 e2
      cases h1
      refine ⟨μ, env, S, _, _, s, er, e1, fun v μ1 H1 x1 s1 r1 => ⟨μ1, env, S1, _, _, s1, er.mono x1, e2, fun u μ2 H2 x2 s2 r2 => ?_⟩⟩
      have r1' := r1.mono x2
      cases r1' with
      | tup q t =>
        cases r2 with
        | tup q' t' => exact ⟨_, _, _, _, rfl, .inr ⟨q, q', h2 ⟨n, hn⟩ μ2 H2 _ (x1.trans x2) s2 (it_zipT q t q' t')⟩⟩
    · cases h1
  · cases h1
end
end MP
/-! list(zip(x, y)) of two tuples -/
namespace MP
open PySem PySem.Spec PyProof.Rows L2
section
variable {prog : Program} {w : World} {A : Around} {E : Value → Shared → Prop} {s : Shared} {z TI TO T i1 i2 l1 l2 q : Addr} {f : Bool} {oT : Obj} {n1 n2 : Nat} {xs ys : Array Value} {x y : Value}
/-- the next pair, where the one that was given out is still there -/
theorem zh_item {Q : Value → Shared → Prop} (D : ZipApart z TI TO i1 i2 l1 l2) (hZ : IsZipHeld s.heap z TI TO T f) (hT : s.heap.get? T = some oT) (hI : IsPair s.heap TI (.ref i1) (.ref i2)) (a1 : s.heap.IsTupleIter i1 l1 n1) (a2 : s.heap.IsTupleIter i2 l2 n2) (t1 : s.heap.IsTuple l1 xs) (t2 : s.heap.IsTuple l2 ys) (hx : xs[n1]? = some x) (hy : ys[n2]? = some y)
    (go : ∀ g, IsZipHeld g z TI TO T true → g.IsTupleIter i1 l1 (n1 + 1) → g.IsTupleIter i2 l2 (n2 + 1) → IsPair g s.heap.objs.size x y → g.objs.size = s.heap.objs.size + 1 → (∀ c o, c ≠ z → c ≠ i1 → c ≠ i2 → s.heap.get? c = some o → g.get? c = some o) → Q (.ref s.heap.objs.size) { s with heap := g }) :
    wpAny (model prog w) A (Builtin.«zip.__next__» ⟨[.ref z], []⟩) (fun fin s' => ∃ v, fin = .done (.ret v) ∧ Q v s') E s := by
  show wpAny _ _ (field (.ref z) 2 >>= _) _ _ _
  refine wpAny_bind (wpAny_field hZ rfl (x := .bool false) rfl ?_)
  show wpAny _ _ (field (.ref z) 3 >>= _) _ _ _
  refine wpAny_bind (wpAny_field hZ rfl (x := .ref TI) rfl ?_)
  refine wpAny_bind (wpAny_seqItems hI rfl ?_)
  show wpAny _ _ (Builtin.SmallTypes.ownedTupleIsFree (.ref z) >>= _) _ _ _
  refine wpAny_bind (wpAny_tupleHeld_zip hZ hT fun ga hZa sa => ?_)
  simp only [Bool.false_eq_true, if_false]
  refine wpAny_bind ?_
  rw [← Array.forIn_toList]
  simp only [List.forIn_cons, List.forIn_nil]
  refine wpAny_bind (wpAny_bind (wpAny_holding ?_))
  show wpAny _ _ (Builtin.SmallTypes.nextOf (.ref i1) >>= _) _ _ _
  refine wpAny_bind (RZ.nextOf_tuple_item (s := { s with heap := ga }) (a1.extBut sa.extBut D.i1z) (t1.extBut sa.extBut D.l1z) hx fun gb b1 sb => wpAny_pure ?_)
  refine wpAny_pure ?_
  refine wpAny_bind (wpAny_bind (wpAny_holding ?_))
  show wpAny _ _ (Builtin.SmallTypes.nextOf (.ref i2) >>= _) _ _ _
  refine wpAny_bind (RZ.nextOf_tuple_item (s := { s with heap := gb }) ((a2.extBut sa.extBut D.i2z).extBut sb.extBut D.i12.symm) ((t2.extBut sa.extBut D.l2z).extBut sb.extBut D.l2i1) hy fun gc b2 sc => wpAny_pure ?_)
  refine wpAny_pure (wpAny_pure ?_)
  show wpAny _ _ (newTuple [x, y] >>= _) _ _ _
  refine wpAny_bind (wpAny_newTuple ?_)
  have ez : gc.objs.size = s.heap.objs.size := by rw [sc.1, sb.1, sa.1]
  have hZc : IsZipHeld gc z TI TO T true := sc.extBut _ _ D.i2z.symm (sb.extBut _ _ D.i1z.symm hZa)
  have kc : ∀ c o, c ≠ z → c ≠ i1 → c ≠ i2 → s.heap.get? c = some o → gc.get? c = some o := fun c o p1 p2 p3 e => sc.extBut _ _ p3 (sb.extBut _ _ p2 (sa.extBut _ _ p1 e))
  have b1c : gc.IsTupleIter i1 l1 (n1 + 1) := b1.extBut sc.extBut D.i12
  refine wpAny_pure ⟨_, rfl, ?_⟩
  show Q (.ref gc.objs.size) _
  have hp : IsPair (gc.push { cls := .type "tuple", data := .seq #[x, y] }) gc.objs.size x y := Heap.get?_push_size _ rfl
  have hq : (gc.push { cls := .type "tuple", data := .seq #[x, y] }).objs.size = gc.objs.size + 1 := Heap.size_push ..
  rw [ez] at hp hq ⊢
  exact go _ (Heap.get?_push_of_some _ hZc) (b1c.at fun o e => Heap.get?_push_of_some _ e) (b2.at fun o e => Heap.get?_push_of_some _ e) hp hq fun c o p1 p2 p3 e => Heap.get?_push_of_some _ (kc c o p1 p2 p3 e)
theorem zh_end {Q : Fin → Shared → Prop} (hh : A.handled = none) (D : ZipApart z TI TO i1 i2 l1 l2) (hZ : IsZipHeld s.heap z TI TO T f) (hT : s.heap.get? T = some oT) (hI : IsPair s.heap TI (.ref i1) (.ref i2)) (a1 : s.heap.IsTupleIter i1 l1 n1) (a2 : s.heap.IsTupleIter i2 l2 n2) (t1 : s.heap.IsTuple l1 xs) (t2 : s.heap.IsTuple l2 ys) (he : xs[n1]? = none ∨ ys[n2]? = none)
    (go : ∀ g e, (∀ c o, c ≠ z → c ≠ i1 → c ≠ i2 → s.heap.get? c = some o → g.get? c = some o) → (∃ o, g.get? e = some o ∧ o.cls = .type "StopIteration") → E (.ref e) { s with heap := g }) :
    wpAny (model prog w) A (Builtin.«zip.__next__» ⟨[.ref z], []⟩) Q E s := by
  show wpAny _ _ (field (.ref z) 2 >>= _) _ _ _
  refine wpAny_bind (wpAny_field hZ rfl (x := .bool false) rfl ?_)
  show wpAny _ _ (field (.ref z) 3 >>= _) _ _ _
  refine wpAny_bind (wpAny_field hZ rfl (x := .ref TI) rfl ?_)
  refine wpAny_bind (wpAny_seqItems hI rfl ?_)
  show wpAny _ _ (Builtin.SmallTypes.ownedTupleIsFree (.ref z) >>= _) _ _ _
  refine wpAny_bind (wpAny_tupleHeld_zip hZ hT fun ga hZa sa => ?_)
  simp only [Bool.false_eq_true, if_false]
  refine wpAny_bind ?_
  rw [← Array.forIn_toList]
  simp only [List.forIn_cons, List.forIn_nil]
  refine wpAny_bind (wpAny_bind (wpAny_holding ?_))
  show wpAny _ _ (Builtin.SmallTypes.nextOf (.ref i1) >>= _) _ _ _
  cases ex : xs[n1]? with
  | none =>
    refine wpAny_bind (RZ.nextOf_tuple_end (s := { s with heap := ga }) hh (a1.extBut sa.extBut D.i1z) (t1.extBut sa.extBut D.l1z) ex fun gb e sb st => ?_)
    exact go gb e (fun c o p1 p2 _ u => sb _ _ p2 (sa.extBut _ _ p1 u)) st
  | some x =>
    have ey : ys[n2]? = none := by rcases he with h | h; rw [ex] at h; cases h; exact h
    refine wpAny_bind (RZ.nextOf_tuple_item (s := { s with heap := ga }) (a1.extBut sa.extBut D.i1z) (t1.extBut sa.extBut D.l1z) ex fun gb b1 sb => wpAny_pure ?_)
    refine wpAny_pure ?_
    refine wpAny_bind (wpAny_bind (wpAny_holding ?_))
    show wpAny _ _ (Builtin.SmallTypes.nextOf (.ref i2) >>= _) _ _ _
    refine wpAny_bind (RZ.nextOf_tuple_end (s := { s with heap := gb }) hh ((a2.extBut sa.extBut D.i2z).extBut sb.extBut D.i12.symm) ((t2.extBut sa.extBut D.l2z).extBut sb.extBut D.l2i1) ey fun gc e sc st => ?_)
    exact go gc e (fun c o p1 p2 p3 u => sc _ _ p3 (sb.extBut _ _ p2 (sa.extBut _ _ p1 u))) st
/-- a zip under way: nothing given out yet, or the first pair still there -/
def ZS (z TI TO i1 i2 l1 l2 q : Addr) (h : Heap) (i : Nat) : Prop := IsPair h TI (.ref i1) (.ref i2) ∧ h.IsTupleIter i1 l1 i ∧ h.IsTupleIter i2 l2 i ∧
  ((IsZip h z TI TO .none ∧ ∃ u v, IsPair h TO u v) ∨ ∃ (T : Addr) (f : Bool) (o : Obj), IsZipHeld h z TI TO T f ∧ h.get? T = some o ∧ T ≠ z ∧ T ≠ i1 ∧ T ≠ i2 ∧ T ≠ q ∧ ∃ oO, h.get? TO = some oO)
theorem ZS.keep {h g : Heap} {i : Nat} (st : ZS z TI TO i1 i2 l1 l2 q h i) (nz : z ≠ q) (nI : TI ≠ q) (nO : TO ≠ q) (n1 : i1 ≠ q) (n2 : i2 ≠ q) (k : ∀ c o, c ≠ q → h.get? c = some o → g.get? c = some o) : ZS z TI TO i1 i2 l1 l2 q g i := by
  obtain ⟨a, b, c, d⟩ := st
  refine ⟨k _ _ nI a, b.at fun o e => k _ o n1 e, c.at fun o e => k _ o n2 e, ?_⟩
  rcases d with ⟨d, u, v, e⟩ | ⟨T, f, o, d, e, r1, r2, r3, r4, oO, eO⟩
  · exact .inl ⟨k _ _ nz d, u, v, k _ _ nO e⟩
  · exact .inr ⟨T, f, o, k _ _ nz d, k _ _ r4 e, r1, r2, r3, r4, oO, k _ _ nO eO⟩
theorem zs_type {h : Heap} {i : Nat} (st : ZS z TI TO i1 i2 l1 l2 q h i) (hs : s.heap = h) : s.TypeIs (.ref z) "zip" := by
  subst hs
  rcases st.2.2.2 with ⟨d, _⟩ | ⟨_, _, _, d, _⟩
  · exact ⟨_, d, rfl⟩
  · exact ⟨_, d, rfl⟩
theorem zs_item {i : Nat} {Q : Option Value → Shared → Prop} (D : ZipApart z TI TO i1 i2 l1 l2) (st : ZS z TI TO i1 i2 l1 l2 q s.heap i) (hq : q < s.heap.objs.size) (t1 : s.heap.IsTuple l1 xs) (t2 : s.heap.IsTuple l2 ys) (hx : xs[i]? = some x) (hy : ys[i]? = some y)
    (go : ∀ g, ZS z TI TO i1 i2 l1 l2 q g (i + 1) → IsPair g s.heap.objs.size x y → g.objs.size = s.heap.objs.size + 1 → (∀ c o, c ∉ [z, TI, TO, i1, i2] → s.heap.get? c = some o → g.get? c = some o) → Q (some (.ref s.heap.objs.size)) { s with heap := g }) :
    wpAny (model prog w) A (pyNext (.ref z)) Q E s := by
  have ty := zs_type st rfl
  obtain ⟨hI, a1, a2, d⟩ := st
  have lz : z < s.heap.objs.size := by
    rcases d with ⟨d, _⟩ | ⟨_, _, _, d, _⟩ <;> exact Heap.lt_size d
  have li1 : i1 < s.heap.objs.size := by obtain ⟨_, e, _⟩ := a1; exact Heap.lt_size e
  have li2 : i2 < s.heap.objs.size := by obtain ⟨_, e, _⟩ := a2; exact Heap.lt_size e
  rcases d with ⟨hZ, u, v, hO⟩ | ⟨T, f, o, hZ, hT, r1, r2, r3, r4, oO, eO⟩
  · refine RZ.pyNext_zipT_item D hZ hI hO a1 a2 t1 t2 hx hy fun g hz' hO' b1 b2 hp hs' hk => ?_
    refine go g ⟨hk _ _ D.TIz D.TITO D.TIi1 D.TIi2 hI, b1, b2, .inr ⟨s.heap.objs.size, false, _, hz', hp, Nat.ne_of_gt lz, Nat.ne_of_gt li1, Nat.ne_of_gt li2, Nat.ne_of_gt hq, _, hO'⟩⟩ hp hs' fun c o hc e => hk c o (fun h => hc (by simp [h])) (fun h => hc (by simp [h])) (fun h => hc (by simp [h])) (fun h => hc (by simp [h])) e
  · unfold pyNext
    refine wpAny_bind (wpAny_attempt (wpAny_callSpecial?_slot (name := Str.ofString "__next__") ty F.slot_zip_next (wpAny_call_entry F.slot_zip_next ty F.entry_zip_next (zh_item D hZ hT hI a1 a2 t1 t2 hx hy fun g hz' b1 b2 hp hs' hk => wpAny_pure ?_) (F.args_zip_next_1 _))))
    refine go g ⟨hk _ _ D.TIz D.TIi1 D.TIi2 hI, b1, b2, .inr ⟨T, true, o, hz', hk _ _ r1 r2 r3 hT, r1, r2, r3, r4, oO, hk _ _ D.TOz D.TOi1 D.TOi2 eO⟩⟩ hp hs' fun c o hc e => hk c o (fun h => hc (by simp [h])) (fun h => hc (by simp [h])) (fun h => hc (by simp [h])) e
theorem zs_end {i : Nat} {Q : Option Value → Shared → Prop} (hh : A.handled = none) (D : ZipApart z TI TO i1 i2 l1 l2) (st : ZS z TI TO i1 i2 l1 l2 q s.heap i) (t1 : s.heap.IsTuple l1 xs) (t2 : s.heap.IsTuple l2 ys) (he : xs[i]? = none ∨ ys[i]? = none)
    (go : ∀ g, (∀ c o, c ∉ [z, TI, TO, i1, i2] → s.heap.get? c = some o → g.get? c = some o) → Q none { s with heap := g }) :
    wpAny (model prog w) A (pyNext (.ref z)) Q E s := by
  have ty := zs_type st rfl
  obtain ⟨hI, a1, a2, d⟩ := st
  rcases d with ⟨hZ, u, v, hO⟩ | ⟨T, f, o, hZ, hT, r1, r2, r3, r4, oO, eO⟩
  · exact RZ.pyNext_zipT_end hh D hZ hI hO a1 a2 t1 t2 he fun g hk => go g fun c o hc e => hk c o (fun h => hc (by simp [h])) (fun h => hc (by simp [h])) (fun h => hc (by simp [h])) (fun h => hc (by simp [h])) e
  · unfold pyNext
    refine wpAny_bind (wpAny_attempt (wpAny_callSpecial?_slot (name := Str.ofString "__next__") ty F.slot_zip_next (wpAny_call_entry F.slot_zip_next ty F.entry_zip_next (zh_end hh D hZ hT hI a1 a2 t1 t2 he fun g e hk st => ?_) (F.args_zip_next_1 _))))
    obtain ⟨o', ho, hc⟩ := st
    refine wpAny_bind (wpAny_isInstance (T := "StopIteration") (b := true) ⟨o', ho, hc⟩ isSubtype_stop ?_)
    exact wpAny_pure (go _ fun c o hc e => hk c o (fun h => hc (by simp [h])) (fun h => hc (by simp [h])) (fun h => hc (by simp [h])) e)
theorem zip_len0 : typeLookup (.type "zip") "__len__" = pure none := by rw [typeLookup_type, builtinLookup_eq_fast]; kernel_rfl
theorem zip_hint0 : typeLookup (.type "zip") "__length_hint__" = pure none := by rw [typeLookup_type, builtinLookup_eq_fast]; kernel_rfl
end
section
variable {X : Cx} {pins : List (Addr × Obj)} {σ : L2.St} {zp TI TO i1 i2 a b q : Addr} {xs ys : List V}
/-- what is walked: the list at q is filled, pair by pair -/
structure ZRun (K : Fg) (a b q : Addr) (xs ys : List V) (P : Nat → List V → Hp → Prop) : Prop where
  here : ∀ i acc H, P i acc H → H q = some (.lst acc) ∧ acc.length = i ∧ SqT K H a xs ∧ SqT K H b ys
  step : ∀ i acc H T x y, P i acc H → xs[i]? = some x → ys[i]? = some y → H T = none → P (i + 1) (acc ++ [.ref T]) (upd (upd H T (.tup [x, y])) q (.lst (acc ++ [.ref T])))
theorem zl_loop {A1 : Around} {Rs : Result → Shared → Prop} {P : Nat → List V → Hp → Prop} (hh : A1.in1.handled = none) (D : ZipApart zp TI TO i1 i2 a b) (R : ZRun X.K a b q xs ys P)
    (fin : ∀ i acc H s, Inv X pins σ H s → P i acc H → xs.length ≤ i ∨ ys.length ≤ i → Rs (.ok (.ret .none)) s) :
    ∀ (m i : Nat) (acc : List V) (H : Hp) (s : Shared), xs.length - i = m → Inv X pins σ H s → P i acc H → ZS zp TI TO i1 i2 a b q s.heap i → (∀ c ∈ [zp, TI, TO, i1, i2], FpOk X pins H c) →
      codeAny (model X.prog X.w) A1 (.builtin "list.extend.loop" ⟨[.ref q, .ref zp, .none], []⟩) Rs s := by
  intro m
  induction m with
  | zero =>
    intro i acc H s hm I hP st hf
    obtain ⟨h1, h2, h3, h4⟩ := R.here i acc H hP
    obtain ⟨u1, v1, p1, _⟩ := I.tuple h3
    obtain ⟨u2, v2, p2, _⟩ := I.tuple h4
    have e1 := v1.length
    refine codeAny_builtin PySem.F.entry_extend_loop ?_
    rw [Around.under_plainId PySem.F.plain_extend_loop _]
    show wpAny _ A1.in1 (pyNext (.ref zp) >>= _) _ _ s
    refine wpAny_bind (zs_end (A := A1.in1) hh D st p1 p2 (.inl (by simp; omega)) fun g hk => ?_)
    exact wpAny_pure (fin i acc H _ (I.turnedL (t' := s.toks) (ch := [zp, TI, TO, i1, i2]) hk hf) hP (.inl (by omega)))
  | succ m ih =>
    intro i acc H s hm I hP st hf
    obtain ⟨h1, h2, h3, h4⟩ := R.here i acc H hP
    obtain ⟨u1, v1, p1, z1⟩ := I.tuple h3
    obtain ⟨u2, v2, p2, z2⟩ := I.tuple h4
    have e1 := v1.length
    have e2 := v2.length
    refine codeAny_builtin PySem.F.entry_extend_loop ?_
    rw [Around.under_plainId PySem.F.plain_extend_loop _]
    show wpAny _ A1.in1 (pyNext (.ref zp) >>= _) _ _ s
    by_cases hy : ys.length ≤ i
    · refine wpAny_bind (zs_end (A := A1.in1) hh D st p1 p2 (.inr (by simp; omega)) fun g hk => ?_)
      exact wpAny_pure (fin i acc H _ (I.turnedL (t' := s.toks) (ch := [zp, TI, TO, i1, i2]) hk hf) hP (.inr hy))
    have lx : i < xs.length := by omega
    have ly : i < ys.length := by omega
    have gx : xs[i]? = some xs[i] := List.getElem?_eq_getElem lx
    have gy : ys[i]? = some ys[i] := List.getElem?_eq_getElem ly
    obtain ⟨c1, w1, r1⟩ := v1.get gx
    obtain ⟨c2, w2, r2⟩ := v2.get gy
    obtain ⟨_, _, _, _, _, el⟩ := I.lstM h1
    have lq : q < s.heap.objs.size := Heap.lt_size el
    have nq : ∀ c ∈ [zp, TI, TO, i1, i2], c ≠ q := fun c hc e => by
      have := (hf c hc).1
      rw [e, h1] at this
      cases this
    refine wpAny_bind (zs_item (A := A1.in1) D st lq p1 p2 (x := c1) (y := c2) (by simpa using w1) (by simpa using w2) fun g st' hp hs hk => ?_)
    have hn : H s.heap.objs.size = none := I.hok.fresh (Nat.le_refl _)
    have ob : ObjOk X.prog X.w (upd H s.heap.objs.size (.tup [xs[i], ys[i]])) g s.heap.objs.size (.tup [xs[i], ys[i]]) := ⟨by show 2 ≤ sizeLine; decide, [c1, c2], .cons r1 (.cons r2 .nil), ⟨_, hp, rfl, _, rfl⟩⟩
    have I1 : Inv X pins σ (upd H s.heap.objs.size (.tup [xs[i], ys[i]])) { s with heap := g } := I.turnedNew (t' := s.toks) (ch := [zp, TI, TO, i1, i2]) hk hf (Nat.le_refl _) ob
    have hq1 : upd H s.heap.objs.size (.tup [xs[i], ys[i]]) q = some (.lst acc) := by rw [upd_ne (Nat.ne_of_lt lq)]; exact h1
    obtain ⟨_, its, k, r3, _, e3⟩ := I1.lstM hq1
    have e4 := r3.length
    show wpAny _ A1.in1 (updateSeq q (·.push (.ref s.heap.objs.size)) >>= _) _ _ _
    refine wpAny_bind (wpAny_updateSeq e3 rfl (wpAny_pure ⟨plainId_quiet PySem.F.plain_extend_loop _, ?_⟩) (by rw [List.size_toArray]; omega) (by show (its.toArray.push (.ref s.heap.objs.size)).size ≤ sizeLine + 1; rw [Array.size_push, List.size_toArray]; omega))
    refine ih (i + 1) (acc ++ [.ref s.heap.objs.size]) _ _ (by omega) (I1.lset (its' := its ++ [.ref s.heap.objs.size]) (t' := s.toks) hq1 e3 (by simp) (r3.append (show Vals [V.ref s.heap.objs.size] [Value.ref s.heap.objs.size] from .cons rfl .nil)) (by rw [List.length_append, List.length_singleton]; omega)) (R.step i acc H _ _ _ hP gx gy hn) ?_ fun c hc => ?_
    · exact st'.keep (nq zp (by simp)) (nq TI (by simp)) (nq TO (by simp)) (nq i1 (by simp)) (nq i2 (by simp)) fun c o hc e => (Heap.get?_update_other _ _ (Ne.symm hc)).trans e
    · obtain ⟨f0, f1⟩ := hf c hc
      refine ⟨?_, f1⟩
      rw [upd_ne (nq c hc)]
      by_cases hcs : c = s.heap.objs.size
      · exfalso
        have lt : c < s.heap.objs.size := by
          obtain ⟨s1, s2, s3, s4⟩ := st
          have e' : c = zp ∨ c = TI ∨ c = TO ∨ c = i1 ∨ c = i2 := by simpa using hc
          rcases e' with r | r | r | r | r
          · rw [r]; rcases s4 with ⟨d, _⟩ | ⟨_, _, _, d, _⟩ <;> exact Heap.lt_size d
          · rw [r]; exact Heap.lt_size s1
          · rw [r]
            rcases s4 with ⟨_, _, _, d⟩ | ⟨_, _, _, _, _, _, _, _, _, _, d⟩
            · exact Heap.lt_size d
            · exact Heap.lt_size d
          · rw [r]; obtain ⟨_, e, _⟩ := s2; exact Heap.lt_size e
          · rw [r]; obtain ⟨_, e, _⟩ := s3; exact Heap.lt_size e
        exact Nat.lt_irrefl _ (hcs ▸ lt)
      · rw [upd_ne hcs]; exact f0
theorem zl_call {s : Shared} {H : Hp} {Q : VK} (hc : X.calm = true) (I : Inv X pins σ H s) (D : ZipApart zp TI TO i1 i2 a b) (hZ : IsZip s.heap zp TI TO .none) (hI : IsPair s.heap TI (.ref i1) (.ref i2)) (hO : IsPair s.heap TO .none .none) (a1 : s.heap.IsTupleIter i1 a 0) (a2 : s.heap.IsTupleIter i2 b 0) (hf : ∀ c ∈ [zp, TI, TO, i1, i2], FpOk X pins H c)
    (h : ∀ q, H q = none → ∃ P : Nat → List V → Hp → Prop, P 0 [] (upd H q (.lst [])) ∧ ZRun X.K a b q xs ys P ∧ ∀ i acc H', P i acc H' → xs.length ≤ i ∨ ys.length ≤ i → Q (.ref q) H') :
    wpAny (model X.prog X.w) X.A (call (.type "list") [.ref zp]) (EP X pins σ Q) X.xe s := by
  refine callType_codes (Q₁ := fun o s1 => o = .ref s.heap.objs.size ∧ s1 = { s with heap := s.heap.push { cls := .type "list", data := .seq #[] } }) PySem.F.called_list (PySem.F.typeCall_list_1 _) PySem.F.entry_list_init (code_list_new _ ⟨rfl, rfl⟩) fun o s1 e1 => ?_
  obtain ⟨rfl, rfl⟩ := e1
  have eL : (s.heap.push { cls := .type "list", data := .seq #[] }).get? s.heap.objs.size = some { cls := .type "list", data := .seq #[] } := Heap.get?_push_size _ rfl
  refine ⟨⟨_, eL, rfl⟩, PySem.F.args_list_init_2 _ _, ?_⟩
  have hn : H s.heap.objs.size = none := I.hok.fresh (Nat.le_refl _)
  obtain ⟨P, hP, R, fin⟩ := h _ hn
  have I1 : Inv X pins σ (upd H s.heap.objs.size (.lst [])) { s with heap := s.heap.push { cls := .type "list", data := .seq #[] } } := I.lnew (its := []) (t' := s.toks) .nil (Nat.zero_le _)
  have lz : ∀ c ∈ [zp, TI, TO, i1, i2], c < s.heap.objs.size := fun c hcm => by
    have e' : c = zp ∨ c = TI ∨ c = TO ∨ c = i1 ∨ c = i2 := by simpa using hcm
    rcases e' with r | r | r | r | r
    · rw [r]; exact Heap.lt_size hZ
    · rw [r]; exact Heap.lt_size hI
    · rw [r]; exact Heap.lt_size hO
    · rw [r]; obtain ⟨_, e, _⟩ := a1; exact Heap.lt_size e
    · rw [r]; obtain ⟨_, e, _⟩ := a2; exact Heap.lt_size e
  have nq : ∀ c ∈ [zp, TI, TO, i1, i2], c ≠ s.heap.objs.size := fun c hcm => Nat.ne_of_lt (lz c hcm)
  have st0 : ZS zp TI TO i1 i2 a b s.heap.objs.size s.heap 0 := ⟨hI, a1, a2, .inl ⟨hZ, _, _, hO⟩⟩
  have up : ∀ {h g : Heap}, ZS zp TI TO i1 i2 a b s.heap.objs.size h 0 → (∀ c o, c ≠ s.heap.objs.size → h.get? c = some o → g.get? c = some o) → ZS zp TI TO i1 i2 a b s.heap.objs.size g 0 := fun st k => st.keep (nq zp (by simp)) (nq TI (by simp)) (nq TO (by simp)) (nq i1 (by simp)) (nq i2 (by simp)) k
  have st1 := up st0 (g := s.heap.push { cls := .type "list", data := .seq #[] }) fun c o _ e => Heap.get?_push_of_some _ e
  have hf1 : ∀ c ∈ [zp, TI, TO, i1, i2], FpOk X pins (upd H s.heap.objs.size (.lst [])) c := fun c hcm => ⟨by rw [upd_ne (nq c hcm)]; exact (hf c hcm).1, (hf c hcm).2⟩
  show wpAny _ _ (do let old ← Builtin.List.listItems (.ref s.heap.objs.size); Builtin.List.listUpdate (.ref s.heap.objs.size) (fun _ => #[]); letGo old.toList.reverse; Builtin.List.listExtendWith (.ref s.heap.objs.size) (.ref zp) .none) _ _ _
  refine wpAny_bind ?_
  unfold Builtin.List.listItems
  refine wpAny_bind (wpAny_seqItems eL rfl (wpAny_pure ?_))
  show wpAny _ _ (updateSeq s.heap.objs.size (fun _ => #[]) >>= fun _ => letGo (#[] : Array Value).toList.reverse >>= fun _ => Builtin.List.listExtendWith (.ref s.heap.objs.size) (.ref zp) .none) _ _ _
  refine wpAny_bind (wpAny_updateSeq eL rfl ?_)
  have I2 := I1.lset (f := fun _ => #[]) (its := []) (its' := []) (ys := []) (t' := s.toks) upd_same eL rfl .nil (Nat.zero_le _)
  rw [upd_upd] at I2
  refine wpAny_bind (wpAny_letGo ?_)
  have st2 := up st1 (g := (s.heap.push { cls := .type "list", data := .seq #[] }).update s.heap.objs.size (Obj.mapSeq fun _ => #[])) fun c o hcn e => (Heap.get?_update_other _ _ (Ne.symm hcn)).trans e
  generalize (s.heap.push { cls := .type "list", data := .seq #[] }).update s.heap.objs.size (Obj.mapSeq fun _ => #[]) = g2 at *
  unfold Builtin.List.listExtendWith
  have hzT : ({ s with heap := g2 } : Shared).TypeIs (.ref zp) "zip" := zs_type st2 rfl
  refine wpAny_bind (wpAny_typeOf hzT ?_)
  have d1 : Builtin.List.listSameRef (.ref s.heap.objs.size) (.ref zp) = false := by simp [Builtin.List.listSameRef, Ne.symm (nq zp (by simp))]
  have d2 : (Value.type "zip" == Value.type "list") = false := by decide
  have d3 : (Value.type "zip" == Value.type "tuple") = false := by decide
  simp only [d1, d2, d3, if_false, Bool.or_false, Bool.false_eq_true]
  have hZ2 : IsZip g2 zp TI TO .none ∨ ∃ (T : Addr) (f : Bool), IsZipHeld g2 zp TI TO T f := by
    rcases st2.2.2.2 with ⟨d, _⟩ | ⟨T, f, _, d, _⟩
    · exact .inl d
    · exact .inr ⟨T, f, d⟩
  have it : ∀ {A : Around} {E : Value → Shared → Prop} {Q : Value → Shared → Prop}, Q (.ref zp) { s with heap := g2 } → wpAny (model X.prog X.w) A (pyIter (.ref zp)) Q E { s with heap := g2 } := fun hq => by
    refine wpAny_pyIter_slot hzT PySem.F.slot_zip_iter (wpAny_call_entry PySem.F.slot_zip_iter hzT PySem.F.entry_zip_iter ?_ (PySem.F.args_zip_iter_1 _))
    show wpAny _ _ (ret (.ref zp)) _ _ _
    exact wpAny_pure ⟨_, rfl, "zip", _, hzT, PySem.F.slot_zip_next.lookup, hq⟩
  refine wpAny_bind (it ?_)
  refine wpAny_bind (wpAny_holding ?_)
  unfold Builtin.List.listLengthHint
  refine wpAny_bind (wpAny_specialOf hzT zip_len0 ?_)
  show wpAny _ _ (specialOf (Value.ref zp) (Str.ofString "__length_hint__") >>= _) _ _ _
  refine wpAny_bind (wpAny_specialOf hzT zip_hint0 ?_)
  refine wpAny_pure ?_
  refine wpAny_bind (wpAny_rule ?_)
  refine wpAny_bind ?_
  show wpAny _ _ (updateSeq s.heap.objs.size (·.push .none) >>= fun _ => updateSeq s.heap.objs.size (·.pop)) _ _ _
  obtain ⟨_, its3, k3, r3, _, e3⟩ := I2.lstM upd_same
  cases r3
  refine wpAny_bind (wpAny_updateSeq e3 rfl ?_)
  have I3 := I2.lset (f := (·.push Value.none)) (its' := [Value.none]) (ys := [.non]) (t' := s.toks) upd_same e3 (by simp) (.cons rfl .nil) (by rw [List.length_singleton, sizeLine_eq]; decide)
  obtain ⟨_, its4, k4, r4, _, e4⟩ := I3.lstM upd_same
  obtain ⟨u4, rfl, ru4⟩ := r4.one
  refine wpAny_updateSeq e4 rfl ?_ (by show 1 ≤ sizeLine; rw [sizeLine_eq]; decide) (by show 0 ≤ sizeLine + 1; exact Nat.zero_le _)
  have I4 := I3.lset (f := (·.pop)) (its := [u4]) (its' := []) (ys := []) (t' := s.toks) upd_same e4 (by rfl) .nil (Nat.zero_le _)
  rw [upd_upd, upd_upd] at I4
  have st4 := up st2 (g := (g2.update s.heap.objs.size (Obj.mapSeq (·.push Value.none))).update s.heap.objs.size (Obj.mapSeq (·.pop))) fun c o hcn e => (Heap.get?_update_other _ _ (Ne.symm hcn)).trans ((Heap.get?_update_other _ _ (Ne.symm hcn)).trans e)
  refine wpAny_pure ⟨plainId_quiet PySem.F.plain_extend_loop _, zl_loop (A1 := X.A.in1) (I.ok.hd hc) D R (fun i acc H' s' I' hP' he => ⟨rfl, .ref s.heap.objs.size, H', I', rfl, fin i acc H' hP' he⟩) _ 0 [] _ _ rfl I4 hP st4 hf1⟩
end
section
variable {X : Cx} {Φ : Fns} {a b : Expr} {ca cb : CE}
theorem take_zip {ws zs : List W} {i : Nat} {u v : W} (h1 : ws[i]? = some u) (h2 : zs[i]? = some v) : (zipT ws zs).take (i + 1) = (zipT ws zs).take i ++ [.tup [u, v]] := by
  rw [List.take_add_one, zipT_get, h1, h2]
  rfl
theorem zip_inv {x y w : W} {S S' : Sto} (h : opI .zip [x, y] S = some (w, S')) : ∃ ws zs, x = .tup ws ∧ y = .tup zs ∧ new S (zipT ws zs) = some (w, S') := by
  cases x <;> cases y <;> simp only [opI] at h <;> first | exact ⟨_, _, rfl, rfl, h⟩ | cases h
theorem de_lzip {p p2 pos pos2 : Pos} (hmL : X.mg "list" = none) (hmZ : X.mg "zip" = none) (ha : DE X Φ a ca) (hb : DE X Φ b cb) (hgL : Gl X "list" := by rfl) (hgZ : Gl X "zip" := by rfl) (hc : X.calm = true := by rfl)
    (hsL : starEach [.Call (.Name "zip" p2) [a, b] [] pos2] X.env = [(false, eval (.Call (.Name "zip" p2) [a, b] [] pos2) X.env)] := by rfl)
    (hs : starEach [a, b] X.env = (false, eval a X.env) :: starEach [b] X.env := by rfl) (hs2 : starEach [b] X.env = [(false, eval b X.env)] := by rfl) (hpl : (backTo pos2 (starEach [b] X.env)).any (·.1) = false := by rfl) :
    DE X Φ (.Call (.Name "list" p) [.Call (.Name "zip" p2) [a, b] [] pos2] [] pos) (.bi .zip (.cons ca (.cons cb .nil))) := by
  refine ⟨fun pins s σ H Q I h => ?_⟩
  obtain ⟨μ, env, S, w, S', sr, er, h1, h2⟩ := h
  simp only [ev, evs] at h1
  split at h1 <;> try (cases h1; done)
  rename_i xs0 S2z hx
  split at hx <;> try (cases hx; done)
  rename_i wa S1 ea
  split at hx <;> try (cases hx; done)
  rename_i xs1 S2' hx1
  split at hx1 <;> try (cases hx1; done)
  rename_i wb S2x eb
  simp only [Option.some.injEq, Prod.mk.injEq] at hx1 hx
  obtain ⟨e1, e2⟩ := hx1
  obtain ⟨e3, e4⟩ := hx
  subst e1
  rw [← e3, ← e4, ← e2] at h1
  obtain ⟨ws, zs, rfl, rfl, hN⟩ := zip_inv h1
  refine Call_ (ld_blt I hgL hmL PyProof.Rows.boot_list (PyProof.Rows.callWith_type1 ?_ hsL rfl))
  rw [hsL]
  show wpAny _ _ (spliced ((false, eval (.Call (.Name "zip" p2) [a, b] [] pos2) X.env) :: backTo pos [])) _ _ s
  refine Calls.spliced_cons ?_
  refine Call_ (ld_blt I hgZ hmZ PyProof.Rows.boot_zip (PyProof.Rows.callWith_type1 (thn ((pa_cons ha (pa_cons hb pa_nil hs2) hs).run pos2 pins s σ H (fun vs H2 => ∃ (a b : Addr) (xs ys : List V) (μ2 : List Addr), vs = [.ref a, .ref b] ∧ SqT X.K H2 a xs ∧ SqT X.K H2 b ys ∧ VWs X.K μ2 H2 xs ws ∧ VWs X.K μ2 H2 ys zs ∧ Ex X.K μ H μ2 H2 ∧ SR X.K μ2 H2 S2x) I
    ⟨μ, env, S, _, _, sr, er, ea, fun v μ1 H1 x1 s1 r1 => ⟨μ1, env, S1, _, _, s1, er.mono x1, eb, fun u μ2 H2 x2 s2 r2 => by
      have r1' := r1.mono x2
      cases r1' with
      | tup q t =>
        cases r2 with
        | tup q' t' => exact ⟨_, _, _, _, μ2, rfl, q, q', t, t', x1.trans x2, s2⟩⟩⟩) fun us s1 ⟨vs, H2, I1, rv, q1⟩ => ?_) hs hpl))
  obtain ⟨la, lb, xs, ys, μ2, rfl, hqx, hqy, tx, ty, x12, sr2⟩ := q1
  cases rv with
  | cons r rr =>
  cases rr with
  | cons r' rr =>
  cases rr
  cases r
  cases r'
  obtain ⟨u1, v1, p1, _⟩ := I1.tuple hqx
  obtain ⟨u2, v2, p2', _⟩ := I1.tuple hqy
  obtain ⟨o1, ho1, _⟩ := id p1
  obtain ⟨o2, ho2, _⟩ := id p2'
  have fresh : ∀ c, c ∈ [s1.heap.objs.size + 4, s1.heap.objs.size + 2, s1.heap.objs.size + 3, s1.heap.objs.size, s1.heap.objs.size + 1] → FpOk X pins H2 c := fun c hcm => by
    have hle : s1.heap.objs.size ≤ c := by
      have e' : c = s1.heap.objs.size + 4 ∨ c = s1.heap.objs.size + 2 ∨ c = s1.heap.objs.size + 3 ∨ c = s1.heap.objs.size ∨ c = s1.heap.objs.size + 1 := by simpa using hcm
      rcases e' with r | r | r | r | r
      · rw [r]; exact Nat.le_add_right _ 4
      · rw [r]; exact Nat.le_add_right _ 2
      · rw [r]; exact Nat.le_add_right _ 3
      · rw [r]; exact Nat.le_refl _
      · rw [r]; exact Nat.le_add_right _ 1
    exact I1.fpOk hle (I1.hok.fresh hle)
  refine RZ.call_zipT (show s1.heap.IsTuple la u1.toArray from p1) (show s1.heap.IsTuple lb u2.toArray from p2') fun g hz hTI hTO h1' h2' hsz hk => ?_
  have I2 : Inv X pins σ H2 { s1 with heap := g } := I1.kept (t' := s1.toks) hk
  show wpAny _ _ (spliced []) _ _ _
  refine Calls.spliced_nil ?_
  refine zl_call (xs := xs) (ys := ys) hc I2 (PySem.W.ktu_apart s1.heap.objs.size la lb (Heap.lt_size ho1) (Heap.lt_size ho2)) hz hTI hTO h1' h2' fresh fun q hq => ?_
  have nq : ∀ k : Nat, μ2[k]? ≠ some q := fun k e => by
    obtain ⟨o, ho, _⟩ := sr2.trk e
    rw [hq] at ho
    cases ho
  have lx := tx.length
  have ly := ty.length
  refine ⟨fun i acc H' => Ex X.K μ2 H2 μ2 H' ∧ SR X.K μ2 H' _ ∧ H' q = some (.lst acc) ∧ acc.length = i ∧ VWs X.K μ2 H' acc ((zipT ws zs).take i), ⟨ex_fresh hq, sr2.fresh hq, upd_same, rfl, by rw [List.take_zero]; exact .nil⟩, ⟨fun i acc H' hP => ?_, fun i acc H' T x y hP gx gy hT => ?_⟩, fun i acc H' hP he => ?_⟩
  · obtain ⟨e, s', hl, hi, hv⟩ := hP
    exact ⟨hl, hi, e.tup _ _ hqx, e.tup _ _ hqy⟩
  · obtain ⟨e, s', hl, hi, hv⟩ := hP
    have nT : T ≠ q := fun z => by rw [z, hl] at hT; cases hT
    have e1 := ex_fresh (K := X.K) (μ := μ2) (o := .tup [x, y]) hT
    have hl1 : upd H' T (.tup [x, y]) q = some (.lst acc) := by rw [upd_ne (Ne.symm nT)]; exact hl
    obtain ⟨s2, e2⟩ := (s'.fresh (o := .tup [x, y]) hT).other (ys := acc ++ [.ref T]) hl1 nq
    obtain ⟨wx, g1, w1⟩ := tx.get' gx
    obtain ⟨wy, g2, w2⟩ := ty.get' gy
    have e0 := e.toEy
    refine ⟨(e.trans e1).mut hq, s2, upd_same, by rw [List.length_append, hi]; rfl, ?_⟩
    rw [take_zip g1 g2]
    refine VWs.snoc ((hv.mono e1).monoY e2) (.tup (xs := [x, y]) (.inl (.inl (by rw [upd_ne nT]; exact upd_same))) ?_)
    exact .cons (((w1.monoY e0).mono e1).monoY e2) (.cons (((w2.monoY e0).mono e1).monoY e2) .nil)
  · obtain ⟨e, s', hl, hi, hv⟩ := hP
    rw [List.take_of_length_le (by rw [zipT_len]; omega)] at hv
    unfold new at hN
    split at hN
    · cases hN
      exact h2 (.ref q) (μ2 ++ [q]) H' (x12.trans (e.snoc hq)) (s'.adopt hl nq hv) s'.newRef
    · cases hN
end
end MP
/-! is True, is not True -/
namespace MP
open PySem PySem.Spec PyProof.Rows L2
theorem isb_gen {M : Model} {A : Around} {E : Value → Shared → Prop} {Q : Value → Shared → Prop} {s : Shared} {x : V} {v : Value} (r : RelV x v) (d : Bool) (h : Q (.bool (decide (x = .bl d))) s) : wpAny M A (compareOp .Is v (.bool d)) Q E s := by
  have e : wpAny M A (compareOp .Is v (.bool d)) Q E s = wpAny M A (pure (Value.bool (v == .bool d))) Q E s ∧ (v == Value.bool d) = decide (x = .bl d) := by
    cases x with
    | bl b => cases r; exact ⟨rfl, by cases b <;> cases d <;> decide⟩
    | non => cases r; exact ⟨rfl, rfl⟩
    | ref _ => cases r; exact ⟨rfl, rfl⟩
    | ty _ => cases r; exact ⟨rfl, rfl⟩
    | _ => obtain ⟨t, rfl⟩ := r; exact ⟨rfl, rfl⟩
  rw [e.1, e.2]
  exact wpAny_pure h
theorem isnb_gen {M : Model} {A : Around} {E : Value → Shared → Prop} {Q : Value → Shared → Prop} {s : Shared} {x : V} {v : Value} (r : RelV x v) (d : Bool) (h : Q (.bool (!decide (x = .bl d))) s) : wpAny M A (compareOp .IsNot v (.bool d)) Q E s := by
  have e : wpAny M A (compareOp .IsNot v (.bool d)) Q E s = wpAny M A (pure (Value.bool (!(v == .bool d)))) Q E s ∧ (v == Value.bool d) = decide (x = .bl d) := by
    cases x with
    | bl b => cases r; exact ⟨rfl, by cases b <;> cases d <;> decide⟩
    | non => cases r; exact ⟨rfl, rfl⟩
    | ref _ => cases r; exact ⟨rfl, rfl⟩
    | ty _ => cases r; exact ⟨rfl, rfl⟩
    | _ => obtain ⟨t, rfl⟩ := r; exact ⟨rfl, rfl⟩
  rw [e.1, e.2]
  exact wpAny_pure h
section
variable {X : Cx} {Φ : Fns} {a : Expr} {ca : CE} {ta : TE} {pos : Pos}
theorem pc_isT {d : Bool} {j p} (ha : PE X a ta) : PC X .Is a (.Constant (.bool d) j p) (fun σ H Q => ta σ H fun x H1 => Q (.bl (decide (x = .bl d))) H1) := by
  refine ⟨fun pins s σ H Q I h => ?_⟩
  refine thn (ha.run pins s σ H _ I h) fun v s1 ⟨x, H1, I1, r1, q1⟩ => ?_
  exact Constant_bool (isb_gen r1 d ⟨.bl _, H1, I1, rfl, q1⟩)
theorem pc_isnT {d : Bool} {j p} (ha : PE X a ta) : PC X .IsNot a (.Constant (.bool d) j p) (fun σ H Q => ta σ H fun x H1 => Q (.bl (!decide (x = .bl d))) H1) := by
  refine ⟨fun pins s σ H Q I h => ?_⟩
  refine thn (ha.run pins s σ H _ I h) fun v s1 ⟨x, H1, I1, r1, q1⟩ => ?_
  exact Constant_bool (isnb_gen r1 d ⟨.bl _, H1, I1, rfl, q1⟩)
theorem isT_of {d : Bool} {σ : L2.St} {H : Hp} {Q : VK} (h : tD X.K Φ (.bi (.isTr d) (.cons ca .nil)) σ H Q) : tD X.K Φ ca σ H fun x H1 => Q (.bl (decide (x = .bl d))) H1 := by
  obtain ⟨μ, env, S, w, S', s, er, h1, h2⟩ := h
  simp only [ev, evs] at h1
  split at h1
  · rename_i xs S1 e1
    split at e1
    · rename_i x S2 e2
      cases e1
      simp only [opI] at h1
      cases h1
      refine ⟨μ, env, S, x, _, s, er, e2, fun v μ1 H1 x1 s1 r1 => ?_⟩
      have q : decide (v = .bl d) = isTrW d x := by
        cases r1 <;> simp [isTrW]
        rename_i b
        cases b <;> cases d <;> decide
      show Q (V.bl (decide (v = V.bl d))) H1
      rw [q]
      exact h2 _ μ1 H1 x1 s1 (.bl _)
    · cases e1
  · cases h1
theorem de_isT {d : Bool} {j p} (ha : DE X Φ a ca) : DE X Φ (.Compare a [.Is] [.Constant (.bool d) j p] pos) (.bi (.isTr d) (.cons ca .nil)) := peW (pe_cmp (pc_isT ha)) fun _ _ _ h => isT_of h
theorem isnT_of {d : Bool} {σ : L2.St} {H : Hp} {Q : VK} (h : tD X.K Φ (.not (.bi (.isTr d) (.cons ca .nil))) σ H Q) : tD X.K Φ ca σ H fun x H1 => Q (.bl (!decide (x = .bl d))) H1 := by
  obtain ⟨μ, env, S, w, S', s, er, h1, h2⟩ := h
  simp only [ev] at h1
  split at h1
  · rename_i k S1 e1
    cases h1
    have hh : tD X.K Φ (.bi (.isTr d) (.cons ca .nil)) σ H fun x H1 => ∃ c, x = .bl c ∧ Q (.bl (!c)) H1 := ⟨μ, env, S, .bl k, _, s, er, by simp only [ev]; exact e1, fun v μ1 H1 x1 s1 r => by
      cases r
      exact ⟨k, rfl, h2 _ μ1 H1 x1 s1 (.bl _)⟩⟩
    obtain ⟨μ, env, S, w, S', s, er, h1, h2⟩ := isT_of hh
    refine ⟨μ, env, S, w, S', s, er, h1, fun v μ1 H1 x1 s1 r1 => ?_⟩
    obtain ⟨c, ec, q⟩ := h2 v μ1 H1 x1 s1 r1
    cases ec
    exact q
  · cases h1
theorem de_isnT {d : Bool} {j p} (ha : DE X Φ a ca) : DE X Φ (.Compare a [.IsNot] [.Constant (.bool d) j p] pos) (.not (.bi (.isTr d) (.cons ca .nil))) := peW (pe_cmp (pc_isnT ha)) fun _ _ _ h => isnT_of h
theorem dt_isT {d : Bool} {j p} (ha : DE X Φ a ca) : DT X Φ (.Compare a [.Is] [.Constant (.bool d) j p] pos) (.bi (.isTr d) (.cons ca .nil)) := ptW (pt_cmp (pc_isT ha)) fun _ _ _ h => tTest_of (fun _ _ _ q => isT_of q) h
theorem dt_isnT {d : Bool} {j p} (ha : DE X Φ a ca) : DT X Φ (.Compare a [.IsNot] [.Constant (.bool d) j p] pos) (.not (.bi (.isTr d) (.cons ca .nil))) := ptW (pt_cmp (pc_isnT ha)) fun _ _ _ h => tTest_of (fun _ _ _ q => isnT_of q) h
end
/-! t[::-1] of a tuple -/
section
variable {prog : Program} {w : World} {A : Around} {E : Value → Shared → Prop} {s : Shared}
theorem sl_neg {sl : Addr} {vl vu vs : Value} {n : Nat} {Q : Int × Int × Nat → Shared → Prop} (hs : s.heap.IsSliceOf sl vl vu vs) (pl : IsPart vl none) (pu : IsPart vu none) (ps : IsPart vs (some (-1)))
    (h : Q ((n : Int) - 1, -1, n) s) : wpAny (model prog w) A (Builtin.Slice.sliceApplied (.ref sl) (pure (n : Int))) Q E s := by
  obtain ⟨os, ho, _, hd⟩ := id hs
  unfold Builtin.Slice.sliceApplied Builtin.Slice.sliceFields
  refine wpAny_bind (wpAny_bind (wpAny_field ho hd (x := vl) rfl (wpAny_bind (wpAny_field ho hd (x := vu) rfl (wpAny_bind (wpAny_field ho hd (x := vs) rfl (wpAny_pure ?_)))))))
  refine wpAny_bind (HT.slicePart_ ps ?_)
  show wpAny _ _ (if ((-1 : Int) == 0) = true then _ else _) _ _ s
  rw [if_neg (by decide)]
  refine wpAny_bind (HT.slicePart_ pl (wpAny_bind (HT.slicePart_ pu (wpAny_bind (wpAny_pure ?_)))))
  have e1 : Builtin.Slice.sliceAdjust none none (-1) (n : Int) = ((n : Int) - 1, -1) := by
    unfold Builtin.Slice.sliceAdjust
    simp only [show ((-1 : Int) < 0) from by decide, if_true]
  have e2 : Builtin.Slice.slicePlaces ((n : Int) - 1) (-1) (-1) = n := by
    unfold Builtin.Slice.slicePlaces
    rw [if_neg (by decide)]
    by_cases hn : n = 0
    · subst hn; rfl
    · rw [if_pos (by omega), show (-(-1) : Int) = 1 by decide, Int.ediv_one]
      omega
  show wpAny _ _ (match Builtin.Slice.sliceAdjust none none (-1) (n : Int) with | (lo, hi) => pure (lo, (-1 : Int), Builtin.Slice.slicePlaces lo hi (-1))) _ _ s
  rw [e1]
  show wpAny _ _ (pure ((n : Int) - 1, (-1 : Int), Builtin.Slice.slicePlaces ((n : Int) - 1) (-1) (-1))) _ _ s
  rw [e2]
  exact wpAny_pure h
theorem pick_neg (xs : Array Value) : ((List.range xs.size).filterMap fun (m : Nat) => xs[(((xs.size : Int) - 1) + (m : Int) * (-1)).toNat]?).toArray = xs.toList.reverse.toArray := by
  congr 1
  have e : ((List.range xs.size).filterMap fun (m : Nat) => xs[(((xs.size : Int) - 1) + (m : Int) * (-1)).toNat]?) = ((List.range xs.size).map fun k => xs.size - 1 - k).filterMap (xs[·]?) := by
    rw [List.filterMap_map]
    have cg : ∀ (l : List Nat) (f g : Nat → Option Value), (∀ m ∈ l, f m = g m) → l.filterMap f = l.filterMap g := fun l f g h => by
      induction l with
      | nil => rfl
      | cons x r ih => rw [List.filterMap_cons, List.filterMap_cons, h x (List.mem_cons_self ..), ih fun m hm => h m (List.mem_cons_of_mem _ hm)]
    refine cg _ _ _ fun m hm => ?_
    have hlt := List.mem_range.mp hm
    show _ = xs[xs.size - 1 - m]?
    congr 1
    omega
  rw [e, PySem.W.krv_range, List.filterMap_reverse, PySem.W.krv_all]
theorem get_revt {t sl : Addr} {items : Array Value} {vl vu vs : Value} {Q : Value → Shared → Prop} (ht : IsTup s.heap t items) (hs : s.heap.IsSliceOf sl vl vu vs) (pl : IsPart vl none) (pu : IsPart vu none) (ps : IsPart vs (some (-1)))
    (h : Q (.ref s.heap.objs.size) { s with heap := s.heap.push { cls := .type "tuple", data := .seq items.toList.reverse.toArray } }) (hz : items.size ≤ sizeLine) : wpAny (model prog w) A (getItem (.ref t) (.ref sl)) Q E s := by
  have hk : sizeOk (.seq items.toList.reverse.toArray) := by
    show items.toList.reverse.toArray.size ≤ sizeLine
    rw [List.size_toArray, List.length_reverse, Array.length_toList]
    exact hz
  obtain ⟨os, ho, hc, _⟩ := id hs
  have hTs : s.TypeIs (.ref sl) "slice" := ⟨os, ho, hc⟩
  unfold getItem
  try with_reducible refine wpAny_holding ?_
  first | refine wpAny_bind (wpAny_pure ?_) | skip
  refine wpAny_bind (wpAny_sequenceKey ht.typeIs (by decide) ?_)
  refine wpAny_bind (wpAny_callSpecial?_slot (name := Str.ofString "__getitem__") ht.typeIs PyProof.Rows.slot_tuple_getitem (wpAny_call_entry PyProof.Rows.slot_tuple_getitem ht.typeIs entry_tuple_getitem ?_ (args_tuple_getitem _ _)))
  show wpAny _ _ (Builtin.Tuple.tupleItemsOf (.ref t) >>= _) _ _ _
  refine wpAny_bind (tupleItemsOf_ ht ?_)
  refine wpAny_bind (wpAny_typeOf hTs ?_)
  rw [if_pos (by decide)]
  refine wpAny_bind (sl_neg hs pl pu ps ?_)
  have hno : ¬ ((((items.size : Int) - 1) == 0 && (-1 : Int) == 1 && items.size == items.size) = true) := by simp
  show wpAny _ _ (if (((items.size : Int) - 1) == 0 && (-1 : Int) == 1 && items.size == items.size) = true then _ else _) _ _ _
  rw [if_neg hno, pick_neg]
  first
    | exact wpAny_bind (m := Builtin.Tuple.tupleExact _) (wpAny_newObj_type (wpAny_pure ⟨_, rfl, wpAny_pure h⟩) hk)
    | exact wpAny_bind (m := Builtin.Tuple.tupleExact _) (wpAny_newObj_type (wpAny_bind (wpAny_pure (wpAny_pure ⟨_, rfl, wpAny_pure h⟩))) hk)
    | exact wpAny_bind (wpAny_bind (m := Builtin.Tuple.tupleExact _) (wpAny_newObj_type (wpAny_pure (wpAny_pure ⟨_, rfl, wpAny_pure h⟩)) hk))
    | exact wpAny_bind (wpAny_bind (m := Builtin.Tuple.tupleExact _) (wpAny_newObj_type (wpAny_pure ⟨_, rfl, wpAny_pure h⟩) hk))
end
section
variable {X : Cx} {Φ : Fns} {a : Expr} {ca : CE} {pos : Pos}
theorem pe_revT {e : Expr} {te : TE} {k : Nat} {p1 p2 p3 : Pos} (he : PE X e te) : PE X (.Subscript e (.Slice none none (some (.UnaryOp .USub (.Constant (.int 1) k p1) p2)) p3) pos) (fun σ H Q => te σ H fun x H1 => ∃ a xs, x = .ref a ∧ SqT X.K H1 a xs ∧ ∀ p, H1 p = none → Q (.ref p) (upd H1 p (.tup xs.reverse))) := by
  refine ⟨fun pins s σ H Q I h => ?_⟩
  refine Subscript_ (thn (he.run pins s σ H _ I h) fun v s1 ⟨x, H1, I1, r1, q1⟩ => ?_)
  obtain ⟨la, xs, ex, hx, q⟩ := q1
  subst ex
  cases r1
  have hst : PO X (some (.UnaryOp .USub (.Constant (.int 1) k p1) p2)) (tPart (tUn (rU fun i => .int (-i)) (tC (.int 1)))) := po_some (pe_un un_neg pe_int)
  refine wpAny_Slice (thn (po_none.run pins s1 σ H1 (fun o J => o = none ∧ J = H1) I1 ⟨rfl, rfl⟩) fun vl s2 ⟨l, H2, I2, pl, el, e2⟩ => ?_)
  subst el e2
  refine thn (po_none.run pins s2 σ H2 (fun o J => o = none ∧ J = H2) I2 ⟨rfl, rfl⟩) fun vu s3 ⟨u, H3, I3, pu, eu, e3⟩ => ?_
  subst eu e3
  refine thn (hst.run pins s3 σ H3 (fun o J => o = some (-1) ∧ J = H3) I3 ⟨1, rfl, -1, rfl, rfl, rfl⟩) fun vs s4 ⟨o, H4, I4, ps, eo, e4⟩ => ?_
  subst eo e4
  have I5 : Inv X pins σ H4 { s4 with heap := s4.heap.push { cls := .type "slice", data := .fields #[vl, vu, vs] } } := I4.kept (t' := s4.toks) fun b ob e => Heap.get?_push_of_some _ e
  obtain ⟨its, r, ht, hz⟩ := I5.tuple hx
  have hlen := r.length
  show wpAny (model X.prog X.w) X.A (subscriptTail e (.Slice none none (some (.UnaryOp .USub (.Constant (.int 1) k p1) p2)) p3) (.ref la) (.ref s4.heap.objs.size)) (EP X pins σ Q) X.xe { s4 with heap := s4.heap.push { cls := .type "slice", data := .fields #[vl, vu, vs] } }
  refine tail_any (ops := [.ref la, .ref s4.heap.objs.size]) ht.typeIs (PyProof.Rows.slot_tuple_getitem.lookup) ?_ (by with_unfolding_all rfl)
  refine get_revt ht (Heap.IsSliceOf.new _ vl vu vs) pl pu ps ?_ (by rw [List.size_toArray]; omega)
  refine ⟨.ref _, _, I5.laid (t' := s4.toks) (o := .tup xs.reverse) (fun b ob e => Heap.get?_push_of_some _ e) (Nat.le_refl _) ?_, rfl, q _ (I5.hok.fresh (Nat.le_refl _))⟩
  exact ⟨by rw [List.length_reverse]; exact hz, _, r.reverse, IsTup.new _ _⟩
theorem de_revt {k : Nat} {p1 p2 p3 : Pos} (ha : DE X Φ a ca) : DE X Φ (.Subscript a (.Slice none none (some (.UnaryOp .USub (.Constant (.int 1) k p1) p2)) p3) pos) (.bi .revt (.cons ca .nil)) := by
  refine peW (pe_revT ha) fun σ H Q h => ?_
  obtain ⟨μ, env, S, w, S', s, er, h1, h2⟩ := h
  simp only [ev, evs] at h1
  split at h1
  · rename_i xs S1 e1
    split at e1
    · rename_i x S2 e2
      cases e1
      refine ⟨μ, env, S, x, _, s, er, e2, fun v μ1 H1 x1 s1 r1 => ?_⟩
      cases x <;> simp only [opI] at h1 <;> try (cases h1; done)
      cases h1
      cases r1 with
      | tup q t => exact ⟨_, _, rfl, q, (h2.mono x1).tup s1 t.reverse⟩
    · cases e1
  · cases h1
end
end MP
/-! dicts that are made once and then read -/
namespace MP
open PySem PySem.Spec PyProof.Rows L2
section
variable {K : Fg} {μ : List Addr} {H : Hp}
theorem key_str {x y : Str} {l m : List Nat} (e : x.cps.toList = l) (e' : y.cps.toList = m) : decide ((Sum.inr x : Key) = Sum.inr y) = decide (l = m) := by
  have h := dec_str2 e e'
  rw [← h]
  refine decide_eq_decide.mpr ⟨fun q => ?_, fun q => ?_⟩
  · rw [Sum.inr.inj q]
  · rw [V.str.inj q]
theorem VWd.length : ∀ {ks : List (Key × V)} {ws : List (List Nat × W)}, VWd K μ H ks ws → ks.length = ws.length
  | _, _, .nil => rfl
  | _, _, .cons _ _ t => congrArg (· + 1) (VWd.length t)
theorem VWd.get {x : Str} {l : List Nat} (e : x.cps.toList = l) : ∀ {ks : List (Key × V)} {ws : List (List Nat × W)}, VWd K μ H ks ws → VW K μ H ((valV ks (Sum.inr x : Key)).getD .non) (atT ws l)
  | _, _, .nil => .non
  | _, _, .cons (x := y) (l := m) q r t => by
    have h := key_str q e
    rw [atT]
    by_cases c : m = l
    · rw [if_pos c.symm, valV_pos (of_decide_eq_true (by rw [h]; exact decide_eq_true c))]
      exact r
    · rw [if_neg (fun z => c z.symm), valV_neg (of_decide_eq_false (by rw [h]; exact decide_eq_false c))]
      exact VWd.get e t
theorem VWd.any {x : Str} {l : List Nat} (e : x.cps.toList = l) : ∀ {ks : List (Key × V)} {ws : List (List Nat × W)}, VWd K μ H ks ws → (ks.any fun p => decide (p.1 = (Sum.inr x : Key))) = (ws.any fun p => decide (p.1 = l))
  | _, _, .nil => rfl
  | _, _, .cons q _ t => by
    rw [List.any_cons, List.any_cons, VWd.any e t]
    congr 1
    exact key_str q e
theorem VWd.rep {x : Str} {l : List Nat} {v : V} {w : W} (e : x.cps.toList = l) (r : VW K μ H v w) : ∀ {ks : List (Key × V)} {ws : List (List Nat × W)}, VWd K μ H ks ws → VWd K μ H (ks.map fun p => if p.1 = (Sum.inr x : Key) then (p.1, v) else p) (ws.map fun p => if p.1 = l then (p.1, w) else p)
  | _, _, .nil => .nil
  | _, _, .cons (l := m) q s t => by
    have h := key_str q e
    rw [List.map_cons, List.map_cons]
    by_cases c : m = l
    · rw [if_pos c, if_pos (of_decide_eq_true (by rw [h]; exact decide_eq_true c))]
      exact .cons q r (VWd.rep e r t)
    · rw [if_neg c, if_neg (of_decide_eq_false (by rw [h]; exact decide_eq_false c))]
      exact .cons q s (VWd.rep e r t)
theorem VWd.snoc {x : Str} {l : List Nat} {v : V} {w : W} (e : x.cps.toList = l) (r : VW K μ H v w) : ∀ {ks : List (Key × V)} {ws : List (List Nat × W)}, VWd K μ H ks ws → VWd K μ H (ks ++ [(Sum.inr x, v)]) (ws ++ [(l, w)])
  | _, _, .nil => .cons e r .nil
  | _, _, .cons q s t => .cons q s (VWd.snoc e r t)
theorem VWd.put {x : Str} {l : List Nat} {v : V} {w : W} (e : x.cps.toList = l) (r : VW K μ H v w) {ks : List (Key × V)} {ws : List (List Nat × W)} (h : VWd K μ H ks ws) : VWd K μ H (putK ks (Sum.inr x : Key) v) (putD ws l w) := by
  unfold putK putD
  rw [h.any e]
  cases (ws.any fun p => decide (p.1 = l))
  · rw [if_neg Bool.false_ne_true, if_neg Bool.false_ne_true]
    exact h.snoc e r
  · rw [if_pos rfl, if_pos rfl]
    exact h.rep e r
end
section
variable {X : Cx} {Φ : Fns} {a b : Expr} {ca cb : CE} {pos apos cpos : Pos}
theorem tDget_of {σ : L2.St} {H : Hp} {Q : VK} (h : tD X.K Φ (.bi .dgt (.cons ca (.cons cb .nil))) σ H Q) : tDGet1 (tD X.K Φ ca) (tD X.K Φ cb) σ H Q := by
  obtain ⟨μ, env, S, w, S', s, er, h1, h2⟩ := h
  simp only [ev, evs] at h1
  split at h1 <;> try (cases h1; done)
  rename_i xs0 Sz hx
  split at hx <;> try (cases hx; done)
  rename_i wa S1 ea
  split at hx <;> try (cases hx; done)
  rename_i xs1 S2 hx1
  split at hx1 <;> try (cases hx1; done)
  rename_i wb S2x eb
  simp only [Option.some.injEq, Prod.mk.injEq] at hx1 hx
  obtain ⟨e1, e2⟩ := hx1
  obtain ⟨e3, e4⟩ := hx
  subst e1
  rw [← e3, ← e4, ← e2] at h1
  cases wa <;> cases wb <;> simp only [opI] at h1 <;> try (cases h1; done)
  cases h1
  refine ⟨μ, env, S, _, _, s, er, ea, fun v μ1 H1 x1 s1 r1 => ?_⟩
  cases r1 with
  | dic q t =>
    refine ⟨_, rfl, .inl ⟨_, .inr ⟨_, q⟩⟩, μ1, env, S1, _, _, s1, er.mono x1, eb, fun u μ2 H2 x2 s2 r2 => ?_⟩
    cases r2 with
    | str x l e =>
      have q2 := x2.dk _ _ _ q
      exact ⟨_, .inl ⟨_, Sum.inr x, .inr ⟨_, q2⟩, rfl, rfl⟩, h2 _ μ2 H2 (x1.trans x2) s2 ((t.mono x2).get e)⟩
theorem de_dgt {k : Nat} (hr : Room k X.A) (ha : DE X Φ a ca) (hb : DE X Φ b cb) (m : M1 X a "get" apos b cpos := by exact ⟨rfl, rfl, rfl, rfl⟩) : DE X Φ (.Call (.Attribute a "get" apos) [b] [] cpos) (.bi .dgt (.cons ca (.cons cb .nil))) :=
  peW (pe_dget1 (by have := hr.un; omega) ha hb m) fun _ _ _ h => tDget_of h
theorem pe_lock {e : Expr} {t : TE} (h : PE X e t) : PE X e (fun σ H Q => t σ H fun v J => ∃ d u, v = .ref d ∧ J d = some u ∧ Mut (some u) ∧ ∀ od, Q v (upd J d (.frz od u))) := by
  refine ⟨fun pins s σ H Q I hq => thn (h.run pins s σ H _ I hq) fun v s1 ⟨x, J, I1, r1, d, u, e1, e2, e3, q⟩ => ?_⟩
  obtain ⟨od, I2⟩ := I1.lock e2 e3
  exact ⟨x, _, I2, r1, q od⟩
theorem ev_dcomp {vs ts : List Nat} {s : CI} {t k e : CE} {env : Env} {S S' : Sto} {w : W} (h : ev Φ (.dcomp vs ts s t k e) env S = some (w, S')) :
    ∃ J S1 n acc n', evi Φ s env S = some (J, S1) ∧ J.len S1 = some n ∧ dictGo (turnD Φ vs ts t k e env J) 0 n [] S1 = some (acc, S') ∧ J.len S' = some n' ∧ n' ≤ n ∧ w = .dic acc := by
  rw [ev_dcomp_eq] at h
  split at h
  · rename_i J S1 e1
    split at h
    · rename_i n e2
      split at h
      · rename_i acc S4 e3
        split at h
        · rename_i n' e4
          split at h
          · rename_i e5
            cases h
            exact ⟨J, S1, n, acc, n', e1, e2, e3, e4, e5, rfl⟩
          · cases h
        · cases h
      · cases h
    · cases h
  · cases h
theorem tDc_of {K : Fg} {vs ts : List Nat} {s : CI} {t k e : CE} {g : TG} (hg : GOk K ts g) (ht : ∀ i ∈ ts, i ∈ vs) {σ : L2.St} {H : Hp} {Q : VK} (h : tD K Φ (.dcomp vs ts s t k e) σ H Q) :
    tDc (tDI K Φ s) g (tDT K Φ t) (tD K Φ k) (tD K Φ e) vs σ H fun v J => ∃ d u, v = .ref d ∧ J d = some u ∧ Mut (some u) ∧ ∀ od, Q v (upd J d (.frz od u)) := by
  obtain ⟨μ, env, S, w, S', sr, er, h1, h2⟩ := h
  obtain ⟨J, S1, n, accF, n', e1, e2, e3, e4, e5, rfl⟩ := ev_dcomp h1
  refine ⟨μ, env, S, J, S1, sr, er, e1, fun _ μ1 H1 T x1 s1 it => ?_, n, e2⟩
  intro D hD
  have nD : ∀ {μ2 : List Addr} {H2 : Hp} {S2 : Sto}, Ex K μ1 H1 μ2 H2 → SR K μ2 H2 S2 → ∀ ks, H2 D = some (.dK ks) → ∀ j : Nat, μ2[j]? ≠ some D := fun _ s2 ks hk j hj => by
    obtain ⟨o, ho⟩ := s2.back hj
    have q := s2.at_ _ _ o hj ho
    cases o with
    | lst ws => obtain ⟨_, e, _⟩ := q; rw [hk] at e; cases e
  refine ⟨fun i m H2 => ∃ μ2 S2 acc us, Ex K μ1 H1 μ2 H2 ∧ SR K μ2 H2 S2 ∧ H2 D = some (.dK us) ∧ VWd K μ2 H2 us acc ∧ dictGo (turnD Φ vs ts t k e env J) i m acc S2 = some (accF, S') ∧ i + m = n, ⟨n, μ1, S1, [], [], ex_fresh hD, s1.fresh hD, upd_same, .nil, e3, Nat.zero_add n⟩, ?_⟩
  rintro i m H2 ⟨μ2, S2, acc, us, x2, s2, hDl, hv, hgo, him⟩
  have ito := it μ2 H2 S2 x2.toEy s2
  cases m with
  | zero =>
    simp only [dictGo] at hgo
    cases hgo
    refine .inl ⟨ito.2 i n' e4 (by omega), D, _, rfl, hDl, trivial, fun od => ?_⟩
    have nd := nD x2 s2 us hDl
    have ee : Ey K μ2 H2 μ2 (upd H2 D (.frz od (.dK us))) := ey_upd fun u e => by
      rw [hDl] at e
      cases e
      exact ⟨fun _ z => (nomatch z), fun _ _ z => (nomatch z)⟩
    have s3 : SR K μ2 (upd H2 D (.frz od (.dK us))) S' := by
      refine ⟨s2.len, s2.nd, fun j a so h1 h2 => ?_⟩
      have q := s2.at_ j a so h1 h2
      have ne : a ≠ D := fun e => by
        subst e
        exact nd j h1
      cases so with
      | lst ws => obtain ⟨zs, e, hz⟩ := q; exact ⟨zs, by rw [upd_ne ne]; exact e, hz.monoY ee⟩
    exact h2 _ μ2 _ (x1.trans (x2.mut hD)) s3 (.dic upd_same (hv.monoY ee))
  | succ m =>
    simp only [dictGo] at hgo
    have key : ∃ x, J.item S2 i = some x := by
      cases hx : J.item S2 i with
      | some x => exact ⟨x, rfl⟩
      | none =>
        simp only [turnD, hx] at hgo
        cases hgo
    obtain ⟨x, hx⟩ := key
    obtain ⟨hgo1, hyl⟩ := ito.1 i x hx
    refine .inr ⟨hgo1, fun H' => ∃ μ3 S3 acc' us', Ex K μ1 H1 μ3 H' ∧ SR K μ3 H' S3 ∧ H' D = some (.dK us') ∧ VWd K μ3 H' us' acc' ∧ dictGo (turnD Φ vs ts t k e env J) (i + 1) m acc' S3 = some (accF, S'), fun H' hN => ?_, fun v H' y => ?_⟩
    · obtain ⟨μ3, S3, acc', us', a1, a2, a3, a4, a5⟩ := hN
      exact ⟨m, by omega, μ3, S3, acc', us', a1, a2, a3, a4, a5, by omega⟩
    · obtain ⟨xy, sy, rv⟩ := hyl v H' y
      have nd0 := nD x2 s2 us hDl
      have x2 := x2.trans xy
      obtain ⟨hDl, hDn⟩ := xy.fr D _ hDl nd0
      have hv := hv.mono xy
      have s2 := sy
      cases hb : bindT S2 (MP.wipe env vs) ts x with
      | none =>
        simp only [turnD, hx, hb] at hgo
        cases hgo
      | some env' =>
        refine hg μ2 H' S2 _ _ env' v x _ s2 (((er.mono x1).mono x2).wipe vs) rv hb fun σ' er' hl hs => ⟨?_, ?_⟩
        · exact wipe_same (by rw [hl, L2.wipe_length]) ht hs
        · have fin3 : ∀ {μa : List Addr} {Ha : Hp}, Ex K μ2 H' μa Ha → Ha D = some (.dK us) ∧ ∀ k : Nat, μa[k]? ≠ some D := fun xa => xa.fr D _ hDl hDn
          cases ht1 : ev Φ t env' S2 with
          | none =>
            simp only [turnD, hx, hb, ht1] at hgo
            cases hgo
          | some p =>
            obtain ⟨wt, S3⟩ := p
            have hbl : ∃ k, wt = .bl k := by
              cases wt with
              | bl k => exact ⟨k, rfl⟩
              | _ => simp only [turnD, hx, hb, ht1] at hgo; cases hgo
            obtain ⟨c, rfl⟩ := hbl
            refine ⟨μ2, env', S2, c, S3, s2, er', ht1, fun μ3 H3 x3 s3 => ?_⟩
            cases c with
            | false =>
              refine iteF ?_
              simp only [turnD, hx, hb, ht1] at hgo
              obtain ⟨d1, d2⟩ := fin3 x3
              exact ⟨μ3, S3, acc, us, x2.trans x3, s3, d1, hv.mono x3, hgo⟩
            | true =>
              refine iteT ?_
              cases hk1 : ev Φ k env' S3 with
              | none =>
                simp only [turnD, hx, hb, ht1, hk1] at hgo
                cases hgo
              | some p =>
                obtain ⟨wk, S5⟩ := p
                refine ⟨μ3, env', S3, wk, S5, s3, er'.mono x3, hk1, fun yk μ4 H4 x4 s4 r4 => ?_⟩
                cases he1 : ev Φ e env' S5 with
                | none =>
                  simp only [turnD, hx, hb, ht1, hk1, he1] at hgo
                  cases hgo
                | some p =>
                  obtain ⟨we, S6⟩ := p
                  simp only [turnD, hx, hb, ht1, hk1, he1] at hgo
                  cases wk <;> simp only at hgo <;> try (cases hgo; done)
                  split at hgo
                  · rename_i l hlim
                    refine ⟨μ4, env', S5, we, S6, s4, er'.mono (x3.trans x4), he1, fun yv μ5 H5 x5 s5 r5 => ?_⟩
                    cases r4 with
                    | str z _ ez =>
                      obtain ⟨d1, d2⟩ := fin3 ((x3.trans x4).trans x5)
                      have ee : Ey K μ5 H5 μ5 (upd H5 D (.dK (putK us (Sum.inr z) yv))) := ey_upd fun u e => by
                        rw [d1] at e
                        cases e
                        exact ⟨fun _ z => (nomatch z), fun _ _ z => (nomatch z)⟩
                      have s6 : SR K μ5 (upd H5 D (.dK (putK us (Sum.inr z) yv))) S6 := by
                        refine ⟨s5.len, s5.nd, fun j a so h1 h2 => ?_⟩
                        have q := s5.at_ j a so h1 h2
                        have ne : a ≠ D := fun e => by
                          subst e
                          exact d2 j h1
                        cases so with
                        | lst ws => obtain ⟨zs, e, hz⟩ := q; exact ⟨zs, by rw [upd_ne ne]; exact e, hz.monoY ee⟩
                      have lv := hv.length
                      refine ⟨us, Sum.inr z, rfl, d1, by rw [lv]; exact lim_lt hlim, μ5, S6, _, _, (((x2.trans x3).trans x4).trans x5).mut hD, s6, upd_same, ?_, hgo⟩
                      exact VWd.put ez (r5.monoY ee) (((hv.mono ((x3.trans x4).trans x5))).monoY ee)
                  · cases hgo
theorem de_dcomp {kx vx iter tg : Expr} {ifs : List Expr} {scope : Scope} {own : List (Str × Nat)} {ts : List Nat} {g : TG} {s : CI} {t ck ce : CE} (gk : GOk X.K ts g) (hN : X.N.Nodup) (hi : DI X Φ tg iter s) (ok : BlkOk X.N X.env.scope scope own)
    (hg : ∀ (s : Shared) (H : Hp) (C : Addr) (cl : List (Str × Addr)) (fp : List Addr), PG (X.blk s H scope (compEnvC scope cl C X.env) fp) tg g)
    (ht : ∀ (s : Shared) (H : Hp) (C : Addr) (cl : List (Str × Addr)) (fp : List Addr), DTs (X.blk s H scope (compEnvC scope cl C X.env) fp) Φ ifs t)
    (hk : ∀ (s : Shared) (H : Hp) (C : Addr) (cl : List (Str × Addr)) (fp : List Addr), DE (X.blk s H scope (compEnvC scope cl C X.env) fp) Φ kx ck)
    (he : ∀ (s : Shared) (H : Hp) (C : Addr) (cl : List (Str × Addr)) (fp : List Addr), DE (X.blk s H scope (compEnvC scope cl C X.env) fp) Φ vx ce) (hsub : ∀ i ∈ ts, i ∈ own.map (·.2) := by decide) (hc : X.calm = true := by rfl) (hs : ∀ x, foldedSetIterable iter X.env x = pure x := by intro _; rfl) :
    DE X Φ (.DictComp kx vx [⟨tg, iter, ifs, 0⟩] scope pos) (.dcomp (own.map (·.2)) ts s t ck ce) :=
  peW (pe_lock (pe_dc hc hN hi ok hg ht hk he hs)) fun _ _ _ h => tDc_of gk hsub h
end
end MP
namespace MP
/-! ### reading the reader: what holds of an answer -/
/-- an answer of which P holds -/
structure Wp {α : Type} (r : Option α) (P : α → Prop) : Prop where
  ex : ∃ a, r = some a ∧ P a
theorem wp_none {α : Type} (P : α → Prop) : Wp none P = False := eq_false fun h => by
  obtain ⟨a, h, _⟩ := h.ex
  cases h
theorem wp_some {α : Type} (a : α) (P : α → Prop) : Wp (some a) P = P a := propext ⟨fun h => by
  obtain ⟨b, h, q⟩ := h.ex
  cases h
  exact q, fun h => ⟨a, rfl, h⟩⟩
/-- the answer is some (w, S') of which P holds -/
def Is (r : R) (P : W → Sto → Prop) : Prop := Wp r fun p => P p.1 p.2
def IsA (r : Option (List W × Sto)) (P : List W → Sto → Prop) : Prop := Wp r fun p => P p.1 p.2
def IsP (r : Option (Option Int × Sto)) (P : Option Int → Sto → Prop) : Prop := Wp r fun p => P p.1 p.2
def IsI (r : Option (Src × Sto)) (P : Src → Sto → Prop) : Prop := Wp r fun p => P p.1 p.2
def IsB (r : Option Bool) (P : Bool → Prop) : Prop := Wp r P
/-- of a statement: what holds behind it, what of a returned value -/
def endS (N : Env → Sto → Prop) (Q : W → Sto → Prop) : Fl → Prop
  | .nx env S => N env S
  | .rt w S => Q w S
  | _ => False
def IsS (r : Option Fl) (N : Env → Sto → Prop) (Q : W → Sto → Prop) : Prop := Wp r (endS N Q)
@[simp] theorem is_some (w : W) (S : Sto) (P : W → Sto → Prop) : Is (some (w, S)) P = P w S := wp_some _ _
theorem is_none (P : W → Sto → Prop) : Is none P = False := wp_none _
theorem isA_some (w : List W) (S : Sto) (P : List W → Sto → Prop) : IsA (some (w, S)) P = P w S := wp_some _ _
theorem isA_none (P : List W → Sto → Prop) : IsA none P = False := wp_none _
theorem isP_some (w : Option Int) (S : Sto) (P : Option Int → Sto → Prop) : IsP (some (w, S)) P = P w S := wp_some _ _
theorem isP_none (P : Option Int → Sto → Prop) : IsP none P = False := wp_none _
theorem isI_some (w : Src) (S : Sto) (P : Src → Sto → Prop) : IsI (some (w, S)) P = P w S := wp_some _ _
theorem isI_none (P : Src → Sto → Prop) : IsI none P = False := wp_none _
@[simp] theorem isB_some (k : Bool) (P : Bool → Prop) : IsB (some k) P = P k := wp_some _ _
theorem isB_none (P : Bool → Prop) : IsB none P = False := wp_none _
theorem isS_nx (env : Env) (S : Sto) (N : Env → Sto → Prop) (Q : W → Sto → Prop) : IsS (some (.nx env S)) N Q = N env S := wp_some _ _
theorem isS_rt (w : W) (S : Sto) (N : Env → Sto → Prop) (Q : W → Sto → Prop) : IsS (some (.rt w S)) N Q = Q w S := wp_some _ _
theorem isS_bk (env : Env) (S : Sto) (N : Env → Sto → Prop) (Q : W → Sto → Prop) : IsS (some (.bk env S)) N Q = False := wp_some _ _
theorem isS_ct (env : Env) (S : Sto) (N : Env → Sto → Prop) (Q : W → Sto → Prop) : IsS (some (.ct env S)) N Q = False := wp_some _ _
theorem isS_none (N : Env → Sto → Prop) (Q : W → Sto → Prop) : IsS none N Q = False := wp_none _
/-- by a truth value -/
def ByB (w : W) (t f : Prop) : Prop := match w with
  | .bl true => t
  | .bl false => f
  | _ => False
theorem is_sq (q : W × Sto) (P : W → Sto → Prop) : Is (some q) P = P q.1 q.2 := wp_some _ _
theorem isA_sq (q : List W × Sto) (P : List W → Sto → Prop) : IsA (some q) P = P q.1 q.2 := wp_some _ _
theorem isP_sq (q : Option Int × Sto) (P : Option Int → Sto → Prop) : IsP (some q) P = P q.1 q.2 := wp_some _ _
theorem isI_sq (q : Src × Sto) (P : Src → Sto → Prop) : IsI (some q) P = P q.1 q.2 := wp_some _ _
theorem Is.imp {r : R} {P Q : W → Sto → Prop} (h : Is r P) (i : ∀ w S, P w S → Q w S) : Is r Q := by
  obtain ⟨a, h1, h2⟩ := h.ex
  exact ⟨a, h1, i _ _ h2⟩
theorem Is.ex {r : R} {P : W → Sto → Prop} (h : Is r P) : ∃ w S, r = some (w, S) ∧ P w S := by
  obtain ⟨a, h1, h2⟩ := Wp.ex h
  exact ⟨a.1, a.2, h1, h2⟩
theorem IsS.imp {r : Option Fl} {N N' : Env → Sto → Prop} {P Q : W → Sto → Prop} (h : IsS r N P) (j : ∀ w S, N w S → N' w S) (i : ∀ w S, P w S → Q w S) : IsS r N' Q := by
  obtain ⟨a, h1, h2⟩ := h.ex
  refine ⟨a, h1, ?_⟩
  cases a with
  | nx env S => exact j _ _ h2
  | rt w S => exact i _ _ h2
  | bk _ _ => exact h2.elim
  | ct _ _ => exact h2.elim
section
variable {Φ : Fns} {env : Env} {S : Sto} {P : W → Sto → Prop} {a b c d e : CE} {es : CEs} {N : Env → Sto → Prop}
@[simp] theorem w_var (i : Nat) : Is (ev Φ (.var i) env S) P = match env[i]? with | some (some w) => P w S | _ => False := by
  simp only [ev]
  cases env[i]? with
  | none => first | rfl | (simp only [is_none, is_sq, isA_none, isA_sq, isP_none, isP_sq, isI_none, isI_sq, isB_none, isB_some, isS_none, isS_nx, isS_rt, isS_bk, isS_ct, ByB, Option.map_none, Option.map_some]; done) | (simp only [is_none, is_sq, isA_none, isA_sq, isP_none, isP_sq, isI_none, isI_sq, isB_none, isB_some, isS_none, isS_nx, isS_rt, isS_bk, isS_ct, ByB, Option.map_none, Option.map_some]; rfl)
  | some o => cases o <;> first | rfl | (simp only [is_none, is_sq, isA_none, isA_sq, isP_none, isP_sq, isI_none, isI_sq, isB_none, isB_some, isS_none, isS_nx, isS_rt, isS_bk, isS_ct, ByB, Option.map_none, Option.map_some]; done) | (simp only [is_none, is_sq, isA_none, isA_sq, isP_none, isP_sq, isI_none, isI_sq, isB_none, isB_some, isS_none, isS_nx, isS_rt, isS_bk, isS_ct, ByB, Option.map_none, Option.map_some]; rfl)
@[simp] theorem w_c (w : W) : Is (ev Φ (.c w) env S) P = P w S := by simp only [ev]; first | rfl | (simp only [is_none, is_sq, isA_none, isA_sq, isP_none, isP_sq, isI_none, isI_sq, isB_none, isB_some, isS_none, isS_nx, isS_rt, isS_bk, isS_ct, ByB, Option.map_none, Option.map_some]; done) | (simp only [is_none, is_sq, isA_none, isA_sq, isP_none, isP_sq, isI_none, isI_sq, isB_none, isB_some, isS_none, isS_nx, isS_rt, isS_bk, isS_ct, ByB, Option.map_none, Option.map_some]; rfl)
@[simp] theorem w_bin (o : BO) : Is (ev Φ (.bin o a b) env S) P = Is (ev Φ a env S) fun x S1 => Is (ev Φ b env S1) fun y S2 => Is (opB o x y S2) P := by
  simp only [ev]
  cases ev Φ a env S with
  | none => first | rfl | (simp only [is_none, is_sq, isA_none, isA_sq, isP_none, isP_sq, isI_none, isI_sq, isB_none, isB_some, isS_none, isS_nx, isS_rt, isS_bk, isS_ct, ByB, Option.map_none, Option.map_some]; done) | (simp only [is_none, is_sq, isA_none, isA_sq, isP_none, isP_sq, isI_none, isI_sq, isB_none, isB_some, isS_none, isS_nx, isS_rt, isS_bk, isS_ct, ByB, Option.map_none, Option.map_some]; rfl)
  | some p =>
    obtain ⟨x, S1⟩ := p
    simp only [is_some]
    cases ev Φ b env S1 with
    | none => first | rfl | (simp only [is_none, is_sq, isA_none, isA_sq, isP_none, isP_sq, isI_none, isI_sq, isB_none, isB_some, isS_none, isS_nx, isS_rt, isS_bk, isS_ct, ByB, Option.map_none, Option.map_some]; done) | (simp only [is_none, is_sq, isA_none, isA_sq, isP_none, isP_sq, isI_none, isI_sq, isB_none, isB_some, isS_none, isS_nx, isS_rt, isS_bk, isS_ct, ByB, Option.map_none, Option.map_some]; rfl)
    | some q => first | rfl | (simp only [is_none, is_sq, isA_none, isA_sq, isP_none, isP_sq, isI_none, isI_sq, isB_none, isB_some, isS_none, isS_nx, isS_rt, isS_bk, isS_ct, ByB, Option.map_none, Option.map_some]; done) | (simp only [is_none, is_sq, isA_none, isA_sq, isP_none, isP_sq, isI_none, isI_sq, isB_none, isB_some, isS_none, isS_nx, isS_rt, isS_bk, isS_ct, ByB, Option.map_none, Option.map_some]; rfl)
@[simp] theorem w_cmp (o : CO) : Is (ev Φ (.cmp o a b) env S) P = Is (ev Φ a env S) fun x S1 => Is (ev Φ b env S1) fun y S2 => IsB (opC o x y S2) fun k => P (.bl k) S2 := by
  simp only [ev]
  cases ev Φ a env S with
  | none => first | rfl | (simp only [is_none, is_sq, isA_none, isA_sq, isP_none, isP_sq, isI_none, isI_sq, isB_none, isB_some, isS_none, isS_nx, isS_rt, isS_bk, isS_ct, ByB, Option.map_none, Option.map_some]; done) | (simp only [is_none, is_sq, isA_none, isA_sq, isP_none, isP_sq, isI_none, isI_sq, isB_none, isB_some, isS_none, isS_nx, isS_rt, isS_bk, isS_ct, ByB, Option.map_none, Option.map_some]; rfl)
  | some p =>
    obtain ⟨x, S1⟩ := p
    simp only [is_some]
    cases ev Φ b env S1 with
    | none => first | rfl | (simp only [is_none, is_sq, isA_none, isA_sq, isP_none, isP_sq, isI_none, isI_sq, isB_none, isB_some, isS_none, isS_nx, isS_rt, isS_bk, isS_ct, ByB, Option.map_none, Option.map_some]; done) | (simp only [is_none, is_sq, isA_none, isA_sq, isP_none, isP_sq, isI_none, isI_sq, isB_none, isB_some, isS_none, isS_nx, isS_rt, isS_bk, isS_ct, ByB, Option.map_none, Option.map_some]; rfl)
    | some q =>
      obtain ⟨y, S2⟩ := q
      simp only [is_some]
      cases opC o x y S2 <;> first | rfl | (simp only [is_none, is_sq, isA_none, isA_sq, isP_none, isP_sq, isI_none, isI_sq, isB_none, isB_some, isS_none, isS_nx, isS_rt, isS_bk, isS_ct, ByB, Option.map_none, Option.map_some]; done) | (simp only [is_none, is_sq, isA_none, isA_sq, isP_none, isP_sq, isI_none, isI_sq, isB_none, isB_some, isS_none, isS_nx, isS_rt, isS_bk, isS_ct, ByB, Option.map_none, Option.map_some]; rfl)
@[simp] theorem w_chain (o o' : CO) : Is (ev Φ (.chain o o' a b d) env S) P = Is (ev Φ a env S) fun x S1 => Is (ev Φ b env S1) fun y S2 => IsB (opC o x y S2) fun k => if k = true then Is (ev Φ d env S2) fun z S3 => IsB (opC o' y z S3) fun k => P (.bl k) S3 else P (.bl false) S2 := by
  simp only [ev]
  cases ev Φ a env S with
  | none => first | rfl | (simp only [is_none, is_sq, isA_none, isA_sq, isP_none, isP_sq, isI_none, isI_sq, isB_none, isB_some, isS_none, isS_nx, isS_rt, isS_bk, isS_ct, ByB, Option.map_none, Option.map_some]; done) | (simp only [is_none, is_sq, isA_none, isA_sq, isP_none, isP_sq, isI_none, isI_sq, isB_none, isB_some, isS_none, isS_nx, isS_rt, isS_bk, isS_ct, ByB, Option.map_none, Option.map_some]; rfl)
  | some p =>
    obtain ⟨x, S1⟩ := p
    simp only [is_some]
    cases ev Φ b env S1 with
    | none => first | rfl | (simp only [is_none, is_sq, isA_none, isA_sq, isP_none, isP_sq, isI_none, isI_sq, isB_none, isB_some, isS_none, isS_nx, isS_rt, isS_bk, isS_ct, ByB, Option.map_none, Option.map_some]; done) | (simp only [is_none, is_sq, isA_none, isA_sq, isP_none, isP_sq, isI_none, isI_sq, isB_none, isB_some, isS_none, isS_nx, isS_rt, isS_bk, isS_ct, ByB, Option.map_none, Option.map_some]; rfl)
    | some q =>
      obtain ⟨y, S2⟩ := q
      simp only [is_some]
      cases opC o x y S2 with
      | none => first | rfl | (simp only [is_none, is_sq, isA_none, isA_sq, isP_none, isP_sq, isI_none, isI_sq, isB_none, isB_some, isS_none, isS_nx, isS_rt, isS_bk, isS_ct, ByB, Option.map_none, Option.map_some]; done) | (simp only [is_none, is_sq, isA_none, isA_sq, isP_none, isP_sq, isI_none, isI_sq, isB_none, isB_some, isS_none, isS_nx, isS_rt, isS_bk, isS_ct, ByB, Option.map_none, Option.map_some]; rfl)
      | some k =>
        cases k with
        | false => first | rfl | (simp only [is_none, is_sq, isA_none, isA_sq, isP_none, isP_sq, isI_none, isI_sq, isB_none, isB_some, isS_none, isS_nx, isS_rt, isS_bk, isS_ct, ByB, Option.map_none, Option.map_some]; done) | (simp only [is_none, is_sq, isA_none, isA_sq, isP_none, isP_sq, isI_none, isI_sq, isB_none, isB_some, isS_none, isS_nx, isS_rt, isS_bk, isS_ct, ByB, Option.map_none, Option.map_some]; rfl)
        | true =>
          simp only [isB_some, if_true]
          cases ev Φ d env S2 with
          | none => first | rfl | (simp only [is_none, is_sq, isA_none, isA_sq, isP_none, isP_sq, isI_none, isI_sq, isB_none, isB_some, isS_none, isS_nx, isS_rt, isS_bk, isS_ct, ByB, Option.map_none, Option.map_some]; done) | (simp only [is_none, is_sq, isA_none, isA_sq, isP_none, isP_sq, isI_none, isI_sq, isB_none, isB_some, isS_none, isS_nx, isS_rt, isS_bk, isS_ct, ByB, Option.map_none, Option.map_some]; rfl)
          | some r =>
            obtain ⟨z, S3⟩ := r
            simp only [is_some]
            cases opC o' y z S3 <;> first | rfl | (simp only [is_none, is_sq, isA_none, isA_sq, isP_none, isP_sq, isI_none, isI_sq, isB_none, isB_some, isS_none, isS_nx, isS_rt, isS_bk, isS_ct, ByB, Option.map_none, Option.map_some]; done) | (simp only [is_none, is_sq, isA_none, isA_sq, isP_none, isP_sq, isI_none, isI_sq, isB_none, isB_some, isS_none, isS_nx, isS_rt, isS_bk, isS_ct, ByB, Option.map_none, Option.map_some]; rfl)
@[simp] theorem byB_true (t f : Prop) : ByB (.bl true) t f = t := rfl
@[simp] theorem byB_false (t f : Prop) : ByB (.bl false) t f = f := rfl
theorem byB_dec (k : Bool) (t f : Prop) (h1 : k = true → t) (h2 : k = false → f) : ByB (.bl k) t f := by
  cases k with
  | true => exact h1 rfl
  | false => exact h2 rfl
@[simp] theorem w_and : Is (ev Φ (.and a b) env S) P = Is (ev Φ a env S) fun x S1 => ByB x (Is (ev Φ b env S1) P) (P (.bl false) S1) := by
  simp only [ev]
  cases ev Φ a env S with
  | none => first | rfl | (simp only [is_none, is_sq, isA_none, isA_sq, isP_none, isP_sq, isI_none, isI_sq, isB_none, isB_some, isS_none, isS_nx, isS_rt, isS_bk, isS_ct, ByB, Option.map_none, Option.map_some]; done) | (simp only [is_none, is_sq, isA_none, isA_sq, isP_none, isP_sq, isI_none, isI_sq, isB_none, isB_some, isS_none, isS_nx, isS_rt, isS_bk, isS_ct, ByB, Option.map_none, Option.map_some]; rfl)
  | some p =>
    obtain ⟨x, S1⟩ := p
    cases x with
    | bl k => cases k <;> first | rfl | (simp only [is_none, is_sq, isA_none, isA_sq, isP_none, isP_sq, isI_none, isI_sq, isB_none, isB_some, isS_none, isS_nx, isS_rt, isS_bk, isS_ct, ByB, Option.map_none, Option.map_some]; done) | (simp only [is_none, is_sq, isA_none, isA_sq, isP_none, isP_sq, isI_none, isI_sq, isB_none, isB_some, isS_none, isS_nx, isS_rt, isS_bk, isS_ct, ByB, Option.map_none, Option.map_some]; rfl)
    | _ => first | rfl | (simp only [is_none, is_sq, isA_none, isA_sq, isP_none, isP_sq, isI_none, isI_sq, isB_none, isB_some, isS_none, isS_nx, isS_rt, isS_bk, isS_ct, ByB, Option.map_none, Option.map_some]; done) | (simp only [is_none, is_sq, isA_none, isA_sq, isP_none, isP_sq, isI_none, isI_sq, isB_none, isB_some, isS_none, isS_nx, isS_rt, isS_bk, isS_ct, ByB, Option.map_none, Option.map_some]; rfl)
@[simp] theorem w_or : Is (ev Φ (.or a b) env S) P = Is (ev Φ a env S) fun x S1 => ByB x (P (.bl true) S1) (Is (ev Φ b env S1) P) := by
  simp only [ev]
  cases ev Φ a env S with
  | none => first | rfl | (simp only [is_none, is_sq, isA_none, isA_sq, isP_none, isP_sq, isI_none, isI_sq, isB_none, isB_some, isS_none, isS_nx, isS_rt, isS_bk, isS_ct, ByB, Option.map_none, Option.map_some]; done) | (simp only [is_none, is_sq, isA_none, isA_sq, isP_none, isP_sq, isI_none, isI_sq, isB_none, isB_some, isS_none, isS_nx, isS_rt, isS_bk, isS_ct, ByB, Option.map_none, Option.map_some]; rfl)
  | some p =>
    obtain ⟨x, S1⟩ := p
    cases x with
    | bl k => cases k <;> first | rfl | (simp only [is_none, is_sq, isA_none, isA_sq, isP_none, isP_sq, isI_none, isI_sq, isB_none, isB_some, isS_none, isS_nx, isS_rt, isS_bk, isS_ct, ByB, Option.map_none, Option.map_some]; done) | (simp only [is_none, is_sq, isA_none, isA_sq, isP_none, isP_sq, isI_none, isI_sq, isB_none, isB_some, isS_none, isS_nx, isS_rt, isS_bk, isS_ct, ByB, Option.map_none, Option.map_some]; rfl)
    | _ => first | rfl | (simp only [is_none, is_sq, isA_none, isA_sq, isP_none, isP_sq, isI_none, isI_sq, isB_none, isB_some, isS_none, isS_nx, isS_rt, isS_bk, isS_ct, ByB, Option.map_none, Option.map_some]; done) | (simp only [is_none, is_sq, isA_none, isA_sq, isP_none, isP_sq, isI_none, isI_sq, isB_none, isB_some, isS_none, isS_nx, isS_rt, isS_bk, isS_ct, ByB, Option.map_none, Option.map_some]; rfl)
@[simp] theorem w_ite : Is (ev Φ (.ite c a b) env S) P = Is (ev Φ c env S) fun x S1 => ByB x (Is (ev Φ a env S1) P) (Is (ev Φ b env S1) P) := by
  simp only [ev]
  cases ev Φ c env S with
  | none => first | rfl | (simp only [is_none, is_sq, isA_none, isA_sq, isP_none, isP_sq, isI_none, isI_sq, isB_none, isB_some, isS_none, isS_nx, isS_rt, isS_bk, isS_ct, ByB, Option.map_none, Option.map_some]; done) | (simp only [is_none, is_sq, isA_none, isA_sq, isP_none, isP_sq, isI_none, isI_sq, isB_none, isB_some, isS_none, isS_nx, isS_rt, isS_bk, isS_ct, ByB, Option.map_none, Option.map_some]; rfl)
  | some p =>
    obtain ⟨x, S1⟩ := p
    cases x with
    | bl k => cases k <;> first | rfl | (simp only [is_none, is_sq, isA_none, isA_sq, isP_none, isP_sq, isI_none, isI_sq, isB_none, isB_some, isS_none, isS_nx, isS_rt, isS_bk, isS_ct, ByB, Option.map_none, Option.map_some]; done) | (simp only [is_none, is_sq, isA_none, isA_sq, isP_none, isP_sq, isI_none, isI_sq, isB_none, isB_some, isS_none, isS_nx, isS_rt, isS_bk, isS_ct, ByB, Option.map_none, Option.map_some]; rfl)
    | _ => first | rfl | (simp only [is_none, is_sq, isA_none, isA_sq, isP_none, isP_sq, isI_none, isI_sq, isB_none, isB_some, isS_none, isS_nx, isS_rt, isS_bk, isS_ct, ByB, Option.map_none, Option.map_some]; done) | (simp only [is_none, is_sq, isA_none, isA_sq, isP_none, isP_sq, isI_none, isI_sq, isB_none, isB_some, isS_none, isS_nx, isS_rt, isS_bk, isS_ct, ByB, Option.map_none, Option.map_some]; rfl)
@[simp] theorem w_not : Is (ev Φ (.not a) env S) P = Is (ev Φ a env S) fun x S1 => ByB x (P (.bl false) S1) (P (.bl true) S1) := by
  simp only [ev]
  cases ev Φ a env S with
  | none => first | rfl | (simp only [is_none, is_sq, isA_none, isA_sq, isP_none, isP_sq, isI_none, isI_sq, isB_none, isB_some, isS_none, isS_nx, isS_rt, isS_bk, isS_ct, ByB, Option.map_none, Option.map_some]; done) | (simp only [is_none, is_sq, isA_none, isA_sq, isP_none, isP_sq, isI_none, isI_sq, isB_none, isB_some, isS_none, isS_nx, isS_rt, isS_bk, isS_ct, ByB, Option.map_none, Option.map_some]; rfl)
  | some p =>
    obtain ⟨x, S1⟩ := p
    cases x with
    | bl k => cases k <;> first | rfl | (simp only [is_none, is_sq, isA_none, isA_sq, isP_none, isP_sq, isI_none, isI_sq, isB_none, isB_some, isS_none, isS_nx, isS_rt, isS_bk, isS_ct, ByB, Option.map_none, Option.map_some]; done) | (simp only [is_none, is_sq, isA_none, isA_sq, isP_none, isP_sq, isI_none, isI_sq, isB_none, isB_some, isS_none, isS_nx, isS_rt, isS_bk, isS_ct, ByB, Option.map_none, Option.map_some]; rfl)
    | _ => first | rfl | (simp only [is_none, is_sq, isA_none, isA_sq, isP_none, isP_sq, isI_none, isI_sq, isB_none, isB_some, isS_none, isS_nx, isS_rt, isS_bk, isS_ct, ByB, Option.map_none, Option.map_some]; done) | (simp only [is_none, is_sq, isA_none, isA_sq, isP_none, isP_sq, isI_none, isI_sq, isB_none, isB_some, isS_none, isS_nx, isS_rt, isS_bk, isS_ct, ByB, Option.map_none, Option.map_some]; rfl)
@[simp] theorem w_nil {P : List W → Sto → Prop} : IsA (evs Φ .nil env S) P = P [] S := by simp only [evs]; first | rfl | (simp only [is_none, is_sq, isA_none, isA_sq, isP_none, isP_sq, isI_none, isI_sq, isB_none, isB_some, isS_none, isS_nx, isS_rt, isS_bk, isS_ct, ByB, Option.map_none, Option.map_some]; done) | (simp only [is_none, is_sq, isA_none, isA_sq, isP_none, isP_sq, isI_none, isI_sq, isB_none, isB_some, isS_none, isS_nx, isS_rt, isS_bk, isS_ct, ByB, Option.map_none, Option.map_some]; rfl)
@[simp] theorem w_cons {P : List W → Sto → Prop} : IsA (evs Φ (.cons e es) env S) P = Is (ev Φ e env S) fun x S1 => IsA (evs Φ es env S1) fun xs S2 => P (x :: xs) S2 := by
  simp only [evs]
  cases ev Φ e env S with
  | none => first | rfl | (simp only [is_none, is_sq, isA_none, isA_sq, isP_none, isP_sq, isI_none, isI_sq, isB_none, isB_some, isS_none, isS_nx, isS_rt, isS_bk, isS_ct, ByB, Option.map_none, Option.map_some]; done) | (simp only [is_none, is_sq, isA_none, isA_sq, isP_none, isP_sq, isI_none, isI_sq, isB_none, isB_some, isS_none, isS_nx, isS_rt, isS_bk, isS_ct, ByB, Option.map_none, Option.map_some]; rfl)
  | some p =>
    obtain ⟨x, S1⟩ := p
    simp only [is_some]
    cases evs Φ es env S1 with
    | none => first | rfl | (simp only [is_none, is_sq, isA_none, isA_sq, isP_none, isP_sq, isI_none, isI_sq, isB_none, isB_some, isS_none, isS_nx, isS_rt, isS_bk, isS_ct, ByB, Option.map_none, Option.map_some]; done) | (simp only [is_none, is_sq, isA_none, isA_sq, isP_none, isP_sq, isI_none, isI_sq, isB_none, isB_some, isS_none, isS_nx, isS_rt, isS_bk, isS_ct, ByB, Option.map_none, Option.map_some]; rfl)
    | some q => first | rfl | (simp only [is_none, is_sq, isA_none, isA_sq, isP_none, isP_sq, isI_none, isI_sq, isB_none, isB_some, isS_none, isS_nx, isS_rt, isS_bk, isS_ct, ByB, Option.map_none, Option.map_some]; done) | (simp only [is_none, is_sq, isA_none, isA_sq, isP_none, isP_sq, isI_none, isI_sq, isB_none, isB_some, isS_none, isS_nx, isS_rt, isS_bk, isS_ct, ByB, Option.map_none, Option.map_some]; rfl)
@[simp] theorem w_tup : Is (ev Φ (.tup es) env S) P = IsA (evs Φ es env S) fun xs S1 => xs.length ≤ LIM ∧ P (.tup xs) S1 := by
  simp only [ev]
  cases evs Φ es env S with
  | none => first | rfl | (simp only [is_none, is_sq, isA_none, isA_sq, isP_none, isP_sq, isI_none, isI_sq, isB_none, isB_some, isS_none, isS_nx, isS_rt, isS_bk, isS_ct, ByB, Option.map_none, Option.map_some]; done) | (simp only [is_none, is_sq, isA_none, isA_sq, isP_none, isP_sq, isI_none, isI_sq, isB_none, isB_some, isS_none, isS_nx, isS_rt, isS_bk, isS_ct, ByB, Option.map_none, Option.map_some]; rfl)
  | some p =>
    obtain ⟨xs, S1⟩ := p
    simp only [isA_some]
    by_cases h : xs.length ≤ LIM
    · simp only [h, if_true, true_and]; first | rfl | (simp only [is_none, is_sq, isA_none, isA_sq, isP_none, isP_sq, isI_none, isI_sq, isB_none, isB_some, isS_none, isS_nx, isS_rt, isS_bk, isS_ct, ByB, Option.map_none, Option.map_some]; done) | (simp only [is_none, is_sq, isA_none, isA_sq, isP_none, isP_sq, isI_none, isI_sq, isB_none, isB_some, isS_none, isS_nx, isS_rt, isS_bk, isS_ct, ByB, Option.map_none, Option.map_some]; rfl)
    · simp only [h, if_false, false_and]; first | rfl | (simp only [is_none, is_sq, isA_none, isA_sq, isP_none, isP_sq, isI_none, isI_sq, isB_none, isB_some, isS_none, isS_nx, isS_rt, isS_bk, isS_ct, ByB, Option.map_none, Option.map_some]; done) | (simp only [is_none, is_sq, isA_none, isA_sq, isP_none, isP_sq, isI_none, isI_sq, isB_none, isB_some, isS_none, isS_nx, isS_rt, isS_bk, isS_ct, ByB, Option.map_none, Option.map_some]; rfl)
theorem w_new (xs : List W) : Is (new S xs) P = (xs.length ≤ LIM ∧ P (.ref S.length) (S ++ [.lst xs])) := by
  unfold new
  by_cases h : xs.length ≤ LIM
  · simp only [h, if_true, true_and]; first | rfl | (simp only [is_none, is_sq, isA_none, isA_sq, isP_none, isP_sq, isI_none, isI_sq, isB_none, isB_some, isS_none, isS_nx, isS_rt, isS_bk, isS_ct, ByB, Option.map_none, Option.map_some]; done) | (simp only [is_none, is_sq, isA_none, isA_sq, isP_none, isP_sq, isI_none, isI_sq, isB_none, isB_some, isS_none, isS_nx, isS_rt, isS_bk, isS_ct, ByB, Option.map_none, Option.map_some]; rfl)
  · simp only [h, if_false, false_and]; first | rfl | (simp only [is_none, is_sq, isA_none, isA_sq, isP_none, isP_sq, isI_none, isI_sq, isB_none, isB_some, isS_none, isS_nx, isS_rt, isS_bk, isS_ct, ByB, Option.map_none, Option.map_some]; done) | (simp only [is_none, is_sq, isA_none, isA_sq, isP_none, isP_sq, isI_none, isI_sq, isB_none, isB_some, isS_none, isS_nx, isS_rt, isS_bk, isS_ct, ByB, Option.map_none, Option.map_some]; rfl)
@[simp] theorem w_lst : Is (ev Φ (.lst es) env S) P = IsA (evs Φ es env S) fun xs S1 => xs.length ≤ LIM ∧ P (.ref S1.length) (S1 ++ [.lst xs]) := by
  simp only [ev]
  cases evs Φ es env S with
  | none => first | rfl | (simp only [is_none, is_sq, isA_none, isA_sq, isP_none, isP_sq, isI_none, isI_sq, isB_none, isB_some, isS_none, isS_nx, isS_rt, isS_bk, isS_ct, ByB, Option.map_none, Option.map_some]; done) | (simp only [is_none, is_sq, isA_none, isA_sq, isP_none, isP_sq, isI_none, isI_sq, isB_none, isB_some, isS_none, isS_nx, isS_rt, isS_bk, isS_ct, ByB, Option.map_none, Option.map_some]; rfl)
  | some p =>
    obtain ⟨xs, S1⟩ := p
    simp only [isA_some, w_new]
@[simp] theorem w_ix : Is (ev Φ (.ix a b) env S) P = Is (ev Φ a env S) fun x S1 => Is (ev Φ b env S1) fun y S2 => Is (opIx x y S2) P := by
  simp only [ev]
  cases ev Φ a env S with
  | none => first | rfl | (simp only [is_none, is_sq, isA_none, isA_sq, isP_none, isP_sq, isI_none, isI_sq, isB_none, isB_some, isS_none, isS_nx, isS_rt, isS_bk, isS_ct, ByB, Option.map_none, Option.map_some]; done) | (simp only [is_none, is_sq, isA_none, isA_sq, isP_none, isP_sq, isI_none, isI_sq, isB_none, isB_some, isS_none, isS_nx, isS_rt, isS_bk, isS_ct, ByB, Option.map_none, Option.map_some]; rfl)
  | some p =>
    obtain ⟨x, S1⟩ := p
    simp only [is_some]
    cases ev Φ b env S1 with
    | none => first | rfl | (simp only [is_none, is_sq, isA_none, isA_sq, isP_none, isP_sq, isI_none, isI_sq, isB_none, isB_some, isS_none, isS_nx, isS_rt, isS_bk, isS_ct, ByB, Option.map_none, Option.map_some]; done) | (simp only [is_none, is_sq, isA_none, isA_sq, isP_none, isP_sq, isI_none, isI_sq, isB_none, isB_some, isS_none, isS_nx, isS_rt, isS_bk, isS_ct, ByB, Option.map_none, Option.map_some]; rfl)
    | some q => first | rfl | (simp only [is_none, is_sq, isA_none, isA_sq, isP_none, isP_sq, isI_none, isI_sq, isB_none, isB_some, isS_none, isS_nx, isS_rt, isS_bk, isS_ct, ByB, Option.map_none, Option.map_some]; done) | (simp only [is_none, is_sq, isA_none, isA_sq, isP_none, isP_sq, isI_none, isI_sq, isB_none, isB_some, isS_none, isS_nx, isS_rt, isS_bk, isS_ct, ByB, Option.map_none, Option.map_some]; rfl)
@[simp] theorem w_no {P : Option Int → Sto → Prop} : IsP (evp Φ .no env S) P = P none S := by simp only [evp]; first | rfl | (simp only [is_none, is_sq, isA_none, isA_sq, isP_none, isP_sq, isI_none, isI_sq, isB_none, isB_some, isS_none, isS_nx, isS_rt, isS_bk, isS_ct, ByB, Option.map_none, Option.map_some]; done) | (simp only [is_none, is_sq, isA_none, isA_sq, isP_none, isP_sq, isI_none, isI_sq, isB_none, isB_some, isS_none, isS_nx, isS_rt, isS_bk, isS_ct, ByB, Option.map_none, Option.map_some]; rfl)
@[simp] theorem w_yes {P : Option Int → Sto → Prop} : IsP (evp Φ (.yes e) env S) P = Is (ev Φ e env S) fun x S1 => match x with | .int i => P (some i) S1 | _ => False := by
  simp only [evp]
  cases ev Φ e env S with
  | none => first | rfl | (simp only [is_none, is_sq, isA_none, isA_sq, isP_none, isP_sq, isI_none, isI_sq, isB_none, isB_some, isS_none, isS_nx, isS_rt, isS_bk, isS_ct, ByB, Option.map_none, Option.map_some]; done) | (simp only [is_none, is_sq, isA_none, isA_sq, isP_none, isP_sq, isI_none, isI_sq, isB_none, isB_some, isS_none, isS_nx, isS_rt, isS_bk, isS_ct, ByB, Option.map_none, Option.map_some]; rfl)
  | some p =>
    obtain ⟨x, S1⟩ := p
    cases x <;> first | rfl | (simp only [is_none, is_sq, isA_none, isA_sq, isP_none, isP_sq, isI_none, isI_sq, isB_none, isB_some, isS_none, isS_nx, isS_rt, isS_bk, isS_ct, ByB, Option.map_none, Option.map_some]; done) | (simp only [is_none, is_sq, isA_none, isA_sq, isP_none, isP_sq, isI_none, isI_sq, isB_none, isB_some, isS_none, isS_nx, isS_rt, isS_bk, isS_ct, ByB, Option.map_none, Option.map_some]; rfl)
@[simp] theorem w_sl {l h : CP} : Is (ev Φ (.sl a l h) env S) P = Is (ev Φ a env S) fun x S1 => IsP (evp Φ l env S1) fun lo S2 => IsP (evp Φ h env S2) fun hi S3 => Is (opSl x lo hi S3) P := by
  simp only [ev]
  cases ev Φ a env S with
  | none => first | rfl | (simp only [is_none, is_sq, isA_none, isA_sq, isP_none, isP_sq, isI_none, isI_sq, isB_none, isB_some, isS_none, isS_nx, isS_rt, isS_bk, isS_ct, ByB, Option.map_none, Option.map_some]; done) | (simp only [is_none, is_sq, isA_none, isA_sq, isP_none, isP_sq, isI_none, isI_sq, isB_none, isB_some, isS_none, isS_nx, isS_rt, isS_bk, isS_ct, ByB, Option.map_none, Option.map_some]; rfl)
  | some p =>
    obtain ⟨x, S1⟩ := p
    simp only [is_some]
    cases evp Φ l env S1 with
    | none => first | rfl | (simp only [is_none, is_sq, isA_none, isA_sq, isP_none, isP_sq, isI_none, isI_sq, isB_none, isB_some, isS_none, isS_nx, isS_rt, isS_bk, isS_ct, ByB, Option.map_none, Option.map_some]; done) | (simp only [is_none, is_sq, isA_none, isA_sq, isP_none, isP_sq, isI_none, isI_sq, isB_none, isB_some, isS_none, isS_nx, isS_rt, isS_bk, isS_ct, ByB, Option.map_none, Option.map_some]; rfl)
    | some q =>
      obtain ⟨lo, S2⟩ := q
      simp only [isP_some]
      cases evp Φ h env S2 with
      | none => first | rfl | (simp only [is_none, is_sq, isA_none, isA_sq, isP_none, isP_sq, isI_none, isI_sq, isB_none, isB_some, isS_none, isS_nx, isS_rt, isS_bk, isS_ct, ByB, Option.map_none, Option.map_some]; done) | (simp only [is_none, is_sq, isA_none, isA_sq, isP_none, isP_sq, isI_none, isI_sq, isB_none, isB_some, isS_none, isS_nx, isS_rt, isS_bk, isS_ct, ByB, Option.map_none, Option.map_some]; rfl)
      | some r => first | rfl | (simp only [is_none, is_sq, isA_none, isA_sq, isP_none, isP_sq, isI_none, isI_sq, isB_none, isB_some, isS_none, isS_nx, isS_rt, isS_bk, isS_ct, ByB, Option.map_none, Option.map_some]; done) | (simp only [is_none, is_sq, isA_none, isA_sq, isP_none, isP_sq, isI_none, isI_sq, isB_none, isB_some, isS_none, isS_nx, isS_rt, isS_bk, isS_ct, ByB, Option.map_none, Option.map_some]; rfl)
@[simp] theorem w_call (f : Nat) : Is (ev Φ (.call f es) env S) P = IsA (evs Φ es env S) fun xs S1 => Is (Φ f xs S1) P := by
  simp only [ev]
  cases evs Φ es env S with
  | none => first | rfl | (simp only [is_none, is_sq, isA_none, isA_sq, isP_none, isP_sq, isI_none, isI_sq, isB_none, isB_some, isS_none, isS_nx, isS_rt, isS_bk, isS_ct, ByB, Option.map_none, Option.map_some]; done) | (simp only [is_none, is_sq, isA_none, isA_sq, isP_none, isP_sq, isI_none, isI_sq, isB_none, isB_some, isS_none, isS_nx, isS_rt, isS_bk, isS_ct, ByB, Option.map_none, Option.map_some]; rfl)
  | some p => first | rfl | (simp only [is_none, is_sq, isA_none, isA_sq, isP_none, isP_sq, isI_none, isI_sq, isB_none, isB_some, isS_none, isS_nx, isS_rt, isS_bk, isS_ct, ByB, Option.map_none, Option.map_some]; done) | (simp only [is_none, is_sq, isA_none, isA_sq, isP_none, isP_sq, isI_none, isI_sq, isB_none, isB_some, isS_none, isS_nx, isS_rt, isS_bk, isS_ct, ByB, Option.map_none, Option.map_some]; rfl)
theorem w_callv (f : Nat) {x : List Nat} {j : Nat} (hv : env[j]? = some (some (.fn x))) : Is (ev Φ (.callv f x j es) env S) P = IsA (evs Φ es env S) fun xs S1 => Is (Φ f xs S1) P := by
  simp only [ev, hv, if_true]
  cases evs Φ es env S with
  | none => first | rfl | (simp only [is_none, is_sq, isA_none, isA_sq]; done) | (simp only [is_none, is_sq, isA_none, isA_sq]; rfl)
  | some p => first | rfl | (simp only [is_none, is_sq, isA_none, isA_sq]; done) | (simp only [is_none, is_sq, isA_none, isA_sq]; rfl)
@[simp] theorem w_bi (f : BI) : Is (ev Φ (.bi f es) env S) P = IsA (evs Φ es env S) fun xs S1 => Is (opI f xs S1) P := by
  simp only [ev]
  cases evs Φ es env S with
  | none => first | rfl | (simp only [is_none, is_sq, isA_none, isA_sq, isP_none, isP_sq, isI_none, isI_sq, isB_none, isB_some, isS_none, isS_nx, isS_rt, isS_bk, isS_ct, ByB, Option.map_none, Option.map_some]; done) | (simp only [is_none, is_sq, isA_none, isA_sq, isP_none, isP_sq, isI_none, isI_sq, isB_none, isB_some, isS_none, isS_nx, isS_rt, isS_bk, isS_ct, ByB, Option.map_none, Option.map_some]; rfl)
  | some p => first | rfl | (simp only [is_none, is_sq, isA_none, isA_sq, isP_none, isP_sq, isI_none, isI_sq, isB_none, isB_some, isS_none, isS_nx, isS_rt, isS_bk, isS_ct, ByB, Option.map_none, Option.map_some]; done) | (simp only [is_none, is_sq, isA_none, isA_sq, isP_none, isP_sq, isI_none, isI_sq, isB_none, isB_some, isS_none, isS_nx, isS_rt, isS_bk, isS_ct, ByB, Option.map_none, Option.map_some]; rfl)
/-! sources -/
@[simp] theorem w_val {P : Src → Sto → Prop} : IsI (evi Φ (.val e) env S) P = Is (ev Φ e env S) fun x S1 => P (.seq x) S1 := by
  simp only [evi]
  cases ev Φ e env S with
  | none => first | rfl | (simp only [is_none, is_sq, isA_none, isA_sq, isP_none, isP_sq, isI_none, isI_sq, isB_none, isB_some, isS_none, isS_nx, isS_rt, isS_bk, isS_ct, ByB, Option.map_none, Option.map_some]; done) | (simp only [is_none, is_sq, isA_none, isA_sq, isP_none, isP_sq, isI_none, isI_sq, isB_none, isB_some, isS_none, isS_nx, isS_rt, isS_bk, isS_ct, ByB, Option.map_none, Option.map_some]; rfl)
  | some p => first | rfl | (simp only [is_none, is_sq, isA_none, isA_sq, isP_none, isP_sq, isI_none, isI_sq, isB_none, isB_some, isS_none, isS_nx, isS_rt, isS_bk, isS_ct, ByB, Option.map_none, Option.map_some]; done) | (simp only [is_none, is_sq, isA_none, isA_sq, isP_none, isP_sq, isI_none, isI_sq, isB_none, isB_some, isS_none, isS_nx, isS_rt, isS_bk, isS_ct, ByB, Option.map_none, Option.map_some]; rfl)
@[simp] theorem w_rng1 {P : Src → Sto → Prop} : IsI (evi Φ (.rng1 e) env S) P = Is (ev Φ e env S) fun x S1 => match x with | .int j => rngOk j = true ∧ P (.rng 0 j.toNat) S1 | _ => False := by
  simp only [evi]
  cases ev Φ e env S with
  | none => first | rfl | (simp only [is_none, is_sq, isA_none, isA_sq, isP_none, isP_sq, isI_none, isI_sq, isB_none, isB_some, isS_none, isS_nx, isS_rt, isS_bk, isS_ct, ByB, Option.map_none, Option.map_some]; done) | (simp only [is_none, is_sq, isA_none, isA_sq, isP_none, isP_sq, isI_none, isI_sq, isB_none, isB_some, isS_none, isS_nx, isS_rt, isS_bk, isS_ct, ByB, Option.map_none, Option.map_some]; rfl)
  | some p =>
    obtain ⟨x, S1⟩ := p
    cases x with
    | int j =>
      by_cases h : rngOk j = true
      · simp only [h, if_true, is_some, true_and]; first | rfl | (simp only [is_none, is_sq, isA_none, isA_sq, isP_none, isP_sq, isI_none, isI_sq, isB_none, isB_some, isS_none, isS_nx, isS_rt, isS_bk, isS_ct, ByB, Option.map_none, Option.map_some]; done) | (simp only [is_none, is_sq, isA_none, isA_sq, isP_none, isP_sq, isI_none, isI_sq, isB_none, isB_some, isS_none, isS_nx, isS_rt, isS_bk, isS_ct, ByB, Option.map_none, Option.map_some]; rfl)
      · simp only [is_some]; rw [if_neg h, isI_none]; simp only [eq_false h, false_and]
    | _ => first | rfl | (simp only [is_none, is_sq, isA_none, isA_sq, isP_none, isP_sq, isI_none, isI_sq, isB_none, isB_some, isS_none, isS_nx, isS_rt, isS_bk, isS_ct, ByB, Option.map_none, Option.map_some]; done) | (simp only [is_none, is_sq, isA_none, isA_sq, isP_none, isP_sq, isI_none, isI_sq, isB_none, isB_some, isS_none, isS_nx, isS_rt, isS_bk, isS_ct, ByB, Option.map_none, Option.map_some]; rfl)
@[simp] theorem w_rng2 {P : Src → Sto → Prop} : IsI (evi Φ (.rng2 a b) env S) P = Is (ev Φ a env S) fun x S1 => match x with
    | .int i => Is (ev Φ b env S1) fun y S2 => match y with | .int j => (rngOk i && rngOk j) = true ∧ P (.rng i (j - i).toNat) S2 | _ => False
    | _ => False := by
  simp only [evi]
  cases ev Φ a env S with
  | none => first | rfl | (simp only [is_none, is_sq, isA_none, isA_sq, isP_none, isP_sq, isI_none, isI_sq, isB_none, isB_some, isS_none, isS_nx, isS_rt, isS_bk, isS_ct, ByB, Option.map_none, Option.map_some]; done) | (simp only [is_none, is_sq, isA_none, isA_sq, isP_none, isP_sq, isI_none, isI_sq, isB_none, isB_some, isS_none, isS_nx, isS_rt, isS_bk, isS_ct, ByB, Option.map_none, Option.map_some]; rfl)
  | some p =>
    obtain ⟨x, S1⟩ := p
    cases x with
    | int i =>
      simp only [is_some]
      cases ev Φ b env S1 with
      | none => first | rfl | (simp only [is_none, is_sq, isA_none, isA_sq, isP_none, isP_sq, isI_none, isI_sq, isB_none, isB_some, isS_none, isS_nx, isS_rt, isS_bk, isS_ct, ByB, Option.map_none, Option.map_some]; done) | (simp only [is_none, is_sq, isA_none, isA_sq, isP_none, isP_sq, isI_none, isI_sq, isB_none, isB_some, isS_none, isS_nx, isS_rt, isS_bk, isS_ct, ByB, Option.map_none, Option.map_some]; rfl)
      | some q =>
        obtain ⟨y, S2⟩ := q
        cases y with
        | int j =>
          by_cases h : (rngOk i && rngOk j) = true
          · simp only [h, if_true, is_some, true_and]; first | rfl | (simp only [is_none, is_sq, isA_none, isA_sq, isP_none, isP_sq, isI_none, isI_sq, isB_none, isB_some, isS_none, isS_nx, isS_rt, isS_bk, isS_ct, ByB, Option.map_none, Option.map_some]; done) | (simp only [is_none, is_sq, isA_none, isA_sq, isP_none, isP_sq, isI_none, isI_sq, isB_none, isB_some, isS_none, isS_nx, isS_rt, isS_bk, isS_ct, ByB, Option.map_none, Option.map_some]; rfl)
          · simp only [is_some]; rw [if_neg h, isI_none]; simp only [eq_false h, false_and]
        | _ => first | rfl | (simp only [is_none, is_sq, isA_none, isA_sq, isP_none, isP_sq, isI_none, isI_sq, isB_none, isB_some, isS_none, isS_nx, isS_rt, isS_bk, isS_ct, ByB, Option.map_none, Option.map_some]; done) | (simp only [is_none, is_sq, isA_none, isA_sq, isP_none, isP_sq, isI_none, isI_sq, isB_none, isB_some, isS_none, isS_nx, isS_rt, isS_bk, isS_ct, ByB, Option.map_none, Option.map_some]; rfl)
    | _ => first | rfl | (simp only [is_none, is_sq, isA_none, isA_sq, isP_none, isP_sq, isI_none, isI_sq, isB_none, isB_some, isS_none, isS_nx, isS_rt, isS_bk, isS_ct, ByB, Option.map_none, Option.map_some]; done) | (simp only [is_none, is_sq, isA_none, isA_sq, isP_none, isP_sq, isI_none, isI_sq, isB_none, isB_some, isS_none, isS_nx, isS_rt, isS_bk, isS_ct, ByB, Option.map_none, Option.map_some]; rfl)
/-! ### statements -/
@[simp] theorem w_enum {P : Src → Sto → Prop} : IsI (evi Φ (.enum e) env S) P = Is (ev Φ e env S) fun x S1 => match x with | .tup z => P (.seq (.tup (enumT 0 z))) S1 | _ => False := by
  simp only [evi]
  cases ev Φ e env S with
  | none => first | rfl | (simp only [is_none, is_sq, isA_none, isA_sq, isP_none, isP_sq, isI_none, isI_sq, isB_none, isB_some, isS_none, isS_nx, isS_rt, isS_bk, isS_ct, ByB, Option.map_none, Option.map_some]; done) | (simp only [is_none, is_sq, isA_none, isA_sq, isP_none, isP_sq, isI_none, isI_sq, isB_none, isB_some, isS_none, isS_nx, isS_rt, isS_bk, isS_ct, ByB, Option.map_none, Option.map_some]; rfl)
  | some q =>
    obtain ⟨x, S1⟩ := q
    cases x <;> first | rfl | (simp only [is_none, is_sq, isA_none, isA_sq, isP_none, isP_sq, isI_none, isI_sq, isB_none, isB_some, isS_none, isS_nx, isS_rt, isS_bk, isS_ct, ByB, Option.map_none, Option.map_some]; done) | (simp only [is_none, is_sq, isA_none, isA_sq, isP_none, isP_sq, isI_none, isI_sq, isB_none, isB_some, isS_none, isS_nx, isS_rt, isS_bk, isS_ct, ByB, Option.map_none, Option.map_some]; rfl)
@[simp] theorem w_zip {P : Src → Sto → Prop} : IsI (evi Φ (.zip a b) env S) P = Is (ev Φ a env S) fun x S1 => match x with | .tup z => (Is (ev Φ b env S1) fun y S2 => match y with | .tup u => P (.seq (.tup (zipT z u))) S2 | _ => False) | _ => False := by
  simp only [evi]
  cases ev Φ a env S with
  | none => first | rfl | (simp only [is_none, is_sq, isA_none, isA_sq, isP_none, isP_sq, isI_none, isI_sq, isB_none, isB_some, isS_none, isS_nx, isS_rt, isS_bk, isS_ct, ByB, Option.map_none, Option.map_some]; done) | (simp only [is_none, is_sq, isA_none, isA_sq, isP_none, isP_sq, isI_none, isI_sq, isB_none, isB_some, isS_none, isS_nx, isS_rt, isS_bk, isS_ct, ByB, Option.map_none, Option.map_some]; rfl)
  | some q =>
    obtain ⟨x, S1⟩ := q
    cases x with
    | tup z =>
      simp only [is_some]
      cases ev Φ b env S1 with
      | none => first | rfl | (simp only [is_none, is_sq, isA_none, isA_sq, isP_none, isP_sq, isI_none, isI_sq, isB_none, isB_some, isS_none, isS_nx, isS_rt, isS_bk, isS_ct, ByB, Option.map_none, Option.map_some]; done) | (simp only [is_none, is_sq, isA_none, isA_sq, isP_none, isP_sq, isI_none, isI_sq, isB_none, isB_some, isS_none, isS_nx, isS_rt, isS_bk, isS_ct, ByB, Option.map_none, Option.map_some]; rfl)
      | some r =>
        obtain ⟨y, S2⟩ := r
        cases y <;> first | rfl | (simp only [is_none, is_sq, isA_none, isA_sq, isP_none, isP_sq, isI_none, isI_sq, isB_none, isB_some, isS_none, isS_nx, isS_rt, isS_bk, isS_ct, ByB, Option.map_none, Option.map_some]; done) | (simp only [is_none, is_sq, isA_none, isA_sq, isP_none, isP_sq, isI_none, isI_sq, isB_none, isB_some, isS_none, isS_nx, isS_rt, isS_bk, isS_ct, ByB, Option.map_none, Option.map_some]; rfl)
    | _ => first | rfl | (simp only [is_none, is_sq, isA_none, isA_sq, isP_none, isP_sq, isI_none, isI_sq, isB_none, isB_some, isS_none, isS_nx, isS_rt, isS_bk, isS_ct, ByB, Option.map_none, Option.map_some]; done) | (simp only [is_none, is_sq, isA_none, isA_sq, isP_none, isP_sq, isI_none, isI_sq, isB_none, isB_some, isS_none, isS_nx, isS_rt, isS_bk, isS_ct, ByB, Option.map_none, Option.map_some]; rfl)
@[simp] theorem s_nil {Q : W → Sto → Prop} : IsS (exs Φ .nil env S) N Q = N env S := by simp only [exs]; first | rfl | (simp only [is_none, is_sq, isA_none, isA_sq, isP_none, isP_sq, isI_none, isI_sq, isB_none, isB_some, isS_none, isS_nx, isS_rt, isS_bk, isS_ct, ByB, Option.map_none, Option.map_some]; done) | (simp only [is_none, is_sq, isA_none, isA_sq, isP_none, isP_sq, isI_none, isI_sq, isB_none, isB_some, isS_none, isS_nx, isS_rt, isS_bk, isS_ct, ByB, Option.map_none, Option.map_some]; rfl)
@[simp] theorem s_cons {Q : W → Sto → Prop} {s : CS} {ss : CSs} : IsS (exs Φ (.cons s ss) env S) N Q = IsS (ex Φ s env S) (fun env' S' => IsS (exs Φ ss env' S') N Q) Q := by
  simp only [exs]
  cases ex Φ s env S with
  | none => first | rfl | (simp only [is_none, is_sq, isA_none, isA_sq, isP_none, isP_sq, isI_none, isI_sq, isB_none, isB_some, isS_none, isS_nx, isS_rt, isS_bk, isS_ct, ByB, Option.map_none, Option.map_some]; done) | (simp only [is_none, is_sq, isA_none, isA_sq, isP_none, isP_sq, isI_none, isI_sq, isB_none, isB_some, isS_none, isS_nx, isS_rt, isS_bk, isS_ct, ByB, Option.map_none, Option.map_some]; rfl)
  | some f => cases f <;> first | rfl | (simp only [is_none, is_sq, isA_none, isA_sq, isP_none, isP_sq, isI_none, isI_sq, isB_none, isB_some, isS_none, isS_nx, isS_rt, isS_bk, isS_ct, ByB, Option.map_none, Option.map_some]; done) | (simp only [is_none, is_sq, isA_none, isA_sq, isP_none, isP_sq, isI_none, isI_sq, isB_none, isB_some, isS_none, isS_nx, isS_rt, isS_bk, isS_ct, ByB, Option.map_none, Option.map_some]; rfl)
@[simp] theorem s_ret {Q : W → Sto → Prop} : IsS (ex Φ (.ret e) env S) N Q = Is (ev Φ e env S) Q := by
  simp only [ex]
  cases ev Φ e env S with
  | none => first | rfl | (simp only [is_none, is_sq, isA_none, isA_sq, isP_none, isP_sq, isI_none, isI_sq, isB_none, isB_some, isS_none, isS_nx, isS_rt, isS_bk, isS_ct, ByB, Option.map_none, Option.map_some]; done) | (simp only [is_none, is_sq, isA_none, isA_sq, isP_none, isP_sq, isI_none, isI_sq, isB_none, isB_some, isS_none, isS_nx, isS_rt, isS_bk, isS_ct, ByB, Option.map_none, Option.map_some]; rfl)
  | some p => first | rfl | (simp only [is_none, is_sq, isA_none, isA_sq, isP_none, isP_sq, isI_none, isI_sq, isB_none, isB_some, isS_none, isS_nx, isS_rt, isS_bk, isS_ct, ByB, Option.map_none, Option.map_some]; done) | (simp only [is_none, is_sq, isA_none, isA_sq, isP_none, isP_sq, isI_none, isI_sq, isB_none, isB_some, isS_none, isS_nx, isS_rt, isS_bk, isS_ct, ByB, Option.map_none, Option.map_some]; rfl)
@[simp] theorem s_expr {Q : W → Sto → Prop} : IsS (ex Φ (.expr e) env S) N Q = Is (ev Φ e env S) fun _ S' => N env S' := by
  simp only [ex]
  cases ev Φ e env S with
  | none => first | rfl | (simp only [is_none, is_sq, isA_none, isA_sq, isP_none, isP_sq, isI_none, isI_sq, isB_none, isB_some, isS_none, isS_nx, isS_rt, isS_bk, isS_ct, ByB, Option.map_none, Option.map_some]; done) | (simp only [is_none, is_sq, isA_none, isA_sq, isP_none, isP_sq, isI_none, isI_sq, isB_none, isB_some, isS_none, isS_nx, isS_rt, isS_bk, isS_ct, ByB, Option.map_none, Option.map_some]; rfl)
  | some p => first | rfl | (simp only [is_none, is_sq, isA_none, isA_sq, isP_none, isP_sq, isI_none, isI_sq, isB_none, isB_some, isS_none, isS_nx, isS_rt, isS_bk, isS_ct, ByB, Option.map_none, Option.map_some]; done) | (simp only [is_none, is_sq, isA_none, isA_sq, isP_none, isP_sq, isI_none, isI_sq, isB_none, isB_some, isS_none, isS_nx, isS_rt, isS_bk, isS_ct, ByB, Option.map_none, Option.map_some]; rfl)
@[simp] theorem s_set {Q : W → Sto → Prop} {ts : List Nat} : IsS (ex Φ (.set ts e) env S) N Q = Is (ev Φ e env S) fun w S' => match bindT S' env ts w with | some env' => N env' S' | none => False := by
  simp only [ex]
  cases ev Φ e env S with
  | none => first | rfl | (simp only [is_none, is_sq, isA_none, isA_sq, isP_none, isP_sq, isI_none, isI_sq, isB_none, isB_some, isS_none, isS_nx, isS_rt, isS_bk, isS_ct, ByB, Option.map_none, Option.map_some]; done) | (simp only [is_none, is_sq, isA_none, isA_sq, isP_none, isP_sq, isI_none, isI_sq, isB_none, isB_some, isS_none, isS_nx, isS_rt, isS_bk, isS_ct, ByB, Option.map_none, Option.map_some]; rfl)
  | some p =>
    obtain ⟨w, S1⟩ := p
    simp only [is_some]
    cases bindT S1 env ts w <;> first | rfl | (simp only [is_none, is_sq, isA_none, isA_sq, isP_none, isP_sq, isI_none, isI_sq, isB_none, isB_some, isS_none, isS_nx, isS_rt, isS_bk, isS_ct, ByB, Option.map_none, Option.map_some]; done) | (simp only [is_none, is_sq, isA_none, isA_sq, isP_none, isP_sq, isI_none, isI_sq, isB_none, isB_some, isS_none, isS_nx, isS_rt, isS_bk, isS_ct, ByB, Option.map_none, Option.map_some]; rfl)
@[simp] theorem s_if {Q : W → Sto → Prop} {A B : CSs} : IsS (ex Φ (.ifs c A B) env S) N Q = Is (ev Φ c env S) fun x S1 => ByB x (IsS (exs Φ A env S1) N Q) (IsS (exs Φ B env S1) N Q) := by
  simp only [ex]
  cases ev Φ c env S with
  | none => first | rfl | (simp only [is_none, is_sq, isA_none, isA_sq, isP_none, isP_sq, isI_none, isI_sq, isB_none, isB_some, isS_none, isS_nx, isS_rt, isS_bk, isS_ct, ByB, Option.map_none, Option.map_some]; done) | (simp only [is_none, is_sq, isA_none, isA_sq, isP_none, isP_sq, isI_none, isI_sq, isB_none, isB_some, isS_none, isS_nx, isS_rt, isS_bk, isS_ct, ByB, Option.map_none, Option.map_some]; rfl)
  | some p =>
    obtain ⟨x, S1⟩ := p
    cases x with
    | bl k => cases k <;> first | rfl | (simp only [is_none, is_sq, isA_none, isA_sq, isP_none, isP_sq, isI_none, isI_sq, isB_none, isB_some, isS_none, isS_nx, isS_rt, isS_bk, isS_ct, ByB, Option.map_none, Option.map_some]; done) | (simp only [is_none, is_sq, isA_none, isA_sq, isP_none, isP_sq, isI_none, isI_sq, isB_none, isB_some, isS_none, isS_nx, isS_rt, isS_bk, isS_ct, ByB, Option.map_none, Option.map_some]; rfl)
    | _ => first | rfl | (simp only [is_none, is_sq, isA_none, isA_sq, isP_none, isP_sq, isI_none, isI_sq, isB_none, isB_some, isS_none, isS_nx, isS_rt, isS_bk, isS_ct, ByB, Option.map_none, Option.map_some]; done) | (simp only [is_none, is_sq, isA_none, isA_sq, isP_none, isP_sq, isI_none, isI_sq, isB_none, isB_some, isS_none, isS_nx, isS_rt, isS_bk, isS_ct, ByB, Option.map_none, Option.map_some]; rfl)
@[simp] theorem s_pass {Q : W → Sto → Prop} : IsS (ex Φ .pass env S) N Q = N env S := by simp only [ex]; first | rfl | (simp only [is_none, is_sq, isA_none, isA_sq, isP_none, isP_sq, isI_none, isI_sq, isB_none, isB_some, isS_none, isS_nx, isS_rt, isS_bk, isS_ct, ByB, Option.map_none, Option.map_some]; done) | (simp only [is_none, is_sq, isA_none, isA_sq, isP_none, isP_sq, isI_none, isI_sq, isB_none, isB_some, isS_none, isS_nx, isS_rt, isS_bk, isS_ct, ByB, Option.map_none, Option.map_some]; rfl)
@[simp] theorem s_setix {Q : W → Sto → Prop} {o i : CE} : IsS (ex Φ (.setix o i e) env S) N Q = Is (ev Φ e env S) fun w S1 => Is (ev Φ o env S1) fun x S2 => match x with
    | .ref k => Is (ev Φ i env S2) fun y S3 => match y with
      | .int j => match rdL S3 k with
        | some xs => match ixN xs.length j with
          | some n => N env (S3.set k (.lst (xs.set n w)))
          | none => False
        | none => False
      | _ => False
    | _ => False := by
  simp only [ex]
  cases ev Φ e env S with
  | none => first | rfl | (simp only [is_none, is_sq, isA_none, isA_sq, isP_none, isP_sq, isI_none, isI_sq, isB_none, isB_some, isS_none, isS_nx, isS_rt, isS_bk, isS_ct, ByB, Option.map_none, Option.map_some]; done) | (simp only [is_none, is_sq, isA_none, isA_sq, isP_none, isP_sq, isI_none, isI_sq, isB_none, isB_some, isS_none, isS_nx, isS_rt, isS_bk, isS_ct, ByB, Option.map_none, Option.map_some]; rfl)
  | some p =>
    obtain ⟨w, S1⟩ := p
    simp only [is_some]
    cases ev Φ o env S1 with
    | none => first | rfl | (simp only [is_none, is_sq, isA_none, isA_sq, isP_none, isP_sq, isI_none, isI_sq, isB_none, isB_some, isS_none, isS_nx, isS_rt, isS_bk, isS_ct, ByB, Option.map_none, Option.map_some]; done) | (simp only [is_none, is_sq, isA_none, isA_sq, isP_none, isP_sq, isI_none, isI_sq, isB_none, isB_some, isS_none, isS_nx, isS_rt, isS_bk, isS_ct, ByB, Option.map_none, Option.map_some]; rfl)
    | some q =>
      obtain ⟨x, S2⟩ := q
      cases x with
      | ref k =>
        simp only [is_some]
        cases ev Φ i env S2 with
        | none => first | rfl | (simp only [is_none, is_sq, isA_none, isA_sq, isP_none, isP_sq, isI_none, isI_sq, isB_none, isB_some, isS_none, isS_nx, isS_rt, isS_bk, isS_ct, ByB, Option.map_none, Option.map_some]; done) | (simp only [is_none, is_sq, isA_none, isA_sq, isP_none, isP_sq, isI_none, isI_sq, isB_none, isB_some, isS_none, isS_nx, isS_rt, isS_bk, isS_ct, ByB, Option.map_none, Option.map_some]; rfl)
        | some r =>
          obtain ⟨y, S3⟩ := r
          cases y with
          | int j =>
            simp only [is_some, rdM]
            cases rdL S3 k with
            | none => first | rfl | (simp only [is_none, is_sq, isA_none, isA_sq, isP_none, isP_sq, isI_none, isI_sq, isB_none, isB_some, isS_none, isS_nx, isS_rt, isS_bk, isS_ct, ByB, Option.map_none, Option.map_some]; done) | (simp only [is_none, is_sq, isA_none, isA_sq, isP_none, isP_sq, isI_none, isI_sq, isB_none, isB_some, isS_none, isS_nx, isS_rt, isS_bk, isS_ct, ByB, Option.map_none, Option.map_some]; rfl)
            | some xs =>
              simp only
              cases ixN xs.length j <;> first | rfl | (simp only [is_none, is_sq, isA_none, isA_sq, isP_none, isP_sq, isI_none, isI_sq, isB_none, isB_some, isS_none, isS_nx, isS_rt, isS_bk, isS_ct, ByB, Option.map_none, Option.map_some]; done) | (simp only [is_none, is_sq, isA_none, isA_sq, isP_none, isP_sq, isI_none, isI_sq, isB_none, isB_some, isS_none, isS_nx, isS_rt, isS_bk, isS_ct, ByB, Option.map_none, Option.map_some]; rfl)
          | _ => first | rfl | (simp only [is_none, is_sq, isA_none, isA_sq, isP_none, isP_sq, isI_none, isI_sq, isB_none, isB_some, isS_none, isS_nx, isS_rt, isS_bk, isS_ct, ByB, Option.map_none, Option.map_some]; done) | (simp only [is_none, is_sq, isA_none, isA_sq, isP_none, isP_sq, isI_none, isI_sq, isB_none, isB_some, isS_none, isS_nx, isS_rt, isS_bk, isS_ct, ByB, Option.map_none, Option.map_some]; rfl)
      | _ => first | rfl | (simp only [is_none, is_sq, isA_none, isA_sq, isP_none, isP_sq, isI_none, isI_sq, isB_none, isB_some, isS_none, isS_nx, isS_rt, isS_bk, isS_ct, ByB, Option.map_none, Option.map_some]; done) | (simp only [is_none, is_sq, isA_none, isA_sq, isP_none, isP_sq, isI_none, isI_sq, isB_none, isB_some, isS_none, isS_nx, isS_rt, isS_bk, isS_ct, ByB, Option.map_none, Option.map_some]; rfl)
@[simp] theorem s_app {Q : W → Sto → Prop} {o : CE} : IsS (ex Φ (.app o e) env S) N Q = Is (ev Φ o env S) fun x S1 => match x with
    | .ref k => Is (ev Φ e env S1) fun w S2 => match rdL S2 k with
      | some xs => xs.length < LIM ∧ N env (S2.set k (.lst (xs ++ [w])))
      | none => False
    | _ => False := by
  simp only [ex]
  cases ev Φ o env S with
  | none => first | rfl | (simp only [is_none, is_sq, isA_none, isA_sq, isP_none, isP_sq, isI_none, isI_sq, isB_none, isB_some, isS_none, isS_nx, isS_rt, isS_bk, isS_ct, ByB, Option.map_none, Option.map_some]; done) | (simp only [is_none, is_sq, isA_none, isA_sq, isP_none, isP_sq, isI_none, isI_sq, isB_none, isB_some, isS_none, isS_nx, isS_rt, isS_bk, isS_ct, ByB, Option.map_none, Option.map_some]; rfl)
  | some q =>
    obtain ⟨x, S2⟩ := q
    cases x with
    | ref k =>
      simp only [is_some]
      cases ev Φ e env S2 with
      | none => first | rfl | (simp only [is_none, is_sq, isA_none, isA_sq, isP_none, isP_sq, isI_none, isI_sq, isB_none, isB_some, isS_none, isS_nx, isS_rt, isS_bk, isS_ct, ByB, Option.map_none, Option.map_some]; done) | (simp only [is_none, is_sq, isA_none, isA_sq, isP_none, isP_sq, isI_none, isI_sq, isB_none, isB_some, isS_none, isS_nx, isS_rt, isS_bk, isS_ct, ByB, Option.map_none, Option.map_some]; rfl)
      | some r =>
        obtain ⟨y, S3⟩ := r
        simp only [is_some, rdM]
        cases rdL S3 k with
        | none => first | rfl | (simp only [is_none, is_sq, isA_none, isA_sq, isP_none, isP_sq, isI_none, isI_sq, isB_none, isB_some, isS_none, isS_nx, isS_rt, isS_bk, isS_ct, ByB, Option.map_none, Option.map_some]; done) | (simp only [is_none, is_sq, isA_none, isA_sq, isP_none, isP_sq, isI_none, isI_sq, isB_none, isB_some, isS_none, isS_nx, isS_rt, isS_bk, isS_ct, ByB, Option.map_none, Option.map_some]; rfl)
        | some xs =>
          simp only
          by_cases h : xs.length < LIM
          · simp only [h, if_true, true_and]; first | rfl | (simp only [is_none, is_sq, isA_none, isA_sq, isP_none, isP_sq, isI_none, isI_sq, isB_none, isB_some, isS_none, isS_nx, isS_rt, isS_bk, isS_ct, ByB, Option.map_none, Option.map_some]; done) | (simp only [is_none, is_sq, isA_none, isA_sq, isP_none, isP_sq, isI_none, isI_sq, isB_none, isB_some, isS_none, isS_nx, isS_rt, isS_bk, isS_ct, ByB, Option.map_none, Option.map_some]; rfl)
          · simp only [h, if_false, false_and]; first | rfl | (simp only [is_none, is_sq, isA_none, isA_sq, isP_none, isP_sq, isI_none, isI_sq, isB_none, isB_some, isS_none, isS_nx, isS_rt, isS_bk, isS_ct, ByB, Option.map_none, Option.map_some]; done) | (simp only [is_none, is_sq, isA_none, isA_sq, isP_none, isP_sq, isI_none, isI_sq, isB_none, isB_some, isS_none, isS_nx, isS_rt, isS_bk, isS_ct, ByB, Option.map_none, Option.map_some]; rfl)
    | _ => first | rfl | (simp only [is_none, is_sq, isA_none, isA_sq, isP_none, isP_sq, isI_none, isI_sq, isB_none, isB_some, isS_none, isS_nx, isS_rt, isS_bk, isS_ct, ByB, Option.map_none, Option.map_some]; done) | (simp only [is_none, is_sq, isA_none, isA_sq, isP_none, isP_sq, isI_none, isI_sq, isB_none, isB_some, isS_none, isS_nx, isS_rt, isS_bk, isS_ct, ByB, Option.map_none, Option.map_some]; rfl)
theorem seqW_ref (k : Nat) : seqW S (.ref k) = rdL S k := rfl
theorem seqW_tup (xs : List W) : seqW S (.tup xs) = some xs := rfl
@[simp] theorem s_ext {Q : W → Sto → Prop} {o : CE} : IsS (ex Φ (.ext o e) env S) N Q = Is (ev Φ o env S) fun x S1 => match x with
    | .ref k => Is (ev Φ e env S1) fun w S2 => match rdL S2 k, seqW S2 w with
        | some xs, some ys => xs.length + ys.length ≤ LIM ∧ N env (S2.set k (.lst (xs ++ ys)))
        | _, _ => False
    | _ => False := by
  simp only [ex]
  cases ev Φ o env S with
  | none => first | rfl | (simp only [is_none, is_sq, isA_none, isA_sq, isP_none, isP_sq, isI_none, isI_sq, isB_none, isB_some, isS_none, isS_nx, isS_rt, isS_bk, isS_ct, ByB, Option.map_none, Option.map_some]; done) | (simp only [is_none, is_sq, isA_none, isA_sq, isP_none, isP_sq, isI_none, isI_sq, isB_none, isB_some, isS_none, isS_nx, isS_rt, isS_bk, isS_ct, ByB, Option.map_none, Option.map_some]; rfl)
  | some q =>
    obtain ⟨x, S2⟩ := q
    cases x with
    | ref k =>
      simp only [is_some]
      cases ev Φ e env S2 with
      | none => first | rfl | (simp only [is_none, is_sq, isA_none, isA_sq, isP_none, isP_sq, isI_none, isI_sq, isB_none, isB_some, isS_none, isS_nx, isS_rt, isS_bk, isS_ct, ByB, Option.map_none, Option.map_some]; done) | (simp only [is_none, is_sq, isA_none, isA_sq, isP_none, isP_sq, isI_none, isI_sq, isB_none, isB_some, isS_none, isS_nx, isS_rt, isS_bk, isS_ct, ByB, Option.map_none, Option.map_some]; rfl)
      | some r =>
        obtain ⟨y, S3⟩ := r
        simp only [is_some, rdM]
        cases rdL S3 k with
        | none => first | rfl | (simp only [is_none, is_sq, isA_none, isA_sq, isP_none, isP_sq, isI_none, isI_sq, isB_none, isB_some, isS_none, isS_nx, isS_rt, isS_bk, isS_ct, ByB, Option.map_none, Option.map_some]; done) | (simp only [is_none, is_sq, isA_none, isA_sq, isP_none, isP_sq, isI_none, isI_sq, isB_none, isB_some, isS_none, isS_nx, isS_rt, isS_bk, isS_ct, ByB, Option.map_none, Option.map_some]; rfl)
        | some xs =>
          cases seqW S3 y with
          | none => first | rfl | (simp only [is_none, is_sq, isA_none, isA_sq, isP_none, isP_sq, isI_none, isI_sq, isB_none, isB_some, isS_none, isS_nx, isS_rt, isS_bk, isS_ct, ByB, Option.map_none, Option.map_some]; done) | (simp only [is_none, is_sq, isA_none, isA_sq, isP_none, isP_sq, isI_none, isI_sq, isB_none, isB_some, isS_none, isS_nx, isS_rt, isS_bk, isS_ct, ByB, Option.map_none, Option.map_some]; rfl)
          | some ys =>
            simp only
            by_cases h : xs.length + ys.length ≤ LIM
            · simp only [h, if_true, true_and]; first | rfl | (simp only [is_none, is_sq, isA_none, isA_sq, isP_none, isP_sq, isI_none, isI_sq, isB_none, isB_some, isS_none, isS_nx, isS_rt, isS_bk, isS_ct, ByB, Option.map_none, Option.map_some]; done) | (simp only [is_none, is_sq, isA_none, isA_sq, isP_none, isP_sq, isI_none, isI_sq, isB_none, isB_some, isS_none, isS_nx, isS_rt, isS_bk, isS_ct, ByB, Option.map_none, Option.map_some]; rfl)
            · simp only [h, if_false, false_and]; first | rfl | (simp only [is_none, is_sq, isA_none, isA_sq, isP_none, isP_sq, isI_none, isI_sq, isB_none, isB_some, isS_none, isS_nx, isS_rt, isS_bk, isS_ct, ByB, Option.map_none, Option.map_some]; done) | (simp only [is_none, is_sq, isA_none, isA_sq, isP_none, isP_sq, isI_none, isI_sq, isB_none, isB_some, isS_none, isS_nx, isS_rt, isS_bk, isS_ct, ByB, Option.map_none, Option.map_some]; rfl)
    | _ => first | rfl | (simp only [is_none, is_sq, isA_none, isA_sq, isP_none, isP_sq, isI_none, isI_sq, isB_none, isB_some, isS_none, isS_nx, isS_rt, isS_bk, isS_ct, ByB, Option.map_none, Option.map_some]; done) | (simp only [is_none, is_sq, isA_none, isA_sq, isP_none, isP_sq, isI_none, isI_sq, isB_none, isB_some, isS_none, isS_nx, isS_rt, isS_bk, isS_ct, ByB, Option.map_none, Option.map_some]; rfl)
end
/-! ### loops by what holds between their turns -/
theorem w_for {Φ : Fns} {env : Env} {S : Sto} {N : Env → Sto → Prop} {Q : W → Sto → Prop} {ts : List Nat} {s : CI} {b : CSs} {n : Nat} (Inv : Nat → Env → Sto → Prop)
    (h : IsI (evi Φ s env S) fun J S1 => J.len S1 = some n ∧ Inv 0 env S1 ∧ (∀ i env S, i < n → Inv i env S → ∃ x env', J.item S i = some x ∧ bindT S env ts x = some env' ∧ IsS (exs Φ b env' S) (Inv (i + 1)) Q) ∧ ∀ env S, Inv n env S → (∃ n', n' ≤ n ∧ J.len S = some n') ∧ N env S) :
    IsS (ex Φ (.for_ ts s b) env S) N Q := by
  rw [ex_for_eq]
  cases he : evi Φ s env S with
  | none => rw [he, isI_none] at h; exact h.elim
  | some p =>
    obtain ⟨J, S1⟩ := p
    rw [he, isI_some] at h
    obtain ⟨h1, h2, h3, h4⟩ := h
    simp only [h1]
    have go : ∀ m i env S, i + m = n → Inv i env S → IsS (forGo (turnF Φ ts b J) i m env S) (Inv n) Q := by
      intro m
      induction m with
      | zero =>
        intro i env S him hi
        have e : i = n := by omega
        subst e
        rw [forGo, isS_nx]
        exact hi
      | succ m ih =>
        intro i env S him hi
        obtain ⟨x, env', e1, e2, e3⟩ := h3 i env S (by omega) hi
        simp only [forGo, turnF, e1, e2]
        cases hr : exs Φ b env' S with
        | none => rw [hr, isS_none] at e3; exact e3.elim
        | some f =>
          rw [hr] at e3
          cases f with
          | nx env2 S2 => rw [isS_nx] at e3; exact ih (i + 1) env2 S2 (by omega) e3
          | rt w S2 => rw [isS_rt] at e3; simp only [isS_rt]; exact e3
          | bk _ _ => rw [isS_bk] at e3; exact e3.elim
          | ct _ _ => rw [isS_ct] at e3; exact e3.elim
    have r := go n 0 env S1 (by omega) h2
    revert r
    generalize forGo (turnF Φ ts b J) 0 n env S1 = q
    intro r
    cases q with
    | none => rw [isS_none] at r; exact r.elim
    | some f =>
      cases f with
      | nx env2 S2 =>
        rw [isS_nx] at r
        obtain ⟨⟨n', a1, a2⟩, a3⟩ := h4 env2 S2 r
        simp only [a2, a1, if_true, isS_nx]
        exact a3
      | rt w S2 => rw [isS_rt] at r; simp only [isS_rt]; exact r
      | bk _ _ => rw [isS_bk] at r; exact r.elim
      | ct _ _ => rw [isS_ct] at r; exact r.elim
theorem w_comp {Φ : Fns} {env : Env} {S : Sto} {P : W → Sto → Prop} {vs ts : List Nat} {s : CI} {t e : CE} {n : Nat} (hn : n ≤ LIM) (Inv : Nat → List W → Sto → Prop)
    (h : IsI (evi Φ s env S) fun J S1 => J.len S1 = some n ∧ Inv 0 [] S1 ∧ (∀ i acc S, i < n → Inv i acc S → ∃ x env', J.item S i = some x ∧ bindT S (wipe env vs) ts x = some env' ∧ Is (ev Φ t env' S) fun k S' => ByB k (Is (ev Φ e env' S') fun w S2 => Inv (i + 1) (acc ++ [w]) S2) (Inv (i + 1) acc S')) ∧
      ∀ acc S, acc.length ≤ n → Inv n acc S → (∃ n', n' ≤ n ∧ J.len S = some n') ∧ P (.ref S.length) (S ++ [.lst acc])) :
    Is (ev Φ (.comp vs ts s t e) env S) P := by
  rw [ev_comp_eq]
  cases he : evi Φ s env S with
  | none => rw [he, isI_none] at h; exact h.elim
  | some p =>
    obtain ⟨J, S1⟩ := p
    rw [he, isI_some] at h
    obtain ⟨h1, h2, h3, h4⟩ := h
    simp only [h1]
    have go : ∀ m i acc S, i + m = n → acc.length ≤ i → Inv i acc S → ∃ acc' S', compGo (turnC Φ vs ts t e env J) i m acc S = some (acc', S') ∧ acc'.length ≤ n ∧ Inv n acc' S' := by
      intro m
      induction m with
      | zero =>
        intro i acc S him hl hi
        have e : i = n := by omega
        subst e
        exact ⟨acc, S, rfl, hl, hi⟩
      | succ m ih =>
        intro i acc S him hl hi
        obtain ⟨x, env', e1, e2, e3⟩ := h3 i acc S (by omega) hi
        obtain ⟨k, S', e4, e5⟩ := Is.ex e3
        simp only [compGo, turnC, e1, e2, e4]
        cases k with
        | bl k =>
          cases k with
          | true =>
            rw [byB_true] at e5
            obtain ⟨w, S2, e6, e7⟩ := Is.ex e5
            simp only [e6]
            rw [if_pos (by omega)]
            exact ih (i + 1) _ S2 (by omega) (by rw [List.length_append, List.length_singleton]; omega) e7
          | false => exact ih (i + 1) _ S' (by omega) (by omega) e5
        | _ => exact e5.elim
    obtain ⟨acc', S', r1, r2, r3⟩ := go n 0 [] S1 (by omega) (by simp) h2
    obtain ⟨⟨n', a1, a2⟩, a3⟩ := h4 acc' S' r2 r3
    simp only [r1, a2, a1, if_true]
    rw [w_new]
    exact ⟨by omega, a3⟩
/-! ### calls -/
theorem w_while {Φ : Fns} {N : Env → Sto → Prop} {Q : W → Sto → Prop} {n : Nat} {t : CE} {b : CSs} (Inv : Nat → Env → Sto → Prop)
    (step : ∀ m env S, Inv m env S → Is (ev Φ t env S) fun x S1 => ByB x (∃ m', m = m' + 1 ∧ IsS (exs Φ b env S1) (Inv m') Q) (N env S1)) :
    ∀ (M : Nat) {env : Env} {S : Sto}, Inv M env S → M < n → IsS (ex Φ (.whl n t b) env S) N Q := by
  have go : ∀ (n M : Nat) (env : Env) (S : Sto), Inv M env S → M < n → IsS (whlGo (ev Φ t) (exs Φ b) n env S) N Q := by
    intro n
    induction n with
    | zero => intro M env S _ h; omega
    | succ n ih =>
      intro M env S h0 hM
      obtain ⟨x, S1, e1, h1⟩ := (step M env S h0).ex
      rw [whlGo, e1]
      cases x with
      | bl c =>
        cases c with
        | true =>
          obtain ⟨m', rfl, h2⟩ := h1
          obtain ⟨r, e2, h3⟩ := Wp.ex h2
          simp only [e2]
          cases r with
          | nx env' S' => exact ih m' env' S' h3 (by omega)
          | rt w S' => exact ⟨_, rfl, h3⟩
          | bk _ _ => exact h3.elim
          | ct _ _ => exact h3.elim
        | false => exact ⟨_, rfl, h1⟩
      | _ => exact h1.elim
  intro M env S h0 hM
  exact go n M env S h0 hM
theorem w_callF {ds : Nat → Option Def} {k f : Nat} {ws : List W} {S : Sto} {P : W → Sto → Prop} {d : Def} (hd : ds f = some d) (hn : ws.length = d.ar) (h : IsS (exs (callF ds k) d.body (start d.sl ws) S) (fun _ S' => P .non S') P) : Is (callF ds (k + 1) f ws S) P := by
  simp only [callF, hd, hn, if_true]
  revert h
  cases exs (callF ds k) d.body (start d.sl ws) S with
  | none => intro h; rw [isS_none] at h; exact h.elim
  | some f =>
    cases f with
    | nx env S2 => intro h; rw [isS_nx] at h; simp only [fin, is_some]; exact h
    | rt w S2 => intro h; rw [isS_rt] at h; simp only [fin, is_some]; exact h
    | bk _ _ => intro h; rw [isS_bk] at h; exact h.elim
    | ct _ _ => intro h; rw [isS_ct] at h; exact h.elim

/-! ### the store -/
/-- all that stood in the store stands -/
def Kp (S S' : Sto) : Prop := S.length ≤ S'.length ∧ ∀ k, k < S.length → S'[k]? = S[k]?
theorem Kp.refl (S : Sto) : Kp S S := ⟨Nat.le_refl _, fun _ _ => rfl⟩
theorem Kp.trans {S S1 S2 : Sto} (a : Kp S S1) (b : Kp S1 S2) : Kp S S2 := ⟨Nat.le_trans a.1 b.1, fun k h => (b.2 k (Nat.lt_of_lt_of_le h a.1)).trans (a.2 k h)⟩
theorem Kp.app (S T : Sto) : Kp S (S ++ T) := ⟨by rw [List.length_append]; omega, fun k h => List.getElem?_append_left h⟩
theorem Kp.get {S S' : Sto} (h : Kp S S') {k : Nat} {o : SO} (e : S[k]? = some o) : S'[k]? = some o := (h.2 k (List.getElem?_eq_some_iff.mp e).1).trans e
theorem Kp.snoc {S S' : Sto} (h : Kp S S') (o : SO) : Kp S (S' ++ [o]) := h.trans (.app _ _)
@[simp] theorem rdL_new (S : Sto) (xs : List W) : rdL (S ++ [.lst xs]) S.length = some xs := by
  unfold rdL
  rw [List.getElem?_append_right (Nat.le_refl _), Nat.sub_self]
  rfl
theorem rdL_of {S : Sto} {k : Nat} {xs : List W} (h : S[k]? = some (.lst xs)) : rdL S k = some xs := by
  unfold rdL
  rw [h]
theorem rdL_iff {S : Sto} {k : Nat} {xs : List W} : rdL S k = some xs ↔ S[k]? = some (.lst xs) := by
  constructor
  · intro h
    unfold rdL at h
    split at h
    · rename_i e
      cases h
      exact e
    · cases h
  · exact rdL_of
end MP
namespace MP
/-! ### what a source has -/
def Src.items (S : Sto) : Src → Option (List W)
  | .rng lo n => some ((List.range n).map fun i => .int (lo + (i : Nat)))
  | .seq (.tup xs) => some xs
  | .seq (.str xs) => some (xs.map fun c => .str [c])
  | .seq (.ref k) => rdL S k
  | .seq _ => none
theorem items_len {J : Src} {S : Sto} {its : List W} (h : J.items S = some its) : J.len S = some its.length := by
  cases J with
  | rng lo n => simp only [Src.items] at h; cases h; simp [Src.len]
  | seq w => cases w <;> simp only [Src.items] at h <;> first | (cases h; simp [Src.len]; done) | (simp [Src.len, h]; done) | cases h
theorem items_at {J : Src} {S : Sto} {its : List W} (h : J.items S = some its) (i : Nat) : J.item S i = its[i]? := by
  cases J with
  | rng lo n =>
    simp only [Src.items] at h
    cases h
    simp only [Src.item]
    by_cases hi : i < n
    · simp [hi]
    · simp [hi]
  | seq w => cases w <;> simp only [Src.items] at h <;> first | (cases h; simp [Src.item]; done) | (simp [Src.item, h]; done) | cases h
/-- a comprehension whose turns leave the store as it is -/
theorem w_compP {Φ : Fns} {env : Env} {S : Sto} {P : W → Sto → Prop} {vs ts : List Nat} {s : CI} {t e : CE} (its : List W) (p : W → Bool) (f : W → W) (hl : its.length ≤ LIM)
    (h : IsI (evi Φ s env S) fun J S1 => J.items S1 = some its ∧ (∀ x ∈ its, ∃ env', bindT S1 (wipe env vs) ts x = some env' ∧ Is (ev Φ t env' S1) fun k S' => k = .bl (p x) ∧ S' = S1 ∧ (p x = true → Is (ev Φ e env' S1) fun w S2 => w = f x ∧ S2 = S1)) ∧
      P (.ref S1.length) (S1 ++ [.lst ((its.filter p).map f)])) : Is (ev Φ (.comp vs ts s t e) env S) P := by
  cases he : evi Φ s env S with
  | none => rw [he, isI_none] at h; exact h.elim
  | some q =>
    obtain ⟨J, S1⟩ := q
    rw [he, isI_some] at h
    obtain ⟨h1, h2, h3⟩ := h
    refine w_comp (n := its.length) hl (fun i acc S' => acc = ((its.take i).filter p).map f ∧ S' = S1) ?_
    rw [he, isI_some]
    refine ⟨items_len h1, ⟨by simp, rfl⟩, fun i acc S' hi hI => ?_, fun acc S' _ hI => ?_⟩
    · obtain ⟨rfl, rfl⟩ := hI
      have hx : its[i]? = some its[i] := List.getElem?_eq_getElem hi
      obtain ⟨env', b1, b2⟩ := h2 its[i] (List.getElem_mem hi)
      refine ⟨its[i], env', by rw [items_at h1, hx], b1, b2.imp fun k S2 hk => ?_⟩
      obtain ⟨rfl, rfl, h5⟩ := hk
      have ht : its.take (i + 1) = its.take i ++ [its[i]] := by rw [List.take_add_one, hx]; rfl
      cases hp : p its[i] with
      | true =>
        rw [byB_true]
        refine (h5 hp).imp fun w S3 hw => ?_
        obtain ⟨rfl, rfl⟩ := hw
        refine ⟨?_, rfl⟩
        rw [ht, List.filter_append, List.map_append]
        simp [hp]
      | false =>
        rw [byB_false]
        refine ⟨?_, rfl⟩
        rw [ht, List.filter_append, List.map_append]
        simp [hp]
    · obtain ⟨rfl, rfl⟩ := hI
      rw [List.take_length]
      exact ⟨⟨_, Nat.le_refl _, items_len h1⟩, h3⟩
end MP
namespace MP
section
variable {S : Sto} {P : W → Sto → Prop} {Q : Bool → Prop} {i j : Int} {x y : List Nat} {a b : Bool} {u v : List W} {k l : Nat} {w : W}
theorem isI_ite (c : Prop) [Decidable c] (r : W × Sto) : Is (if c then some r else none) P = (c ∧ P r.1 r.2) := by
  by_cases h : c
  · simp only [h, if_true, true_and]; first | rfl | (simp only [is_none, is_sq, isB_none, isB_some, Option.map_none, Option.map_some]; done) | (simp only [is_none, is_sq, isB_none, isB_some, Option.map_none, Option.map_some]; rfl)
  · simp only [h, if_false, false_and]; first | rfl | (simp only [is_none, is_sq, isB_none, isB_some, Option.map_none, Option.map_some]; done) | (simp only [is_none, is_sq, isB_none, isB_some, Option.map_none, Option.map_some]; rfl)
theorem o_addI : Is (opB .add (.int i) (.int j) S) P = P (.int (i + j)) S := is_some _ _ _
theorem o_addS : Is (opB .add (.str x) (.str y) S) P = (x.length + y.length ≤ LIM ∧ P (.str (x ++ y)) S) := by simp only [opB]; exact isI_ite _ _
theorem o_addT : Is (opB .add (.tup u) (.tup v) S) P = (u.length + v.length ≤ LIM ∧ P (.tup (u ++ v)) S) := by simp only [opB]; exact isI_ite _ _
theorem o_addL : Is (opB .add (.ref k) (.ref l) S) P = match rdL S k, rdL S l with | some u, some v => (u ++ v).length ≤ LIM ∧ P (.ref S.length) (S ++ [.lst (u ++ v)]) | _, _ => False := by
  simp only [opB, rdM]
  cases rdL S k with
  | none => first | rfl | (simp only [is_none, is_sq, isB_none, isB_some, Option.map_none, Option.map_some]; done) | (simp only [is_none, is_sq, isB_none, isB_some, Option.map_none, Option.map_some]; rfl)
  | some u =>
    cases rdL S l with
    | none => first | rfl | (simp only [is_none, is_sq, isB_none, isB_some, Option.map_none, Option.map_some]; done) | (simp only [is_none, is_sq, isB_none, isB_some, Option.map_none, Option.map_some]; rfl)
    | some v => exact w_new _
theorem o_sub : Is (opB .sub (.int i) (.int j) S) P = P (.int (i - j)) S := is_some _ _ _
theorem o_mulI : Is (opB .mul (.int i) (.int j) S) P = (((-(2 ^ 64) < i ∧ i < 2 ^ 64) ∨ (-(2 ^ 64) < j ∧ j < 2 ^ 64)) ∧ P (.int (i * j)) S) := by simp only [opB]; exact isI_ite _ _
theorem o_mulS : Is (opB .mul (.str x) (.int j) S) P = ((j ≤ 1000000 ∧ -1000000 ≤ j ∧ x.length * j.toNat ≤ LIM) ∧ P (.str (List.replicate j.toNat x).flatten) S) := by simp only [opB]; exact isI_ite _ _
theorem o_mulL : Is (opB .mul (.ref k) (.int j) S) P = match rdL S k with | some x => (j ≤ 1000000 ∧ -1000000 ≤ j ∧ x.length * j.toNat ≤ LIM) ∧ (List.replicate j.toNat x).flatten.length ≤ LIM ∧ P (.ref S.length) (S ++ [.lst (List.replicate j.toNat x).flatten]) | none => False := by
  simp only [opB, rdM]
  cases rdL S k with
  | none => first | rfl | (simp only [is_none, is_sq, isB_none, isB_some, Option.map_none, Option.map_some]; done) | (simp only [is_none, is_sq, isB_none, isB_some, Option.map_none, Option.map_some]; rfl)
  | some u =>
    simp only
    by_cases h : j ≤ 1000000 ∧ -1000000 ≤ j ∧ u.length * j.toNat ≤ LIM
    · rw [if_pos h, w_new]
      simp only [h, true_and, and_self]
    · rw [if_neg h]
      simp only [eq_false h, false_and]
      first | rfl | (simp only [is_none, is_sq, isB_none, isB_some, Option.map_none, Option.map_some]; done) | (simp only [is_none, is_sq, isB_none, isB_some, Option.map_none, Option.map_some]; rfl)
theorem o_fdiv : Is (opB .fdiv (.int i) (.int j) S) P = ((0 < j ∧ j < 1073741824) ∧ P (.int (i / j)) S) := by simp only [opB]; exact isI_ite _ _
theorem o_mod : Is (opB .mod (.int i) (.int j) S) P = (0 < j ∧ P (.int (i % j)) S) := by simp only [opB]; exact isI_ite _ _
theorem o_pow : Is (opB .pow (.int i) (.int j) S) P = ((0 ≤ j ∧ j ≤ 1000000 ∧ i.natAbs < 2 ^ 64) ∧ P (.int (i ^ j.toNat)) S) := by simp only [opB]; exact isI_ite _ _
theorem c_ltI : IsB (opC .lt (.int i) (.int j) S) Q = Q (decide (i < j)) := isB_some _ _
theorem c_ltS : IsB (opC .lt (.str x) (.str y) S) Q = Q (decide (x < y)) := isB_some _ _
theorem c_leS : IsB (opC .le (.str x) (.str y) S) Q = Q (!decide (y < x)) := isB_some _ _
theorem c_le : IsB (opC .le (.int i) (.int j) S) Q = Q (decide (i ≤ j)) := isB_some _ _
theorem c_gt : IsB (opC .gt (.int i) (.int j) S) Q = Q (decide (j < i)) := isB_some _ _
theorem c_ge : IsB (opC .ge (.int i) (.int j) S) Q = Q (decide (j ≤ i)) := isB_some _ _
theorem c_eq (x y : W) : IsB (opC .eq x y S) Q = IsB (eqW S x y) Q := rfl
theorem c_ne (x y : W) : IsB (opC .ne x y S) Q = IsB (eqW S x y) fun k => Q (!k) := by
  simp only [opC]
  cases eqW S x y <;> first | rfl | (simp only [is_none, is_sq, isB_none, isB_some, Option.map_none, Option.map_some]; done) | (simp only [is_none, is_sq, isB_none, isB_some, Option.map_none, Option.map_some]; rfl)
theorem e_ii : eqW S (.int i) (.int j) = some (decide (i = j)) := rfl
theorem e_ss : eqW S (.str x) (.str y) = some (decide (x = y)) := rfl
theorem e_bb : eqW S (.bl a) (.bl b) = some (decide (a = b)) := rfl
theorem c_inS (c : Nat) : IsB (opC .isIn (.str [c]) (.str x) S) Q = Q (decide (c ∈ x)) := isB_some _ _
theorem c_notS (c : Nat) : IsB (opC .notIn (.str [c]) (.str x) S) Q = Q (!decide (c ∈ x)) := isB_some _ _
theorem i_str : Is (opIx (.str x) (.int i) S) P = (x.length ≤ LIM ∧ match atI x i with | some c => P (.str [c]) S | none => False) := by
  simp only [opIx]
  by_cases h : x.length ≤ LIM
  · simp only [h, if_true, true_and]
    cases atI x i <;> first | rfl | (simp only [is_none, is_sq, isB_none, isB_some, Option.map_none, Option.map_some]; done) | (simp only [is_none, is_sq, isB_none, isB_some, Option.map_none, Option.map_some]; rfl)
  · simp only [h, if_false, false_and]
    first | rfl | (simp only [is_none, is_sq, isB_none, isB_some, Option.map_none, Option.map_some]; done) | (simp only [is_none, is_sq, isB_none, isB_some, Option.map_none, Option.map_some]; rfl)
theorem i_tup : Is (opIx (.tup u) (.int i) S) P = match atI u i with | some c => P c S | none => False := by
  simp only [opIx]
  cases atI u i <;> first | rfl | (simp only [is_none, is_sq, isB_none, isB_some, Option.map_none, Option.map_some]; done) | (simp only [is_none, is_sq, isB_none, isB_some, Option.map_none, Option.map_some]; rfl)
theorem i_ref : Is (opIx (.ref k) (.int i) S) P = match rdL S k with | some u => (match atI u i with | some c => P c S | none => False) | none => False := by
  simp only [opIx]
  cases rdL S k with
  | none => first | rfl | (simp only [is_none, is_sq, isB_none, isB_some, Option.map_none, Option.map_some]; done) | (simp only [is_none, is_sq, isB_none, isB_some, Option.map_none, Option.map_some]; rfl)
  | some u =>
    simp only
    cases atI u i <;> first | rfl | (simp only [is_none, is_sq, isB_none, isB_some, Option.map_none, Option.map_some]; done) | (simp only [is_none, is_sq, isB_none, isB_some, Option.map_none, Option.map_some]; rfl)
theorem atI_lit {α : Type} (xs : List α) (n : Nat) : atI xs (n : Int) = xs[n]? := by
  unfold atI ixN
  rw [if_pos (by omega)]
  by_cases h : n < xs.length
  · rw [if_pos (by omega)]
    simp
  · rw [if_neg (by omega), List.getElem?_eq_none (by omega)]
    first | rfl | (simp only [is_none, is_sq, isB_none, isB_some, Option.map_none, Option.map_some]; done) | (simp only [is_none, is_sq, isB_none, isB_some, Option.map_none, Option.map_some]; rfl)
theorem atI_0 {α : Type} (xs : List α) : atI xs 0 = xs[0]? := atI_lit xs 0
theorem atI_1 {α : Type} (xs : List α) : atI xs 1 = xs[1]? := atI_lit xs 1
theorem atI_2 {α : Type} (xs : List α) : atI xs 2 = xs[2]? := atI_lit xs 2
theorem atI_3 {α : Type} (xs : List α) : atI xs 3 = xs[3]? := atI_lit xs 3
theorem atI_nn {α : Type} (xs : List α) (h : 0 ≤ i) : atI xs i = xs[i.toNat]? := by
  obtain ⟨n, rfl⟩ : ∃ n : Nat, i = (n : Int) := ⟨i.toNat, by omega⟩
  rw [atI_lit]
  simp
theorem ixN_nn {n : Nat} (h : 0 ≤ i) (h2 : i < n) : ixN n i = some i.toNat := by
  unfold ixN
  rw [if_pos h, if_pos h2]
theorem ixN_0 {n : Nat} : ixN (n + 1) 0 = some 0 := ixN_nn (by omega) (by omega)
theorem ixN_1 {n : Nat} : ixN (n + 1 + 1) 1 = some 1 := ixN_nn (by omega) (by omega)
variable {lo hi : Option Int}
theorem l_str : Is (opSl (.str x) lo hi S) P = (x.length ≤ LIM ∧ P (.str (cut x lo hi)) S) := by simp only [opSl]; exact isI_ite _ _
theorem l_tup : Is (opSl (.tup u) lo hi S) P = P (.tup (cut u lo hi)) S := is_some _ _ _
theorem l_rol : Is (opSl (.rol u) lo hi S) P = ((cut u lo hi).length ≤ LIM ∧ P (.ref S.length) (S ++ [.lst (cut u lo hi)])) := by simp only [opSl]; exact w_new _
theorem l_ref : Is (opSl (.ref k) lo hi S) P = match rdL S k with | some u => (cut u lo hi).length ≤ LIM ∧ P (.ref S.length) (S ++ [.lst (cut u lo hi)]) | none => False := by
  simp only [opSl]
  cases rdL S k with
  | none => first | rfl | (simp only [is_none, is_sq, isB_none, isB_some, Option.map_none, Option.map_some]; done) | (simp only [is_none, is_sq, isB_none, isB_some, Option.map_none, Option.map_some]; rfl)
  | some u => exact w_new _
theorem b_lenS : Is (opI .len [.str x] S) P = (x.length ≤ LIM ∧ P (.int x.length) S) := by simp only [opI]; exact isI_ite _ _
theorem b_lenT : Is (opI .len [.tup u] S) P = P (.int u.length) S := is_some _ _ _
theorem b_lenR : Is (opI .len [.ref k] S) P = match rdL S k with | some u => P (.int u.length) S | none => False := by
  simp only [opI]
  cases rdL S k <;> first | rfl | (simp only [is_none, is_sq, isB_none, isB_some, Option.map_none, Option.map_some]; done) | (simp only [is_none, is_sq, isB_none, isB_some, Option.map_none, Option.map_some]; rfl)
theorem b_abs : Is (opI .abs [.int i] S) P = P (.int (if i < 0 then -i else i)) S := is_some _ _ _
theorem b_tupR : Is (opI .tuple [.ref k] S) P = match rdL S k with | some u => P (.tup u) S | none => False := by
  simp only [opI]
  cases rdL S k <;> first | rfl | (simp only [is_none, is_sq, isB_none, isB_some, Option.map_none, Option.map_some]; done) | (simp only [is_none, is_sq, isB_none, isB_some, Option.map_none, Option.map_some]; rfl)
theorem b_tupT : Is (opI .tuple [.tup u] S) P = P (.tup u) S := is_some _ _ _
theorem b_listR : Is (opI .list [.ref k] S) P = match rdL S k with | some u => u.length ≤ LIM ∧ P (.ref S.length) (S ++ [.lst u]) | none => False := by
  simp only [opI]
  cases rdL S k with
  | none => first | rfl | (simp only [is_none, is_sq, isB_none, isB_some, Option.map_none, Option.map_some]; done) | (simp only [is_none, is_sq, isB_none, isB_some, Option.map_none, Option.map_some]; rfl)
  | some u => exact w_new _
theorem b_listT : Is (opI .list [.tup u] S) P = (u.length ≤ LIM ∧ P (.ref S.length) (S ++ [.lst u])) := by simp only [opI]; exact w_new _
theorem b_all : Is (opI .all [.ref k] S) P = match rdL S k with | some u => (match bls u with | some bs => P (.bl (bs.all id)) S | none => False) | none => False := by
  simp only [opI]
  cases rdL S k with
  | none => first | rfl | (simp only [is_none, is_sq, isB_none, isB_some, Option.map_none, Option.map_some]; done) | (simp only [is_none, is_sq, isB_none, isB_some, Option.map_none, Option.map_some]; rfl)
  | some u =>
    simp only
    cases bls u <;> first | rfl | (simp only [is_none, is_sq, isB_none, isB_some, Option.map_none, Option.map_some]; done) | (simp only [is_none, is_sq, isB_none, isB_some, Option.map_none, Option.map_some]; rfl)
theorem b_any : Is (opI .any [.ref k] S) P = match rdL S k with | some u => (match bls u with | some bs => P (.bl (bs.any id)) S | none => False) | none => False := by
  simp only [opI]
  cases rdL S k with
  | none => first | rfl | (simp only [is_none, is_sq, isB_none, isB_some, Option.map_none, Option.map_some]; done) | (simp only [is_none, is_sq, isB_none, isB_some, Option.map_none, Option.map_some]; rfl)
  | some u =>
    simp only
    cases bls u <;> first | rfl | (simp only [is_none, is_sq, isB_none, isB_some, Option.map_none, Option.map_some]; done) | (simp only [is_none, is_sq, isB_none, isB_some, Option.map_none, Option.map_some]; rfl)
theorem b_intI : Is (opI .int [.int i] S) P = P (.int i) S := is_some _ _ _
theorem b_intB : Is (opI .int [.bl a] S) P = P (.int (if a then 1 else 0)) S := is_some _ _ _
theorem b_isiN (t : Nat) : Is (opI (.isi t) [.non] S) P = P (.bl (isT t .non)) S := is_some _ _ _
theorem b_isiB (t : Nat) (a : Bool) : Is (opI (.isi t) [(.bl a)] S) P = P (.bl (isT t (.bl a))) S := is_some _ _ _
theorem b_isiI (t : Nat) (i : Int) : Is (opI (.isi t) [(.int i)] S) P = P (.bl (isT t (.int i))) S := is_some _ _ _
theorem b_isiS (t : Nat) (x : List Nat) : Is (opI (.isi t) [(.str x)] S) P = P (.bl (isT t (.str x))) S := is_some _ _ _
theorem b_isiT (t : Nat) (u : List W) : Is (opI (.isi t) [(.tup u)] S) P = P (.bl (isT t (.tup u))) S := is_some _ _ _
theorem b_isiR (t : Nat) (k : Nat) : Is (opI (.isi t) [(.ref k)] S) P = P (.bl (isT t (.ref k))) S := is_some _ _ _
theorem b_isiL (t : Nat) (u : List W) : Is (opI (.isi t) [(.rol u)] S) P = P (.bl (isT t (.rol u))) S := is_some _ _ _
theorem b_isi (t : Nat) (h : isFn w = false) : Is (opI (.isi t) [w] S) P = P (.bl (isT t w)) S := by
  cases w <;> first | exact is_some _ _ _ | cases h
theorem b_isN : Is (opI .isN [w] S) P = P (.bl (isNon w)) S := is_some _ _ _
theorem b_notN : Is (opI .notN [w] S) P = P (.bl (!isNon w)) S := is_some _ _ _
theorem b_iaddI : Is (opI .iadd [.int i, .int j] S) P = P (.int (i + j)) S := is_some _ _ _
theorem b_iaddS : Is (opI .iadd [.str x, .str y] S) P = (x.length + y.length ≤ LIM ∧ P (.str (x ++ y)) S) := by simp only [opI]; exact isI_ite _ _
theorem b_isub : Is (opI .isub [.int i, .int j] S) P = P (.int (i - j)) S := is_some _ _ _
theorem b_neg : Is (opI .neg [.int i] S) P = P (.int (-i)) S := is_some _ _ _
theorem b_rev : Is (opI .rev [.ref k] S) P = match rdL S k with | some u => u.reverse.length ≤ LIM ∧ P (.ref S.length) (S ++ [.lst u.reverse]) | none => False := by
  simp only [opI]
  cases rdL S k with
  | none => first | rfl | (simp only [is_none, is_sq, isB_none, isB_some, Option.map_none, Option.map_some]; done) | (simp only [is_none, is_sq, isB_none, isB_some, Option.map_none, Option.map_some]; rfl)
  | some u => exact w_new _
theorem b_join : Is (opI .join [.str x, .ref k] S) P = match rdL S k with | some u => (match txts u with | some ys => lens ys + ys.length * x.length ≤ LIM ∧ P (.str (joinL x ys)) S | none => False) | none => False := by
  simp only [opI]
  cases rdL S k with
  | none => first | rfl | (simp only [is_none, is_sq, isB_none, isB_some, Option.map_none, Option.map_some]; done) | (simp only [is_none, is_sq, isB_none, isB_some, Option.map_none, Option.map_some]; rfl)
  | some u =>
    simp only
    cases txts u with
    | none => first | rfl | (simp only [is_none, is_sq, isB_none, isB_some, Option.map_none, Option.map_some]; done) | (simp only [is_none, is_sq, isB_none, isB_some, Option.map_none, Option.map_some]; rfl)
    | some ys => exact isI_ite _ _
theorem t_str : isT 0 (.str x) = true := rfl
theorem joinL_nil : ∀ ys : List (List Nat), joinL [] ys = ys.flatten
  | [] => rfl
  | [x] => by simp [joinL]
  | x :: y :: r => by
    rw [joinL, joinL_nil (y :: r)]
    simp
    intro h
    cases h
theorem txts_map (ys : List (List Nat)) : txts (ys.map .str) = some ys := by
  induction ys with
  | nil => rfl
  | cons y r ih => simp [txts, ih]
theorem bls_map (bs : List Bool) : bls (bs.map .bl) = some bs := by
  induction bs with
  | nil => rfl
  | cons y r ih => simp [bls, ih]
theorem lens_sum (ys : List (List Nat)) : lens ys = ys.flatten.length := by
  induction ys with
  | nil => rfl
  | cons y r ih => simp [lens, ih]
theorem rng_small {j : Int} (h1 : -1000000000 ≤ j) (h2 : j ≤ 1000000000) : rngOk j = true := decide_eq_true (by omega)
theorem flat_ones (x : List Nat) : (x.map fun c => [c]).flatten = x := by
  induction x with
  | nil => rfl
  | cons a r ih => simp [ih]
theorem ones_str (x : List Nat) : (x.map fun c => W.str [c]) = (x.map fun c => [c]).map W.str := by rw [List.map_map]; rfl
/-! == of a list of texts and an empty list -/
theorem dats_len {f : W → Option D} : ∀ {ws : List W} {ds : List D}, dats f ws = some ds → ds.length = ws.length
  | [], ds, h => by cases h; rfl
  | w :: ws, ds, h => by
    unfold dats at h
    split at h
    · rename_i d ds' h1 h2
      cases h
      rw [List.length_cons, List.length_cons, dats_len h2]
    · cases h
theorem eqvs_nil (ds : List D) : D.eqvs ds [] = ds.isEmpty := by cases ds <;> simp [D.eqvs]
theorem eqW_nil {S : Sto} {a b : Nat} {ws : List W} {ds : List D} (ha : rdL S a = some ws) (hd : dats (dat S 59) ws = some ds) (hb : rdL S b = some []) : eqW S (.ref a) (.ref b) = some ws.isEmpty := by
  have e1 : dat S 60 (.ref a) = some (.lst ds) := by simp only [dat, ha, hd]; rfl
  have e2 : dat S 60 (.ref b) = some (.lst []) := by simp only [dat, hb, dats]; rfl
  simp only [eqW, e1, e2, D.eqv, eqvs_nil]
  have := dats_len hd
  cases ds <;> cases ws <;> simp_all
theorem dats_strs {S : Sto} {n : Nat} : ∀ (ys : List (List Nat)), (∀ y ∈ ys, ∀ c ∈ y, c < 1114112) → ∃ ds, dats (dat S n) (ys.map .str) = some ds
  | [], _ => ⟨[], rfl⟩
  | y :: r, h => by
    obtain ⟨ds, e⟩ := dats_strs (S := S) (n := n) r fun z hz => h z (List.mem_cons_of_mem _ hz)
    have q : dat S n (.str y) = some (.str y) := by
      have : (y.all fun c => decide (c < 1114112)) = true := List.all_eq_true.mpr fun c hc => decide_eq_true (h y List.mem_cons_self c hc)
      cases n <;> simp only [dat, this, if_true]
    exact ⟨.str y :: ds, by simp only [List.map_cons, dats, q, e]⟩
/-! the store behind a step -/
theorem rdL_app {xs : List W} {o : SO} (h : rdL S k = some xs) : rdL (S ++ [o]) k = some xs := by
  rw [rdL_iff] at *
  rw [List.getElem?_append_left (List.getElem?_eq_some_iff.mp h).1]
  exact h
theorem rdL_set_same {xs ys : List W} (h : rdL S k = some xs) : rdL (S.set k (.lst ys)) k = some ys := by
  rw [rdL_iff] at *
  rw [List.getElem?_set_self (List.getElem?_eq_some_iff.mp h).1]
theorem rdL_set_ne {o : SO} (h : k ≠ l) : rdL (S.set k o) l = rdL S l := by
  unfold rdL
  rw [List.getElem?_set_ne h]
end
end MP
namespace Pg
open MP
/-- forms_within: 0 form, 1 parts, 2 forms, 3 part -/
def b_forms_within : CSs := (.cons (.set [2] (.lst (.cons (.var 0) .nil))) (.cons (.for_ [3] (.val (.callv 20 [112, 97, 114, 116, 115, 95, 111, 102] 1 (.cons (.var 0) .nil))) (.cons (.ext (.var 2) (.call 560 (.cons (.var 3) (.cons (.var 1) .nil)))) .nil)) (.cons (.ret (.var 2)) .nil)))
/-- parts_of: 0 form, 1 kind -/
def b_parts_of : CSs := (.cons (.set [1] (.ix (.var 0) (.c (.int 0)))) (.cons (.ifs (.cmp .eq (.var 1) (.c (.str [115, 105, 103, 110]))) (.cons (.ret (.tup .nil)) .nil) .nil) (.cons (.ifs (.cmp .eq (.var 1) (.c (.str [115, 111, 109, 101]))) (.cons (.ret (.tup (.cons (.ix (.var 0) (.c (.int 3))) .nil))) .nil) .nil) (.cons (.ifs (.cmp .eq (.var 1) (.c (.str [109, 97, 114, 107]))) (.cons (.ret (.tup (.cons (.ix (.var 0) (.c (.int 2))) .nil))) .nil) .nil) (.cons (.ret (.ix (.var 0) (.c (.int 1)))) .nil)))))
/-- forms_of: 0 pattern -/
def b_forms_of : CSs := (.cons (.ret (.call 560 (.cons (.var 0) (.cons (.c (.fn [112, 97, 114, 116, 115, 95, 111, 102])) .nil)))) .nil)
/-- names_of: 0 pattern, 1 form -/
def b_names_of : CSs := (.cons (.ret (.bi .tuple (.cons (.bi .sset (.cons (.comp [1] [1] (.val (.call 35 (.cons (.var 0) .nil))) (.cmp .eq (.ix (.var 1) (.c (.int 0))) (.c (.str [109, 97, 114, 107]))) (.ix (.var 1) (.c (.int 1)))) .nil)) .nil))) .nil)
/-- stretches: 0 pattern, 1 way, 2 kind, 3 inner -/
def b_stretches : CSs := (.cons (.set [2] (.ix (.var 0) (.c (.int 0)))) (.cons (.ifs (.cmp .eq (.var 2) (.c (.str [114, 111, 119]))) (.cons (.ret (.bi .zip (.cons (.ix (.var 0) (.c (.int 1))) (.cons (.var 1) .nil)))) .nil) .nil) (.cons (.ifs (.cmp .eq (.var 2) (.c (.str [97, 110, 121]))) (.cons (.ret (.lst (.cons (.tup (.cons (.ix (.ix (.var 0) (.c (.int 1))) (.ix (.var 1) (.c (.int 0)))) (.cons (.ix (.var 1) (.c (.int 1))) .nil))) .nil))) .nil) .nil) (.cons (.ifs (.cmp .eq (.var 2) (.c (.str [115, 111, 109, 101]))) (.cons (.ret (.comp [3] [3] (.val (.var 1)) (.c (.bl true)) (.tup (.cons (.ix (.var 0) (.c (.int 3))) (.cons (.var 3) .nil))))) .nil) .nil) (.cons (.ret (.lst (.cons (.tup (.cons (.ix (.var 0) (.c (.int 2))) (.cons (.var 1) .nil))) .nil))) .nil)))))
/-- pieces_of: 0 pattern, 1 way, 2 at, 3 found -/
def b_pieces_of : CSs := (.cons (.set [3] (.lst .nil)) (.cons (.expr (.call 128 (.cons (.var 0) (.cons (.var 1) (.cons (.var 2) (.cons (.var 3) .nil)))))) (.cons (.ret (.bi .tuple (.cons (.var 3) .nil))) .nil)))
/-- gather: 0 pattern, 1 way, 2 at, 3 found, 4 end, 5 part, 6 inner -/
def b_gather : CSs := (.cons (.ifs (.cmp .eq (.ix (.var 0) (.c (.int 0))) (.c (.str [115, 105, 103, 110]))) (.cons (.ret (.bin .add (.var 2) (.c (.int 1)))) .nil) .nil) (.cons (.set [4] (.var 2)) (.cons (.for_ [5, 6] (.val (.call 110 (.cons (.var 0) (.cons (.var 1) .nil)))) (.cons (.set [4] (.call 128 (.cons (.var 5) (.cons (.var 6) (.cons (.var 4) (.cons (.var 3) .nil)))))) .nil)) (.cons (.ifs (.cmp .eq (.ix (.var 0) (.c (.int 0))) (.c (.str [109, 97, 114, 107]))) (.cons (.app (.var 3) (.tup (.cons (.ix (.var 0) (.c (.int 1))) (.cons (.var 2) (.cons (.var 4) .nil))))) .nil) .nil) (.cons (.ret (.var 4)) .nil)))))
/-- row_of: 0 pattern, 1 way, 2 marked, 3 name, 4 begin, 5 end -/
def b_row_of_v3 : CSs := (.cons (.set [2] (.dcomp [3, 4, 5] [3, 4, 5] (.val (.call 127 (.cons (.var 0) (.cons (.var 1) (.cons (.c (.int 0)) .nil))))) (.c (.bl true)) (.var 3) (.tup (.cons (.var 4) (.cons (.var 5) .nil))))) (.cons (.ret (.bi .tuple (.cons (.comp [3] [3] (.val (.call 36 (.cons (.var 0) .nil))) (.c (.bl true)) (.bi .dgt (.cons (.var 2) (.cons (.var 3) .nil)))) .nil))) .nil))
/-- _law_deck: 0 _law_script, 1 _law_cell -/
def b_law_deck : CSs := (.cons (.ret (.lst (.cons (.comp [1] [1] (.val (.sl (.var 0) .no (.yes (.c (.int 63))))) (.c (.bl true)) (.bi .abs (.cons (.var 1) .nil))) (.cons (.c (.int 0)) .nil)))) .nil)
/-- _law_draw: 0 _law_deck_here, 1 _law_many, 2 _law_cell, 3 _law_place -/
def b_law_draw : CSs := (.cons (.setix (.var 0) (.c (.int 1)) (.bin .add (.ix (.var 0) (.c (.int 1))) (.c (.int 1)))) (.cons (.set [2] (.c (.int 0))) (.cons (.set [3] (.bi .neg (.cons (.c (.int 1)) .nil))) (.cons (.ifs (.cmp .gt (.bi .len (.cons (.ix (.var 0) (.c (.int 0))) .nil)) (.c (.int 0))) (.cons (.set [3] (.bin .mod (.ix (.var 0) (.c (.int 1))) (.bi .len (.cons (.ix (.var 0) (.c (.int 0))) .nil)))) (.cons (.set [2] (.ix (.ix (.var 0) (.c (.int 0))) (.var 3))) .nil)) .nil) (.cons (.ifs (.cmp .ge (.var 2) (.bin .pow (.c (.int 10)) (.c (.int 18)))) (.cons (.setix (.ix (.var 0) (.c (.int 0))) (.var 3) (.bin .fdiv (.var 2) (.var 1))) (.cons (.ret (.bin .mod (.var 2) (.var 1))) .nil)) .nil) (.cons (.ret (.bin .mod (.bin .mod (.bin .pow (.bin .add (.bin .add (.bin .mod (.var 2) (.c (.int 2147483587))) (.bin .mul (.c (.int 7919)) (.ix (.var 0) (.c (.int 1))))) (.c (.int 1))) (.c (.int 5))) (.c (.int 2147483647))) (.var 1))) .nil))))))
/-- _law_names: 0 _law_deck_here, 1 _law_many, 2 _law_letters, 3 _law_stem, 4 _law_at, 5 _law_first, 6 _law_k -/
def b_law_names_v2 : CSs := (.cons (.set [2] (.c (.str [97, 98, 99, 100, 101, 102, 103, 104, 105, 106, 107, 108, 109, 110, 111, 112, 113, 114, 115, 116, 117, 118, 119, 120, 121, 122]))) (.cons (.set [3] (.bi .join (.cons (.c (.str [])) (.cons (.comp [6] [6] (.rng1 (.call 4 (.cons (.var 0) (.cons (.c (.int 8)) .nil)))) (.c (.bl true)) (.ix (.var 2) (.call 4 (.cons (.var 0) (.cons (.c (.int 26)) .nil))))) .nil)))) (.cons (.set [4] (.call 4 (.cons (.var 0) (.cons (.bin .add (.bi .len (.cons (.var 3) .nil)) (.c (.int 1))) .nil)))) (.cons (.set [5] (.call 4 (.cons (.var 0) (.cons (.c (.int 26)) .nil)))) (.cons (.ret (.comp [6] [6] (.rng1 (.var 1)) (.c (.bl true)) (.bin .add (.bin .add (.sl (.var 3) .no (.yes (.var 4))) (.ix (.var 2) (.bin .mod (.bin .add (.var 5) (.bin .mul (.c (.int 5)) (.var 6))) (.c (.int 26))))) (.sl (.var 3) (.yes (.var 4)) .no)))) .nil)))))
/-- _law_sign: 0 _law_deck_here -/
def b_law_sign_v3 : CSs := (.cons (.ret (.tup (.cons (.c (.str [115, 105, 103, 110])) (.cons (.ix (.lst (.cons (.c (.str [97])) (.cons (.c (.str [98])) (.cons (.c (.str [97, 98])) (.cons (.c (.str [32, 97])) (.cons (.c (.str [32])) (.cons (.c (.str [97, 98, 99])) (.cons (.c (.str [32, 97, 98, 99, 100, 101, 102, 103, 104, 105, 106, 107, 108, 109, 110, 111, 112, 113, 114, 115, 116, 117, 118, 119, 120, 121, 122])) (.cons (.c (.str [122])) .nil))))))))) (.call 4 (.cons (.var 0) (.cons (.c (.int 8)) .nil)))) .nil)))) .nil)
/-- _law_solid: 0 _law_deck_here, 1 _law_deep, 2 _law_way, 3 _law_one, 4 _law_other, 5 _law_word, 6 _law_parts -/
def b_law_solid : CSs := (.cons (.set [2] (.call 4 (.cons (.var 0) (.cons (.c (.int 5)) .nil)))) (.cons (.ifs (.or (.cmp .eq (.var 1) (.c (.int 0))) (.cmp .lt (.var 2) (.c (.int 2)))) (.cons (.ret (.call 112 (.cons (.var 0) .nil))) .nil) .nil) (.cons (.set [3] (.call 113 (.cons (.var 0) (.cons (.bin .sub (.var 1) (.c (.int 1))) .nil)))) (.cons (.set [4] (.call 113 (.cons (.var 0) (.cons (.bin .sub (.var 1) (.c (.int 1))) .nil)))) (.cons (.ifs (.cmp .eq (.var 2) (.c (.int 4))) (.cons (.ret (.tup (.cons (.c (.str [115, 111, 109, 101])) (.cons (.c (.int 1)) (.cons (.c .non) (.cons (.var 3) .nil)))))) .nil) .nil) (.cons (.set [5] (.ix (.lst (.cons (.c (.str [114, 111, 119])) (.cons (.c (.str [97, 110, 121])) .nil))) (.bin .sub (.var 2) (.c (.int 2))))) (.cons (.set [6] (.lst (.cons (.var 3) .nil))) (.cons (.ifs (.cmp .eq (.ix (.var 3) (.c (.int 0))) (.var 5)) (.cons (.set [6] (.bi .list (.cons (.ix (.var 3) (.c (.int 1))) .nil))) .nil) .nil) (.cons (.ifs (.cmp .eq (.var 2) (.c (.int 2))) (.cons (.ret (.tup (.cons (.c (.str [114, 111, 119])) (.cons (.bi .tuple (.cons (.bin .add (.var 6) (.lst (.cons (.tup (.cons (.c (.str [115, 111, 109, 101])) (.cons (.c (.int 0)) (.cons (.c (.int 1)) (.cons (.var 4) .nil))))) .nil))) .nil)) .nil)))) .nil) .nil) (.cons (.ifs (.cmp .eq (.ix (.var 4) (.c (.int 0))) (.var 5)) (.cons (.ret (.tup (.cons (.c (.str [97, 110, 121])) (.cons (.bin .add (.bi .tuple (.cons (.var 6) .nil)) (.ix (.var 4) (.c (.int 1)))) .nil)))) .nil) .nil) (.cons (.ret (.tup (.cons (.c (.str [97, 110, 121])) (.cons (.bin .add (.bi .tuple (.cons (.var 6) .nil)) (.tup (.cons (.var 4) .nil))) .nil)))) .nil)))))))))))
/-- _law_row: 0 _law_parts, 1 _law_part -/
def b_law_row : CSs := (.cons (.ret (.tup (.cons (.c (.str [114, 111, 119])) (.cons (.bi .tuple (.cons (.comp [1] [1] (.val (.var 0)) (.c (.bl true)) (.ix (.lst (.cons (.var 1) (.cons (.tup (.cons (.c (.str [115, 111, 109, 101])) (.cons (.c (.int 0)) (.cons (.c (.int 1)) (.cons (.var 1) .nil))))) .nil))) (.bi .int (.cons (.cmp .eq (.ix (.var 1) (.c (.int 0))) (.c (.str [114, 111, 119]))) .nil)))) .nil)) .nil)))) .nil)
/-- _law_any: 0 _law_parts, 1 _law_part -/
def b_law_any : CSs := (.cons (.ret (.tup (.cons (.c (.str [97, 110, 121])) (.cons (.bi .tuple (.cons (.comp [1] [1] (.val (.var 0)) (.c (.bl true)) (.ix (.lst (.cons (.var 1) (.cons (.tup (.cons (.c (.str [115, 111, 109, 101])) (.cons (.c (.int 0)) (.cons (.c (.int 1)) (.cons (.var 1) .nil))))) .nil))) (.bi .int (.cons (.cmp .eq (.ix (.var 1) (.c (.int 0))) (.c (.str [97, 110, 121]))) .nil)))) .nil)) .nil)))) .nil)
/-- _law_form: 0 _law_deck_here, 1 _law_deep, 2 _law_left, 3 _law_way, 4 _law_own, 5 _law_other, 6 _law_parts, 7 _law_name, 8 _law_k -/
def b_law_form_v2 : CSs := (.cons (.set [3] (.call 4 (.cons (.var 0) (.cons (.c (.int 10)) .nil)))) (.cons (.ifs (.or (.cmp .eq (.var 1) (.c (.int 0))) (.cmp .lt (.var 3) (.c (.int 2)))) (.cons (.ret (.call 112 (.cons (.var 0) .nil))) .nil) .nil) (.cons (.ifs (.and (.cmp .lt (.var 3) (.c (.int 5))) (.cmp .ne (.var 2) (.lst .nil))) (.cons (.set [7] (.bi .popi (.cons (.var 2) (.cons (.call 4 (.cons (.var 0) (.cons (.bi .len (.cons (.var 2) .nil)) .nil))) .nil)))) (.cons (.ret (.tup (.cons (.c (.str [109, 97, 114, 107])) (.cons (.var 7) (.cons (.call 116 (.cons (.var 0) (.cons (.bin .sub (.var 1) (.c (.int 1))) (.cons (.var 2) .nil)))) .nil))))) .nil)) .nil) (.cons (.ifs (.cmp .lt (.var 3) (.c (.int 7))) (.cons (.ifs (.cmp .eq (.call 4 (.cons (.var 0) (.cons (.c (.int 9)) .nil))) (.c (.int 0))) (.cons (.ret (.tup (.cons (.c (.str [114, 111, 119])) (.cons (.tup .nil) .nil)))) .nil) .nil) (.cons (.ret (.call 114 (.cons (.comp [8] [8] (.rng1 (.bin .add (.c (.int 2)) (.bin .mul (.bi .int (.cons (.cmp .lt (.var 1) (.c (.int 3))) .nil)) (.call 4 (.cons (.var 0) (.cons (.c (.int 2)) .nil)))))) (.c (.bl true)) (.call 116 (.cons (.var 0) (.cons (.bin .sub (.var 1) (.c (.int 1))) (.cons (.var 2) .nil))))) .nil))) .nil)) .nil) (.cons (.ifs (.cmp .eq (.var 3) (.c (.int 7))) (.cons (.ret (.tup (.cons (.c (.str [115, 111, 109, 101])) (.cons (.c (.int 0)) (.cons (.c (.int 1)) (.cons (.call 116 (.cons (.var 0) (.cons (.bin .sub (.var 1) (.c (.int 1))) (.cons (.var 2) .nil)))) .nil)))))) .nil) .nil) (.cons (.ifs (.cmp .eq (.var 3) (.c (.int 8))) (.cons (.ret (.tup (.cons (.c (.str [115, 111, 109, 101])) (.cons (.call 4 (.cons (.var 0) (.cons (.c (.int 2)) .nil))) (.cons (.c .non) (.cons (.call 113 (.cons (.var 0) (.cons (.bin .sub (.var 1) (.c (.int 1))) .nil))) .nil)))))) .nil) .nil) (.cons (.set [4] (.bi .list (.cons (.var 2) .nil))) (.cons (.set [5] (.bi .list (.cons (.var 2) .nil))) (.cons (.set [6] (.lst (.cons (.call 116 (.cons (.var 0) (.cons (.bin .sub (.var 1) (.c (.int 1))) (.cons (.var 4) .nil)))) (.cons (.call 116 (.cons (.var 0) (.cons (.bin .sub (.var 1) (.c (.int 1))) (.cons (.var 5) .nil)))) .nil)))) (.cons (.for_ [7] (.val (.bi .list (.cons (.var 2) .nil))) (.cons (.ifs (.or (.cmp .notIn (.var 7) (.var 4)) (.cmp .notIn (.var 7) (.var 5))) (.cons (.expr (.bi .rem (.cons (.var 2) (.cons (.var 7) .nil)))) .nil) .nil) .nil)) (.cons (.ret (.call 115 (.cons (.var 6) .nil))) .nil)))))))))))
/-- _law_sound: 0 _law_deck_here, 1 _law_most -/
def b_law_sound : CSs := (.cons (.ret (.call 116 (.cons (.var 0) (.cons (.bin .add (.c (.int 1)) (.call 4 (.cons (.var 0) (.cons (.c (.int 3)) .nil)))) (.cons (.call 111 (.cons (.var 0) (.cons (.call 4 (.cons (.var 0) (.cons (.bin .add (.var 1) (.c (.int 1))) .nil))) .nil))) .nil))))) .nil)
/-- _law_times: 0 _law_deck_here, 1 _law_pattern, 2 _law_most -/
def b_law_times : CSs := (.cons (.ifs (.cmp .eq (.ix (.var 1) (.c (.int 2))) (.c (.int 1))) (.cons (.ret (.call 4 (.cons (.var 0) (.cons (.c (.int 2)) .nil)))) .nil) .nil) (.cons (.ret (.bin .add (.ix (.var 1) (.c (.int 1))) (.call 4 (.cons (.var 0) (.cons (.var 2) .nil))))) .nil))
/-- _law_go: 0 _law_deck_here, 1 _law_pattern, 2 _law_at, 3 _law_most, 4 _law_parts, 5 _law_text, 6 _law_ways, 7 _law_pieces, 8 _law_part, 9 _law_k, 10 _law_way, 11 _law_more, 12 _law_found -/
def b_law_go : CSs := (.cons (.ifs (.cmp .eq (.ix (.var 1) (.c (.int 0))) (.c (.str [115, 105, 103, 110]))) (.cons (.ret (.tup (.cons (.ix (.ix (.var 1) (.c (.int 1))) (.call 4 (.cons (.var 0) (.cons (.bi .len (.cons (.ix (.var 1) (.c (.int 1))) .nil)) .nil)))) (.cons (.var 2) (.cons (.lst .nil) .nil))))) .nil) .nil) (.cons (.ifs (.cmp .eq (.ix (.var 1) (.c (.int 0))) (.c (.str [97, 110, 121]))) (.cons (.set [9] (.call 4 (.cons (.var 0) (.cons (.bi .len (.cons (.ix (.var 1) (.c (.int 1))) .nil)) .nil)))) (.cons (.set [5, 10, 7] (.call 119 (.cons (.var 0) (.cons (.ix (.ix (.var 1) (.c (.int 1))) (.var 9)) (.cons (.var 2) (.cons (.var 3) .nil)))))) (.cons (.ret (.tup (.cons (.var 5) (.cons (.tup (.cons (.var 9) (.cons (.var 10) .nil))) (.cons (.var 7) .nil))))) .nil))) .nil) (.cons (.ifs (.cmp .eq (.ix (.var 1) (.c (.int 0))) (.c (.str [109, 97, 114, 107]))) (.cons (.set [5, 10, 7] (.call 119 (.cons (.var 0) (.cons (.ix (.var 1) (.c (.int 2))) (.cons (.var 2) (.cons (.var 3) .nil)))))) (.cons (.ret (.tup (.cons (.var 5) (.cons (.var 10) (.cons (.bin .add (.var 7) (.lst (.cons (.tup (.cons (.ix (.var 1) (.c (.int 1))) (.cons (.var 2) (.cons (.bin .add (.var 2) (.bi .len (.cons (.var 5) .nil))) .nil)))) .nil))) .nil))))) .nil)) .nil) (.cons (.set [4] (.ix (.var 1) (.c (.int 1)))) (.cons (.ifs (.cmp .eq (.ix (.var 1) (.c (.int 0))) (.c (.str [115, 111, 109, 101]))) (.cons (.set [4] (.comp [9] [9] (.rng1 (.call 118 (.cons (.var 0) (.cons (.var 1) (.cons (.var 3) .nil))))) (.c (.bl true)) (.ix (.var 1) (.c (.int 3))))) .nil) .nil) (.cons (.set [5] (.c (.str []))) (.cons (.set [6] (.lst .nil)) (.cons (.set [7] (.lst .nil)) (.cons (.for_ [8] (.val (.var 4)) (.cons (.set [11, 10, 12] (.call 119 (.cons (.var 0) (.cons (.var 8) (.cons (.bin .add (.var 2) (.bi .len (.cons (.var 5) .nil))) (.cons (.var 3) .nil)))))) (.cons (.set [5] (.bin .add (.var 5) (.var 11))) (.cons (.app (.var 6) (.var 10)) (.cons (.set [7] (.bin .add (.var 7) (.var 12))) .nil))))) (.cons (.ret (.tup (.cons (.var 5) (.cons (.bi .tuple (.cons (.var 6) .nil)) (.cons (.var 7) .nil))))) .nil))))))))))
/-- _law_whole: 0 _law_thing -/
def b_law_whole_v4 : CSs := (.cons (.ret (.and (.bi (.isi 1) (.cons (.var 0) .nil)) (.not (.bi (.isi 2) (.cons (.var 0) .nil))))) .nil)
/-- _law_heads: 0 _law_pattern, 1 _law_parts, 2 _law_found, 3 _law_part -/
def b_law_heads : CSs := (.cons (.ifs (.cmp .eq (.ix (.var 0) (.c (.int 0))) (.c (.str [115, 105, 103, 110]))) (.cons (.ret (.lst .nil)) .nil) .nil) (.cons (.set [1] (.ix (.var 0) (.c (.int 1)))) (.cons (.set [2] (.lst .nil)) (.cons (.ifs (.or (.cmp .eq (.ix (.var 0) (.c (.int 0))) (.c (.str [115, 111, 109, 101]))) (.cmp .eq (.ix (.var 0) (.c (.int 0))) (.c (.str [109, 97, 114, 107])))) (.cons (.set [1] (.lst (.cons (.ix (.var 0) (.bi .neg (.cons (.c (.int 1)) .nil))) .nil))) .nil) .nil) (.cons (.ifs (.cmp .eq (.ix (.var 0) (.c (.int 0))) (.c (.str [109, 97, 114, 107]))) (.cons (.set [2] (.lst (.cons (.ix (.var 0) (.c (.int 1))) .nil))) .nil) .nil) (.cons (.for_ [3] (.val (.var 1)) (.cons (.set [2] (.bin .add (.var 2) (.call 130 (.cons (.var 3) .nil)))) .nil)) (.cons (.ret (.bi .sset (.cons (.var 2) .nil))) .nil)))))))
/-- _law_are_pieces: 0 _law_found, 1 _law_cut -/
def b_law_are_pieces : CSs := (.cons (.ifs (.not (.bi (.isi 3) (.cons (.var 0) .nil))) (.cons (.ret (.c (.bl false))) .nil) .nil) (.cons (.for_ [1] (.val (.var 0)) (.cons (.ifs (.or (.not (.bi (.isi 3) (.cons (.var 1) .nil))) (.or (.cmp .ne (.bi .len (.cons (.var 1) .nil)) (.c (.int 3))) (.not (.bi (.isi 0) (.cons (.ix (.var 1) (.c (.int 0))) .nil))))) (.cons (.ret (.c (.bl false))) .nil) .nil) (.cons (.ifs (.or (.not (.call 120 (.cons (.ix (.var 1) (.c (.int 1))) .nil))) (.not (.call 120 (.cons (.ix (.var 1) (.c (.int 2))) .nil)))) (.cons (.ret (.c (.bl false))) .nil) .nil) .nil))) (.cons (.ret (.c (.bl true))) .nil)))
/-- law: 0 _law_script, 1 _law_deck_here, 2 _law_around, 3 _law_at, 4 _law_pattern, 5 _law_sound_here, 6 _law_small, 7 _law_found, 8 _law_due, 9 _law_head, 10 _law_row_here, 11 _law_text, 12 _law_way, 13 _law_pieces, 14 _law_own, 15 _law_cut, 16 _law_part -/
def b_law_v58 : CSs := (.cons (.set [1] (.call 3 (.cons (.var 0) .nil))) (.cons (.set [2] (.call 4 (.cons (.var 1) (.cons (.c (.int 4)) .nil)))) (.cons (.set [3] (.bin .mul (.call 4 (.cons (.var 1) (.cons (.c (.int 2)) .nil))) (.call 4 (.cons (.var 1) (.cons (.c (.int 100)) .nil))))) (.cons (.set [4] (.call 117 (.cons (.var 1) (.cons (.c (.int 4)) .nil)))) (.cons (.set [5] (.var 4)) (.cons (.set [6] (.call 116 (.cons (.var 1) (.cons (.c (.int 2)) (.cons (.call 111 (.cons (.var 1) (.cons (.c (.int 3)) .nil))) .nil))))) (.cons (.ifs (.cmp .eq (.var 2) (.c (.int 0))) (.cons (.set [4] (.tup (.cons (.c (.str [115, 111, 109, 101])) (.cons (.c (.int 0)) (.cons (.c .non) (.cons (.tup (.cons (.c (.str [114, 111, 119])) (.cons (.tup (.cons (.tup (.cons (.c (.str [115, 111, 109, 101])) (.cons (.c (.int 0)) (.cons (.c (.int 1)) (.cons (.var 4) .nil))))) (.cons (.tup (.cons (.c (.str [115, 105, 103, 110])) (.cons (.c (.str [97, 98])) .nil))) .nil))) .nil))) .nil)))))) .nil) .nil) (.cons (.ifs (.cmp .eq (.var 2) (.c (.int 1))) (.cons (.set [4] (.call 114 (.cons (.lst (.cons (.var 6) (.cons (.tup (.cons (.c (.str [115, 105, 103, 110])) (.cons (.c (.str [99])) .nil))) (.cons (.var 6) .nil)))) .nil))) .nil) .nil) (.cons (.set [11, 12, 13] (.call 119 (.cons (.var 1) (.cons (.var 4) (.cons (.var 3) (.cons (.c (.int 3)) .nil)))))) (.cons (.set [7] (.call 127 (.cons (.var 4) (.cons (.var 12) (.cons (.var 3) .nil))))) (.cons (.ifs (.or (.not (.call 131 (.cons (.var 7) .nil))) (.cmp .ne (.bi .list (.cons (.var 7) .nil)) (.var 13))) (.cons (.ret (.c (.bl false))) .nil) .nil) (.cons (.set [11, 12, 13] (.call 119 (.cons (.var 1) (.cons (.var 5) (.cons (.c (.int 0)) (.cons (.c (.int 3)) .nil)))))) (.cons (.set [8] (.lst .nil)) (.cons (.for_ [9] (.val (.call 130 (.cons (.var 5) .nil))) (.cons (.set [14] (.comp [15] [15] (.val (.var 13)) (.cmp .eq (.ix (.var 15) (.c (.int 0))) (.var 9)) (.sl (.var 15) (.yes (.c (.int 1))) .no))) (.cons (.app (.var 8) (.ix (.bin .add (.var 14) (.lst (.cons (.c .non) .nil))) (.c (.int 0)))) .nil))) (.cons (.set [10] (.call 562 (.cons (.var 5) (.cons (.var 12) .nil)))) (.cons (.ifs (.or (.not (.bi (.isi 3) (.cons (.var 10) .nil))) (.cmp .ne (.var 10) (.bi .tuple (.cons (.var 8) .nil)))) (.cons (.ret (.c (.bl false))) .nil) .nil) (.cons (.ret (.cmp .eq (.comp [16] [16] (.val (.var 10)) (.and (.bi .notN (.cons (.var 16) .nil)) (.not (.call 131 (.cons (.tup (.cons (.bin .add (.tup (.cons (.c (.str [97])) .nil)) (.var 16)) .nil)) .nil)))) (.var 16)) (.lst .nil))) .nil)))))))))))))))))
def ds : Nat → Option Def
  | 560 => some ⟨2, 4, b_forms_within⟩
  | 20 => some ⟨1, 2, b_parts_of⟩
  | 35 => some ⟨1, 1, b_forms_of⟩
  | 36 => some ⟨1, 2, b_names_of⟩
  | 110 => some ⟨2, 4, b_stretches⟩
  | 127 => some ⟨3, 4, b_pieces_of⟩
  | 128 => some ⟨4, 7, b_gather⟩
  | 562 => some ⟨2, 6, b_row_of_v3⟩
  | 3 => some ⟨1, 2, b_law_deck⟩
  | 4 => some ⟨2, 4, b_law_draw⟩
  | 111 => some ⟨2, 7, b_law_names_v2⟩
  | 112 => some ⟨1, 1, b_law_sign_v3⟩
  | 113 => some ⟨2, 7, b_law_solid⟩
  | 114 => some ⟨1, 2, b_law_row⟩
  | 115 => some ⟨1, 2, b_law_any⟩
  | 116 => some ⟨3, 9, b_law_form_v2⟩
  | 117 => some ⟨2, 2, b_law_sound⟩
  | 118 => some ⟨3, 3, b_law_times⟩
  | 119 => some ⟨4, 13, b_law_go⟩
  | 120 => some ⟨1, 1, b_law_whole_v4⟩
  | 130 => some ⟨1, 4, b_law_heads⟩
  | 131 => some ⟨1, 2, b_law_are_pieces⟩
  | 563 => some ⟨1, 17, b_law_v58⟩
  | _ => none
abbrev n_forms_within : Nat := 560
abbrev n_parts_of : Nat := 20
abbrev n_forms_of : Nat := 35
abbrev n_names_of : Nat := 36
abbrev n_stretches : Nat := 110
abbrev n_pieces_of : Nat := 127
abbrev n_gather : Nat := 128
abbrev n_row_of_v3 : Nat := 562
abbrev n_law_deck : Nat := 3
abbrev n_law_draw : Nat := 4
abbrev n_law_names_v2 : Nat := 111
abbrev n_law_sign_v3 : Nat := 112
abbrev n_law_solid : Nat := 113
abbrev n_law_row : Nat := 114
abbrev n_law_any : Nat := 115
abbrev n_law_form_v2 : Nat := 116
abbrev n_law_sound : Nat := 117
abbrev n_law_times : Nat := 118
abbrev n_law_go : Nat := 119
abbrev n_law_whole_v4 : Nat := 120
abbrev n_law_heads : Nat := 130
abbrev n_law_are_pieces : Nat := 131
abbrev n_law_v58 : Nat := 563
end Pg
namespace Pg
open MP
/-- the deck stands at d, its cells at c; at most n draws so far -/
structure Dk (d c n : Nat) (S : Sto) : Prop where
  ne : d ≠ c
  hd : ∃ cnt : Int, 0 ≤ cnt ∧ cnt ≤ n ∧ S[d]? = some (.lst [.ref c, .int cnt])
  hc : ∃ cells : List Int, cells.length ≤ 63 ∧ (∀ x ∈ cells, 0 ≤ x) ∧ S[c]? = some (.lst (cells.map W.int))
/-- all but the deck stands -/
def Kx (d c : Nat) (S S' : Sto) : Prop := S.length ≤ S'.length ∧ ∀ k, k < S.length → k ≠ d → k ≠ c → S'[k]? = S[k]?
theorem Kx.refl (d c : Nat) (S : Sto) : Kx d c S S := ⟨Nat.le_refl _, fun _ _ _ _ => rfl⟩
theorem Kx.trans {d c : Nat} {S S1 S2 : Sto} (a : Kx d c S S1) (b : Kx d c S1 S2) : Kx d c S S2 := ⟨Nat.le_trans a.1 b.1, fun k h h1 h2 => (b.2 k (Nat.lt_of_lt_of_le h a.1) h1 h2).trans (a.2 k h h1 h2)⟩
theorem Kx.of {d c : Nat} {S S' : Sto} (h : Kp S S') : Kx d c S S' := ⟨h.1, fun k hk _ _ => h.2 k hk⟩
theorem Kx.get {d c : Nat} {S S' : Sto} (h : Kx d c S S') {k : Nat} {o : SO} (e : S[k]? = some o) (h1 : k ≠ d) (h2 : k ≠ c) : S'[k]? = some o := (h.2 k (List.getElem?_eq_some_iff.mp e).1 h1 h2).trans e
theorem Dk.mono {d c n m : Nat} {S : Sto} (h : Dk d c n S) (hm : n ≤ m) : Dk d c m S := by
  obtain ⟨cnt, a, b, e⟩ := h.hd
  exact ⟨h.ne, ⟨cnt, a, by omega, e⟩, h.hc⟩
theorem Dk.kp {d c n : Nat} {S S' : Sto} (h : Dk d c n S) (k : Kp S S') : Dk d c n S' := by
  obtain ⟨cnt, a, b, e⟩ := h.hd
  obtain ⟨cs, x, y, z⟩ := h.hc
  exact ⟨h.ne, ⟨cnt, a, b, k.get e⟩, ⟨cs, x, y, k.get z⟩⟩
theorem Dk.lt {d c n : Nat} {S : Sto} (h : Dk d c n S) : d < S.length ∧ c < S.length := by
  obtain ⟨cnt, a, b, e⟩ := h.hd
  obtain ⟨cs, x, y, z⟩ := h.hc
  exact ⟨(List.getElem?_eq_some_iff.mp e).1, (List.getElem?_eq_some_iff.mp z).1⟩
section
variable {ds : Nat → Option Def}
theorem deck_spec (hds : ds 3 = some ⟨1, 2, b_law_deck⟩) (k : Nat) (S : Sto) (ns : List Int) (hl : ns.length ≤ 63) : Is (callF ds (k + 1) 3 [.rol (ns.map .int)] S) fun w S' => w = .ref (S.length + 2) ∧ Dk (S.length + 2) (S.length + 1) 0 S' ∧ Kp S S' := by
  refine w_callF hds rfl ?_
  simp only [b_law_deck, w_var, w_c, w_bin, w_cmp, w_chain, w_and, w_or, w_ite, w_not, w_nil, w_cons, w_tup, w_lst, w_ix, w_no, w_yes, w_sl, w_call, w_bi, w_val, w_rng1, w_rng2, s_nil, s_cons, s_ret, s_expr, s_set, s_if, s_pass, s_setix, s_app, s_ext, o_addI, o_addS, o_addT, o_addL, o_sub, o_mulI, o_mulS, o_mulL, o_fdiv, o_mod, o_pow, c_ltI, c_ltS, c_le, c_gt, c_ge, c_eq, c_ne, e_ii, e_ss, e_bb, c_inS, c_notS, i_str, i_tup, i_ref, l_str, l_tup, l_rol, l_ref, b_lenS, b_lenT, b_lenR, b_abs, b_tupR, b_tupT, b_listR, b_listT, b_all, b_any, b_intI, b_intB, b_isiN, b_isiB, b_isiI, b_isiS, b_isiT, b_isiR, b_isiL, b_isN, b_notN, b_neg, b_rev, b_join, t_str, is_some, isB_some, byB_true, byB_false, start, wipe, bindT, List.map_cons, List.map_nil, List.cons_append, List.nil_append, List.append_nil, List.getElem?_cons_zero, List.getElem?_cons_succ, List.length_cons, List.length_nil, List.set_cons_zero, List.set_cons_succ, atI_0, atI_1, atI_2, atI_3, List.replicate, Nat.zero_add, Nat.reduceAdd, Nat.reduceSub, seqW_ref, seqW_tup, c_leS, b_iaddI, b_iaddS, b_isub, w_enum, w_zip, w_callv]
  have hcut : cut (ns.map W.int) none (some 63) = ns.map W.int := by
    unfold cut
    simp only [sIx]
    rw [List.length_map]
    simp only [List.drop_zero, Nat.sub_zero]
    rw [if_neg (by decide)]
    exact List.take_of_length_le (by rw [List.length_map]; omega)
  refine w_compP (ns.map .int) (fun _ => true) (fun w => match w with | .int i => .int (if i < 0 then -i else i) | w => w) (by rw [List.length_map]; simp only [LIM]; omega) ?_
  try simp only [w_var, w_c, w_bin, w_cmp, w_chain, w_and, w_or, w_ite, w_not, w_nil, w_cons, w_tup, w_lst, w_ix, w_no, w_yes, w_sl, w_call, w_bi, w_val, w_rng1, w_rng2, s_nil, s_cons, s_ret, s_expr, s_set, s_if, s_pass, s_setix, s_app, s_ext, o_addI, o_addS, o_addT, o_addL, o_sub, o_mulI, o_mulS, o_mulL, o_fdiv, o_mod, o_pow, c_ltI, c_ltS, c_le, c_gt, c_ge, c_eq, c_ne, e_ii, e_ss, e_bb, c_inS, c_notS, i_str, i_tup, i_ref, l_str, l_tup, l_rol, l_ref, b_lenS, b_lenT, b_lenR, b_abs, b_tupR, b_tupT, b_listR, b_listT, b_all, b_any, b_intI, b_intB, b_isiN, b_isiB, b_isiI, b_isiS, b_isiT, b_isiR, b_isiL, b_isN, b_notN, b_neg, b_rev, b_join, t_str, is_some, isB_some, byB_true, byB_false, start, wipe, bindT, List.map_cons, List.map_nil, List.cons_append, List.nil_append, List.append_nil, List.getElem?_cons_zero, List.getElem?_cons_succ, List.length_cons, List.length_nil, List.set_cons_zero, List.set_cons_succ, atI_0, atI_1, atI_2, atI_3, List.replicate, Nat.zero_add, Nat.reduceAdd, Nat.reduceSub, seqW_ref, seqW_tup, c_leS, b_iaddI, b_iaddS, b_isub, w_enum, w_zip, w_callv, hcut, Src.items]
  refine ⟨by rw [List.length_map]; simp only [LIM]; omega, rdL_new _ _, fun x hx => ?_, ?_⟩
  · obtain ⟨i, hi, rfl⟩ := List.mem_map.mp hx
    refine ⟨_, rfl, ?_⟩
    try simp only [w_var, w_c, w_bin, w_cmp, w_chain, w_and, w_or, w_ite, w_not, w_nil, w_cons, w_tup, w_lst, w_ix, w_no, w_yes, w_sl, w_call, w_bi, w_val, w_rng1, w_rng2, s_nil, s_cons, s_ret, s_expr, s_set, s_if, s_pass, s_setix, s_app, s_ext, o_addI, o_addS, o_addT, o_addL, o_sub, o_mulI, o_mulS, o_mulL, o_fdiv, o_mod, o_pow, c_ltI, c_ltS, c_le, c_gt, c_ge, c_eq, c_ne, e_ii, e_ss, e_bb, c_inS, c_notS, i_str, i_tup, i_ref, l_str, l_tup, l_rol, l_ref, b_lenS, b_lenT, b_lenR, b_abs, b_tupR, b_tupT, b_listR, b_listT, b_all, b_any, b_intI, b_intB, b_isiN, b_isiB, b_isiI, b_isiS, b_isiT, b_isiR, b_isiL, b_isN, b_notN, b_neg, b_rev, b_join, t_str, is_some, isB_some, byB_true, byB_false, start, wipe, bindT, List.map_cons, List.map_nil, List.cons_append, List.nil_append, List.append_nil, List.getElem?_cons_zero, List.getElem?_cons_succ, List.length_cons, List.length_nil, List.set_cons_zero, List.set_cons_succ, atI_0, atI_1, atI_2, atI_3, List.replicate, Nat.zero_add, Nat.reduceAdd, Nat.reduceSub, seqW_ref, seqW_tup, c_leS, b_iaddI, b_iaddS, b_isub, w_enum, w_zip, w_callv]
    exact ⟨trivial, trivial, fun _ => ⟨trivial, trivial⟩⟩
  · refine ⟨by simp [LIM], by simp, ⟨by omega, ⟨0, by omega, by omega, ?_⟩, ⟨ns.map fun i => if i < 0 then -i else i, by simpa using hl, fun x hx => ?_, ?_⟩⟩, ?_⟩
    · rw [List.getElem?_append_right (by simp)]
      simp
    · obtain ⟨i, hi, rfl⟩ := List.mem_map.mp hx
      split <;> omega
    · rw [List.getElem?_append_left (by simp), List.getElem?_append_right (by simp)]
      simp [List.map_map, List.filter_eq_self.mpr]
    · exact ((Kp.app S _).snoc _).snoc _
theorem draw_spec (hds : ds 4 = some ⟨2, 4, b_law_draw⟩) (k : Nat) {S : Sto} {d c n : Nat} (h : Dk d c n S) (hn : n ≤ 1000000000) (m : Int) (hm : 0 < m) (hm2 : m < 1073741824) :
    Is (callF ds (k + 1) 4 [.ref d, .int m] S) fun w S' => ∃ v : Int, w = .int v ∧ 0 ≤ v ∧ v < m ∧ Dk d c (n + 1) S' ∧ Kx d c S S' ∧ S'.length = S.length := by
  refine w_callF hds rfl ?_
  obtain ⟨cnt, c1, c2, c3⟩ := h.hd
  obtain ⟨cs, d1, d2, d3⟩ := h.hc
  obtain ⟨hdl, hcl⟩ := h.lt
  have hne := h.ne
  have e1 : rdL S d = some [.ref c, .int cnt] := rdL_of c3
  have e2 : rdL (S.set d (.lst [.ref c, .int (cnt + 1)])) d = some [.ref c, .int (cnt + 1)] := rdL_set_same e1
  have e3 : rdL (S.set d (.lst [.ref c, .int (cnt + 1)])) c = some (cs.map W.int) := by
    rw [rdL_set_ne hne]
    exact rdL_of d3
  simp only [b_law_draw, w_var, w_c, w_bin, w_cmp, w_chain, w_and, w_or, w_ite, w_not, w_nil, w_cons, w_tup, w_lst, w_ix, w_no, w_yes, w_sl, w_call, w_bi, w_val, w_rng1, w_rng2, s_nil, s_cons, s_ret, s_expr, s_set, s_if, s_pass, s_setix, s_app, s_ext, o_addI, o_addS, o_addT, o_addL, o_sub, o_mulI, o_mulS, o_mulL, o_fdiv, o_mod, o_pow, c_ltI, c_ltS, c_le, c_gt, c_ge, c_eq, c_ne, e_ii, e_ss, e_bb, c_inS, c_notS, i_str, i_tup, i_ref, l_str, l_tup, l_rol, l_ref, b_lenS, b_lenT, b_lenR, b_abs, b_tupR, b_tupT, b_listR, b_listT, b_all, b_any, b_intI, b_intB, b_isiN, b_isiB, b_isiI, b_isiS, b_isiT, b_isiR, b_isiL, b_isN, b_notN, b_neg, b_rev, b_join, t_str, is_some, isB_some, byB_true, byB_false, start, wipe, bindT, List.map_cons, List.map_nil, List.cons_append, List.nil_append, List.append_nil, List.getElem?_cons_zero, List.getElem?_cons_succ, List.length_cons, List.length_nil, List.set_cons_zero, List.set_cons_succ, atI_0, atI_1, atI_2, atI_3, List.replicate, Nat.zero_add, Nat.reduceAdd, Nat.reduceSub, seqW_ref, seqW_tup, c_leS, b_iaddI, b_iaddS, b_isub, w_enum, w_zip, w_callv, e1, ixN_1]
  generalize hS1 : S.set d (.lst [.ref c, .int (cnt + 1)]) = S1 at *
  have l1 : S1.length = S.length := by rw [← hS1, List.length_set]
  have kx1 : Kx d c S S1 := ⟨by omega, fun j hj h1 _ => by rw [← hS1, List.getElem?_set_ne (fun e => h1 e.symm)]⟩
  have dk1 : Dk d c (n + 1) S1 := ⟨hne, ⟨cnt + 1, by omega, by omega, rdL_iff.mp e2⟩, ⟨cs, d1, d2, rdL_iff.mp e3⟩⟩
  have pw : ∀ cell : Int, (cell % 2147483587 + 7919 * (cnt + 1) + 1).natAbs < 2 ^ 64 := by
    intro cell
    have a1 : 0 ≤ cell % 2147483587 := Int.emod_nonneg _ (by omega)
    have a2 : cell % 2147483587 < 2147483587 := Int.emod_lt_of_pos _ (by omega)
    omega
  try simp only [w_var, w_c, w_bin, w_cmp, w_chain, w_and, w_or, w_ite, w_not, w_nil, w_cons, w_tup, w_lst, w_ix, w_no, w_yes, w_sl, w_call, w_bi, w_val, w_rng1, w_rng2, s_nil, s_cons, s_ret, s_expr, s_set, s_if, s_pass, s_setix, s_app, s_ext, o_addI, o_addS, o_addT, o_addL, o_sub, o_mulI, o_mulS, o_mulL, o_fdiv, o_mod, o_pow, c_ltI, c_ltS, c_le, c_gt, c_ge, c_eq, c_ne, e_ii, e_ss, e_bb, c_inS, c_notS, i_str, i_tup, i_ref, l_str, l_tup, l_rol, l_ref, b_lenS, b_lenT, b_lenR, b_abs, b_tupR, b_tupT, b_listR, b_listT, b_all, b_any, b_intI, b_intB, b_isiN, b_isiB, b_isiI, b_isiS, b_isiT, b_isiR, b_isiL, b_isN, b_notN, b_neg, b_rev, b_join, t_str, is_some, isB_some, byB_true, byB_false, start, wipe, bindT, List.map_cons, List.map_nil, List.cons_append, List.nil_append, List.append_nil, List.getElem?_cons_zero, List.getElem?_cons_succ, List.length_cons, List.length_nil, List.set_cons_zero, List.set_cons_succ, atI_0, atI_1, atI_2, atI_3, List.replicate, Nat.zero_add, Nat.reduceAdd, Nat.reduceSub, seqW_ref, seqW_tup, c_leS, b_iaddI, b_iaddS, b_isub, w_enum, w_zip, w_callv, e2, e3, List.length_map]
  refine byB_dec _ _ _ (fun hk => ?_) (fun hk => ?_)
  · have hlen : (0 : Int) < cs.length := of_decide_eq_true hk
    refine ⟨hlen, ?_⟩
    have p1 : 0 ≤ (cnt + 1) % (cs.length : Int) := Int.emod_nonneg _ (by omega)
    have p2 : (cnt + 1) % (cs.length : Int) < cs.length := Int.emod_lt_of_pos _ hlen
    rw [atI_nn _ p1, List.getElem?_map, List.getElem?_eq_getElem (by omega)]
    generalize hcell : cs[((cnt + 1) % (cs.length : Int)).toNat]'(by omega) = cell
    have hc0 : 0 ≤ cell := by rw [← hcell]; exact d2 _ (List.getElem_mem _)
    try simp only [w_var, w_c, w_bin, w_cmp, w_chain, w_and, w_or, w_ite, w_not, w_nil, w_cons, w_tup, w_lst, w_ix, w_no, w_yes, w_sl, w_call, w_bi, w_val, w_rng1, w_rng2, s_nil, s_cons, s_ret, s_expr, s_set, s_if, s_pass, s_setix, s_app, s_ext, o_addI, o_addS, o_addT, o_addL, o_sub, o_mulI, o_mulS, o_mulL, o_fdiv, o_mod, o_pow, c_ltI, c_ltS, c_le, c_gt, c_ge, c_eq, c_ne, e_ii, e_ss, e_bb, c_inS, c_notS, i_str, i_tup, i_ref, l_str, l_tup, l_rol, l_ref, b_lenS, b_lenT, b_lenR, b_abs, b_tupR, b_tupT, b_listR, b_listT, b_all, b_any, b_intI, b_intB, b_isiN, b_isiB, b_isiI, b_isiS, b_isiT, b_isiR, b_isiL, b_isN, b_notN, b_neg, b_rev, b_join, t_str, is_some, isB_some, byB_true, byB_false, start, wipe, bindT, List.map_cons, List.map_nil, List.cons_append, List.nil_append, List.append_nil, List.getElem?_cons_zero, List.getElem?_cons_succ, List.length_cons, List.length_nil, List.set_cons_zero, List.set_cons_succ, atI_0, atI_1, atI_2, atI_3, List.replicate, Nat.zero_add, Nat.reduceAdd, Nat.reduceSub, seqW_ref, seqW_tup, c_leS, b_iaddI, b_iaddS, b_isub, w_enum, w_zip, w_callv, e2, e3, List.length_map, Option.map_some]
    refine ⟨⟨by decide, by decide, by decide⟩, byB_dec _ _ _ (fun hg => ?_) (fun hg => ?_)⟩
    · refine ⟨⟨hm, hm2⟩, ?_⟩
      rw [ixN_nn p1 p2]
      refine ⟨hm, _, rfl, Int.emod_nonneg _ (by omega), Int.emod_lt_of_pos _ hm, ⟨hne, ⟨cnt + 1, by omega, by omega, ?_⟩, ⟨cs.set ((cnt + 1) % (cs.length : Int)).toNat (cell / m), by rw [List.length_set]; exact d1, fun x hx => ?_, ?_⟩⟩, ?_, ?_⟩
      · rw [List.getElem?_set_ne (Ne.symm hne)]
        exact rdL_iff.mp e2
      · rcases List.mem_or_eq_of_mem_set hx with q | q
        · exact d2 x q
        · rw [q]
          exact Int.ediv_nonneg hc0 (by omega)
      · rw [List.getElem?_set_self (by omega), List.map_set]
      · refine kx1.trans ⟨by rw [List.length_set]; exact Nat.le_refl _, fun j hj _ h2 => by rw [List.getElem?_set_ne (fun e => h2 e.symm)]⟩
      · rw [List.length_set]
        exact l1
    · exact ⟨by decide, .inl ⟨by decide, by decide⟩, ⟨by decide, by decide, pw cell⟩, by decide, hm, _, rfl, Int.emod_nonneg _ (by omega), Int.emod_lt_of_pos _ hm, dk1, kx1, l1⟩
  · refine ⟨⟨by decide, by decide, by decide⟩, byB_dec _ _ _ (fun hg => absurd (of_decide_eq_true hg) (by decide)) (fun hg => ?_)⟩
    exact ⟨by decide, .inl ⟨by decide, by decide⟩, ⟨by decide, by decide, pw 0⟩, by decide, hm, _, rfl, Int.emod_nonneg _ (by omega), Int.emod_lt_of_pos _ hm, dk1, kx1, l1⟩
theorem draw_w (h4 : ds 4 = some ⟨2, 4, b_law_draw⟩) (k : Nat) {S S0 : Sto} {d c n : Nat} (h : Dk d c n S) (hk : Kx d c S0 S) (hn : n ≤ 1000000000) (m : Int) (hm : 0 < m) (hm2 : m < 1073741824) {P : W → Sto → Prop}
    (go : ∀ (v : Int) S', 0 ≤ v → v < m → Dk d c (n + 1) S' → Kx d c S0 S' → Kx d c S S' → P (.int v) S') : Is (callF ds (k + 1) 4 [.ref d, .int m] S) P :=
  (draw_spec h4 k h hn m hm hm2).imp fun w S' hw => by
    obtain ⟨v, rfl, v1, v2, v3, v4, v5⟩ := hw
    exact go v S' v1 v2 v3 (hk.trans v4) v4
theorem Dk.ne_of {d c n j : Nat} {S : Sto} (h : Dk d c n S) (hj : S.length ≤ j) : j ≠ d ∧ j ≠ c := ⟨fun e => by have := h.lt.1; omega, fun e => by have := h.lt.2; omega⟩
/-- a list that was laid behind the deck is read further on -/
theorem rd_kx {d c j : Nat} {S S' : Sto} {xs : List W} (h : rdL S j = some xs) (k : Kx d c S S') (h1 : j ≠ d) (h2 : j ≠ c) : rdL S' j = some xs := rdL_of (k.get (rdL_iff.mp h) h1 h2)
/-- signs that a text of the laws has -/
def Sg (x : List Nat) : Prop := ∀ c ∈ x, c < 128
theorem cut_len {α : Type} (x : List α) (lo hi : Option Int) : (cut x lo hi).length ≤ x.length := by
  unfold cut
  rw [List.length_take, List.length_drop]
  omega
theorem cut_mem {α : Type} {x : List α} {lo hi : Option Int} {c : α} (h : c ∈ cut x lo hi) : c ∈ x := by
  unfold cut at h
  exact List.mem_of_mem_drop (List.mem_of_mem_take h)
end
end Pg
namespace Pg
open MP
/-! ### patterns as data -/
inductive Pt where
  | sign (s : List Nat)
  | row (ps : List Pt)
  | any (ps : List Pt)
  | some (lo : Int) (hi : W) (p : Pt)
  | mark (n : List Nat) (p : Pt)
abbrev kSign : List Nat := [115, 105, 103, 110]
abbrev kRow : List Nat := [114, 111, 119]
abbrev kAny : List Nat := [97, 110, 121]
abbrev kSome : List Nat := [115, 111, 109, 101]
abbrev kMark : List Nat := [109, 97, 114, 107]
mutual
def enc : Pt → W
  | .sign s => .tup [.str kSign, .str s]
  | .row ps => .tup [.str kRow, .tup (encs ps)]
  | .any ps => .tup [.str kAny, .tup (encs ps)]
  | .some lo hi p => .tup [.str kSome, .int lo, hi, enc p]
  | .mark n p => .tup [.str kMark, .str n, enc p]
def encs : List Pt → List W
  | [] => []
  | p :: r => enc p :: encs r
end
theorem encs_map : ∀ ps : List Pt, encs ps = ps.map enc
  | [] => rfl
  | p :: r => by rw [encs, encs_map r, List.map_cons]
mutual
def size : Pt → Nat
  | .sign _ => 1
  | .row ps => 1 + sizes ps
  | .any ps => 1 + sizes ps
  | .some _ _ p => 1 + size p
  | .mark _ p => 1 + size p
def sizes : List Pt → Nat
  | [] => 0
  | p :: r => size p + sizes r
end
mutual
def deep : Pt → Nat
  | .sign _ => 1
  | .row ps => 1 + deeps ps
  | .any ps => 1 + deeps ps
  | .some _ _ p => 1 + deep p
  | .mark _ p => 1 + deep p
def deeps : List Pt → Nat
  | [] => 0
  | p :: r => max (deep p) (deeps r)
end
/-- a number or None -/
def isHi : W → Bool
  | .int _ => true
  | .non => true
  | _ => false
mutual
def okP : Pt → Bool
  | .sign s => s.all fun c => decide (c < 128)
  | .row ps => okPs ps
  | .any ps => okPs ps
  | .some _ hi p => isHi hi && okP p
  | .mark n p => (n.all fun c => decide (c < 128)) && okP p
def okPs : List Pt → Bool
  | [] => true
  | p :: r => okP p && okPs r
end
theorem sizes_app : ∀ a b : List Pt, sizes (a ++ b) = sizes a + sizes b
  | [], b => by simp [sizes]
  | p :: r, b => by
    rw [List.cons_append, sizes, sizes, sizes_app r b]
    omega
theorem okPs_app : ∀ a b : List Pt, okPs (a ++ b) = (okPs a && okPs b)
  | [], b => by simp [okPs]
  | p :: r, b => by rw [List.cons_append, okPs, okPs, okPs_app r b, Bool.and_assoc]
theorem deeps_app : ∀ a b : List Pt, deeps (a ++ b) = max (deeps a) (deeps b)
  | [], b => by simp [deeps]
  | p :: r, b => by
    rw [List.cons_append, deeps, deeps, deeps_app r b]
    omega
theorem deep_pos : ∀ p : Pt, 1 ≤ deep p
  | .sign _ => Nat.le_refl _
  | .row _ => by simp [deep]
  | .any _ => by simp [deep]
  | .some _ _ _ => by simp [deep]
  | .mark _ _ => by simp [deep]
theorem size_pos : ∀ p : Pt, 1 ≤ size p
  | .sign _ => Nat.le_refl _
  | .row _ => by simp [size]
  | .any _ => by simp [size]
  | .some _ _ _ => by simp [size]
  | .mark _ _ => by simp [size]
theorem len_sizes : ∀ ps : List Pt, ps.length ≤ sizes ps
  | [] => Nat.le_refl _
  | p :: r => by
    have h1 := size_pos p
    have h2 := len_sizes r
    rw [List.length_cons, sizes]
    omega
/-! a pattern as data for == -/
theorem dat_str {S : Sto} {n : Nat} {x : List Nat} (h : (x.all fun c => decide (c < 128)) = true) : dat S n (.str x) = some (.str x) := by
  have : (x.all fun c => decide (c < 1114112)) = true := List.all_eq_true.mpr fun c hc => by
    have := of_decide_eq_true (List.all_eq_true.mp h c hc)
    exact decide_eq_true (by omega)
  cases n <;> simp only [dat, this, if_true]
mutual
theorem dat_enc {S : Sto} : ∀ (p : Pt) (n : Nat), okP p = true → 2 * deep p ≤ n → ∃ d, dat S n (enc p) = some d
  | .sign s, n + 1, h, _ => by
    simp only [okP] at h
    exact ⟨_, by simp only [enc, dat, dats, dat_str (show (kSign.all fun c => decide (c < 128)) = true from rfl), dat_str h]; rfl⟩
  | .sign s, 0, h, hn => by simp only [deep] at hn; omega
  | .row ps, n + 2, h, hn => by
    simp only [okP] at h
    simp only [deep] at hn
    obtain ⟨ds, e⟩ := dats_enc (S := S) ps n h (by omega)
    exact ⟨_, by simp only [enc, dat, dats, dat_str (show (kRow.all fun c => decide (c < 128)) = true from rfl), e, Option.map_some]; rfl⟩
  | .row ps, 0, h, hn => by simp only [deep] at hn; omega
  | .row ps, 1, h, hn => by simp only [deep] at hn; omega
  | .any ps, n + 2, h, hn => by
    simp only [okP] at h
    simp only [deep] at hn
    obtain ⟨ds, e⟩ := dats_enc (S := S) ps n h (by omega)
    exact ⟨_, by simp only [enc, dat, dats, dat_str (show (kAny.all fun c => decide (c < 128)) = true from rfl), e, Option.map_some]; rfl⟩
  | .any ps, 0, h, hn => by simp only [deep] at hn; omega
  | .any ps, 1, h, hn => by simp only [deep] at hn; omega
  | .some lo hi p, n + 1, h, hn => by
    simp only [okP, Bool.and_eq_true] at h
    simp only [deep] at hn
    obtain ⟨d, e⟩ := dat_enc (S := S) p n h.2 (by omega)
    have hh : ∃ d, dat S n hi = some d := by
      cases hi with
      | non => exact ⟨.non, by cases n <;> simp only [dat]⟩
      | int i => exact ⟨.int i, by cases n <;> simp only [dat]⟩
      | _ => simp [isHi] at h
    obtain ⟨dh, eh⟩ := hh
    have ei : dat S n (.int lo) = some (.int lo) := by cases n <;> simp only [dat]
    exact ⟨_, by simp only [enc, dat, dats, dat_str (show (kSome.all fun c => decide (c < 128)) = true from rfl), e, ei, eh]; rfl⟩
  | .some lo hi p, 0, h, hn => by simp only [deep] at hn; omega
  | .mark nm p, n + 1, h, hn => by
    simp only [okP, Bool.and_eq_true] at h
    simp only [deep] at hn
    obtain ⟨d, e⟩ := dat_enc (S := S) p n h.2 (by omega)
    exact ⟨_, by simp only [enc, dat, dats, dat_str (show (kMark.all fun c => decide (c < 128)) = true from rfl), dat_str h.1, e]; rfl⟩
  | .mark nm p, 0, h, hn => by simp only [deep] at hn; omega
theorem dats_enc {S : Sto} : ∀ (ps : List Pt) (n : Nat), okPs ps = true → 2 * deeps ps ≤ n → ∃ ds, dats (dat S n) (encs ps) = some ds
  | [], n, _, _ => ⟨[], rfl⟩
  | p :: r, n, h, hn => by
    simp only [okPs, Bool.and_eq_true] at h
    simp only [deeps] at hn
    obtain ⟨d, e⟩ := dat_enc (S := S) p n h.1 (by omega)
    obtain ⟨ds, es⟩ := dats_enc (S := S) r n h.2 (by omega)
    exact ⟨d :: ds, by simp only [encs, dats, e, es]⟩
end
/-- names of the law -/
def Nms (xs : List (List Nat)) : Prop := ∀ x ∈ xs, 1 ≤ x.length ∧ x.length ≤ 8 ∧ ∀ c ∈ x, 97 ≤ c ∧ c ≤ 122
theorem pick {v : Int} {L : List W} {n : Nat} (hl : L.length = n) (h1 : 0 ≤ v) (h2 : v < n) : ∃ w, w ∈ L ∧ atI L v = some w := by
  rw [atI_nn _ h1, List.getElem?_eq_getElem (by omega)]
  exact ⟨_, List.getElem_mem _, rfl⟩
end Pg
namespace Pg
open MP
/-! ### flat -/
def flat1 (w : List Nat) : Pt → List Pt
  | .row qs => if w = kRow then qs else [.row qs]
  | .any qs => if w = kAny then qs else [.any qs]
  | p => [p]
def flat (w : List Nat) (ps : List Pt) : List Pt := ps.flatMap (flat1 w)
theorem flat_cons (w : List Nat) (p : Pt) (r : List Pt) : flat w (p :: r) = flat1 w p ++ flat w r := by simp [flat]
theorem flat1_sizes (w : List Nat) (p : Pt) : sizes (flat1 w p) ≤ size p := by
  cases p <;> simp only [flat1] <;> first | (split <;> simp only [size, sizes] <;> omega) | (simp only [size, sizes]; omega)
theorem flat1_deeps (w : List Nat) (p : Pt) : deeps (flat1 w p) ≤ deep p := by
  cases p <;> simp only [flat1] <;> first | (split <;> simp only [deep, deeps] <;> omega) | (simp only [deep, deeps]; omega)
theorem flat1_ok (w : List Nat) (p : Pt) (h : okP p = true) : okPs (flat1 w p) = true := by
  cases p <;> simp only [flat1] <;> first | (split <;> simp_all [okP, okPs]) | simp_all [okP, okPs]
theorem flat_sizes (w : List Nat) : ∀ ps : List Pt, sizes (flat w ps) ≤ sizes ps
  | [] => by simp [flat, sizes]
  | p :: r => by
    have h1 := flat1_sizes w p
    have h2 := flat_sizes w r
    rw [flat_cons, sizes_app, sizes]
    omega
theorem flat_deeps (w : List Nat) : ∀ ps : List Pt, deeps (flat w ps) ≤ deeps ps
  | [] => by simp [flat, deeps]
  | p :: r => by
    have h1 := flat1_deeps w p
    have h2 := flat_deeps w r
    rw [flat_cons, deeps_app, deeps]
    omega
theorem flat_ok (w : List Nat) : ∀ ps : List Pt, okPs ps = true → okPs (flat w ps) = true
  | [], _ => by simp [flat, okPs]
  | p :: r, h => by
    simp only [okPs, Bool.and_eq_true] at h
    rw [flat_cons, okPs_app, flat1_ok w p h.1, flat_ok w r h.2]
    rfl
theorem encs_app (a b : List Pt) : encs (a ++ b) = encs a ++ encs b := by rw [encs_map, encs_map, encs_map, List.map_append]
theorem encs_len (a : List Pt) : (encs a).length = a.length := by rw [encs_map, List.length_map]
/-- a pattern's first word -/
def word : Pt → List Nat
  | .sign _ => kSign
  | .row _ => kRow
  | .any _ => kAny
  | .some _ _ _ => kSome
  | .mark _ _ => kMark
theorem enc_head (p : Pt) : ∃ r, enc p = .tup (.str (word p) :: r) := by cases p <;> exact ⟨_, rfl⟩
theorem Kp.set {S S1 : Sto} (h : Kp S S1) {f : Nat} (hf : S.length ≤ f) (o : SO) : Kp S (S1.set f o) := ⟨by rw [List.length_set]; exact h.1, fun k hk => by
  rw [List.getElem?_set_ne (by omega)]
  exact h.2 k hk⟩
end Pg
namespace Pg
open MP
/-! ### what the program and the law tell of a pattern -/
def subs : Pt → List Pt
  | .sign _ => []
  | .row ps => ps
  | .any ps => ps
  | .some _ _ p => [p]
  | .mark _ p => [p]
mutual
def forms : Pt → List Pt
  | .sign s => [.sign s]
  | .row ps => .row ps :: formss ps
  | .any ps => .any ps :: formss ps
  | .some lo hi p => .some lo hi p :: forms p
  | .mark n p => .mark n p :: forms p
def formss : List Pt → List Pt
  | [] => []
  | p :: r => forms p ++ formss r
end
theorem forms_subs (p : Pt) : forms p = p :: formss (subs p) := by cases p <;> simp [forms, formss, subs]
theorem formss_app : ∀ a b : List Pt, formss (a ++ b) = formss a ++ formss b
  | [], b => by simp [formss]
  | p :: r, b => by rw [List.cons_append, formss, formss, formss_app r b, List.append_assoc]
mutual
theorem forms_len : ∀ p : Pt, (forms p).length = size p
  | .sign s => rfl
  | .row ps => by simp only [forms, size, List.length_cons, formss_len ps]; omega
  | .any ps => by simp only [forms, size, List.length_cons, formss_len ps]; omega
  | .some lo hi p => by simp only [forms, size, List.length_cons, forms_len p]; omega
  | .mark n p => by simp only [forms, size, List.length_cons, forms_len p]; omega
theorem formss_len : ∀ ps : List Pt, (formss ps).length = sizes ps
  | [] => rfl
  | p :: r => by rw [formss, sizes, List.length_append, forms_len p, formss_len r]
end
theorem subs_deeps (p : Pt) : deeps (subs p) + 1 ≤ deep p ∨ (∃ s, p = .sign s) := by
  cases p with
  | sign s => exact .inr ⟨s, rfl⟩
  | _ => left; simp only [subs, deeps, deep]; omega
theorem subs_sizes (p : Pt) : sizes (subs p) + 1 = size p := by cases p <;> simp only [subs, sizes, size] <;> omega
theorem subs_ok {p : Pt} (h : okP p = true) : okPs (subs p) = true := by cases p <;> simp_all [subs, okPs, okP]
theorem deep_mem : ∀ {ps : List Pt} {p : Pt}, p ∈ ps → deep p ≤ deeps ps
  | q :: r, p, h => by
    rw [deeps]
    rcases List.mem_cons.mp h with e | e
    · subst e; omega
    · have := deep_mem e; omega
theorem ok_mem : ∀ {ps : List Pt} {p : Pt}, p ∈ ps → okPs ps = true → okP p = true
  | q :: r, p, h, ho => by
    simp only [okPs, Bool.and_eq_true] at ho
    rcases List.mem_cons.mp h with e | e
    · subst e; exact ho.1
    · exact ok_mem e ho.2
theorem size_mem : ∀ {ps : List Pt} {p : Pt}, p ∈ ps → size p ≤ sizes ps
  | q :: r, p, h => by
    rw [sizes]
    rcases List.mem_cons.mp h with e | e
    · subst e; omega
    · have := size_mem e; omega
mutual
def marks : Pt → List (List Nat)
  | .sign _ => []
  | .row ps => markss ps
  | .any ps => markss ps
  | .some _ _ p => marks p
  | .mark n p => n :: marks p
def markss : List Pt → List (List Nat)
  | [] => []
  | p :: r => marks p ++ markss r
end
theorem markss_app : ∀ a b : List Pt, markss (a ++ b) = markss a ++ markss b
  | [], b => by simp [markss]
  | p :: r, b => by rw [List.cons_append, markss, markss, markss_app r b, List.append_assoc]
mutual
theorem marks_len : ∀ p : Pt, (marks p).length ≤ size p
  | .sign s => by simp [marks]
  | .row ps => by have := markss_len ps; simp only [marks, size]; omega
  | .any ps => by have := markss_len ps; simp only [marks, size]; omega
  | .some lo hi p => by have := marks_len p; simp only [marks, size]; omega
  | .mark n p => by have := marks_len p; simp only [marks, size, List.length_cons]; omega
theorem markss_len : ∀ ps : List Pt, (markss ps).length ≤ sizes ps
  | [] => by simp [markss]
  | p :: r => by have := marks_len p; have := markss_len r; rw [markss, sizes, List.length_append]; omega
end
def isMk : W → Bool
  | .tup (.str x :: _) => decide (x = kMark)
  | _ => false
def mkN : W → W
  | .tup (_ :: n :: _) => n
  | _ => .non
mutual
theorem marks_forms : ∀ p : Pt, (((forms p).map enc).filter isMk).map mkN = (marks p).map W.str
  | .sign s => rfl
  | .row ps => by
    rw [forms, marks, ← markss_forms ps, List.map_cons, List.filter_cons_of_neg (by simp [isMk, enc])]
  | .any ps => by
    rw [forms, marks, ← markss_forms ps, List.map_cons, List.filter_cons_of_neg (by simp [isMk, enc])]
  | .some lo hi p => by
    rw [forms, marks, ← marks_forms p, List.map_cons, List.filter_cons_of_neg (by simp [isMk, enc])]
  | .mark n p => by
    rw [forms, marks, List.map_cons, List.map_cons, ← marks_forms p, List.filter_cons_of_pos (by simp [isMk, enc]), List.map_cons]
    simp only [enc, mkN]
theorem markss_forms : ∀ ps : List Pt, (((formss ps).map enc).filter isMk).map mkN = (markss ps).map W.str
  | [] => rfl
  | p :: r => by rw [formss, markss, List.map_append, List.map_append, List.filter_append, List.map_append, marks_forms p, markss_forms r]
end
mutual
def blankP : Pt → Bool
  | .sign _ => false
  | .row ps => allB ps
  | .any ps => anyB ps
  | .some lo _ p => decide (lo = 0) || blankP p
  | .mark _ p => blankP p
def allB : List Pt → Bool
  | [] => true
  | p :: r => blankP p && allB r
def anyB : List Pt → Bool
  | [] => false
  | p :: r => blankP p || anyB r
end
theorem allB_eq : ∀ ps : List Pt, allB ps = ps.all blankP
  | [] => rfl
  | p :: r => by rw [allB, allB_eq r, List.all_cons]
theorem anyB_eq : ∀ ps : List Pt, anyB ps = ps.any blankP
  | [] => rfl
  | p :: r => by rw [anyB, anyB_eq r, List.any_cons]
theorem bls_map (f : Pt → Bool) : ∀ ps : List Pt, bls (ps.map fun p => W.bl (f p)) = some (ps.map f)
  | [] => rfl
  | p :: r => by simp only [List.map_cons, bls, bls_map f r, Option.map_some]
end Pg
namespace Pg
open MP
section
variable {ds : Nat → Option Def}
theorem parts_spec (h20 : ds 20 = some ⟨1, 2, b_parts_of⟩) (k : Nat) (S : Sto) (p : Pt) : Is (callF ds (k + 1) 20 [enc p] S) fun w S' => w = .tup (encs (subs p)) ∧ S' = S := by
  refine w_callF (k := k) h20 rfl ?_
  cases p <;> simp only [b_parts_of, w_var, w_c, w_bin, w_cmp, w_chain, w_and, w_or, w_ite, w_not, w_nil, w_cons, w_tup, w_lst, w_ix, w_no, w_yes, w_sl, w_call, w_bi, w_val, w_rng1, w_rng2, s_nil, s_cons, s_ret, s_expr, s_set, s_if, s_pass, s_setix, s_app, s_ext, o_addI, o_addS, o_addT, o_addL, o_sub, o_mulI, o_mulS, o_mulL, o_fdiv, o_mod, o_pow, c_ltI, c_ltS, c_le, c_gt, c_ge, c_eq, c_ne, e_ii, e_ss, e_bb, c_inS, c_notS, i_str, i_tup, i_ref, l_str, l_tup, l_rol, l_ref, b_lenS, b_lenT, b_lenR, b_abs, b_tupR, b_tupT, b_listR, b_listT, b_all, b_any, b_intI, b_intB, b_isiN, b_isiB, b_isiI, b_isiS, b_isiT, b_isiR, b_isiL, b_isN, b_notN, b_neg, b_rev, b_join, t_str, is_some, isB_some, byB_true, byB_false, start, wipe, bindT, List.map_cons, List.map_nil, List.cons_append, List.nil_append, List.append_nil, List.getElem?_cons_zero, List.getElem?_cons_succ, List.length_cons, List.length_nil, List.set_cons_zero, List.set_cons_succ, atI_0, atI_1, atI_2, atI_3, List.replicate, Nat.zero_add, Nat.reduceAdd, Nat.reduceSub, seqW_ref, seqW_tup, c_leS, b_iaddI, b_iaddS, b_isub, w_enum, w_zip, w_callv, enc, e_ss] <;> simp [encs, subs, byB_true, byB_false, LIM]
def nParts : List Nat := [112, 97, 114, 116, 115, 95, 111, 102]
theorem within_spec (h20 : ds 20 = some ⟨1, 2, b_parts_of⟩) (h35 : ds 560 = some ⟨2, 4, b_forms_within⟩) : ∀ (D k : Nat) (p : Pt) (S : Sto), deep p ≤ D → size p ≤ 1000 → Is (callF ds (k + D + 1) 560 [enc p, .fn nParts] S) fun w S' => ∃ f, w = .ref f ∧ S.length ≤ f ∧ rdL S' f = some (encs (forms p)) ∧ Kp S S' := by
  intro D
  induction D with
  | zero => intro k p S hd; have := deep_pos p; omega
  | succ D IH =>
  intro k p S hd hs
  refine w_callF (k := k + D + 1) h35 rfl ?_
  simp only [b_forms_within, nParts, w_var, w_c, w_bin, w_cmp, w_chain, w_and, w_or, w_ite, w_not, w_nil, w_cons, w_tup, w_lst, w_ix, w_no, w_yes, w_sl, w_call, w_bi, w_val, w_rng1, w_rng2, s_nil, s_cons, s_ret, s_expr, s_set, s_if, s_pass, s_setix, s_app, s_ext, o_addI, o_addS, o_addT, o_addL, o_sub, o_mulI, o_mulS, o_mulL, o_fdiv, o_mod, o_pow, c_ltI, c_ltS, c_le, c_gt, c_ge, c_eq, c_ne, e_ii, e_ss, e_bb, c_inS, c_notS, i_str, i_tup, i_ref, l_str, l_tup, l_rol, l_ref, b_lenS, b_lenT, b_lenR, b_abs, b_tupR, b_tupT, b_listR, b_listT, b_all, b_any, b_intI, b_intB, b_isiN, b_isiB, b_isiI, b_isiS, b_isiT, b_isiR, b_isiL, b_isN, b_notN, b_neg, b_rev, b_join, t_str, is_some, isB_some, byB_true, byB_false, start, wipe, bindT, List.map_cons, List.map_nil, List.cons_append, List.nil_append, List.append_nil, List.getElem?_cons_zero, List.getElem?_cons_succ, List.length_cons, List.length_nil, List.set_cons_zero, List.set_cons_succ, atI_0, atI_1, atI_2, atI_3, List.replicate, Nat.zero_add, Nat.reduceAdd, Nat.reduceSub, seqW_ref, seqW_tup, c_leS, b_iaddI, b_iaddS, b_isub, w_enum, w_zip, w_callv]
  refine ⟨by simp [LIM], ?_⟩
  refine w_for (n := (subs p).length) (fun i env S' => ∃ v, env = [some (enc p), some (.fn nParts), some (.ref S.length), v] ∧ rdL S' S.length = some (enc p :: encs (formss ((subs p).take i))) ∧ Kp S S') ?_
  try simp only [w_var, w_c, w_bin, w_cmp, w_chain, w_and, w_or, w_ite, w_not, w_nil, w_cons, w_tup, w_lst, w_ix, w_no, w_yes, w_sl, w_call, w_bi, w_val, w_rng1, w_rng2, s_nil, s_cons, s_ret, s_expr, s_set, s_if, s_pass, s_setix, s_app, s_ext, o_addI, o_addS, o_addT, o_addL, o_sub, o_mulI, o_mulS, o_mulL, o_fdiv, o_mod, o_pow, c_ltI, c_ltS, c_le, c_gt, c_ge, c_eq, c_ne, e_ii, e_ss, e_bb, c_inS, c_notS, i_str, i_tup, i_ref, l_str, l_tup, l_rol, l_ref, b_lenS, b_lenT, b_lenR, b_abs, b_tupR, b_tupT, b_listR, b_listT, b_all, b_any, b_intI, b_intB, b_isiN, b_isiB, b_isiI, b_isiS, b_isiT, b_isiR, b_isiL, b_isN, b_notN, b_neg, b_rev, b_join, t_str, is_some, isB_some, byB_true, byB_false, start, wipe, bindT, List.map_cons, List.map_nil, List.cons_append, List.nil_append, List.append_nil, List.getElem?_cons_zero, List.getElem?_cons_succ, List.length_cons, List.length_nil, List.set_cons_zero, List.set_cons_succ, atI_0, atI_1, atI_2, atI_3, List.replicate, Nat.zero_add, Nat.reduceAdd, Nat.reduceSub, seqW_ref, seqW_tup, c_leS, b_iaddI, b_iaddS, b_isub, w_enum, w_zip, w_callv]
  refine (parts_spec h20 (k + D) _ p).imp fun w S1 hw => ?_
  obtain ⟨rfl, rfl⟩ := hw
  refine ⟨by simp only [Src.len, encs_len], ⟨none, rfl, by rw [rdL_new]; rfl, .app _ _⟩, fun i env S' hi hI => ?_, fun env S' hI => ?_⟩
  · obtain ⟨v, rfl, f2, f3⟩ := hI
    have hx : (encs (subs p))[i]? = some (enc (subs p)[i]) := by rw [encs_map, List.getElem?_map, List.getElem?_eq_getElem hi]; rfl
    refine ⟨enc (subs p)[i], _, by simp only [Src.item]; exact hx, rfl, ?_⟩
    have hm : (subs p)[i] ∈ subs p := List.getElem_mem hi
    have q1 := deep_mem hm
    have q2 := size_mem hm
    have q3 := subs_sizes p
    have ht : (subs p).take (i + 1) = (subs p).take i ++ [(subs p)[i]] := by rw [List.take_add_one, List.getElem?_eq_getElem hi]; rfl
    have hq : deep (subs p)[i] ≤ D := by
      rcases subs_deeps p with r | ⟨s, r⟩
      · omega
      · subst r; simp [subs] at hi
    try simp only [w_var, w_c, w_bin, w_cmp, w_chain, w_and, w_or, w_ite, w_not, w_nil, w_cons, w_tup, w_lst, w_ix, w_no, w_yes, w_sl, w_call, w_bi, w_val, w_rng1, w_rng2, s_nil, s_cons, s_ret, s_expr, s_set, s_if, s_pass, s_setix, s_app, s_ext, o_addI, o_addS, o_addT, o_addL, o_sub, o_mulI, o_mulS, o_mulL, o_fdiv, o_mod, o_pow, c_ltI, c_ltS, c_le, c_gt, c_ge, c_eq, c_ne, e_ii, e_ss, e_bb, c_inS, c_notS, i_str, i_tup, i_ref, l_str, l_tup, l_rol, l_ref, b_lenS, b_lenT, b_lenR, b_abs, b_tupR, b_tupT, b_listR, b_listT, b_all, b_any, b_intI, b_intB, b_isiN, b_isiB, b_isiI, b_isiS, b_isiT, b_isiR, b_isiL, b_isN, b_notN, b_neg, b_rev, b_join, t_str, is_some, isB_some, byB_true, byB_false, start, wipe, bindT, List.map_cons, List.map_nil, List.cons_append, List.nil_append, List.append_nil, List.getElem?_cons_zero, List.getElem?_cons_succ, List.length_cons, List.length_nil, List.set_cons_zero, List.set_cons_succ, atI_0, atI_1, atI_2, atI_3, List.replicate, Nat.zero_add, Nat.reduceAdd, Nat.reduceSub, seqW_ref, seqW_tup, c_leS, b_iaddI, b_iaddS, b_isub, w_enum, w_zip, w_callv, nParts]
    refine (IH k (subs p)[i] S' hq (by omega)).imp fun w S2 hw => ?_
    obtain ⟨f, rfl, g1, g2, g3⟩ := hw
    have f4 : rdL S2 S.length = some (enc p :: encs (formss ((subs p).take i))) := rdL_of (g3.get (rdL_iff.mp f2))
    have e1 : formss ((subs p).take (i + 1)) = formss ((subs p).take i) ++ forms (subs p)[i] := by
      rw [ht, formss_app]
      simp [formss]
    have l1 := formss_len ((subs p).take (i + 1))
    have l2 : sizes ((subs p).take (i + 1)) + sizes ((subs p).drop (i + 1)) = sizes (subs p) := by rw [← sizes_app, List.take_append_drop]
    rw [e1, List.length_append] at l1
    simp only [f4, seqW_ref, g2]
    refine ⟨by simp only [List.length_cons, encs_len, LIM]; omega, _, rfl, ?_, Pg.Kp.set (f3.trans g3) (Nat.le_refl _) _⟩
    rw [rdL_set_same f4, e1, encs_app, List.cons_append]
  · obtain ⟨v, rfl, f2, f3⟩ := hI
    rw [List.take_length] at f2
    try simp only [w_var, w_c, w_bin, w_cmp, w_chain, w_and, w_or, w_ite, w_not, w_nil, w_cons, w_tup, w_lst, w_ix, w_no, w_yes, w_sl, w_call, w_bi, w_val, w_rng1, w_rng2, s_nil, s_cons, s_ret, s_expr, s_set, s_if, s_pass, s_setix, s_app, s_ext, o_addI, o_addS, o_addT, o_addL, o_sub, o_mulI, o_mulS, o_mulL, o_fdiv, o_mod, o_pow, c_ltI, c_ltS, c_le, c_gt, c_ge, c_eq, c_ne, e_ii, e_ss, e_bb, c_inS, c_notS, i_str, i_tup, i_ref, l_str, l_tup, l_rol, l_ref, b_lenS, b_lenT, b_lenR, b_abs, b_tupR, b_tupT, b_listR, b_listT, b_all, b_any, b_intI, b_intB, b_isiN, b_isiB, b_isiI, b_isiS, b_isiT, b_isiR, b_isiL, b_isN, b_notN, b_neg, b_rev, b_join, t_str, is_some, isB_some, byB_true, byB_false, start, wipe, bindT, List.map_cons, List.map_nil, List.cons_append, List.nil_append, List.append_nil, List.getElem?_cons_zero, List.getElem?_cons_succ, List.length_cons, List.length_nil, List.set_cons_zero, List.set_cons_succ, atI_0, atI_1, atI_2, atI_3, List.replicate, Nat.zero_add, Nat.reduceAdd, Nat.reduceSub, seqW_ref, seqW_tup, c_leS, b_iaddI, b_iaddS, b_isub, w_enum, w_zip, w_callv]
    refine ⟨⟨_, Nat.le_refl _, by simp only [Src.len, encs_len]⟩, _, rfl, Nat.le_refl _, ?_, f3⟩
    rw [f2, forms_subs p]
    rfl
theorem forms_spec (h20 : ds 20 = some ⟨1, 2, b_parts_of⟩) (h35 : ds 35 = some ⟨1, 1, b_forms_of⟩ ∧ ds 560 = some ⟨2, 4, b_forms_within⟩) (D k : Nat) (p : Pt) (S : Sto) (hd : deep p ≤ D) (hs : size p ≤ 1000) : Is (callF ds (k + D + 2) 35 [enc p] S) fun w S' => ∃ f, w = .ref f ∧ S.length ≤ f ∧ rdL S' f = some (encs (forms p)) ∧ Kp S S' := by
  refine w_callF (k := k + D + 1) h35.1 rfl ?_
  simp only [b_forms_of, w_var, w_c, w_bin, w_cmp, w_chain, w_and, w_or, w_ite, w_not, w_nil, w_cons, w_tup, w_lst, w_ix, w_no, w_yes, w_sl, w_call, w_bi, w_val, w_rng1, w_rng2, s_nil, s_cons, s_ret, s_expr, s_set, s_if, s_pass, s_setix, s_app, s_ext, o_addI, o_addS, o_addT, o_addL, o_sub, o_mulI, o_mulS, o_mulL, o_fdiv, o_mod, o_pow, c_ltI, c_ltS, c_le, c_gt, c_ge, c_eq, c_ne, e_ii, e_ss, e_bb, c_inS, c_notS, i_str, i_tup, i_ref, l_str, l_tup, l_rol, l_ref, b_lenS, b_lenT, b_lenR, b_abs, b_tupR, b_tupT, b_listR, b_listT, b_all, b_any, b_intI, b_intB, b_isiN, b_isiB, b_isiI, b_isiS, b_isiT, b_isiR, b_isiL, b_isN, b_notN, b_neg, b_rev, b_join, t_str, is_some, isB_some, byB_true, byB_false, start, wipe, bindT, List.map_cons, List.map_nil, List.cons_append, List.nil_append, List.append_nil, List.getElem?_cons_zero, List.getElem?_cons_succ, List.length_cons, List.length_nil, List.set_cons_zero, List.set_cons_succ, atI_0, atI_1, atI_2, atI_3, List.replicate, Nat.zero_add, Nat.reduceAdd, Nat.reduceSub, seqW_ref, seqW_tup, c_leS, b_iaddI, b_iaddS, b_isub, w_enum, w_zip, w_callv]
  exact (within_spec h20 h35.2 D k p S hd hs).imp fun w S1 hw => hw
theorem txts_strs (xs : List (List Nat)) : txts (xs.map W.str) = some xs := by
  induction xs with
  | nil => rfl
  | cons x r ih => simp only [List.map_cons, txts, ih, Option.map_some]
theorem b_sset {k : Nat} {S : Sto} {P : W → Sto → Prop} {xs : List (List Nat)} (h : rdL S k = some (xs.map .str)) (hl : xs.length ≤ 60) : Is (opI .sset [.ref k] S) P = P (.ref S.length) (S ++ [.lst ((sortU xs).map .str)]) := by
  simp only [opI, h, txts_strs, hl, if_true]
  rw [w_new]
  have := len_sortU xs
  exact propext ⟨fun q => q.2, fun q => ⟨by rw [List.length_map]; simp only [LIM]; omega, q⟩⟩
theorem namesof_spec (h20 : ds 20 = some ⟨1, 2, b_parts_of⟩) (h35 : ds 35 = some ⟨1, 1, b_forms_of⟩ ∧ ds 560 = some ⟨2, 4, b_forms_within⟩) (h36 : ds 36 = some ⟨1, 2, b_names_of⟩) (k D : Nat) (p : Pt) (S : Sto) (hd : deep p ≤ D) (hs : size p ≤ 60) : Is (callF ds (k + D + 3) 36 [enc p] S) fun w S' => w = .tup ((sortU (marks p)).map .str) ∧ Kp S S' := by
  refine w_callF (k := k + D + 2) h36 rfl ?_
  simp only [b_names_of, w_var, w_c, w_bin, w_cmp, w_chain, w_and, w_or, w_ite, w_not, w_nil, w_cons, w_tup, w_lst, w_ix, w_no, w_yes, w_sl, w_call, w_bi, w_val, w_rng1, w_rng2, s_nil, s_cons, s_ret, s_expr, s_set, s_if, s_pass, s_setix, s_app, s_ext, o_addI, o_addS, o_addT, o_addL, o_sub, o_mulI, o_mulS, o_mulL, o_fdiv, o_mod, o_pow, c_ltI, c_ltS, c_le, c_gt, c_ge, c_eq, c_ne, e_ii, e_ss, e_bb, c_inS, c_notS, i_str, i_tup, i_ref, l_str, l_tup, l_rol, l_ref, b_lenS, b_lenT, b_lenR, b_abs, b_tupR, b_tupT, b_listR, b_listT, b_all, b_any, b_intI, b_intB, b_isiN, b_isiB, b_isiI, b_isiS, b_isiT, b_isiR, b_isiL, b_isN, b_notN, b_neg, b_rev, b_join, t_str, is_some, isB_some, byB_true, byB_false, start, wipe, bindT, List.map_cons, List.map_nil, List.cons_append, List.nil_append, List.append_nil, List.getElem?_cons_zero, List.getElem?_cons_succ, List.length_cons, List.length_nil, List.set_cons_zero, List.set_cons_succ, atI_0, atI_1, atI_2, atI_3, List.replicate, Nat.zero_add, Nat.reduceAdd, Nat.reduceSub, seqW_ref, seqW_tup, c_leS, b_iaddI, b_iaddS, b_isub, w_enum, w_zip, w_callv]
  refine w_compP (encs (forms p)) isMk mkN (by rw [encs_len, forms_len]; simp only [LIM]; omega) ?_
  try simp only [w_var, w_c, w_bin, w_cmp, w_chain, w_and, w_or, w_ite, w_not, w_nil, w_cons, w_tup, w_lst, w_ix, w_no, w_yes, w_sl, w_call, w_bi, w_val, w_rng1, w_rng2, s_nil, s_cons, s_ret, s_expr, s_set, s_if, s_pass, s_setix, s_app, s_ext, o_addI, o_addS, o_addT, o_addL, o_sub, o_mulI, o_mulS, o_mulL, o_fdiv, o_mod, o_pow, c_ltI, c_ltS, c_le, c_gt, c_ge, c_eq, c_ne, e_ii, e_ss, e_bb, c_inS, c_notS, i_str, i_tup, i_ref, l_str, l_tup, l_rol, l_ref, b_lenS, b_lenT, b_lenR, b_abs, b_tupR, b_tupT, b_listR, b_listT, b_all, b_any, b_intI, b_intB, b_isiN, b_isiB, b_isiI, b_isiS, b_isiT, b_isiR, b_isiL, b_isN, b_notN, b_neg, b_rev, b_join, t_str, is_some, isB_some, byB_true, byB_false, start, wipe, bindT, List.map_cons, List.map_nil, List.cons_append, List.nil_append, List.append_nil, List.getElem?_cons_zero, List.getElem?_cons_succ, List.length_cons, List.length_nil, List.set_cons_zero, List.set_cons_succ, atI_0, atI_1, atI_2, atI_3, List.replicate, Nat.zero_add, Nat.reduceAdd, Nat.reduceSub, seqW_ref, seqW_tup, c_leS, b_iaddI, b_iaddS, b_isub, w_enum, w_zip, w_callv]
  refine (forms_spec h20 h35 D k p S hd (by omega)).imp fun w S1 hw => ?_
  obtain ⟨f, rfl, f1, f2, f3⟩ := hw
  refine ⟨by simp only [Src.items, f2], fun x hx => ?_, ?_⟩
  · rw [encs_map] at hx
    obtain ⟨q, hq, rfl⟩ := List.mem_map.mp hx
    refine ⟨_, rfl, ?_⟩
    cases q <;> try simp only [w_var, w_c, w_bin, w_cmp, w_chain, w_and, w_or, w_ite, w_not, w_nil, w_cons, w_tup, w_lst, w_ix, w_no, w_yes, w_sl, w_call, w_bi, w_val, w_rng1, w_rng2, s_nil, s_cons, s_ret, s_expr, s_set, s_if, s_pass, s_setix, s_app, s_ext, o_addI, o_addS, o_addT, o_addL, o_sub, o_mulI, o_mulS, o_mulL, o_fdiv, o_mod, o_pow, c_ltI, c_ltS, c_le, c_gt, c_ge, c_eq, c_ne, e_ii, e_ss, e_bb, c_inS, c_notS, i_str, i_tup, i_ref, l_str, l_tup, l_rol, l_ref, b_lenS, b_lenT, b_lenR, b_abs, b_tupR, b_tupT, b_listR, b_listT, b_all, b_any, b_intI, b_intB, b_isiN, b_isiB, b_isiI, b_isiS, b_isiT, b_isiR, b_isiL, b_isN, b_notN, b_neg, b_rev, b_join, t_str, is_some, isB_some, byB_true, byB_false, start, wipe, bindT, List.map_cons, List.map_nil, List.cons_append, List.nil_append, List.append_nil, List.getElem?_cons_zero, List.getElem?_cons_succ, List.length_cons, List.length_nil, List.set_cons_zero, List.set_cons_succ, atI_0, atI_1, atI_2, atI_3, List.replicate, Nat.zero_add, Nat.reduceAdd, Nat.reduceSub, seqW_ref, seqW_tup, c_leS, b_iaddI, b_iaddS, b_isub, w_enum, w_zip, w_callv, enc, e_ss, isMk, mkN] <;> simp
  · have l1 := marks_len p
    rw [b_sset (xs := marks p) (by rw [rdL_new, encs_map, marks_forms p]) (by omega)]
    try simp only [w_var, w_c, w_bin, w_cmp, w_chain, w_and, w_or, w_ite, w_not, w_nil, w_cons, w_tup, w_lst, w_ix, w_no, w_yes, w_sl, w_call, w_bi, w_val, w_rng1, w_rng2, s_nil, s_cons, s_ret, s_expr, s_set, s_if, s_pass, s_setix, s_app, s_ext, o_addI, o_addS, o_addT, o_addL, o_sub, o_mulI, o_mulS, o_mulL, o_fdiv, o_mod, o_pow, c_ltI, c_ltS, c_le, c_gt, c_ge, c_eq, c_ne, e_ii, e_ss, e_bb, c_inS, c_notS, i_str, i_tup, i_ref, l_str, l_tup, l_rol, l_ref, b_lenS, b_lenT, b_lenR, b_abs, b_tupR, b_tupT, b_listR, b_listT, b_all, b_any, b_intI, b_intB, b_isiN, b_isiB, b_isiI, b_isiS, b_isiT, b_isiR, b_isiL, b_isN, b_notN, b_neg, b_rev, b_join, t_str, is_some, isB_some, byB_true, byB_false, start, wipe, bindT, List.map_cons, List.map_nil, List.cons_append, List.nil_append, List.append_nil, List.getElem?_cons_zero, List.getElem?_cons_succ, List.length_cons, List.length_nil, List.set_cons_zero, List.set_cons_succ, atI_0, atI_1, atI_2, atI_3, List.replicate, Nat.zero_add, Nat.reduceAdd, Nat.reduceSub, seqW_ref, seqW_tup, c_leS, b_iaddI, b_iaddS, b_isub, w_enum, w_zip, w_callv, rdL_new]
    exact ⟨trivial, (f3.snoc _).snoc _⟩
end
end Pg
namespace MP
/-- a loop whose number of turns is known only when what is walked is -/
theorem w_forX {Φ : Fns} {env : Env} {S : Sto} {N : Env → Sto → Prop} {Q : W → Sto → Prop} {ts : List Nat} {s : CI} {b : CSs}
    (h : IsI (evi Φ s env S) fun J S1 => ∃ (n : Nat) (Inv : Nat → Env → Sto → Prop), J.len S1 = some n ∧ Inv 0 env S1 ∧ (∀ i env S, i < n → Inv i env S → ∃ x env', J.item S i = some x ∧ bindT S env ts x = some env' ∧ IsS (exs Φ b env' S) (Inv (i + 1)) Q) ∧ ∀ env S, Inv n env S → (∃ n', n' ≤ n ∧ J.len S = some n') ∧ N env S) :
    IsS (ex Φ (.for_ ts s b) env S) N Q := by
  cases he : evi Φ s env S with
  | none => rw [he, isI_none] at h; exact h.elim
  | some p =>
    obtain ⟨J, S1⟩ := p
    rw [he, isI_some] at h
    obtain ⟨n, Inv, h⟩ := h
    exact w_for (n := n) Inv (by rw [he, isI_some]; exact h)
theorem w_compX {Φ : Fns} {env : Env} {S : Sto} {P : W → Sto → Prop} {vs ts : List Nat} {s : CI} {t e : CE}
    (h : IsI (evi Φ s env S) fun J S1 => ∃ (n : Nat) (Inv : Nat → List W → Sto → Prop), n ≤ LIM ∧ J.len S1 = some n ∧ Inv 0 [] S1 ∧ (∀ i acc S', i < n → Inv i acc S' → ∃ x env', J.item S' i = some x ∧ bindT S' (wipe env vs) ts x = some env' ∧ Is (ev Φ t env' S') fun k S2 => ByB k (Is (ev Φ e env' S2) fun w S3 => Inv (i + 1) (acc ++ [w]) S3) (Inv (i + 1) acc S2)) ∧ ∀ acc S', acc.length ≤ n → Inv n acc S' → (∃ n', n' ≤ n ∧ J.len S' = some n') ∧ P (.ref S'.length) (S' ++ [.lst acc])) :
    Is (ev Φ (.comp vs ts s t e) env S) P := by
  cases he : evi Φ s env S with
  | none => rw [he, isI_none] at h; exact h.elim
  | some p =>
    obtain ⟨J, S1⟩ := p
    rw [he, isI_some] at h
    obtain ⟨n, Inv, hn, h⟩ := h
    exact w_comp (n := n) hn Inv (by rw [he, isI_some]; exact h)
end MP
namespace Pg
open MP
/-- all but the deck and one list stands -/
def Ky (d c l : Nat) (S S' : Sto) : Prop := S.length ≤ S'.length ∧ ∀ k, k < S.length → k ≠ d → k ≠ c → k ≠ l → S'[k]? = S[k]?
theorem Ky.refl (d c l : Nat) (S : Sto) : Ky d c l S S := ⟨Nat.le_refl _, fun _ _ _ _ _ => rfl⟩
theorem Ky.trans {d c l : Nat} {S S1 S2 : Sto} (a : Ky d c l S S1) (b : Ky d c l S1 S2) : Ky d c l S S2 := ⟨Nat.le_trans a.1 b.1, fun k h h1 h2 h3 => (b.2 k (Nat.lt_of_lt_of_le h a.1) h1 h2 h3).trans (a.2 k h h1 h2 h3)⟩
theorem Ky.of {d c l : Nat} {S S' : Sto} (h : Kx d c S S') : Ky d c l S S' := ⟨h.1, fun k hk h1 h2 _ => h.2 k hk h1 h2⟩
theorem Ky.get {d c l : Nat} {S S' : Sto} (h : Ky d c l S S') {k : Nat} {o : SO} (e : S[k]? = some o) (h1 : k ≠ d) (h2 : k ≠ c) (h3 : k ≠ l) : S'[k]? = some o := (h.2 k (List.getElem?_eq_some_iff.mp e).1 h1 h2 h3).trans e
/-- what stands while a form is drawn -/
structure Fm (d c lf nm n L : Nat) (xs : List (List Nat)) (S : Sto) : Prop where
  dk : Dk d c n S
  le : rdL S lf = some [.int (L : Nat)]
  ns : rdL S nm = some (xs.map .str)
  l1 : lf ≠ d
  l2 : lf ≠ c
  n1 : nm ≠ d
  n2 : nm ≠ c
  n3 : nm ≠ lf
theorem Fm.kx {d c lf nm n L n' : Nat} {xs : List (List Nat)} {S S' : Sto} (h : Fm d c lf nm n L xs S) (k : Kx d c S S') (hd : Dk d c n' S') : Fm d c lf nm n' L xs S' :=
  ⟨hd, rd_kx h.le k h.l1 h.l2, rd_kx h.ns k h.n1 h.n2, h.l1, h.l2, h.n1, h.n2, h.n3⟩
theorem Fm.mono {d c lf nm n L n' : Nat} {xs : List (List Nat)} {S : Sto} (h : Fm d c lf nm n L xs S) (hn : n ≤ n') : Fm d c lf nm n' L xs S := ⟨h.dk.mono hn, h.le, h.ns, h.l1, h.l2, h.n1, h.n2, h.n3⟩
theorem Fm.kp {d c lf nm n L : Nat} {xs : List (List Nat)} {S S' : Sto} (h : Fm d c lf nm n L xs S) (k : Kp S S') : Fm d c lf nm n L xs S' := h.kx (.of k) (h.dk.kp k)
theorem Fm.put {d c lf nm n L : Nat} {xs : List (List Nat)} {S : Sto} (h : Fm d c lf nm n L xs S) (L' : Nat) : Fm d c lf nm n L' xs (S.set lf (.lst [.int (L' : Nat)])) := by
  refine ⟨?_, rdL_set_same h.le, by rw [rdL_set_ne (Ne.symm h.n3)]; exact h.ns, h.l1, h.l2, h.n1, h.n2, h.n3⟩
  obtain ⟨cnt, a, b, e⟩ := h.dk.hd
  obtain ⟨cs, x, y, z⟩ := h.dk.hc
  exact ⟨h.dk.ne, ⟨cnt, a, b, by rw [List.getElem?_set_ne h.l1]; exact e⟩, ⟨cs, x, y, by rw [List.getElem?_set_ne h.l2]; exact z⟩⟩
theorem Ky.put (d c l : Nat) (S : Sto) (o : SO) : Ky d c l S (S.set l o) := ⟨by rw [List.length_set]; exact Nat.le_refl _, fun k _ _ _ h3 => by rw [List.getElem?_set_ne (Ne.symm h3)]⟩
/-- what a drawn form is -/
def FR (d c lf nm n L : Nat) (xs : List (List Nat)) (D : Nat) (S : Sto) (w : W) (S' : Sto) : Prop :=
  ∃ p L', w = enc p ∧ okP p = true ∧ L' ≤ L ∧ size p + L' ≤ L + 1 ∧ deep p ≤ max D 1 ∧ Fm d c lf nm (n + 50 * (L - L' + 1)) L' xs S' ∧ Ky d c lf S S'
end Pg
namespace Pg
open MP
/-! ### patterns as the laws draw them -/
def okT (lo : Int) (hi : W) : Bool := match hi with
  | .int i => decide (lo = 0) && decide (i = 1)
  | .non => decide (lo = 0) || decide (lo = 1)
  | _ => false
/-- signs that are there, among the 27 -/
def okS (s : List Nat) : Bool := !s.isEmpty && s.all fun c => decide (c = 32) || (decide (97 ≤ c) && decide (c ≤ 122))
mutual
def okG : Pt → Bool
  | .sign s => okS s && decide (s.length ≤ 27)
  | .row ps => okGs ps
  | .any ps => !ps.isEmpty && okGs ps
  | .some lo hi p => okT lo hi && okG p
  | .mark n p => (n.all fun c => decide (97 ≤ c) && decide (c ≤ 122)) && okG p
def okGs : List Pt → Bool
  | [] => true
  | p :: r => okG p && okGs r
end
theorem okGs_app : ∀ a b : List Pt, okGs (a ++ b) = (okGs a && okGs b)
  | [], b => by simp [okGs]
  | p :: r, b => by rw [List.cons_append, okGs, okGs, okGs_app r b, Bool.and_assoc]
mutual
theorem okG_P : ∀ p : Pt, okG p = true → okP p = true
  | .sign s, h => by
    simp only [okG, okS, Bool.and_eq_true] at h
    simp only [okP]
    refine List.all_eq_true.mpr fun c hc => ?_
    have := List.all_eq_true.mp h.1.2 c hc
    simp only [Bool.or_eq_true, Bool.and_eq_true, decide_eq_true_eq] at this ⊢
    omega
  | .row ps, h => by simp only [okG] at h; simp only [okP]; exact okGs_P ps h
  | .any ps, h => by simp only [okG, Bool.and_eq_true] at h; simp only [okP]; exact okGs_P ps h.2
  | .some lo hi p, h => by
    simp only [okG, Bool.and_eq_true] at h
    simp only [okP, okG_P p h.2, Bool.and_true]
    cases hi <;> simp_all [okT, isHi]
  | .mark n p, h => by
    simp only [okG, Bool.and_eq_true] at h
    simp only [okP, okG_P p h.2, Bool.and_true]
    refine List.all_eq_true.mpr fun c hc => ?_
    have := List.all_eq_true.mp h.1 c hc
    simp only [Bool.and_eq_true, decide_eq_true_eq] at this ⊢
    omega
theorem okGs_P : ∀ ps : List Pt, okGs ps = true → okPs ps = true
  | [], _ => rfl
  | p :: r, h => by
    simp only [okGs, Bool.and_eq_true] at h
    simp only [okPs, okG_P p h.1, okGs_P r h.2, Bool.and_self]
end
/-! idle -/
def endB : Pt → Bool
  | .some _ .non p => blankP p
  | _ => false
mutual
def idleP : Pt → Bool
  | .sign _ => false
  | .row ps => idlePs ps
  | .any ps => idlePs ps
  | .some lo hi p => endB (.some lo hi p) || idleP p
  | .mark _ p => idleP p
def idlePs : List Pt → Bool
  | [] => false
  | p :: r => idleP p || idlePs r
end
theorem idlePs_app : ∀ a b : List Pt, idlePs (a ++ b) = (idlePs a || idlePs b)
  | [], b => by simp [idlePs]
  | p :: r, b => by rw [List.cons_append, idlePs, idlePs, idlePs_app r b, Bool.or_assoc]
mutual
theorem idle_forms : ∀ p : Pt, (forms p).any endB = idleP p
  | .sign s => by simp [forms, idleP, endB]
  | .row ps => by rw [forms, List.any_cons, idles_forms ps, idleP]; rfl
  | .any ps => by rw [forms, List.any_cons, idles_forms ps, idleP]; rfl
  | .some lo hi p => by rw [forms, List.any_cons, idle_forms p, idleP]
  | .mark n p => by rw [forms, List.any_cons, idle_forms p, idleP]; rfl
theorem idles_forms : ∀ ps : List Pt, (formss ps).any endB = idlePs ps
  | [] => rfl
  | p :: r => by rw [formss, List.any_append, idle_forms p, idles_forms r, idlePs]
end
/-! how often a name is marked, two at most -/
mutual
def tm (z : List Nat) : Pt → Nat
  | .sign _ => 0
  | .row ps => min 2 (tmSum z ps)
  | .any ps => tmMax z ps
  | .some lo hi p => if isNon hi = true ∧ 0 < tm z p then 2 else min 2 (tm z p)
  | .mark n p => if n = z then min 2 (tm z p + 1) else min 2 (tm z p)
def tmSum (z : List Nat) : List Pt → Nat
  | [] => 0
  | p :: r => tm z p + tmSum z r
def tmMax (z : List Nat) : List Pt → Nat
  | [] => 0
  | p :: r => max (tm z p) (tmMax z r)
end
mutual
theorem tm_mem {z : List Nat} : ∀ p : Pt, 0 < tm z p → z ∈ marks p
  | .sign s, h => by simp [tm] at h
  | .row ps, h => by rw [marks]; exact tms_mem ps (by rw [tm] at h; omega)
  | .any ps, h => by rw [marks]; exact tmm_mem ps (by rw [tm] at h; omega)
  | .some lo hi p, h => by
    rw [marks]
    refine tm_mem p ?_
    rw [tm] at h
    split at h
    · rename_i q; exact q.2
    · omega
  | .mark n p, h => by
    rw [marks]
    rw [tm] at h
    split at h
    · rename_i q; rw [q]; exact List.mem_cons_self ..
    · exact List.mem_cons_of_mem _ (tm_mem p (by omega))
theorem tms_mem {z : List Nat} : ∀ ps : List Pt, 0 < tmSum z ps → z ∈ markss ps
  | [], h => by simp [tmSum] at h
  | p :: r, h => by
    rw [markss, List.mem_append]
    rw [tmSum] at h
    by_cases q : 0 < tm z p
    · exact .inl (tm_mem p q)
    · exact .inr (tms_mem r (by omega))
theorem tmm_mem {z : List Nat} : ∀ ps : List Pt, 0 < tmMax z ps → z ∈ markss ps
  | [], h => by simp [tmMax] at h
  | p :: r, h => by
    rw [markss, List.mem_append]
    rw [tmMax] at h
    by_cases q : 0 < tm z p
    · exact .inl (tm_mem p q)
    · exact .inr (tmm_mem r (by omega))
end
theorem tm_zero {z : List Nat} {p : Pt} (h : z ∉ marks p) : tm z p = 0 := by
  by_cases q : 0 < tm z p
  · exact absurd (tm_mem p q) h
  · omega
theorem tmSum_app (z : List Nat) : ∀ a b : List Pt, tmSum z (a ++ b) = tmSum z a + tmSum z b
  | [], b => by simp [tmSum]
  | p :: r, b => by rw [List.cons_append, tmSum, tmSum, tmSum_app z r b, Nat.add_assoc]
theorem tmMax_app (z : List Nat) : ∀ a b : List Pt, tmMax z (a ++ b) = max (tmMax z a) (tmMax z b)
  | [], b => by simp [tmMax]
  | p :: r, b => by rw [List.cons_append, tmMax, tmMax, tmMax_app z r b, Nat.max_assoc]
mutual
theorem tm_le {z : List Nat} : ∀ p : Pt, tm z p ≤ 2
  | .sign s => by simp [tm]
  | .row ps => by rw [tm]; omega
  | .any ps => by rw [tm]; exact tmm_le ps
  | .some lo hi p => by rw [tm]; split <;> omega
  | .mark n p => by rw [tm]; split <;> omega
theorem tmm_le {z : List Nat} : ∀ ps : List Pt, tmMax z ps ≤ 2
  | [] => by simp [tmMax]
  | p :: r => by have := tm_le (z := z) p; have := tmm_le (z := z) r; rw [tmMax]; omega
end
theorem okGs_mem {ps : List Pt} : okGs ps = true ↔ ∀ p ∈ ps, okG p = true := by
  induction ps with
  | nil => simp [okGs]
  | cons p r ih => simp [okGs, ih]
theorem idlePs_mem {ps : List Pt} : idlePs ps = false ↔ ∀ p ∈ ps, idleP p = false := by
  induction ps with
  | nil => simp [idlePs]
  | cons p r ih => simp [idlePs, ih]
theorem markss_mem {z : List Nat} : ∀ {ps : List Pt}, z ∈ markss ps ↔ ∃ p ∈ ps, z ∈ marks p
  | [] => by simp [markss]
  | p :: r => by
    rw [markss, List.mem_append, markss_mem (ps := r)]
    simp
/-! a part of a row that is a row, of an any that is an any, with a some around -/
def wrap (w : List Nat) (p : Pt) : Pt := if word p = w then .some 0 (.int 1) p else p
theorem wrap_size (w : List Nat) (p : Pt) : size (wrap w p) ≤ size p + 1 := by unfold wrap; split <;> (try simp only [size]) <;> omega
theorem wrap_deep (w : List Nat) (p : Pt) : deep (wrap w p) ≤ deep p + 1 := by unfold wrap; split <;> (try simp only [deep]) <;> omega
theorem wrap_ok (w : List Nat) {p : Pt} (h : okG p = true) : okG (wrap w p) = true := by unfold wrap; split <;> simp [okG, h, okT]
theorem wrap_idle (w : List Nat) (p : Pt) : idleP (wrap w p) = idleP p := by unfold wrap; split <;> simp [idleP, endB]
theorem wrap_marks (w : List Nat) (p : Pt) : marks (wrap w p) = marks p := by unfold wrap; split <;> simp [marks]
theorem wrap_tm (w z : List Nat) (p : Pt) : tm z (wrap w p) = tm z p := by
  have := tm_le (z := z) p
  unfold wrap
  split
  · rw [tm, if_neg (by simp [isNon])]; omega
  · rfl
theorem wrap_forms (w : List Nat) (p : Pt) (q : Pt) (h : q ∈ forms p) : q ∈ forms (wrap w p) := by
  unfold wrap
  split
  · rw [forms]; exact List.mem_cons_of_mem _ h
  · exact h
theorem sizes_wrap (w : List Nat) : ∀ ps : List Pt, sizes (ps.map (wrap w)) ≤ sizes ps + ps.length
  | [] => by simp [sizes]
  | p :: r => by
    have h1 := wrap_size w p
    have h2 := sizes_wrap w r
    rw [List.map_cons, sizes, sizes, List.length_cons]
    omega
theorem deeps_wrap (w : List Nat) : ∀ ps : List Pt, deeps (ps.map (wrap w)) ≤ deeps ps + 1
  | [] => by simp [deeps]
  | p :: r => by
    have h1 := wrap_deep w p
    have h2 := deeps_wrap w r
    rw [List.map_cons, deeps, deeps]
    omega
theorem flat1_ne {w : List Nat} {p : Pt} (h : word p ≠ w) : flat1 w p = [p] := by
  cases p with
  | row qs => simp only [flat1]; rw [if_neg fun e => h e.symm]
  | any qs => simp only [flat1]; rw [if_neg fun e => h e.symm]
  | _ => rfl
theorem enc_word {w : List Nat} {p : Pt} (hw : w = kRow ∨ w = kAny) (h : word p = w) : enc p = .tup [.str w, .tup (encs (flat1 w p))] := by
  rcases hw with rfl | rfl
  · cases p <;> first | (simp only [word] at h; cases h; done) | rfl
  · cases p <;> first | (simp only [word] at h; cases h; done) | rfl
end Pg
namespace Pg
open MP
section
variable {ds : Nat → Option Def}
/-- a drawn sign -/
theorem lsign_spec (h4 : ds 4 = some ⟨2, 4, b_law_draw⟩) (h112 : ds 112 = some ⟨1, 1, b_law_sign_v3⟩) (k : Nat) {S : Sto} {d c n : Nat} (h : Dk d c n S) (hn : n ≤ 1000000000) :
    Is (callF ds (k + 2) 112 [.ref d] S) fun w S' => ∃ s, w = enc (.sign s) ∧ okG (.sign s) = true ∧ Dk d c (n + 1) S' ∧ Kx d c S S' := by
  refine w_callF (k := k + 1) h112 rfl ?_
  simp only [b_law_sign_v3, w_var, w_c, w_bin, w_cmp, w_chain, w_and, w_or, w_ite, w_not, w_nil, w_cons, w_tup, w_lst, w_ix, w_no, w_yes, w_sl, w_call, w_bi, w_val, w_rng1, w_rng2, s_nil, s_cons, s_ret, s_expr, s_set, s_if, s_pass, s_setix, s_app, s_ext, o_addI, o_addS, o_addT, o_addL, o_sub, o_mulI, o_mulS, o_mulL, o_fdiv, o_mod, o_pow, c_ltI, c_ltS, c_le, c_gt, c_ge, c_eq, c_ne, e_ii, e_ss, e_bb, c_inS, c_notS, i_str, i_tup, i_ref, l_str, l_tup, l_rol, l_ref, b_lenS, b_lenT, b_lenR, b_abs, b_tupR, b_tupT, b_listR, b_listT, b_all, b_any, b_intI, b_intB, b_isiN, b_isiB, b_isiI, b_isiS, b_isiT, b_isiR, b_isiL, b_isN, b_notN, b_neg, b_rev, b_join, t_str, is_some, isB_some, byB_true, byB_false, start, wipe, bindT, List.map_cons, List.map_nil, List.cons_append, List.nil_append, List.append_nil, List.getElem?_cons_zero, List.getElem?_cons_succ, List.length_cons, List.length_nil, List.set_cons_zero, List.set_cons_succ, atI_0, atI_1, atI_2, atI_3, List.replicate, Nat.zero_add, Nat.reduceAdd, Nat.reduceSub, seqW_ref, seqW_tup, c_leS, b_iaddI, b_iaddS, b_isub, w_enum, w_zip, w_callv]
  refine ⟨by simp [LIM], ?_⟩
  have hj := h.ne_of (Nat.le_refl _)
  refine draw_w h4 k (h.kp (.app _ _)) (.of (.app S _)) (by omega) 8 (by omega) (by omega) fun v S1 a1 a2 a3 a4 a5 => ?_
  try simp only [w_var, w_c, w_bin, w_cmp, w_chain, w_and, w_or, w_ite, w_not, w_nil, w_cons, w_tup, w_lst, w_ix, w_no, w_yes, w_sl, w_call, w_bi, w_val, w_rng1, w_rng2, s_nil, s_cons, s_ret, s_expr, s_set, s_if, s_pass, s_setix, s_app, s_ext, o_addI, o_addS, o_addT, o_addL, o_sub, o_mulI, o_mulS, o_mulL, o_fdiv, o_mod, o_pow, c_ltI, c_ltS, c_le, c_gt, c_ge, c_eq, c_ne, e_ii, e_ss, e_bb, c_inS, c_notS, i_str, i_tup, i_ref, l_str, l_tup, l_rol, l_ref, b_lenS, b_lenT, b_lenR, b_abs, b_tupR, b_tupT, b_listR, b_listT, b_all, b_any, b_intI, b_intB, b_isiN, b_isiB, b_isiI, b_isiS, b_isiT, b_isiR, b_isiL, b_isN, b_notN, b_neg, b_rev, b_join, t_str, is_some, isB_some, byB_true, byB_false, start, wipe, bindT, List.map_cons, List.map_nil, List.cons_append, List.nil_append, List.append_nil, List.getElem?_cons_zero, List.getElem?_cons_succ, List.length_cons, List.length_nil, List.set_cons_zero, List.set_cons_succ, atI_0, atI_1, atI_2, atI_3, List.replicate, Nat.zero_add, Nat.reduceAdd, Nat.reduceSub, seqW_ref, seqW_tup, c_leS, b_iaddI, b_iaddS, b_isub, w_enum, w_zip, w_callv, rd_kx (rdL_new S _) a5 hj.1 hj.2]
  obtain ⟨w1, p1, p2⟩ := pick (L := [W.str [97], W.str [98], W.str [97, 98], W.str [32, 97], W.str [32], W.str [97, 98, 99], W.str [32, 97, 98, 99, 100, 101, 102, 103, 104, 105, 106, 107, 108, 109, 110, 111, 112, 113, 114, 115, 116, 117, 118, 119, 120, 121, 122], W.str [122]]) rfl a1 a2
  rw [p2]
  have hw : ∃ s, w1 = .str s ∧ okG (.sign s) = true := by
    simp only [List.mem_cons, List.not_mem_nil, or_false] at p1
    rcases p1 with r | r | r | r | r | r | r | r <;> subst r <;> exact ⟨_, rfl, by decide⟩
  obtain ⟨s, rfl, hs⟩ := hw
  exact ⟨by simp [LIM], s, rfl, hs, a3, a4⟩
/-- without marks, never blank, not idle -/
structure SGd (D : Nat) (p : Pt) : Prop where
  ok : okG p = true
  nb : blankP p = false
  nm : marks p = []
  idl : idleP p = false
  sz : size p + 2 ≤ 3 * 2 ^ D
  dp : deep p ≤ 2 * D + 1
theorem sgd_sign {s : List Nat} (D : Nat) (h : okG (.sign s) = true) : SGd D (.sign s) := by
  have : 1 ≤ 2 ^ D := Nat.one_le_two_pow
  exact ⟨h, by simp [blankP], by simp [marks], by simp [idleP], by simp only [size]; omega, by simp only [deep]; omega⟩
theorem blanks_false {ps : List Pt} : anyB ps = false ↔ ∀ p ∈ ps, blankP p = false := by
  rw [anyB_eq]
  simp
theorem markss_nil {ps : List Pt} (h : ∀ p ∈ ps, marks p = []) : markss ps = [] := by
  induction ps with
  | nil => rfl
  | cons p r ih => rw [markss, h p (List.mem_cons_self ..), ih fun q hq => h q (List.mem_cons_of_mem _ hq)]; rfl
theorem marks_of_row {ps : List Pt} {w : Pt → List Pt} : True := trivial
/-- the parts of one, where it is of that word, else it by itself -/
def prt (w : List Nat) (p : Pt) : List Pt := flat1 w p
theorem mem_markss {ps : List Pt} (h : markss ps = []) : ∀ p ∈ ps, marks p = [] := by
  intro p hp
  cases hq : marks p with
  | nil => rfl
  | cons a r =>
    have : a ∈ markss ps := markss_mem.mpr ⟨p, hp, by rw [hq]; exact List.mem_cons_self ..⟩
    rw [h] at this
    exact nomatch this
theorem prt_any {D : Nat} {p : Pt} (h : SGd D p) : (∀ q ∈ flat1 kAny p, okG q = true ∧ blankP q = false ∧ marks q = [] ∧ idleP q = false) ∧ flat1 kAny p ≠ [] := by
  have self : ∀ q ∈ [p], okG q = true ∧ blankP q = false ∧ marks q = [] ∧ idleP q = false := fun q hq => by
    rw [List.mem_singleton.mp hq]
    exact ⟨h.ok, h.nb, h.nm, h.idl⟩
  cases p with
  | any qs =>
    have h1 := h.ok
    have h2 := h.nb
    have h3 := h.nm
    have h4 := h.idl
    simp only [okG, Bool.and_eq_true] at h1
    simp only [blankP] at h2
    simp only [marks] at h3
    simp only [idleP] at h4
    have e : flat1 kAny (.any qs) = qs := by simp [flat1]
    rw [e]
    refine ⟨fun q hq => ⟨okGs_mem.mp h1.2 q hq, blanks_false.mp h2 q hq, mem_markss h3 q hq, idlePs_mem.mp h4 q hq⟩, ?_⟩
    intro e
    rw [e] at h1
    simp at h1
  | row qs => exact ⟨by simpa [flat1] using self, by simp [flat1]⟩
  | _ => exact ⟨by simpa [flat1] using self, by simp [flat1]⟩
theorem sgd_any {D : Nat} {p q : Pt} (hp : SGd D p) (hq : SGd D q) : SGd (D + 1) (.any (flat1 kAny p ++ flat1 kAny q)) := by
  obtain ⟨p1, p2⟩ := prt_any hp
  obtain ⟨q1, q2⟩ := prt_any hq
  have all : ∀ z ∈ flat1 kAny p ++ flat1 kAny q, okG z = true ∧ blankP z = false ∧ marks z = [] ∧ idleP z = false := fun z hz => by
    rcases List.mem_append.mp hz with r | r
    · exact p1 z r
    · exact q1 z r
  have s1 := flat1_sizes kAny p
  have s2 := flat1_sizes kAny q
  have d1 := flat1_deeps kAny p
  have d2 := flat1_deeps kAny q
  have e1 := hp.sz
  have e2 := hq.sz
  have e3 := hp.dp
  have e4 := hq.dp
  refine ⟨?_, ?_, ?_, ?_, ?_, ?_⟩
  · simp only [okG, Bool.and_eq_true]
    refine ⟨?_, okGs_mem.mpr fun z hz => (all z hz).1⟩
    cases hf : flat1 kAny p with
    | nil => exact absurd hf p2
    | cons a b => rfl
  · rw [blankP]
    exact blanks_false.mpr fun z hz => (all z hz).2.1
  · rw [marks]
    exact markss_nil fun z hz => (all z hz).2.2.1
  · rw [idleP]
    exact idlePs_mem.mpr fun z hz => (all z hz).2.2.2
  · rw [size, sizes_app, Nat.pow_succ]
    omega
  · rw [deep, deeps_app]
    omega
theorem sgd_row {D : Nat} {p q : Pt} (hp : SGd D p) (hq : SGd D q) : SGd (D + 1) (.row (flat1 kRow p ++ [.some 0 (.int 1) q])) := by
  have s1 := flat1_sizes kRow p
  have d1 := flat1_deeps kRow p
  have e1 := hp.sz
  have e2 := hq.sz
  have e3 := hp.dp
  have e4 := hq.dp
  have self : ∀ z ∈ flat1 kRow p, okG z = true ∧ marks z = [] ∧ idleP z = false := by
    cases p with
    | row qs =>
      have h1 := hp.ok
      have h3 := hp.nm
      have h4 := hp.idl
      simp only [okG] at h1
      simp only [marks] at h3
      simp only [idleP] at h4
      have e : flat1 kRow (.row qs) = qs := by simp [flat1]
      rw [e]
      exact fun q hq => ⟨okGs_mem.mp h1 q hq, mem_markss h3 q hq, idlePs_mem.mp h4 q hq⟩
    | any qs => intro z hz; simp [flat1] at hz; rw [hz]; exact ⟨hp.ok, hp.nm, hp.idl⟩
    | _ => intro z hz; simp [flat1] at hz; rw [hz]; exact ⟨hp.ok, hp.nm, hp.idl⟩
  have nb : allB (flat1 kRow p) = false := by
    cases p with
    | row qs =>
      have h2 := hp.nb
      simp only [blankP] at h2
      have e : flat1 kRow (.row qs) = qs := by simp [flat1]
      rw [e]
      exact h2
    | any qs => rw [show flat1 kRow (.any qs) = [.any qs] by simp [flat1], allB_eq]; simpa using hp.nb
    | _ => rw [allB_eq]; simpa [flat1] using hp.nb
  have all : ∀ z ∈ flat1 kRow p ++ [.some 0 (.int 1) q], okG z = true ∧ marks z = [] ∧ idleP z = false := fun z hz => by
    rcases List.mem_append.mp hz with r | r
    · exact self z r
    · rw [List.mem_singleton.mp r]
      exact ⟨by simp [okG, okT, hq.ok], by simp [marks, hq.nm], by simp [idleP, endB, hq.idl]⟩
  refine ⟨?_, ?_, ?_, ?_, ?_, ?_⟩
  · simp only [okG]
    exact okGs_mem.mpr fun z hz => (all z hz).1
  · rw [blankP, allB_eq, List.all_append]
    rw [allB_eq] at nb
    rw [nb]
    rfl
  · rw [marks]
    exact markss_nil fun z hz => (all z hz).2.1
  · rw [idleP]
    exact idlePs_mem.mpr fun z hz => (all z hz).2.2
  · rw [size, sizes_app, Nat.pow_succ]
    simp only [sizes, size]
    omega
  · rw [deep, deeps_app]
    simp only [deeps, deep]
    omega
theorem sgd_some {D : Nat} {p : Pt} (hp : SGd D p) : SGd (D + 1) (.some 1 .non p) := by
  have e1 := hp.sz
  have e3 := hp.dp
  have : 1 ≤ 2 ^ D := Nat.one_le_two_pow
  refine ⟨by simp [okG, okT, hp.ok], by simp [blankP, hp.nb], by simp [marks, hp.nm], by simp [idleP, endB, hp.nb, hp.idl], ?_, ?_⟩
  · rw [size, Nat.pow_succ]; omega
  · rw [deep]; omega
theorem sgd_mono {D : Nat} {p : Pt} (hp : SGd D p) : SGd (D + 1) p := by
  have e1 := hp.sz
  have e3 := hp.dp
  exact ⟨hp.ok, hp.nb, hp.nm, hp.idl, by rw [Nat.pow_succ]; omega, by omega⟩
theorem solid_spec (h4 : ds 4 = some ⟨2, 4, b_law_draw⟩) (h112 : ds 112 = some ⟨1, 1, b_law_sign_v3⟩) (h113 : ds 113 = some ⟨2, 7, b_law_solid⟩) {d c : Nat} : ∀ (D k n : Nat) (S : Sto), Dk d c n S → n + 4 * 3 ^ D ≤ 900000000 → D ≤ 5 →
    Is (callF ds (k + D + 3) 113 [.ref d, .int (D : Nat)] S) fun w S' => ∃ p, w = enc p ∧ SGd D p ∧ Dk d c (n + 4 * 3 ^ D) S' ∧ Kx d c S S' := by
  intro D
  induction D with
  | zero =>
    intro k n S h hn hD
    refine w_callF (k := k + 2) h113 rfl ?_
    simp only [b_law_solid, w_var, w_c, w_bin, w_cmp, w_chain, w_and, w_or, w_ite, w_not, w_nil, w_cons, w_tup, w_lst, w_ix, w_no, w_yes, w_sl, w_call, w_bi, w_val, w_rng1, w_rng2, s_nil, s_cons, s_ret, s_expr, s_set, s_if, s_pass, s_setix, s_app, s_ext, o_addI, o_addS, o_addT, o_addL, o_sub, o_mulI, o_mulS, o_mulL, o_fdiv, o_mod, o_pow, c_ltI, c_ltS, c_le, c_gt, c_ge, c_eq, c_ne, e_ii, e_ss, e_bb, c_inS, c_notS, i_str, i_tup, i_ref, l_str, l_tup, l_rol, l_ref, b_lenS, b_lenT, b_lenR, b_abs, b_tupR, b_tupT, b_listR, b_listT, b_all, b_any, b_intI, b_intB, b_isiN, b_isiB, b_isiI, b_isiS, b_isiT, b_isiR, b_isiL, b_isN, b_notN, b_neg, b_rev, b_join, t_str, is_some, isB_some, byB_true, byB_false, start, wipe, bindT, List.map_cons, List.map_nil, List.cons_append, List.nil_append, List.append_nil, List.getElem?_cons_zero, List.getElem?_cons_succ, List.length_cons, List.length_nil, List.set_cons_zero, List.set_cons_succ, atI_0, atI_1, atI_2, atI_3, List.replicate, Nat.zero_add, Nat.reduceAdd, Nat.reduceSub, seqW_ref, seqW_tup, c_leS, b_iaddI, b_iaddS, b_isub, w_enum, w_zip, w_callv]
    refine draw_w h4 (k + 1) h (.refl _ _ _) (by omega) 5 (by omega) (by omega) fun v S1 a1 a2 a3 a4 _ => ?_
    try simp only [w_var, w_c, w_bin, w_cmp, w_chain, w_and, w_or, w_ite, w_not, w_nil, w_cons, w_tup, w_lst, w_ix, w_no, w_yes, w_sl, w_call, w_bi, w_val, w_rng1, w_rng2, s_nil, s_cons, s_ret, s_expr, s_set, s_if, s_pass, s_setix, s_app, s_ext, o_addI, o_addS, o_addT, o_addL, o_sub, o_mulI, o_mulS, o_mulL, o_fdiv, o_mod, o_pow, c_ltI, c_ltS, c_le, c_gt, c_ge, c_eq, c_ne, e_ii, e_ss, e_bb, c_inS, c_notS, i_str, i_tup, i_ref, l_str, l_tup, l_rol, l_ref, b_lenS, b_lenT, b_lenR, b_abs, b_tupR, b_tupT, b_listR, b_listT, b_all, b_any, b_intI, b_intB, b_isiN, b_isiB, b_isiI, b_isiS, b_isiT, b_isiR, b_isiL, b_isN, b_notN, b_neg, b_rev, b_join, t_str, is_some, isB_some, byB_true, byB_false, start, wipe, bindT, List.map_cons, List.map_nil, List.cons_append, List.nil_append, List.append_nil, List.getElem?_cons_zero, List.getElem?_cons_succ, List.length_cons, List.length_nil, List.set_cons_zero, List.set_cons_succ, atI_0, atI_1, atI_2, atI_3, List.replicate, Nat.zero_add, Nat.reduceAdd, Nat.reduceSub, seqW_ref, seqW_tup, c_leS, b_iaddI, b_iaddS, b_isub, w_enum, w_zip, w_callv, e_ii, show decide (((0 : Nat) : Int) = 0) = true from rfl]
    refine (lsign_spec h4 h112 k a3 (by omega)).imp fun w S2 hw => ?_
    obtain ⟨s, rfl, s1, s2, s3⟩ := hw
    exact ⟨_, rfl, sgd_sign 0 s1, s2.mono (by omega), a4.trans s3⟩
  | succ D IH =>
    intro k n S h hn hD
    have e3 : 4 * 3 ^ (D + 1) = 3 * (4 * 3 ^ D) := by rw [Nat.pow_succ]; omega
    have e1 : 1 ≤ 3 ^ D := Nat.pos_of_ne_zero (by simp)
    rw [e3] at hn
    rw [e3]
    generalize hx : 4 * 3 ^ D = x at *
    have hx4 : 4 ≤ x := by omega
    refine w_callF (k := k + D + 3) h113 rfl ?_
    simp only [b_law_solid, w_var, w_c, w_bin, w_cmp, w_chain, w_and, w_or, w_ite, w_not, w_nil, w_cons, w_tup, w_lst, w_ix, w_no, w_yes, w_sl, w_call, w_bi, w_val, w_rng1, w_rng2, s_nil, s_cons, s_ret, s_expr, s_set, s_if, s_pass, s_setix, s_app, s_ext, o_addI, o_addS, o_addT, o_addL, o_sub, o_mulI, o_mulS, o_mulL, o_fdiv, o_mod, o_pow, c_ltI, c_ltS, c_le, c_gt, c_ge, c_eq, c_ne, e_ii, e_ss, e_bb, c_inS, c_notS, i_str, i_tup, i_ref, l_str, l_tup, l_rol, l_ref, b_lenS, b_lenT, b_lenR, b_abs, b_tupR, b_tupT, b_listR, b_listT, b_all, b_any, b_intI, b_intB, b_isiN, b_isiB, b_isiI, b_isiS, b_isiT, b_isiR, b_isiL, b_isN, b_notN, b_neg, b_rev, b_join, t_str, is_some, isB_some, byB_true, byB_false, start, wipe, bindT, List.map_cons, List.map_nil, List.cons_append, List.nil_append, List.append_nil, List.getElem?_cons_zero, List.getElem?_cons_succ, List.length_cons, List.length_nil, List.set_cons_zero, List.set_cons_succ, atI_0, atI_1, atI_2, atI_3, List.replicate, Nat.zero_add, Nat.reduceAdd, Nat.reduceSub, seqW_ref, seqW_tup, c_leS, b_iaddI, b_iaddS, b_isub, w_enum, w_zip, w_callv]
    refine draw_w h4 (k + D + 2) h (.refl _ _ _) (by omega) 5 (by omega) (by omega) fun v S1 a1 a2 a3 a4 _ => ?_
    try simp only [w_var, w_c, w_bin, w_cmp, w_chain, w_and, w_or, w_ite, w_not, w_nil, w_cons, w_tup, w_lst, w_ix, w_no, w_yes, w_sl, w_call, w_bi, w_val, w_rng1, w_rng2, s_nil, s_cons, s_ret, s_expr, s_set, s_if, s_pass, s_setix, s_app, s_ext, o_addI, o_addS, o_addT, o_addL, o_sub, o_mulI, o_mulS, o_mulL, o_fdiv, o_mod, o_pow, c_ltI, c_ltS, c_le, c_gt, c_ge, c_eq, c_ne, e_ii, e_ss, e_bb, c_inS, c_notS, i_str, i_tup, i_ref, l_str, l_tup, l_rol, l_ref, b_lenS, b_lenT, b_lenR, b_abs, b_tupR, b_tupT, b_listR, b_listT, b_all, b_any, b_intI, b_intB, b_isiN, b_isiB, b_isiI, b_isiS, b_isiT, b_isiR, b_isiL, b_isN, b_notN, b_neg, b_rev, b_join, t_str, is_some, isB_some, byB_true, byB_false, start, wipe, bindT, List.map_cons, List.map_nil, List.cons_append, List.nil_append, List.append_nil, List.getElem?_cons_zero, List.getElem?_cons_succ, List.length_cons, List.length_nil, List.set_cons_zero, List.set_cons_succ, atI_0, atI_1, atI_2, atI_3, List.replicate, Nat.zero_add, Nat.reduceAdd, Nat.reduceSub, seqW_ref, seqW_tup, c_leS, b_iaddI, b_iaddS, b_isub, w_enum, w_zip, w_callv, e_ii]
    rw [show decide (((D + 1 : Nat) : Int) = 0) = false from decide_eq_false (by omega)]
    try simp only [w_var, w_c, w_bin, w_cmp, w_chain, w_and, w_or, w_ite, w_not, w_nil, w_cons, w_tup, w_lst, w_ix, w_no, w_yes, w_sl, w_call, w_bi, w_val, w_rng1, w_rng2, s_nil, s_cons, s_ret, s_expr, s_set, s_if, s_pass, s_setix, s_app, s_ext, o_addI, o_addS, o_addT, o_addL, o_sub, o_mulI, o_mulS, o_mulL, o_fdiv, o_mod, o_pow, c_ltI, c_ltS, c_le, c_gt, c_ge, c_eq, c_ne, e_ii, e_ss, e_bb, c_inS, c_notS, i_str, i_tup, i_ref, l_str, l_tup, l_rol, l_ref, b_lenS, b_lenT, b_lenR, b_abs, b_tupR, b_tupT, b_listR, b_listT, b_all, b_any, b_intI, b_intB, b_isiN, b_isiB, b_isiI, b_isiS, b_isiT, b_isiR, b_isiL, b_isN, b_notN, b_neg, b_rev, b_join, t_str, is_some, isB_some, byB_true, byB_false, start, wipe, bindT, List.map_cons, List.map_nil, List.cons_append, List.nil_append, List.append_nil, List.getElem?_cons_zero, List.getElem?_cons_succ, List.length_cons, List.length_nil, List.set_cons_zero, List.set_cons_succ, atI_0, atI_1, atI_2, atI_3, List.replicate, Nat.zero_add, Nat.reduceAdd, Nat.reduceSub, seqW_ref, seqW_tup, c_leS, b_iaddI, b_iaddS, b_isub, w_enum, w_zip, w_callv]
    refine byB_dec _ _ _ (fun hv => ?_) (fun hv => ?_)
    · refine (lsign_spec h4 h112 (k + D + 1) a3 (by omega)).imp fun w S2 hw => ?_
      obtain ⟨s, rfl, s1, s2, s3⟩ := hw
      exact ⟨_, rfl, sgd_sign (D + 1) s1, s2.mono (by omega), a4.trans s3⟩
    · have hv2 : ¬ v < 2 := of_decide_eq_false hv
      have ed : ((D + 1 : Nat) : Int) - 1 = (D : Nat) := by omega
      try simp only [w_var, w_c, w_bin, w_cmp, w_chain, w_and, w_or, w_ite, w_not, w_nil, w_cons, w_tup, w_lst, w_ix, w_no, w_yes, w_sl, w_call, w_bi, w_val, w_rng1, w_rng2, s_nil, s_cons, s_ret, s_expr, s_set, s_if, s_pass, s_setix, s_app, s_ext, o_addI, o_addS, o_addT, o_addL, o_sub, o_mulI, o_mulS, o_mulL, o_fdiv, o_mod, o_pow, c_ltI, c_ltS, c_le, c_gt, c_ge, c_eq, c_ne, e_ii, e_ss, e_bb, c_inS, c_notS, i_str, i_tup, i_ref, l_str, l_tup, l_rol, l_ref, b_lenS, b_lenT, b_lenR, b_abs, b_tupR, b_tupT, b_listR, b_listT, b_all, b_any, b_intI, b_intB, b_isiN, b_isiB, b_isiI, b_isiS, b_isiT, b_isiR, b_isiL, b_isN, b_notN, b_neg, b_rev, b_join, t_str, is_some, isB_some, byB_true, byB_false, start, wipe, bindT, List.map_cons, List.map_nil, List.cons_append, List.nil_append, List.append_nil, List.getElem?_cons_zero, List.getElem?_cons_succ, List.length_cons, List.length_nil, List.set_cons_zero, List.set_cons_succ, atI_0, atI_1, atI_2, atI_3, List.replicate, Nat.zero_add, Nat.reduceAdd, Nat.reduceSub, seqW_ref, seqW_tup, c_leS, b_iaddI, b_iaddS, b_isub, w_enum, w_zip, w_callv, ed]
      refine (IH k _ S1 a3 (by omega) (by omega)).imp fun w S2 hw => ?_
      obtain ⟨p, rfl, p1, p2, p3⟩ := hw
      try simp only [w_var, w_c, w_bin, w_cmp, w_chain, w_and, w_or, w_ite, w_not, w_nil, w_cons, w_tup, w_lst, w_ix, w_no, w_yes, w_sl, w_call, w_bi, w_val, w_rng1, w_rng2, s_nil, s_cons, s_ret, s_expr, s_set, s_if, s_pass, s_setix, s_app, s_ext, o_addI, o_addS, o_addT, o_addL, o_sub, o_mulI, o_mulS, o_mulL, o_fdiv, o_mod, o_pow, c_ltI, c_ltS, c_le, c_gt, c_ge, c_eq, c_ne, e_ii, e_ss, e_bb, c_inS, c_notS, i_str, i_tup, i_ref, l_str, l_tup, l_rol, l_ref, b_lenS, b_lenT, b_lenR, b_abs, b_tupR, b_tupT, b_listR, b_listT, b_all, b_any, b_intI, b_intB, b_isiN, b_isiB, b_isiI, b_isiS, b_isiT, b_isiR, b_isiL, b_isN, b_notN, b_neg, b_rev, b_join, t_str, is_some, isB_some, byB_true, byB_false, start, wipe, bindT, List.map_cons, List.map_nil, List.cons_append, List.nil_append, List.append_nil, List.getElem?_cons_zero, List.getElem?_cons_succ, List.length_cons, List.length_nil, List.set_cons_zero, List.set_cons_succ, atI_0, atI_1, atI_2, atI_3, List.replicate, Nat.zero_add, Nat.reduceAdd, Nat.reduceSub, seqW_ref, seqW_tup, c_leS, b_iaddI, b_iaddS, b_isub, w_enum, w_zip, w_callv, ed]
      refine (IH k _ S2 p2 (by omega) (by omega)).imp fun w S3 hw => ?_
      obtain ⟨q, rfl, q1, q2, q3⟩ := hw
      have kx := (a4.trans p3).trans q3
      obtain ⟨rp, hrp⟩ := enc_head p
      obtain ⟨rq, hrq⟩ := enc_head q
      have hv3 : v = 2 ∨ v = 3 ∨ v = 4 := by omega
      have z1 := p1.sz
      have z2 := q1.sz
      have z5 : 2 ^ D ≤ 2 ^ 5 := Nat.pow_le_pow_right (by omega) (by omega)
      have lpr := len_sizes (flat1 kRow p)
      have lpa := len_sizes (flat1 kAny p)
      have lqa := len_sizes (flat1 kAny q)
      have spr := flat1_sizes kRow p
      have spa := flat1_sizes kAny p
      have sqa := flat1_sizes kAny q
      have key : ∀ (S4 : Sto) (r : Pt), Kx d c S3 S4 → Dk d c (n + 1 + x + x) S4 → SGd (D + 1) r → ∃ p', enc r = enc p' ∧ SGd (D + 1) p' ∧ Dk d c (n + 3 * x) S4 ∧ Kx d c S S4 := fun S4 r k4 d4 e =>
        ⟨_, rfl, e, d4.mono (by omega), kx.trans k4⟩
      -- behind the parts
      have tail : ∀ (S4 : Sto) (f : Nat) (v : Int) (w : List Nat), (v = 2 ∧ w = kRow ∨ v = 3 ∧ w = kAny) → rdL S4 f = some (encs (flat1 w p)) → Kp S3 S4 →
          IsS (exs (callF ds (k + D + 3)) (.cons (.ifs (.cmp .eq (.var 2) (.c (.int 2))) (.cons (.ret (.tup (.cons (.c (.str [114, 111, 119])) (.cons (.bi .tuple (.cons (.bin .add (.var 6) (.lst (.cons (.tup (.cons (.c (.str [115, 111, 109, 101])) (.cons (.c (.int 0)) (.cons (.c (.int 1)) (.cons (.var 4) .nil))))) .nil))) .nil)) .nil)))) .nil) .nil) (.cons (.ifs (.cmp .eq (.ix (.var 4) (.c (.int 0))) (.var 5)) (.cons (.ret (.tup (.cons (.c (.str [97, 110, 121])) (.cons (.bin .add (.bi .tuple (.cons (.var 6) .nil)) (.ix (.var 4) (.c (.int 1)))) .nil)))) .nil) .nil) (.cons (.ret (.tup (.cons (.c (.str [97, 110, 121])) (.cons (.bin .add (.bi .tuple (.cons (.var 6) .nil)) (.tup (.cons (.var 4) .nil))) .nil)))) .nil))) [some (.ref d), some (.int ((D + 1 : Nat) : Int)), some (.int v), some (enc p), some (enc q), some (.str w), some (.ref f)] S4) (fun _ S' => ∃ p', W.non = enc p' ∧ SGd (D + 1) p' ∧ Dk d c (n + 3 * x) S' ∧ Kx d c S S') fun w S' => ∃ p', w = enc p' ∧ SGd (D + 1) p' ∧ Dk d c (n + 3 * x) S' ∧ Kx d c S S' := by
        intro S4 f v w hvw hr k4
        rcases hvw with ⟨rfl, rfl⟩ | ⟨rfl, rfl⟩
        · have hr2 : rdL (S4 ++ [SO.lst [.tup [.str kSome, .int 0, .int 1, enc q]]]) f = some (encs (flat1 kRow p)) := rdL_app hr
          try simp only [w_var, w_c, w_bin, w_cmp, w_chain, w_and, w_or, w_ite, w_not, w_nil, w_cons, w_tup, w_lst, w_ix, w_no, w_yes, w_sl, w_call, w_bi, w_val, w_rng1, w_rng2, s_nil, s_cons, s_ret, s_expr, s_set, s_if, s_pass, s_setix, s_app, s_ext, o_addI, o_addS, o_addT, o_addL, o_sub, o_mulI, o_mulS, o_mulL, o_fdiv, o_mod, o_pow, c_ltI, c_ltS, c_le, c_gt, c_ge, c_eq, c_ne, e_ii, e_ss, e_bb, c_inS, c_notS, i_str, i_tup, i_ref, l_str, l_tup, l_rol, l_ref, b_lenS, b_lenT, b_lenR, b_abs, b_tupR, b_tupT, b_listR, b_listT, b_all, b_any, b_intI, b_intB, b_isiN, b_isiB, b_isiI, b_isiS, b_isiT, b_isiR, b_isiL, b_isN, b_notN, b_neg, b_rev, b_join, t_str, is_some, isB_some, byB_true, byB_false, start, wipe, bindT, List.map_cons, List.map_nil, List.cons_append, List.nil_append, List.append_nil, List.getElem?_cons_zero, List.getElem?_cons_succ, List.length_cons, List.length_nil, List.set_cons_zero, List.set_cons_succ, atI_0, atI_1, atI_2, atI_3, List.replicate, Nat.zero_add, Nat.reduceAdd, Nat.reduceSub, seqW_ref, seqW_tup, c_leS, b_iaddI, b_iaddS, b_isub, w_enum, w_zip, w_callv, e_ii, show decide ((2 : Int) = 2) = true from rfl, rdL_new, hr2]
          have e : encs (flat1 kRow p) ++ [.tup [.str kSome, .int 0, .int 1, enc q]] = encs (flat1 kRow p ++ [.some 0 (.int 1) q]) := by rw [encs_app]; rfl
          rw [e]
          refine ⟨by simp [LIM], by simp [LIM], by rw [encs_len, List.length_append]; simp only [LIM, List.length_singleton]; omega, by simp [LIM], ?_⟩
          exact key _ (.row (flat1 kRow p ++ [.some 0 (.int 1) q])) (.of ((k4.snoc _).snoc _)) (q2.kp ((k4.snoc _).snoc _)) (sgd_row p1 q1)
        · try simp only [w_var, w_c, w_bin, w_cmp, w_chain, w_and, w_or, w_ite, w_not, w_nil, w_cons, w_tup, w_lst, w_ix, w_no, w_yes, w_sl, w_call, w_bi, w_val, w_rng1, w_rng2, s_nil, s_cons, s_ret, s_expr, s_set, s_if, s_pass, s_setix, s_app, s_ext, o_addI, o_addS, o_addT, o_addL, o_sub, o_mulI, o_mulS, o_mulL, o_fdiv, o_mod, o_pow, c_ltI, c_ltS, c_le, c_gt, c_ge, c_eq, c_ne, e_ii, e_ss, e_bb, c_inS, c_notS, i_str, i_tup, i_ref, l_str, l_tup, l_rol, l_ref, b_lenS, b_lenT, b_lenR, b_abs, b_tupR, b_tupT, b_listR, b_listT, b_all, b_any, b_intI, b_intB, b_isiN, b_isiB, b_isiI, b_isiS, b_isiT, b_isiR, b_isiL, b_isN, b_notN, b_neg, b_rev, b_join, t_str, is_some, isB_some, byB_true, byB_false, start, wipe, bindT, List.map_cons, List.map_nil, List.cons_append, List.nil_append, List.append_nil, List.getElem?_cons_zero, List.getElem?_cons_succ, List.length_cons, List.length_nil, List.set_cons_zero, List.set_cons_succ, atI_0, atI_1, atI_2, atI_3, List.replicate, Nat.zero_add, Nat.reduceAdd, Nat.reduceSub, seqW_ref, seqW_tup, c_leS, b_iaddI, b_iaddS, b_isub, w_enum, w_zip, w_callv, e_ii, e_ss, show decide ((3 : Int) = 2) = false from rfl, hrq, hr]
          have fin : ∀ r, flat1 kAny q = r → (encs (flat1 kAny p)).length + (encs r).length ≤ LIM ∧ 2 ≤ LIM ∧ ∃ p', W.tup [.str kAny, .tup (encs (flat1 kAny p) ++ encs r)] = enc p' ∧ SGd (D + 1) p' ∧ Dk d c (n + 3 * x) S4 ∧ Kx d c S S4 := by
            rintro r rfl
            refine ⟨by rw [encs_len, encs_len]; simp only [LIM]; omega, by simp [LIM], ?_⟩
            rw [← encs_app]
            exact key _ (.any (flat1 kAny p ++ flat1 kAny q)) (.of k4) (q2.kp k4) (sgd_any p1 q1)
          by_cases hw : word q = kAny
          · rw [decide_eq_true hw]
            have t := fin _ rfl
            have eq := enc_word (.inr rfl) hw
            rw [hrq] at eq
            have er : rq = [.tup (encs (flat1 kAny q))] := by
              injection eq with eq
              injection eq
            subst er
            try simp only [w_var, w_c, w_bin, w_cmp, w_chain, w_and, w_or, w_ite, w_not, w_nil, w_cons, w_tup, w_lst, w_ix, w_no, w_yes, w_sl, w_call, w_bi, w_val, w_rng1, w_rng2, s_nil, s_cons, s_ret, s_expr, s_set, s_if, s_pass, s_setix, s_app, s_ext, o_addI, o_addS, o_addT, o_addL, o_sub, o_mulI, o_mulS, o_mulL, o_fdiv, o_mod, o_pow, c_ltI, c_ltS, c_le, c_gt, c_ge, c_eq, c_ne, e_ii, e_ss, e_bb, c_inS, c_notS, i_str, i_tup, i_ref, l_str, l_tup, l_rol, l_ref, b_lenS, b_lenT, b_lenR, b_abs, b_tupR, b_tupT, b_listR, b_listT, b_all, b_any, b_intI, b_intB, b_isiN, b_isiB, b_isiI, b_isiS, b_isiT, b_isiR, b_isiL, b_isN, b_notN, b_neg, b_rev, b_join, t_str, is_some, isB_some, byB_true, byB_false, start, wipe, bindT, List.map_cons, List.map_nil, List.cons_append, List.nil_append, List.append_nil, List.getElem?_cons_zero, List.getElem?_cons_succ, List.length_cons, List.length_nil, List.set_cons_zero, List.set_cons_succ, atI_0, atI_1, atI_2, atI_3, List.replicate, Nat.zero_add, Nat.reduceAdd, Nat.reduceSub, seqW_ref, seqW_tup, c_leS, b_iaddI, b_iaddS, b_isub, w_enum, w_zip, w_callv, hr, encs_len] at t ⊢
            exact t
          · rw [decide_eq_false hw]
            have t := fin [q] (flat1_ne hw)
            try simp only [w_var, w_c, w_bin, w_cmp, w_chain, w_and, w_or, w_ite, w_not, w_nil, w_cons, w_tup, w_lst, w_ix, w_no, w_yes, w_sl, w_call, w_bi, w_val, w_rng1, w_rng2, s_nil, s_cons, s_ret, s_expr, s_set, s_if, s_pass, s_setix, s_app, s_ext, o_addI, o_addS, o_addT, o_addL, o_sub, o_mulI, o_mulS, o_mulL, o_fdiv, o_mod, o_pow, c_ltI, c_ltS, c_le, c_gt, c_ge, c_eq, c_ne, e_ii, e_ss, e_bb, c_inS, c_notS, i_str, i_tup, i_ref, l_str, l_tup, l_rol, l_ref, b_lenS, b_lenT, b_lenR, b_abs, b_tupR, b_tupT, b_listR, b_listT, b_all, b_any, b_intI, b_intB, b_isiN, b_isiB, b_isiI, b_isiS, b_isiT, b_isiR, b_isiL, b_isN, b_notN, b_neg, b_rev, b_join, t_str, is_some, isB_some, byB_true, byB_false, start, wipe, bindT, List.map_cons, List.map_nil, List.cons_append, List.nil_append, List.append_nil, List.getElem?_cons_zero, List.getElem?_cons_succ, List.length_cons, List.length_nil, List.set_cons_zero, List.set_cons_succ, atI_0, atI_1, atI_2, atI_3, List.replicate, Nat.zero_add, Nat.reduceAdd, Nat.reduceSub, seqW_ref, seqW_tup, c_leS, b_iaddI, b_iaddS, b_isub, w_enum, w_zip, w_callv, hr, encs, encs_len] at t ⊢
            rw [hrq] at t
            exact ⟨by simp [LIM], t⟩
      try simp only [w_var, w_c, w_bin, w_cmp, w_chain, w_and, w_or, w_ite, w_not, w_nil, w_cons, w_tup, w_lst, w_ix, w_no, w_yes, w_sl, w_call, w_bi, w_val, w_rng1, w_rng2, s_nil, s_cons, s_ret, s_expr, s_set, s_if, s_pass, s_setix, s_app, s_ext, o_addI, o_addS, o_addT, o_addL, o_sub, o_mulI, o_mulS, o_mulL, o_fdiv, o_mod, o_pow, c_ltI, c_ltS, c_le, c_gt, c_ge, c_eq, c_ne, e_ii, e_ss, e_bb, c_inS, c_notS, i_str, i_tup, i_ref, l_str, l_tup, l_rol, l_ref, b_lenS, b_lenT, b_lenR, b_abs, b_tupR, b_tupT, b_listR, b_listT, b_all, b_any, b_intI, b_intB, b_isiN, b_isiB, b_isiI, b_isiS, b_isiT, b_isiR, b_isiL, b_isN, b_notN, b_neg, b_rev, b_join, t_str, is_some, isB_some, byB_true, byB_false, start, wipe, bindT, List.map_cons, List.map_nil, List.cons_append, List.nil_append, List.append_nil, List.getElem?_cons_zero, List.getElem?_cons_succ, List.length_cons, List.length_nil, List.set_cons_zero, List.set_cons_succ, atI_0, atI_1, atI_2, atI_3, List.replicate, Nat.zero_add, Nat.reduceAdd, Nat.reduceSub, seqW_ref, seqW_tup, c_leS, b_iaddI, b_iaddS, b_isub, w_enum, w_zip, w_callv] at tail
      -- the parts
      have mid : ∀ (v : Int) (w : List Nat), (v = 2 ∧ w = kRow ∨ v = 3 ∧ w = kAny) → IsS (exs (callF ds (k + D + 3)) (.cons (.set [6] (.lst (.cons (.var 3) .nil))) (.cons (.ifs (.cmp .eq (.ix (.var 3) (.c (.int 0))) (.var 5)) (.cons (.set [6] (.bi .list (.cons (.ix (.var 3) (.c (.int 1))) .nil))) .nil) .nil) (.cons (.ifs (.cmp .eq (.var 2) (.c (.int 2))) (.cons (.ret (.tup (.cons (.c (.str [114, 111, 119])) (.cons (.bi .tuple (.cons (.bin .add (.var 6) (.lst (.cons (.tup (.cons (.c (.str [115, 111, 109, 101])) (.cons (.c (.int 0)) (.cons (.c (.int 1)) (.cons (.var 4) .nil))))) .nil))) .nil)) .nil)))) .nil) .nil) (.cons (.ifs (.cmp .eq (.ix (.var 4) (.c (.int 0))) (.var 5)) (.cons (.ret (.tup (.cons (.c (.str [97, 110, 121])) (.cons (.bin .add (.bi .tuple (.cons (.var 6) .nil)) (.ix (.var 4) (.c (.int 1)))) .nil)))) .nil) .nil) (.cons (.ret (.tup (.cons (.c (.str [97, 110, 121])) (.cons (.bin .add (.bi .tuple (.cons (.var 6) .nil)) (.tup (.cons (.var 4) .nil))) .nil)))) .nil))))) [some (.ref d), some (.int ((D + 1 : Nat) : Int)), some (.int v), some (enc p), some (enc q), some (.str w), none] (S3 ++ [SO.lst [W.str [114, 111, 119], W.str [97, 110, 121]]])) (fun _ S' => ∃ p', W.non = enc p' ∧ SGd (D + 1) p' ∧ Dk d c (n + 3 * x) S' ∧ Kx d c S S') fun w S' => ∃ p', w = enc p' ∧ SGd (D + 1) p' ∧ Dk d c (n + 3 * x) S' ∧ Kx d c S S' := by
        intro v w hvw
        have hww : w = kRow ∨ w = kAny := hvw.imp And.right And.right
        have lw : (flat1 w p).length ≤ 200 := by rcases hww with rfl | rfl <;> omega
        try simp only [w_var, w_c, w_bin, w_cmp, w_chain, w_and, w_or, w_ite, w_not, w_nil, w_cons, w_tup, w_lst, w_ix, w_no, w_yes, w_sl, w_call, w_bi, w_val, w_rng1, w_rng2, s_nil, s_cons, s_ret, s_expr, s_set, s_if, s_pass, s_setix, s_app, s_ext, o_addI, o_addS, o_addT, o_addL, o_sub, o_mulI, o_mulS, o_mulL, o_fdiv, o_mod, o_pow, c_ltI, c_ltS, c_le, c_gt, c_ge, c_eq, c_ne, e_ii, e_ss, e_bb, c_inS, c_notS, i_str, i_tup, i_ref, l_str, l_tup, l_rol, l_ref, b_lenS, b_lenT, b_lenR, b_abs, b_tupR, b_tupT, b_listR, b_listT, b_all, b_any, b_intI, b_intB, b_isiN, b_isiB, b_isiI, b_isiS, b_isiT, b_isiR, b_isiL, b_isN, b_notN, b_neg, b_rev, b_join, t_str, is_some, isB_some, byB_true, byB_false, start, wipe, bindT, List.map_cons, List.map_nil, List.cons_append, List.nil_append, List.append_nil, List.getElem?_cons_zero, List.getElem?_cons_succ, List.length_cons, List.length_nil, List.set_cons_zero, List.set_cons_succ, atI_0, atI_1, atI_2, atI_3, List.replicate, Nat.zero_add, Nat.reduceAdd, Nat.reduceSub, seqW_ref, seqW_tup, c_leS, b_iaddI, b_iaddS, b_isub, w_enum, w_zip, w_callv, hrp, e_ss]
        refine ⟨by simp [LIM], ?_⟩
        by_cases hw : word p = w
        · rw [decide_eq_true hw]
          have eq := enc_word hww hw
          rw [hrp] at eq
          have er : rp = [.tup (encs (flat1 w p))] := by
            injection eq with eq
            injection eq
          subst er
          have t := tail _ _ v w hvw (rdL_new (S3 ++ [SO.lst [W.str [114, 111, 119], W.str [97, 110, 121]]] ++ [SO.lst [W.tup [W.str (word p), W.tup (encs (flat1 w p))]]]) (encs (flat1 w p))) (((Kp.app _ _).snoc _).snoc _)
          try simp only [w_var, w_c, w_bin, w_cmp, w_chain, w_and, w_or, w_ite, w_not, w_nil, w_cons, w_tup, w_lst, w_ix, w_no, w_yes, w_sl, w_call, w_bi, w_val, w_rng1, w_rng2, s_nil, s_cons, s_ret, s_expr, s_set, s_if, s_pass, s_setix, s_app, s_ext, o_addI, o_addS, o_addT, o_addL, o_sub, o_mulI, o_mulS, o_mulL, o_fdiv, o_mod, o_pow, c_ltI, c_ltS, c_le, c_gt, c_ge, c_eq, c_ne, e_ii, e_ss, e_bb, c_inS, c_notS, i_str, i_tup, i_ref, l_str, l_tup, l_rol, l_ref, b_lenS, b_lenT, b_lenR, b_abs, b_tupR, b_tupT, b_listR, b_listT, b_all, b_any, b_intI, b_intB, b_isiN, b_isiB, b_isiI, b_isiS, b_isiT, b_isiR, b_isiL, b_isN, b_notN, b_neg, b_rev, b_join, t_str, is_some, isB_some, byB_true, byB_false, start, wipe, bindT, List.map_cons, List.map_nil, List.cons_append, List.nil_append, List.append_nil, List.getElem?_cons_zero, List.getElem?_cons_succ, List.length_cons, List.length_nil, List.set_cons_zero, List.set_cons_succ, atI_0, atI_1, atI_2, atI_3, List.replicate, Nat.zero_add, Nat.reduceAdd, Nat.reduceSub, seqW_ref, seqW_tup, c_leS, b_iaddI, b_iaddS, b_isub, w_enum, w_zip, w_callv, encs_len]
          exact ⟨by simp only [LIM]; omega, t⟩
        · rw [decide_eq_false hw]
          have t := tail _ _ v w hvw (by rw [flat1_ne hw]; exact rdL_new (S3 ++ [SO.lst [W.str [114, 111, 119], W.str [97, 110, 121]]]) [enc p]) ((Kp.app _ _).snoc _)
          try simp only [hrp] at t
          try simp only [w_var, w_c, w_bin, w_cmp, w_chain, w_and, w_or, w_ite, w_not, w_nil, w_cons, w_tup, w_lst, w_ix, w_no, w_yes, w_sl, w_call, w_bi, w_val, w_rng1, w_rng2, s_nil, s_cons, s_ret, s_expr, s_set, s_if, s_pass, s_setix, s_app, s_ext, o_addI, o_addS, o_addT, o_addL, o_sub, o_mulI, o_mulS, o_mulL, o_fdiv, o_mod, o_pow, c_ltI, c_ltS, c_le, c_gt, c_ge, c_eq, c_ne, e_ii, e_ss, e_bb, c_inS, c_notS, i_str, i_tup, i_ref, l_str, l_tup, l_rol, l_ref, b_lenS, b_lenT, b_lenR, b_abs, b_tupR, b_tupT, b_listR, b_listT, b_all, b_any, b_intI, b_intB, b_isiN, b_isiB, b_isiI, b_isiS, b_isiT, b_isiR, b_isiL, b_isN, b_notN, b_neg, b_rev, b_join, t_str, is_some, isB_some, byB_true, byB_false, start, wipe, bindT, List.map_cons, List.map_nil, List.cons_append, List.nil_append, List.append_nil, List.getElem?_cons_zero, List.getElem?_cons_succ, List.length_cons, List.length_nil, List.set_cons_zero, List.set_cons_succ, atI_0, atI_1, atI_2, atI_3, List.replicate, Nat.zero_add, Nat.reduceAdd, Nat.reduceSub, seqW_ref, seqW_tup, c_leS, b_iaddI, b_iaddS, b_isub, w_enum, w_zip, w_callv]
          exact t
      try simp only [w_var, w_c, w_bin, w_cmp, w_chain, w_and, w_or, w_ite, w_not, w_nil, w_cons, w_tup, w_lst, w_ix, w_no, w_yes, w_sl, w_call, w_bi, w_val, w_rng1, w_rng2, s_nil, s_cons, s_ret, s_expr, s_set, s_if, s_pass, s_setix, s_app, s_ext, o_addI, o_addS, o_addT, o_addL, o_sub, o_mulI, o_mulS, o_mulL, o_fdiv, o_mod, o_pow, c_ltI, c_ltS, c_le, c_gt, c_ge, c_eq, c_ne, e_ii, e_ss, e_bb, c_inS, c_notS, i_str, i_tup, i_ref, l_str, l_tup, l_rol, l_ref, b_lenS, b_lenT, b_lenR, b_abs, b_tupR, b_tupT, b_listR, b_listT, b_all, b_any, b_intI, b_intB, b_isiN, b_isiB, b_isiI, b_isiS, b_isiT, b_isiR, b_isiL, b_isN, b_notN, b_neg, b_rev, b_join, t_str, is_some, isB_some, byB_true, byB_false, start, wipe, bindT, List.map_cons, List.map_nil, List.cons_append, List.nil_append, List.append_nil, List.getElem?_cons_zero, List.getElem?_cons_succ, List.length_cons, List.length_nil, List.set_cons_zero, List.set_cons_succ, atI_0, atI_1, atI_2, atI_3, List.replicate, Nat.zero_add, Nat.reduceAdd, Nat.reduceSub, seqW_ref, seqW_tup, c_leS, b_iaddI, b_iaddS, b_isub, w_enum, w_zip, w_callv] at mid
      rcases hv3 with rfl | rfl | rfl
      · have t := mid 2 kRow (.inl ⟨rfl, rfl⟩)
        try simp only [w_var, w_c, w_bin, w_cmp, w_chain, w_and, w_or, w_ite, w_not, w_nil, w_cons, w_tup, w_lst, w_ix, w_no, w_yes, w_sl, w_call, w_bi, w_val, w_rng1, w_rng2, s_nil, s_cons, s_ret, s_expr, s_set, s_if, s_pass, s_setix, s_app, s_ext, o_addI, o_addS, o_addT, o_addL, o_sub, o_mulI, o_mulS, o_mulL, o_fdiv, o_mod, o_pow, c_ltI, c_ltS, c_le, c_gt, c_ge, c_eq, c_ne, e_ii, e_ss, e_bb, c_inS, c_notS, i_str, i_tup, i_ref, l_str, l_tup, l_rol, l_ref, b_lenS, b_lenT, b_lenR, b_abs, b_tupR, b_tupT, b_listR, b_listT, b_all, b_any, b_intI, b_intB, b_isiN, b_isiB, b_isiI, b_isiS, b_isiT, b_isiR, b_isiL, b_isN, b_notN, b_neg, b_rev, b_join, t_str, is_some, isB_some, byB_true, byB_false, start, wipe, bindT, List.map_cons, List.map_nil, List.cons_append, List.nil_append, List.append_nil, List.getElem?_cons_zero, List.getElem?_cons_succ, List.length_cons, List.length_nil, List.set_cons_zero, List.set_cons_succ, atI_0, atI_1, atI_2, atI_3, List.replicate, Nat.zero_add, Nat.reduceAdd, Nat.reduceSub, seqW_ref, seqW_tup, c_leS, b_iaddI, b_iaddS, b_isub, w_enum, w_zip, w_callv, e_ii, rdL_new] at t
        try simp only [w_var, w_c, w_bin, w_cmp, w_chain, w_and, w_or, w_ite, w_not, w_nil, w_cons, w_tup, w_lst, w_ix, w_no, w_yes, w_sl, w_call, w_bi, w_val, w_rng1, w_rng2, s_nil, s_cons, s_ret, s_expr, s_set, s_if, s_pass, s_setix, s_app, s_ext, o_addI, o_addS, o_addT, o_addL, o_sub, o_mulI, o_mulS, o_mulL, o_fdiv, o_mod, o_pow, c_ltI, c_ltS, c_le, c_gt, c_ge, c_eq, c_ne, e_ii, e_ss, e_bb, c_inS, c_notS, i_str, i_tup, i_ref, l_str, l_tup, l_rol, l_ref, b_lenS, b_lenT, b_lenR, b_abs, b_tupR, b_tupT, b_listR, b_listT, b_all, b_any, b_intI, b_intB, b_isiN, b_isiB, b_isiI, b_isiS, b_isiT, b_isiR, b_isiL, b_isN, b_notN, b_neg, b_rev, b_join, t_str, is_some, isB_some, byB_true, byB_false, start, wipe, bindT, List.map_cons, List.map_nil, List.cons_append, List.nil_append, List.append_nil, List.getElem?_cons_zero, List.getElem?_cons_succ, List.length_cons, List.length_nil, List.set_cons_zero, List.set_cons_succ, atI_0, atI_1, atI_2, atI_3, List.replicate, Nat.zero_add, Nat.reduceAdd, Nat.reduceSub, seqW_ref, seqW_tup, c_leS, b_iaddI, b_iaddS, b_isub, w_enum, w_zip, w_callv, e_ii, show decide ((2 : Int) = 4) = false from rfl, show (2 : Int) - 2 = 0 from rfl, rdL_new]
        exact ⟨by simp [LIM], t⟩
      · have t := mid 3 kAny (.inr ⟨rfl, rfl⟩)
        try simp only [w_var, w_c, w_bin, w_cmp, w_chain, w_and, w_or, w_ite, w_not, w_nil, w_cons, w_tup, w_lst, w_ix, w_no, w_yes, w_sl, w_call, w_bi, w_val, w_rng1, w_rng2, s_nil, s_cons, s_ret, s_expr, s_set, s_if, s_pass, s_setix, s_app, s_ext, o_addI, o_addS, o_addT, o_addL, o_sub, o_mulI, o_mulS, o_mulL, o_fdiv, o_mod, o_pow, c_ltI, c_ltS, c_le, c_gt, c_ge, c_eq, c_ne, e_ii, e_ss, e_bb, c_inS, c_notS, i_str, i_tup, i_ref, l_str, l_tup, l_rol, l_ref, b_lenS, b_lenT, b_lenR, b_abs, b_tupR, b_tupT, b_listR, b_listT, b_all, b_any, b_intI, b_intB, b_isiN, b_isiB, b_isiI, b_isiS, b_isiT, b_isiR, b_isiL, b_isN, b_notN, b_neg, b_rev, b_join, t_str, is_some, isB_some, byB_true, byB_false, start, wipe, bindT, List.map_cons, List.map_nil, List.cons_append, List.nil_append, List.append_nil, List.getElem?_cons_zero, List.getElem?_cons_succ, List.length_cons, List.length_nil, List.set_cons_zero, List.set_cons_succ, atI_0, atI_1, atI_2, atI_3, List.replicate, Nat.zero_add, Nat.reduceAdd, Nat.reduceSub, seqW_ref, seqW_tup, c_leS, b_iaddI, b_iaddS, b_isub, w_enum, w_zip, w_callv, e_ii, rdL_new] at t
        try simp only [w_var, w_c, w_bin, w_cmp, w_chain, w_and, w_or, w_ite, w_not, w_nil, w_cons, w_tup, w_lst, w_ix, w_no, w_yes, w_sl, w_call, w_bi, w_val, w_rng1, w_rng2, s_nil, s_cons, s_ret, s_expr, s_set, s_if, s_pass, s_setix, s_app, s_ext, o_addI, o_addS, o_addT, o_addL, o_sub, o_mulI, o_mulS, o_mulL, o_fdiv, o_mod, o_pow, c_ltI, c_ltS, c_le, c_gt, c_ge, c_eq, c_ne, e_ii, e_ss, e_bb, c_inS, c_notS, i_str, i_tup, i_ref, l_str, l_tup, l_rol, l_ref, b_lenS, b_lenT, b_lenR, b_abs, b_tupR, b_tupT, b_listR, b_listT, b_all, b_any, b_intI, b_intB, b_isiN, b_isiB, b_isiI, b_isiS, b_isiT, b_isiR, b_isiL, b_isN, b_notN, b_neg, b_rev, b_join, t_str, is_some, isB_some, byB_true, byB_false, start, wipe, bindT, List.map_cons, List.map_nil, List.cons_append, List.nil_append, List.append_nil, List.getElem?_cons_zero, List.getElem?_cons_succ, List.length_cons, List.length_nil, List.set_cons_zero, List.set_cons_succ, atI_0, atI_1, atI_2, atI_3, List.replicate, Nat.zero_add, Nat.reduceAdd, Nat.reduceSub, seqW_ref, seqW_tup, c_leS, b_iaddI, b_iaddS, b_isub, w_enum, w_zip, w_callv, e_ii, show decide ((3 : Int) = 4) = false from rfl, show (3 : Int) - 2 = 1 from rfl, rdL_new]
        exact ⟨by simp [LIM], t⟩
      · try simp only [w_var, w_c, w_bin, w_cmp, w_chain, w_and, w_or, w_ite, w_not, w_nil, w_cons, w_tup, w_lst, w_ix, w_no, w_yes, w_sl, w_call, w_bi, w_val, w_rng1, w_rng2, s_nil, s_cons, s_ret, s_expr, s_set, s_if, s_pass, s_setix, s_app, s_ext, o_addI, o_addS, o_addT, o_addL, o_sub, o_mulI, o_mulS, o_mulL, o_fdiv, o_mod, o_pow, c_ltI, c_ltS, c_le, c_gt, c_ge, c_eq, c_ne, e_ii, e_ss, e_bb, c_inS, c_notS, i_str, i_tup, i_ref, l_str, l_tup, l_rol, l_ref, b_lenS, b_lenT, b_lenR, b_abs, b_tupR, b_tupT, b_listR, b_listT, b_all, b_any, b_intI, b_intB, b_isiN, b_isiB, b_isiI, b_isiS, b_isiT, b_isiR, b_isiL, b_isN, b_notN, b_neg, b_rev, b_join, t_str, is_some, isB_some, byB_true, byB_false, start, wipe, bindT, List.map_cons, List.map_nil, List.cons_append, List.nil_append, List.append_nil, List.getElem?_cons_zero, List.getElem?_cons_succ, List.length_cons, List.length_nil, List.set_cons_zero, List.set_cons_succ, atI_0, atI_1, atI_2, atI_3, List.replicate, Nat.zero_add, Nat.reduceAdd, Nat.reduceSub, seqW_ref, seqW_tup, c_leS, b_iaddI, b_iaddS, b_isub, w_enum, w_zip, w_callv, e_ii, show decide ((4 : Int) = 4) = true from rfl]
        exact ⟨by simp [LIM], _, rfl, sgd_some p1, q2.mono (by omega), kx⟩
end
end Pg
namespace Pg
open MP
theorem wrap_enc (w : List Nat) (p : Pt) (hw : w = kRow ∨ w = kAny) : (if word p = w then W.tup [.str kSome, .int 0, .int 1, enc p] else enc p) = enc (wrap w p) := by
  unfold wrap
  split <;> rfl
theorem let_at {v : Int} (h1 : 0 ≤ v) (h2 : v < 26) : atI ([97, 98, 99, 100, 101, 102, 103, 104, 105, 106, 107, 108, 109, 110, 111, 112, 113, 114, 115, 116, 117, 118, 119, 120, 121, 122] : List Nat) v = some (97 + v.toNat) := by
  rw [atI_nn _ h1]
  have h3 : v.toNat < 26 := by omega
  generalize v.toNat = n at *
  revert n
  decide
section
variable {ds : Nat → Option Def}
theorem lrow_spec (h114 : ds 114 = some ⟨1, 2, b_law_row⟩) (k : Nat) {S : Sto} {j : Nat} {ps : List Pt} (hr : rdL S j = some (encs ps)) (hl : ps.length ≤ 1000) : Is (callF ds (k + 1) 114 [.ref j] S) fun w S' => w = enc (.row (ps.map (wrap kRow))) ∧ Kp S S' := by
  refine w_callF h114 rfl ?_
  simp only [b_law_row, w_var, w_c, w_bin, w_cmp, w_chain, w_and, w_or, w_ite, w_not, w_nil, w_cons, w_tup, w_lst, w_ix, w_no, w_yes, w_sl, w_call, w_bi, w_val, w_rng1, w_rng2, s_nil, s_cons, s_ret, s_expr, s_set, s_if, s_pass, s_setix, s_app, s_ext, o_addI, o_addS, o_addT, o_addL, o_sub, o_mulI, o_mulS, o_mulL, o_fdiv, o_mod, o_pow, c_ltI, c_ltS, c_le, c_gt, c_ge, c_eq, c_ne, e_ii, e_ss, e_bb, c_inS, c_notS, i_str, i_tup, i_ref, l_str, l_tup, l_rol, l_ref, b_lenS, b_lenT, b_lenR, b_abs, b_tupR, b_tupT, b_listR, b_listT, b_all, b_any, b_intI, b_intB, b_isiN, b_isiB, b_isiI, b_isiS, b_isiT, b_isiR, b_isiL, b_isN, b_notN, b_neg, b_rev, b_join, t_str, is_some, isB_some, byB_true, byB_false, start, wipe, bindT, List.map_cons, List.map_nil, List.cons_append, List.nil_append, List.append_nil, List.getElem?_cons_zero, List.getElem?_cons_succ, List.length_cons, List.length_nil, List.set_cons_zero, List.set_cons_succ, atI_0, atI_1, atI_2, atI_3, List.replicate, Nat.zero_add, Nat.reduceAdd, Nat.reduceSub, seqW_ref, seqW_tup, c_leS, b_iaddI, b_iaddS, b_isub, w_enum, w_zip, w_callv]
  refine w_comp (n := ps.length) (by simp only [LIM]; omega) (fun i acc S' => acc = encs ((ps.take i).map (wrap kRow)) ∧ Kp S S') ?_
  try simp only [w_var, w_c, w_bin, w_cmp, w_chain, w_and, w_or, w_ite, w_not, w_nil, w_cons, w_tup, w_lst, w_ix, w_no, w_yes, w_sl, w_call, w_bi, w_val, w_rng1, w_rng2, s_nil, s_cons, s_ret, s_expr, s_set, s_if, s_pass, s_setix, s_app, s_ext, o_addI, o_addS, o_addT, o_addL, o_sub, o_mulI, o_mulS, o_mulL, o_fdiv, o_mod, o_pow, c_ltI, c_ltS, c_le, c_gt, c_ge, c_eq, c_ne, e_ii, e_ss, e_bb, c_inS, c_notS, i_str, i_tup, i_ref, l_str, l_tup, l_rol, l_ref, b_lenS, b_lenT, b_lenR, b_abs, b_tupR, b_tupT, b_listR, b_listT, b_all, b_any, b_intI, b_intB, b_isiN, b_isiB, b_isiI, b_isiS, b_isiT, b_isiR, b_isiL, b_isN, b_notN, b_neg, b_rev, b_join, t_str, is_some, isB_some, byB_true, byB_false, start, wipe, bindT, List.map_cons, List.map_nil, List.cons_append, List.nil_append, List.append_nil, List.getElem?_cons_zero, List.getElem?_cons_succ, List.length_cons, List.length_nil, List.set_cons_zero, List.set_cons_succ, atI_0, atI_1, atI_2, atI_3, List.replicate, Nat.zero_add, Nat.reduceAdd, Nat.reduceSub, seqW_ref, seqW_tup, c_leS, b_iaddI, b_iaddS, b_isub, w_enum, w_zip, w_callv, Src.len, hr, Option.map_some, encs_len]
  refine ⟨trivial, ⟨rfl, .refl _⟩, fun i acc S' hi hI => ?_, fun acc S' _ hI => ?_⟩
  · obtain ⟨rfl, f3⟩ := hI
    have hj2 : rdL S' j = some (encs ps) := rdL_of (f3.get (rdL_iff.mp hr))
    have hx : (encs ps)[i]? = some (enc ps[i]) := by rw [encs_map, List.getElem?_map, List.getElem?_eq_getElem hi]; rfl
    refine ⟨enc ps[i], _, by simp only [Src.item, hj2, Option.bind_some]; exact hx, rfl, ?_⟩
    have ht : ps.take (i + 1) = ps.take i ++ [ps[i]] := by rw [List.take_add_one, List.getElem?_eq_getElem hi]; rfl
    obtain ⟨r, hr⟩ := enc_head ps[i]
    have we := wrap_enc kRow ps[i] (.inl rfl)
    try simp only [w_var, w_c, w_bin, w_cmp, w_chain, w_and, w_or, w_ite, w_not, w_nil, w_cons, w_tup, w_lst, w_ix, w_no, w_yes, w_sl, w_call, w_bi, w_val, w_rng1, w_rng2, s_nil, s_cons, s_ret, s_expr, s_set, s_if, s_pass, s_setix, s_app, s_ext, o_addI, o_addS, o_addT, o_addL, o_sub, o_mulI, o_mulS, o_mulL, o_fdiv, o_mod, o_pow, c_ltI, c_ltS, c_le, c_gt, c_ge, c_eq, c_ne, e_ii, e_ss, e_bb, c_inS, c_notS, i_str, i_tup, i_ref, l_str, l_tup, l_rol, l_ref, b_lenS, b_lenT, b_lenR, b_abs, b_tupR, b_tupT, b_listR, b_listT, b_all, b_any, b_intI, b_intB, b_isiN, b_isiB, b_isiI, b_isiS, b_isiT, b_isiR, b_isiL, b_isN, b_notN, b_neg, b_rev, b_join, t_str, is_some, isB_some, byB_true, byB_false, start, wipe, bindT, List.map_cons, List.map_nil, List.cons_append, List.nil_append, List.append_nil, List.getElem?_cons_zero, List.getElem?_cons_succ, List.length_cons, List.length_nil, List.set_cons_zero, List.set_cons_succ, atI_0, atI_1, atI_2, atI_3, List.replicate, Nat.zero_add, Nat.reduceAdd, Nat.reduceSub, seqW_ref, seqW_tup, c_leS, b_iaddI, b_iaddS, b_isub, w_enum, w_zip, w_callv, hr, e_ss, rdL_new] at we ⊢
    refine ⟨by simp [LIM], by simp [LIM], ?_⟩
    by_cases hw : word ps[i] = kRow
    · rw [if_pos hw] at we
      rw [decide_eq_true hw]
      try simp only [w_var, w_c, w_bin, w_cmp, w_chain, w_and, w_or, w_ite, w_not, w_nil, w_cons, w_tup, w_lst, w_ix, w_no, w_yes, w_sl, w_call, w_bi, w_val, w_rng1, w_rng2, s_nil, s_cons, s_ret, s_expr, s_set, s_if, s_pass, s_setix, s_app, s_ext, o_addI, o_addS, o_addT, o_addL, o_sub, o_mulI, o_mulS, o_mulL, o_fdiv, o_mod, o_pow, c_ltI, c_ltS, c_le, c_gt, c_ge, c_eq, c_ne, e_ii, e_ss, e_bb, c_inS, c_notS, i_str, i_tup, i_ref, l_str, l_tup, l_rol, l_ref, b_lenS, b_lenT, b_lenR, b_abs, b_tupR, b_tupT, b_listR, b_listT, b_all, b_any, b_intI, b_intB, b_isiN, b_isiB, b_isiI, b_isiS, b_isiT, b_isiR, b_isiL, b_isN, b_notN, b_neg, b_rev, b_join, t_str, is_some, isB_some, byB_true, byB_false, start, wipe, bindT, List.map_cons, List.map_nil, List.cons_append, List.nil_append, List.append_nil, List.getElem?_cons_zero, List.getElem?_cons_succ, List.length_cons, List.length_nil, List.set_cons_zero, List.set_cons_succ, atI_0, atI_1, atI_2, atI_3, List.replicate, Nat.zero_add, Nat.reduceAdd, Nat.reduceSub, seqW_ref, seqW_tup, c_leS, b_iaddI, b_iaddS, b_isub, w_enum, w_zip, w_callv, if_true]
      refine ⟨?_, f3.snoc _⟩
      rw [ht, List.map_append, encs_app]
      simp only [List.map_cons, List.map_nil, encs, ← we]
    · rw [if_neg hw] at we
      rw [decide_eq_false hw]
      try simp only [w_var, w_c, w_bin, w_cmp, w_chain, w_and, w_or, w_ite, w_not, w_nil, w_cons, w_tup, w_lst, w_ix, w_no, w_yes, w_sl, w_call, w_bi, w_val, w_rng1, w_rng2, s_nil, s_cons, s_ret, s_expr, s_set, s_if, s_pass, s_setix, s_app, s_ext, o_addI, o_addS, o_addT, o_addL, o_sub, o_mulI, o_mulS, o_mulL, o_fdiv, o_mod, o_pow, c_ltI, c_ltS, c_le, c_gt, c_ge, c_eq, c_ne, e_ii, e_ss, e_bb, c_inS, c_notS, i_str, i_tup, i_ref, l_str, l_tup, l_rol, l_ref, b_lenS, b_lenT, b_lenR, b_abs, b_tupR, b_tupT, b_listR, b_listT, b_all, b_any, b_intI, b_intB, b_isiN, b_isiB, b_isiI, b_isiS, b_isiT, b_isiR, b_isiL, b_isN, b_notN, b_neg, b_rev, b_join, t_str, is_some, isB_some, byB_true, byB_false, start, wipe, bindT, List.map_cons, List.map_nil, List.cons_append, List.nil_append, List.append_nil, List.getElem?_cons_zero, List.getElem?_cons_succ, List.length_cons, List.length_nil, List.set_cons_zero, List.set_cons_succ, atI_0, atI_1, atI_2, atI_3, List.replicate, Nat.zero_add, Nat.reduceAdd, Nat.reduceSub, seqW_ref, seqW_tup, c_leS, b_iaddI, b_iaddS, b_isub, w_enum, w_zip, w_callv, Bool.false_eq_true, if_false]
      refine ⟨?_, f3.snoc _⟩
      rw [ht, List.map_append, encs_app]
      simp only [List.map_cons, List.map_nil, encs, ← we]
  · obtain ⟨rfl, f3⟩ := hI
    rw [List.take_length, rdL_new]
    simp only
    exact ⟨⟨_, Nat.le_refl _, by simp only [Src.len, rdL_of (f3.get (rdL_iff.mp hr)), Option.map_some, encs_len]⟩, by simp [LIM], rfl, f3.snoc _⟩
theorem lany_spec (h115 : ds 115 = some ⟨1, 2, b_law_any⟩) (k : Nat) {S : Sto} {j : Nat} {ps : List Pt} (hr : rdL S j = some (encs ps)) (hl : ps.length ≤ 1000) : Is (callF ds (k + 1) 115 [.ref j] S) fun w S' => w = enc (.any (ps.map (wrap kAny))) ∧ Kp S S' := by
  refine w_callF h115 rfl ?_
  simp only [b_law_any, w_var, w_c, w_bin, w_cmp, w_chain, w_and, w_or, w_ite, w_not, w_nil, w_cons, w_tup, w_lst, w_ix, w_no, w_yes, w_sl, w_call, w_bi, w_val, w_rng1, w_rng2, s_nil, s_cons, s_ret, s_expr, s_set, s_if, s_pass, s_setix, s_app, s_ext, o_addI, o_addS, o_addT, o_addL, o_sub, o_mulI, o_mulS, o_mulL, o_fdiv, o_mod, o_pow, c_ltI, c_ltS, c_le, c_gt, c_ge, c_eq, c_ne, e_ii, e_ss, e_bb, c_inS, c_notS, i_str, i_tup, i_ref, l_str, l_tup, l_rol, l_ref, b_lenS, b_lenT, b_lenR, b_abs, b_tupR, b_tupT, b_listR, b_listT, b_all, b_any, b_intI, b_intB, b_isiN, b_isiB, b_isiI, b_isiS, b_isiT, b_isiR, b_isiL, b_isN, b_notN, b_neg, b_rev, b_join, t_str, is_some, isB_some, byB_true, byB_false, start, wipe, bindT, List.map_cons, List.map_nil, List.cons_append, List.nil_append, List.append_nil, List.getElem?_cons_zero, List.getElem?_cons_succ, List.length_cons, List.length_nil, List.set_cons_zero, List.set_cons_succ, atI_0, atI_1, atI_2, atI_3, List.replicate, Nat.zero_add, Nat.reduceAdd, Nat.reduceSub, seqW_ref, seqW_tup, c_leS, b_iaddI, b_iaddS, b_isub, w_enum, w_zip, w_callv]
  refine w_comp (n := ps.length) (by simp only [LIM]; omega) (fun i acc S' => acc = encs ((ps.take i).map (wrap kAny)) ∧ Kp S S') ?_
  try simp only [w_var, w_c, w_bin, w_cmp, w_chain, w_and, w_or, w_ite, w_not, w_nil, w_cons, w_tup, w_lst, w_ix, w_no, w_yes, w_sl, w_call, w_bi, w_val, w_rng1, w_rng2, s_nil, s_cons, s_ret, s_expr, s_set, s_if, s_pass, s_setix, s_app, s_ext, o_addI, o_addS, o_addT, o_addL, o_sub, o_mulI, o_mulS, o_mulL, o_fdiv, o_mod, o_pow, c_ltI, c_ltS, c_le, c_gt, c_ge, c_eq, c_ne, e_ii, e_ss, e_bb, c_inS, c_notS, i_str, i_tup, i_ref, l_str, l_tup, l_rol, l_ref, b_lenS, b_lenT, b_lenR, b_abs, b_tupR, b_tupT, b_listR, b_listT, b_all, b_any, b_intI, b_intB, b_isiN, b_isiB, b_isiI, b_isiS, b_isiT, b_isiR, b_isiL, b_isN, b_notN, b_neg, b_rev, b_join, t_str, is_some, isB_some, byB_true, byB_false, start, wipe, bindT, List.map_cons, List.map_nil, List.cons_append, List.nil_append, List.append_nil, List.getElem?_cons_zero, List.getElem?_cons_succ, List.length_cons, List.length_nil, List.set_cons_zero, List.set_cons_succ, atI_0, atI_1, atI_2, atI_3, List.replicate, Nat.zero_add, Nat.reduceAdd, Nat.reduceSub, seqW_ref, seqW_tup, c_leS, b_iaddI, b_iaddS, b_isub, w_enum, w_zip, w_callv, Src.len, hr, Option.map_some, encs_len]
  refine ⟨trivial, ⟨rfl, .refl _⟩, fun i acc S' hi hI => ?_, fun acc S' _ hI => ?_⟩
  · obtain ⟨rfl, f3⟩ := hI
    have hj2 : rdL S' j = some (encs ps) := rdL_of (f3.get (rdL_iff.mp hr))
    have hx : (encs ps)[i]? = some (enc ps[i]) := by rw [encs_map, List.getElem?_map, List.getElem?_eq_getElem hi]; rfl
    refine ⟨enc ps[i], _, by simp only [Src.item, hj2, Option.bind_some]; exact hx, rfl, ?_⟩
    have ht : ps.take (i + 1) = ps.take i ++ [ps[i]] := by rw [List.take_add_one, List.getElem?_eq_getElem hi]; rfl
    obtain ⟨r, hr⟩ := enc_head ps[i]
    have we := wrap_enc kAny ps[i] (.inr rfl)
    try simp only [w_var, w_c, w_bin, w_cmp, w_chain, w_and, w_or, w_ite, w_not, w_nil, w_cons, w_tup, w_lst, w_ix, w_no, w_yes, w_sl, w_call, w_bi, w_val, w_rng1, w_rng2, s_nil, s_cons, s_ret, s_expr, s_set, s_if, s_pass, s_setix, s_app, s_ext, o_addI, o_addS, o_addT, o_addL, o_sub, o_mulI, o_mulS, o_mulL, o_fdiv, o_mod, o_pow, c_ltI, c_ltS, c_le, c_gt, c_ge, c_eq, c_ne, e_ii, e_ss, e_bb, c_inS, c_notS, i_str, i_tup, i_ref, l_str, l_tup, l_rol, l_ref, b_lenS, b_lenT, b_lenR, b_abs, b_tupR, b_tupT, b_listR, b_listT, b_all, b_any, b_intI, b_intB, b_isiN, b_isiB, b_isiI, b_isiS, b_isiT, b_isiR, b_isiL, b_isN, b_notN, b_neg, b_rev, b_join, t_str, is_some, isB_some, byB_true, byB_false, start, wipe, bindT, List.map_cons, List.map_nil, List.cons_append, List.nil_append, List.append_nil, List.getElem?_cons_zero, List.getElem?_cons_succ, List.length_cons, List.length_nil, List.set_cons_zero, List.set_cons_succ, atI_0, atI_1, atI_2, atI_3, List.replicate, Nat.zero_add, Nat.reduceAdd, Nat.reduceSub, seqW_ref, seqW_tup, c_leS, b_iaddI, b_iaddS, b_isub, w_enum, w_zip, w_callv, hr, e_ss, rdL_new] at we ⊢
    refine ⟨by simp [LIM], by simp [LIM], ?_⟩
    by_cases hw : word ps[i] = kAny
    · rw [if_pos hw] at we
      rw [decide_eq_true hw]
      try simp only [w_var, w_c, w_bin, w_cmp, w_chain, w_and, w_or, w_ite, w_not, w_nil, w_cons, w_tup, w_lst, w_ix, w_no, w_yes, w_sl, w_call, w_bi, w_val, w_rng1, w_rng2, s_nil, s_cons, s_ret, s_expr, s_set, s_if, s_pass, s_setix, s_app, s_ext, o_addI, o_addS, o_addT, o_addL, o_sub, o_mulI, o_mulS, o_mulL, o_fdiv, o_mod, o_pow, c_ltI, c_ltS, c_le, c_gt, c_ge, c_eq, c_ne, e_ii, e_ss, e_bb, c_inS, c_notS, i_str, i_tup, i_ref, l_str, l_tup, l_rol, l_ref, b_lenS, b_lenT, b_lenR, b_abs, b_tupR, b_tupT, b_listR, b_listT, b_all, b_any, b_intI, b_intB, b_isiN, b_isiB, b_isiI, b_isiS, b_isiT, b_isiR, b_isiL, b_isN, b_notN, b_neg, b_rev, b_join, t_str, is_some, isB_some, byB_true, byB_false, start, wipe, bindT, List.map_cons, List.map_nil, List.cons_append, List.nil_append, List.append_nil, List.getElem?_cons_zero, List.getElem?_cons_succ, List.length_cons, List.length_nil, List.set_cons_zero, List.set_cons_succ, atI_0, atI_1, atI_2, atI_3, List.replicate, Nat.zero_add, Nat.reduceAdd, Nat.reduceSub, seqW_ref, seqW_tup, c_leS, b_iaddI, b_iaddS, b_isub, w_enum, w_zip, w_callv, if_true]
      refine ⟨?_, f3.snoc _⟩
      rw [ht, List.map_append, encs_app]
      simp only [List.map_cons, List.map_nil, encs, ← we]
    · rw [if_neg hw] at we
      rw [decide_eq_false hw]
      try simp only [w_var, w_c, w_bin, w_cmp, w_chain, w_and, w_or, w_ite, w_not, w_nil, w_cons, w_tup, w_lst, w_ix, w_no, w_yes, w_sl, w_call, w_bi, w_val, w_rng1, w_rng2, s_nil, s_cons, s_ret, s_expr, s_set, s_if, s_pass, s_setix, s_app, s_ext, o_addI, o_addS, o_addT, o_addL, o_sub, o_mulI, o_mulS, o_mulL, o_fdiv, o_mod, o_pow, c_ltI, c_ltS, c_le, c_gt, c_ge, c_eq, c_ne, e_ii, e_ss, e_bb, c_inS, c_notS, i_str, i_tup, i_ref, l_str, l_tup, l_rol, l_ref, b_lenS, b_lenT, b_lenR, b_abs, b_tupR, b_tupT, b_listR, b_listT, b_all, b_any, b_intI, b_intB, b_isiN, b_isiB, b_isiI, b_isiS, b_isiT, b_isiR, b_isiL, b_isN, b_notN, b_neg, b_rev, b_join, t_str, is_some, isB_some, byB_true, byB_false, start, wipe, bindT, List.map_cons, List.map_nil, List.cons_append, List.nil_append, List.append_nil, List.getElem?_cons_zero, List.getElem?_cons_succ, List.length_cons, List.length_nil, List.set_cons_zero, List.set_cons_succ, atI_0, atI_1, atI_2, atI_3, List.replicate, Nat.zero_add, Nat.reduceAdd, Nat.reduceSub, seqW_ref, seqW_tup, c_leS, b_iaddI, b_iaddS, b_isub, w_enum, w_zip, w_callv, Bool.false_eq_true, if_false]
      refine ⟨?_, f3.snoc _⟩
      rw [ht, List.map_append, encs_app]
      simp only [List.map_cons, List.map_nil, encs, ← we]
  · obtain ⟨rfl, f3⟩ := hI
    rw [List.take_length, rdL_new]
    simp only
    exact ⟨⟨_, Nat.le_refl _, by simp only [Src.len, rdL_of (f3.get (rdL_iff.mp hr)), Option.map_some, encs_len]⟩, by simp [LIM], rfl, f3.snoc _⟩
/-- the names that are drawn: unlike, of small letters -/
theorem names2_spec (h4 : ds 4 = some ⟨2, 4, b_law_draw⟩) (h111 : ds 111 = some ⟨2, 7, b_law_names_v2⟩) (k : Nat) {S : Sto} {d c n : Nat} (h : Dk d c n S) (m : Nat) (hm : m ≤ 4) (hn : n ≤ 100000000) :
    Is (callF ds (k + 2) 111 [.ref d, .int m] S) fun w S' => ∃ f xs, w = .ref f ∧ S.length ≤ f ∧ rdL S' f = some (xs.map .str) ∧ xs.length = m ∧ Nms xs ∧ xs.Nodup ∧ Dk d c (n + 10) S' ∧ Kx d c S S' := by
  refine w_callF (k := k + 1) h111 rfl ?_
  simp only [b_law_names_v2, w_var, w_c, w_bin, w_cmp, w_chain, w_and, w_or, w_ite, w_not, w_nil, w_cons, w_tup, w_lst, w_ix, w_no, w_yes, w_sl, w_call, w_bi, w_val, w_rng1, w_rng2, s_nil, s_cons, s_ret, s_expr, s_set, s_if, s_pass, s_setix, s_app, s_ext, o_addI, o_addS, o_addT, o_addL, o_sub, o_mulI, o_mulS, o_mulL, o_fdiv, o_mod, o_pow, c_ltI, c_ltS, c_le, c_gt, c_ge, c_eq, c_ne, e_ii, e_ss, e_bb, c_inS, c_notS, i_str, i_tup, i_ref, l_str, l_tup, l_rol, l_ref, b_lenS, b_lenT, b_lenR, b_abs, b_tupR, b_tupT, b_listR, b_listT, b_all, b_any, b_intI, b_intB, b_isiN, b_isiB, b_isiI, b_isiS, b_isiT, b_isiR, b_isiL, b_isN, b_notN, b_neg, b_rev, b_join, t_str, is_some, isB_some, byB_true, byB_false, start, wipe, bindT, List.map_cons, List.map_nil, List.cons_append, List.nil_append, List.append_nil, List.getElem?_cons_zero, List.getElem?_cons_succ, List.length_cons, List.length_nil, List.set_cons_zero, List.set_cons_succ, atI_0, atI_1, atI_2, atI_3, List.replicate, Nat.zero_add, Nat.reduceAdd, Nat.reduceSub, seqW_ref, seqW_tup, c_leS, b_iaddI, b_iaddS, b_isub, w_enum, w_zip, w_callv]
  refine w_compX ?_
  try simp only [w_var, w_c, w_bin, w_cmp, w_chain, w_and, w_or, w_ite, w_not, w_nil, w_cons, w_tup, w_lst, w_ix, w_no, w_yes, w_sl, w_call, w_bi, w_val, w_rng1, w_rng2, s_nil, s_cons, s_ret, s_expr, s_set, s_if, s_pass, s_setix, s_app, s_ext, o_addI, o_addS, o_addT, o_addL, o_sub, o_mulI, o_mulS, o_mulL, o_fdiv, o_mod, o_pow, c_ltI, c_ltS, c_le, c_gt, c_ge, c_eq, c_ne, e_ii, e_ss, e_bb, c_inS, c_notS, i_str, i_tup, i_ref, l_str, l_tup, l_rol, l_ref, b_lenS, b_lenT, b_lenR, b_abs, b_tupR, b_tupT, b_listR, b_listT, b_all, b_any, b_intI, b_intB, b_isiN, b_isiB, b_isiI, b_isiS, b_isiT, b_isiR, b_isiL, b_isN, b_notN, b_neg, b_rev, b_join, t_str, is_some, isB_some, byB_true, byB_false, start, wipe, bindT, List.map_cons, List.map_nil, List.cons_append, List.nil_append, List.append_nil, List.getElem?_cons_zero, List.getElem?_cons_succ, List.length_cons, List.length_nil, List.set_cons_zero, List.set_cons_succ, atI_0, atI_1, atI_2, atI_3, List.replicate, Nat.zero_add, Nat.reduceAdd, Nat.reduceSub, seqW_ref, seqW_tup, c_leS, b_iaddI, b_iaddS, b_isub, w_enum, w_zip, w_callv]
  refine draw_w h4 k h (.refl _ _ _) (by omega) 8 (by omega) (by omega) fun v S1 a1 a2 a3 a4 _ => ?_
  obtain ⟨q, rfl⟩ : ∃ q : Nat, v = (q : Int) := ⟨v.toNat, by omega⟩
  try simp only [w_var, w_c, w_bin, w_cmp, w_chain, w_and, w_or, w_ite, w_not, w_nil, w_cons, w_tup, w_lst, w_ix, w_no, w_yes, w_sl, w_call, w_bi, w_val, w_rng1, w_rng2, s_nil, s_cons, s_ret, s_expr, s_set, s_if, s_pass, s_setix, s_app, s_ext, o_addI, o_addS, o_addT, o_addL, o_sub, o_mulI, o_mulS, o_mulL, o_fdiv, o_mod, o_pow, c_ltI, c_ltS, c_le, c_gt, c_ge, c_eq, c_ne, e_ii, e_ss, e_bb, c_inS, c_notS, i_str, i_tup, i_ref, l_str, l_tup, l_rol, l_ref, b_lenS, b_lenT, b_lenR, b_abs, b_tupR, b_tupT, b_listR, b_listT, b_all, b_any, b_intI, b_intB, b_isiN, b_isiB, b_isiI, b_isiS, b_isiT, b_isiR, b_isiL, b_isN, b_notN, b_neg, b_rev, b_join, t_str, is_some, isB_some, byB_true, byB_false, start, wipe, bindT, List.map_cons, List.map_nil, List.cons_append, List.nil_append, List.append_nil, List.getElem?_cons_zero, List.getElem?_cons_succ, List.length_cons, List.length_nil, List.set_cons_zero, List.set_cons_succ, atI_0, atI_1, atI_2, atI_3, List.replicate, Nat.zero_add, Nat.reduceAdd, Nat.reduceSub, seqW_ref, seqW_tup, c_leS, b_iaddI, b_iaddS, b_isub, w_enum, w_zip, w_callv]
  refine ⟨rng_small (by omega) (by omega), q, fun i acc S' => ∃ x : List Nat, acc = x.map (fun c => W.str [c]) ∧ x.length = i ∧ (∀ c ∈ x, 97 ≤ c ∧ c ≤ 122) ∧ Dk d c (n + 1 + i) S' ∧ Kx d c S S', by simp only [LIM]; omega, by simp only [Src.len]; simp, ⟨[], rfl, rfl, (fun _ h => nomatch h), a3, a4⟩, fun i acc S' hi hI => ?_, fun acc S' _ hI => ?_⟩
  · obtain ⟨x, rfl, x1, x2, x3, x4⟩ := hI
    refine ⟨.int (0 + (i : Nat)), _, by simp only [Src.item]; rw [if_pos (by simpa using hi)], rfl, ?_⟩
    try simp only [w_var, w_c, w_bin, w_cmp, w_chain, w_and, w_or, w_ite, w_not, w_nil, w_cons, w_tup, w_lst, w_ix, w_no, w_yes, w_sl, w_call, w_bi, w_val, w_rng1, w_rng2, s_nil, s_cons, s_ret, s_expr, s_set, s_if, s_pass, s_setix, s_app, s_ext, o_addI, o_addS, o_addT, o_addL, o_sub, o_mulI, o_mulS, o_mulL, o_fdiv, o_mod, o_pow, c_ltI, c_ltS, c_le, c_gt, c_ge, c_eq, c_ne, e_ii, e_ss, e_bb, c_inS, c_notS, i_str, i_tup, i_ref, l_str, l_tup, l_rol, l_ref, b_lenS, b_lenT, b_lenR, b_abs, b_tupR, b_tupT, b_listR, b_listT, b_all, b_any, b_intI, b_intB, b_isiN, b_isiB, b_isiI, b_isiS, b_isiT, b_isiR, b_isiL, b_isN, b_notN, b_neg, b_rev, b_join, t_str, is_some, isB_some, byB_true, byB_false, start, wipe, bindT, List.map_cons, List.map_nil, List.cons_append, List.nil_append, List.append_nil, List.getElem?_cons_zero, List.getElem?_cons_succ, List.length_cons, List.length_nil, List.set_cons_zero, List.set_cons_succ, atI_0, atI_1, atI_2, atI_3, List.replicate, Nat.zero_add, Nat.reduceAdd, Nat.reduceSub, seqW_ref, seqW_tup, c_leS, b_iaddI, b_iaddS, b_isub, w_enum, w_zip, w_callv]
    refine draw_w h4 k x3 x4 (by omega) 26 (by omega) (by omega) fun u S2 b1 b2 b3 b4 _ => ?_
    try simp only [w_var, w_c, w_bin, w_cmp, w_chain, w_and, w_or, w_ite, w_not, w_nil, w_cons, w_tup, w_lst, w_ix, w_no, w_yes, w_sl, w_call, w_bi, w_val, w_rng1, w_rng2, s_nil, s_cons, s_ret, s_expr, s_set, s_if, s_pass, s_setix, s_app, s_ext, o_addI, o_addS, o_addT, o_addL, o_sub, o_mulI, o_mulS, o_mulL, o_fdiv, o_mod, o_pow, c_ltI, c_ltS, c_le, c_gt, c_ge, c_eq, c_ne, e_ii, e_ss, e_bb, c_inS, c_notS, i_str, i_tup, i_ref, l_str, l_tup, l_rol, l_ref, b_lenS, b_lenT, b_lenR, b_abs, b_tupR, b_tupT, b_listR, b_listT, b_all, b_any, b_intI, b_intB, b_isiN, b_isiB, b_isiI, b_isiS, b_isiT, b_isiR, b_isiL, b_isN, b_notN, b_neg, b_rev, b_join, t_str, is_some, isB_some, byB_true, byB_false, start, wipe, bindT, List.map_cons, List.map_nil, List.cons_append, List.nil_append, List.append_nil, List.getElem?_cons_zero, List.getElem?_cons_succ, List.length_cons, List.length_nil, List.set_cons_zero, List.set_cons_succ, atI_0, atI_1, atI_2, atI_3, List.replicate, Nat.zero_add, Nat.reduceAdd, Nat.reduceSub, seqW_ref, seqW_tup, c_leS, b_iaddI, b_iaddS, b_isub, w_enum, w_zip, w_callv, let_at b1 b2]
    refine ⟨by decide, x ++ [97 + u.toNat], by rw [List.map_append]; rfl, by rw [List.length_append, x1]; rfl, fun c hc => ?_, b3, b4⟩
    rcases List.mem_append.mp hc with r | r
    · exact x2 c r
    · rw [List.mem_singleton.mp r]
      omega
  · obtain ⟨x, rfl, x1, x2, x3, x4⟩ := hI
    refine ⟨⟨_, Nat.le_refl _, by simp only [Src.len]; simp⟩, ?_⟩
    simp only [rdL_new, ones_str, txts_map, joinL_nil, lens_sum, flat_ones, w_var, w_c, w_bin, w_cmp, w_chain, w_and, w_or, w_ite, w_not, w_nil, w_cons, w_tup, w_lst, w_ix, w_no, w_yes, w_sl, w_call, w_bi, w_val, w_rng1, w_rng2, s_nil, s_cons, s_ret, s_expr, s_set, s_if, s_pass, s_setix, s_app, s_ext, o_addI, o_addS, o_addT, o_addL, o_sub, o_mulI, o_mulS, o_mulL, o_fdiv, o_mod, o_pow, c_ltI, c_ltS, c_le, c_gt, c_ge, c_eq, c_ne, e_ii, e_ss, e_bb, c_inS, c_notS, i_str, i_tup, i_ref, l_str, l_tup, l_rol, l_ref, b_lenS, b_lenT, b_lenR, b_abs, b_tupR, b_tupT, b_listR, b_listT, b_all, b_any, b_intI, b_intB, b_isiN, b_isiB, b_isiI, b_isiS, b_isiT, b_isiR, b_isiL, b_isN, b_notN, b_neg, b_rev, b_join, t_str, is_some, isB_some, byB_true, byB_false, start, wipe, bindT, List.map_cons, List.map_nil, List.cons_append, List.nil_append, List.append_nil, List.getElem?_cons_zero, List.getElem?_cons_succ, List.length_cons, List.length_nil, List.set_cons_zero, List.set_cons_succ, atI_0, atI_1, atI_2, atI_3, List.replicate, Nat.zero_add, Nat.reduceAdd, Nat.reduceSub, seqW_ref, seqW_tup, c_leS, b_iaddI, b_iaddS, b_isub, w_enum, w_zip, w_callv]
    have hx7 : x.length ≤ 7 := by omega
    have hxl : x.length ≤ LIM := by simp only [LIM]; omega
    refine ⟨hxl, hxl, ?_⟩
    generalize hS2 : S' ++ [SO.lst ((x.map fun c => [c]).map W.str)] = S2
    have k2 : Kp S' S2 := by rw [← hS2]; exact .app _ _
    refine draw_w h4 k (x3.kp k2) (x4.trans (.of k2)) (by omega) ((x.length : Int) + 1) (by omega) (by omega) fun g S3 c1 c2 c3 c4 _ => ?_
    refine draw_w h4 k c3 c4 (by omega) 26 (by omega) (by omega) fun f S4 d1 d2 d3 d4 _ => ?_
    try simp only [w_var, w_c, w_bin, w_cmp, w_chain, w_and, w_or, w_ite, w_not, w_nil, w_cons, w_tup, w_lst, w_ix, w_no, w_yes, w_sl, w_call, w_bi, w_val, w_rng1, w_rng2, s_nil, s_cons, s_ret, s_expr, s_set, s_if, s_pass, s_setix, s_app, s_ext, o_addI, o_addS, o_addT, o_addL, o_sub, o_mulI, o_mulS, o_mulL, o_fdiv, o_mod, o_pow, c_ltI, c_ltS, c_le, c_gt, c_ge, c_eq, c_ne, e_ii, e_ss, e_bb, c_inS, c_notS, i_str, i_tup, i_ref, l_str, l_tup, l_rol, l_ref, b_lenS, b_lenT, b_lenR, b_abs, b_tupR, b_tupT, b_listR, b_listT, b_all, b_any, b_intI, b_intB, b_isiN, b_isiB, b_isiI, b_isiS, b_isiT, b_isiR, b_isiL, b_isN, b_notN, b_neg, b_rev, b_join, t_str, is_some, isB_some, byB_true, byB_false, start, wipe, bindT, List.map_cons, List.map_nil, List.cons_append, List.nil_append, List.append_nil, List.getElem?_cons_zero, List.getElem?_cons_succ, List.length_cons, List.length_nil, List.set_cons_zero, List.set_cons_succ, atI_0, atI_1, atI_2, atI_3, List.replicate, Nat.zero_add, Nat.reduceAdd, Nat.reduceSub, seqW_ref, seqW_tup, c_leS, b_iaddI, b_iaddS, b_isub, w_enum, w_zip, w_callv]
    obtain ⟨fn, rfl⟩ : ∃ q : Nat, f = (q : Int) := ⟨f.toNat, by omega⟩
    have hc1 : cut x none (some g) = x.take g.toNat := by
      unfold cut sIx
      simp only [List.drop_zero, Nat.sub_zero]
      rw [if_neg (by omega)]
      congr 1
      omega
    have hc2 : cut x (some g) none = x.drop g.toNat := by
      unfold cut sIx
      simp only
      rw [if_neg (by omega)]
      have : min g.toNat x.length = g.toNat := by omega
      rw [this]
      exact List.take_of_length_le (by rw [List.length_drop]; omega)
    have hgl : g.toNat ≤ x.length := by omega
    generalize g.toNat = gn at *
    refine w_comp (n := m) (by simp only [LIM]; omega) (fun i acc S' => acc = ((List.range i).map fun k => x.take gn ++ (97 + (fn + 5 * k) % 26) :: x.drop gn).map W.str ∧ S' = S4) ?_
    try simp only [w_var, w_c, w_bin, w_cmp, w_chain, w_and, w_or, w_ite, w_not, w_nil, w_cons, w_tup, w_lst, w_ix, w_no, w_yes, w_sl, w_call, w_bi, w_val, w_rng1, w_rng2, s_nil, s_cons, s_ret, s_expr, s_set, s_if, s_pass, s_setix, s_app, s_ext, o_addI, o_addS, o_addT, o_addL, o_sub, o_mulI, o_mulS, o_mulL, o_fdiv, o_mod, o_pow, c_ltI, c_ltS, c_le, c_gt, c_ge, c_eq, c_ne, e_ii, e_ss, e_bb, c_inS, c_notS, i_str, i_tup, i_ref, l_str, l_tup, l_rol, l_ref, b_lenS, b_lenT, b_lenR, b_abs, b_tupR, b_tupT, b_listR, b_listT, b_all, b_any, b_intI, b_intB, b_isiN, b_isiB, b_isiI, b_isiS, b_isiT, b_isiR, b_isiL, b_isN, b_notN, b_neg, b_rev, b_join, t_str, is_some, isB_some, byB_true, byB_false, start, wipe, bindT, List.map_cons, List.map_nil, List.cons_append, List.nil_append, List.append_nil, List.getElem?_cons_zero, List.getElem?_cons_succ, List.length_cons, List.length_nil, List.set_cons_zero, List.set_cons_succ, atI_0, atI_1, atI_2, atI_3, List.replicate, Nat.zero_add, Nat.reduceAdd, Nat.reduceSub, seqW_ref, seqW_tup, c_leS, b_iaddI, b_iaddS, b_isub, w_enum, w_zip, w_callv, Src.len]
    refine ⟨rng_small (by omega) (by omega), by simp, ⟨rfl, trivial⟩, fun i acc S' hi hI => ?_, fun acc S' _ hI => ?_⟩
    · obtain ⟨rfl, rfl⟩ := hI
      refine ⟨.int (0 + (i : Nat)), _, by simp only [Src.item]; rw [if_pos (by simpa using hi)], rfl, ?_⟩
      have e5 : ((fn : Int) + 5 * (0 + (i : Int))) % 26 = (((fn + 5 * i) % 26 : Nat) : Int) := by omega
      have l26 : (fn + 5 * i) % 26 < 26 := Nat.mod_lt _ (by omega)
      try simp only [w_var, w_c, w_bin, w_cmp, w_chain, w_and, w_or, w_ite, w_not, w_nil, w_cons, w_tup, w_lst, w_ix, w_no, w_yes, w_sl, w_call, w_bi, w_val, w_rng1, w_rng2, s_nil, s_cons, s_ret, s_expr, s_set, s_if, s_pass, s_setix, s_app, s_ext, o_addI, o_addS, o_addT, o_addL, o_sub, o_mulI, o_mulS, o_mulL, o_fdiv, o_mod, o_pow, c_ltI, c_ltS, c_le, c_gt, c_ge, c_eq, c_ne, e_ii, e_ss, e_bb, c_inS, c_notS, i_str, i_tup, i_ref, l_str, l_tup, l_rol, l_ref, b_lenS, b_lenT, b_lenR, b_abs, b_tupR, b_tupT, b_listR, b_listT, b_all, b_any, b_intI, b_intB, b_isiN, b_isiB, b_isiI, b_isiS, b_isiT, b_isiR, b_isiL, b_isN, b_notN, b_neg, b_rev, b_join, t_str, is_some, isB_some, byB_true, byB_false, start, wipe, bindT, List.map_cons, List.map_nil, List.cons_append, List.nil_append, List.append_nil, List.getElem?_cons_zero, List.getElem?_cons_succ, List.length_cons, List.length_nil, List.set_cons_zero, List.set_cons_succ, atI_0, atI_1, atI_2, atI_3, List.replicate, Nat.zero_add, Nat.reduceAdd, Nat.reduceSub, seqW_ref, seqW_tup, c_leS, b_iaddI, b_iaddS, b_isub, w_enum, w_zip, w_callv, hc1, hc2, e5, let_at (show (0 : Int) ≤ (((fn + 5 * i) % 26 : Nat) : Int) by omega) (by omega), Int.toNat_natCast]
      refine ⟨hxl, .inl ⟨by omega, by omega⟩, by omega, by decide, ?_, hxl, ?_, ?_, trivial⟩
      · rw [List.length_take]; simp only [LIM]; omega
      · simp only [List.length_append, List.length_take, List.length_cons, List.length_nil, List.length_drop, LIM]; omega
      · rw [List.range_succ, List.map_append, List.map_append]
        simp
    · obtain ⟨rfl, rfl⟩ := hI
      refine ⟨⟨_, Nat.le_refl _, by simp⟩, _, _, rfl, ?_, rdL_new _ _, by simp, ?_, ?_, (d3.kp (.app _ _)).mono (by omega), d4.trans (.of (.app _ _))⟩
      · exact d4.1
      · intro u hu
        obtain ⟨i, hi, rfl⟩ := List.mem_map.mp hu
        have l26 : (fn + 5 * i) % 26 < 26 := Nat.mod_lt _ (by omega)
        refine ⟨by simp only [List.length_append, List.length_cons]; omega, by simp only [List.length_append, List.length_cons, List.length_take, List.length_drop]; omega, fun c hc => ?_⟩
        rw [List.mem_append, List.mem_cons] at hc
        rcases hc with r | r | r
        · exact x2 c (List.mem_of_mem_take r)
        · omega
        · exact x2 c (List.mem_of_mem_drop r)
      · have inj : ∀ a b : Nat, a < 5 → b < 5 → a ≠ b → (x.take gn ++ (97 + (fn + 5 * a) % 26) :: x.drop gn) ≠ (x.take gn ++ (97 + (fn + 5 * b) % 26) :: x.drop gn) := by
          intro a b ha hb hab e
          have := List.append_cancel_left e
          injection this with e1 _
          omega
        have : ∀ m, m ≤ 5 → ((List.range m).map fun k => x.take gn ++ (97 + (fn + 5 * k) % 26) :: x.drop gn).Nodup := by
          intro m
          induction m with
          | zero => intro _; simp
          | succ m ih =>
            intro hm
            rw [List.range_succ, List.map_append, List.nodup_append]
            refine ⟨ih (by omega), by simp, fun a ha b hb => ?_⟩
            obtain ⟨i, hi, rfl⟩ := List.mem_map.mp ha
            simp only [List.map_cons, List.map_nil, List.mem_singleton] at hb
            rw [hb]
            have := List.mem_range.mp hi
            exact inj i m (by omega) (by omega) (by omega)
        exact this m (by omega)
end
end Pg
namespace Pg
open MP
/-- the deck, and the list of the names that are left -/
structure Lf (d c l n : Nat) (xs : List (List Nat)) (S : Sto) : Prop where
  dk : Dk d c n S
  le : rdL S l = some (xs.map .str)
  l1 : l ≠ d
  l2 : l ≠ c
theorem Lf.kx {d c l n n' : Nat} {xs : List (List Nat)} {S S' : Sto} (h : Lf d c l n xs S) (k : Kx d c S S') (hd : Dk d c n' S') : Lf d c l n' xs S' := ⟨hd, rd_kx h.le k h.l1 h.l2, h.l1, h.l2⟩
theorem Lf.kp {d c l n : Nat} {xs : List (List Nat)} {S S' : Sto} (h : Lf d c l n xs S) (k : Kp S S') : Lf d c l n xs S' := h.kx (.of k) (h.dk.kp k)
theorem Lf.mono {d c l n n' : Nat} {xs : List (List Nat)} {S : Sto} (h : Lf d c l n xs S) (hn : n ≤ n') : Lf d c l n' xs S := ⟨h.dk.mono hn, h.le, h.l1, h.l2⟩
def szB : Nat → Nat
  | 0 => 1
  | 1 => 7
  | 2 => 25
  | _ => 53
/-- what a drawn pattern is: of the names xs, of which ys are left -/
structure FGd (D : Nat) (xs ys : List (List Nat)) (p : Pt) : Prop where
  ok : okG p = true
  idl : idleP p = false
  tm1 : ∀ z, tm z p ≤ 1
  nm : ∀ z ∈ marks p, z ∈ xs ∧ z ∉ ys
  sub : ∀ z ∈ ys, z ∈ xs
  nd : ys.Nodup
  sz : size p ≤ szB D
  dp : deep p ≤ 2 * D + 1
theorem szB_pos (D : Nat) : 1 ≤ szB D := by unfold szB; split <;> omega
theorem szB_step {D : Nat} (h : D ≤ 2) : 1 + (if D < 2 then 3 else 2) * (1 + szB D) ≤ szB (D + 1) := by
  have : D = 0 ∨ D = 1 ∨ D = 2 := by omega
  rcases this with rfl | rfl | rfl <;> decide
theorem fgd_sign {D : Nat} {xs : List (List Nat)} (hx : xs.Nodup) {s : List Nat} (h : okG (.sign s) = true) : FGd D xs xs (.sign s) :=
  ⟨h, by simp [idleP], fun z => by simp [tm], by simp [marks], fun z hz => hz, hx, by have := szB_pos D; simp only [size]; omega, by simp only [deep]; omega⟩
theorem fgd_nil {D : Nat} {xs : List (List Nat)} (hx : xs.Nodup) : FGd D xs xs (.row []) :=
  ⟨by simp [okG, okGs], by simp [idleP, idlePs], fun z => by simp [tm, tmSum], by simp [marks, markss], fun z hz => hz, hx, by have := szB_pos D; simp only [size, sizes]; omega, by simp only [deep, deeps]; omega⟩
theorem nd_not : ∀ {xs : List (List Nat)} {i : Nat} {z : List Nat}, xs.Nodup → xs[i]? = some z → z ∉ xs.eraseIdx i
  | [], i, z, _, h => by simp at h
  | x :: r, 0, z, hn, h => by
    simp at h
    subst h
    rw [List.nodup_cons] at hn
    simpa using hn.1
  | x :: r, i + 1, z, hn, h => by
    rw [List.nodup_cons] at hn
    have h2 : r[i]? = some z := by simpa using h
    have hm : z ∈ r := List.mem_of_getElem? h2
    rw [List.eraseIdx_cons_succ, List.mem_cons, not_or]
    exact ⟨fun e => hn.1 (e ▸ hm), nd_not hn.2 h2⟩
theorem nd_erase {xs : List (List Nat)} (h : xs.Nodup) (i : Nat) : (xs.eraseIdx i).Nodup := h.sublist (List.eraseIdx_sublist _ _)
theorem fgd_mark {D : Nat} (hD : D ≤ 2) {xs ys : List (List Nat)} {i : Nat} {z0 : List Nat} (hx : xs.Nodup) (hz : xs[i]? = some z0) (hn : ∀ c ∈ z0, 97 ≤ c ∧ c ≤ 122) {p : Pt} (h : FGd D (xs.eraseIdx i) ys p) : FGd (D + 1) xs ys (.mark z0 p) := by
  have hm : z0 ∈ xs := List.mem_of_getElem? hz
  have hs : ∀ z ∈ xs.eraseIdx i, z ∈ xs := fun z hz => List.mem_of_mem_eraseIdx hz
  have hno : z0 ∉ xs.eraseIdx i := nd_not hx hz
  refine ⟨?_, by simp [idleP, h.idl], fun z => ?_, fun z hz => ?_, fun z hz => hs z (h.sub z hz), h.nd, ?_, ?_⟩
  · simp only [okG, h.ok, Bool.and_true]
    exact List.all_eq_true.mpr fun c hc => by have := hn c hc; simp; omega
  · have t := h.tm1 z
    rw [tm]
    split
    · rename_i e
      have : tm z p = 0 := tm_zero fun q => hno (e ▸ (h.nm z q).1)
      omega
    · omega
  · rw [marks, List.mem_cons] at hz
    rcases hz with rfl | hz
    · exact ⟨hm, fun q => hno (h.sub _ q)⟩
    · exact ⟨hs z (h.nm z hz).1, (h.nm z hz).2⟩
  · have := szB_step hD
    have := h.sz
    rw [size]
    split at * <;> omega
  · have := h.dp
    rw [deep]
    omega
theorem fgd_opt {D : Nat} (hD : D ≤ 2) {xs ys : List (List Nat)} {p : Pt} (h : FGd D xs ys p) : FGd (D + 1) xs ys (.some 0 (.int 1) p) := by
  refine ⟨by simp [okG, okT, h.ok], by simp [idleP, endB, h.idl], fun z => ?_, by simpa [marks] using h.nm, h.sub, h.nd, ?_, ?_⟩
  · have t := h.tm1 z
    rw [tm, if_neg (by simp [isNon])]
    omega
  · have := szB_step hD
    have := h.sz
    rw [size]
    split at * <;> omega
  · have := h.dp
    rw [deep]
    omega
theorem fgd_solid {D : Nat} (hD : D ≤ 2) {xs : List (List Nat)} (hx : xs.Nodup) {lo : Int} (hlo : lo = 0 ∨ lo = 1) {p : Pt} (h : SGd D p) : FGd (D + 1) xs xs (.some lo .non p) := by
  have tz : ∀ z, tm z p = 0 := fun z => tm_zero (by rw [h.nm]; simp)
  refine ⟨?_, by simp [idleP, endB, h.nb, h.idl], fun z => ?_, by simp [marks, h.nm], fun z hz => hz, hx, ?_, ?_⟩
  · simp only [okG, h.ok, Bool.and_true, okT]
    rcases hlo with rfl | rfl <;> rfl
  · rw [tm, tz z]
    simp
  · have h1 := h.sz
    rw [size]
    have : D = 0 ∨ D = 1 ∨ D = 2 := by omega
    rcases this with rfl | rfl | rfl <;> simp only [szB] <;> omega
  · have := h.dp
    rw [deep]
    omega
/-- the parts of a row, one behind another -/
structure RGd (D m : Nat) (xs ys : List (List Nat)) (ps : List Pt) : Prop where
  len : ps.length = m
  ok : okGs ps = true
  idl : idlePs ps = false
  tm1 : ∀ z, tmSum z ps ≤ 1
  nm : ∀ z ∈ markss ps, z ∈ xs ∧ z ∉ ys
  sub : ∀ z ∈ ys, z ∈ xs
  nd : ys.Nodup
  sz : sizes ps ≤ m * szB D
  dp : deeps ps ≤ 2 * D + 1
theorem rgd_nil {D : Nat} {xs : List (List Nat)} (hx : xs.Nodup) : RGd D 0 xs xs [] :=
  ⟨rfl, rfl, rfl, fun z => by simp [tmSum], by simp [markss], fun z hz => hz, hx, by simp [sizes], by simp [deeps]⟩
theorem rgd_snoc {D m : Nat} {xs ys zs : List (List Nat)} {ps : List Pt} {p : Pt} (h : RGd D m xs ys ps) (q : FGd D ys zs p) : RGd D (m + 1) xs zs (ps ++ [p]) := by
  refine ⟨by rw [List.length_append, h.len]; rfl, by rw [okGs_app, h.ok]; simp [okGs, q.ok], by rw [idlePs_app, h.idl]; simp [idlePs, q.idl], fun z => ?_, fun z hz => ?_, fun z hz => h.sub z (q.sub z hz), q.nd, ?_, ?_⟩
  · rw [tmSum_app]
    simp only [tmSum]
    have t1 := h.tm1 z
    have t2 := q.tm1 z
    by_cases h0 : 0 < tm z p
    · have hz := (q.nm z (tm_mem p h0)).1
      by_cases h1 : 0 < tmSum z ps
      · exact absurd hz (h.nm z (tms_mem ps h1)).2
      · omega
    · omega
  · rw [markss_app, List.mem_append] at hz
    rcases hz with r | r
    · exact ⟨(h.nm z r).1, fun c => (h.nm z r).2 (q.sub z c)⟩
    · have r : z ∈ marks p := by simpa [markss] using r
      exact ⟨h.sub z (q.nm z r).1, (q.nm z r).2⟩
  · have := h.sz
    have := q.sz
    rw [sizes_app, Nat.succ_mul]
    simp only [sizes]
    omega
  · have := h.dp
    have := q.dp
    rw [deeps_app]
    simp only [deeps]
    omega
theorem fgd_row {D m : Nat} (hD : D ≤ 2) (hm : m ≤ if D < 2 then 3 else 2) {xs ys : List (List Nat)} {ps : List Pt} (h : RGd D m xs ys ps) : FGd (D + 1) xs ys (.row (ps.map (wrap kRow))) := by
  have okw : okGs (ps.map (wrap kRow)) = true := okGs_mem.mpr fun q hq => by
    obtain ⟨p, hp, rfl⟩ := List.mem_map.mp hq
    exact wrap_ok _ (okGs_mem.mp h.ok p hp)
  have tw : ∀ z (l : List Pt), tmSum z (l.map (wrap kRow)) = tmSum z l := by
    intro z l
    induction l with
    | nil => rfl
    | cons a r ih => rw [List.map_cons, tmSum, tmSum, wrap_tm, ih]
  have mw : ∀ (l : List Pt), markss (l.map (wrap kRow)) = markss l := by
    intro l
    induction l with
    | nil => rfl
    | cons a r ih => rw [List.map_cons, markss, markss, wrap_marks, ih]
  refine ⟨by rw [okG]; exact okw, ?_, fun z => ?_, fun z hz => ?_, h.sub, h.nd, ?_, ?_⟩
  · rw [idleP]
    exact idlePs_mem.mpr fun q hq => by
      obtain ⟨p, hp, rfl⟩ := List.mem_map.mp hq
      rw [wrap_idle]
      exact idlePs_mem.mp h.idl p hp
  · have := h.tm1 z
    rw [tm, tw]
    omega
  · rw [marks, mw] at hz
    exact h.nm z hz
  · have h1 := sizes_wrap kRow ps
    have h2 := h.sz
    have h3 := h.len
    have h4 := szB_step hD
    have h5 : m * szB D + m ≤ (if D < 2 then 3 else 2) * (1 + szB D) := by
      have : m * szB D + m = m * (1 + szB D) := by rw [Nat.mul_add]; omega
      rw [this]
      exact Nat.mul_le_mul_right _ hm
    rw [size]
    omega
  · have h1 := deeps_wrap kRow ps
    have h2 := h.dp
    rw [deep]
    omega
theorem fgd_any {D : Nat} (hD : D ≤ 2) {xs ys zs us : List (List Nat)} {p q : Pt} (hp : FGd D xs ys p) (hq : FGd D xs zs q) (hu : us.Nodup) (h : ∀ z ∈ us, z ∈ xs ∧ z ∈ ys ∧ z ∈ zs) : FGd (D + 1) xs us (.any [wrap kAny p, wrap kAny q]) := by
  refine ⟨?_, ?_, fun z => ?_, fun z hz => ?_, fun z hz => (h z hz).1, hu, ?_, ?_⟩
  · simp only [okG, okGs, wrap_ok _ hp.ok, wrap_ok _ hq.ok]
    rfl
  · simp only [idleP, idlePs, wrap_idle, hp.idl, hq.idl]
    rfl
  · have t1 := hp.tm1 z
    have t2 := hq.tm1 z
    simp only [tm, tmMax, wrap_tm]
    omega
  · simp only [marks, markss, wrap_marks, List.append_nil, List.mem_append] at hz
    rcases hz with r | r
    · exact ⟨(hp.nm z r).1, fun c => (hp.nm z r).2 (h z c).2.1⟩
    · exact ⟨(hq.nm z r).1, fun c => (hq.nm z r).2 (h z c).2.2⟩
  · have h1 := wrap_size kAny p
    have h2 := wrap_size kAny q
    have h3 := hp.sz
    have h4 := hq.sz
    have h5 := szB_step hD
    simp only [size, sizes]
    split at h5 <;> omega
  · have h1 := wrap_deep kAny p
    have h2 := wrap_deep kAny q
    have h3 := hp.dp
    have h4 := hq.dp
    simp only [deep, deeps]
    omega
end Pg
namespace Pg
open MP
structure LS (ds : Nat → Option Def) : Prop where
  h4 : ds 4 = some ⟨2, 4, b_law_draw⟩
  h111 : ds 111 = some ⟨2, 7, b_law_names_v2⟩
  h112 : ds 112 = some ⟨1, 1, b_law_sign_v3⟩
  h113 : ds 113 = some ⟨2, 7, b_law_solid⟩
  h114 : ds 114 = some ⟨1, 2, b_law_row⟩
  h115 : ds 115 = some ⟨1, 2, b_law_any⟩
  h116 : ds 116 = some ⟨3, 9, b_law_form_v2⟩
theorem b_popi {k : Nat} {i : Int} {S : Sto} {P : W → Sto → Prop} {z : List W} {y : W} (h : rdL S k = some z) (h0 : 0 ≤ i) (hi : z[i.toNat]? = some y) (hl : z.length ≤ LIM) (hp : P y (S.set k (.lst (z.eraseIdx i.toNat)))) : Is (opI .popi [.ref k, .int i] S) P := by
  have hlt : i.toNat < z.length := (List.getElem?_eq_some_iff.mp hi).1
  have e : opI .popi [.ref k, .int i] S = some (y, S.set k (.lst (z.eraseIdx i.toNat))) := by
    simp only [opI, h, ixN_nn h0 (show i < (z.length : Int) by omega), hi, hl, if_true]
  rw [e, is_some]
  exact hp
theorem b_rem {k : Nat} {x : List Nat} {S : Sto} {P : W → Sto → Prop} {ys : List (List Nat)} (h : rdL S k = some (ys.map .str)) (hm : x ∈ ys) (hp : P .non (S.set k (.lst ((ys.erase x).map .str)))) : Is (opI .rem [.ref k, .str x] S) P := by
  have e : opI .rem [.ref k, .str x] S = some (.non, S.set k (.lst ((ys.erase x).map .str))) := by
    simp only [opI, h, txts_map, hm, if_true]
  rw [e, is_some]
  exact hp
/-- in a list of texts -/
theorem c_inL {k : Nat} {S : Sto} {Q : Bool → Prop} {x : List Nat} {ys : List (List Nat)} (h : rdL S k = some (ys.map .str)) (hx : (x.all fun c => decide (c < 128)) = true) (hy : ∀ y ∈ ys, (y.all fun c => decide (c < 128)) = true) : IsB (opC .notIn (.str x) (.ref k) S) Q = Q (!decide (x ∈ ys)) := by
  have e1 : dat S 60 (.str x) = some (.str x) := dat_str hx
  have e2 : ∀ l : List (List Nat), (∀ y ∈ l, (y.all fun c => decide (c < 128)) = true) → dats (dat S 59) (l.map .str) = some (l.map D.str) := by
    intro l
    induction l with
    | nil => intro _; rfl
    | cons a r ih =>
      intro hl
      simp only [List.map_cons, dats, dat_str (hl a (List.mem_cons_self ..)), ih fun y hy => hl y (List.mem_cons_of_mem _ hy)]
  have e3 : ((ys.map D.str).any fun z => D.eqv z (.str x)) = decide (x ∈ ys) := by
    clear e2 h hy
    induction ys with
    | nil => simp
    | cons a r ih =>
      rw [List.map_cons, List.any_cons, ih, D.eqv]
      by_cases q : x = a
      · subst q; simp
      · have q2 : (a == x) = false := beq_eq_false_iff_ne.mpr fun e => q e.symm
        rw [q2]
        simp [q]
  simp only [opC, inW, e1, h, e2 ys hy, e3, Option.map_some]
  exact isB_some _ _
section
variable {ds : Nat → Option Def} {d c : Nat}
theorem nms_128 {xs : List (List Nat)} (h : Nms xs) : ∀ y ∈ xs, (y.all fun c => decide (c < 128)) = true := fun y hy => List.all_eq_true.mpr fun c hc => decide_eq_true (by have := (h y hy).2.2 c hc; omega)
theorem Dk.other' {n : Nat} {S : Sto} (h : Dk d c n S) {P : Nat} (h1 : P ≠ d) (h2 : P ≠ c) (o : SO) : Dk d c n (S.set P o) := by
  obtain ⟨cnt, a, b, e⟩ := h.hd
  obtain ⟨cs, x, y, z⟩ := h.hc
  exact ⟨h.ne, ⟨cnt, a, b, by rw [List.getElem?_set_ne h1]; exact e⟩, ⟨cs, x, y, by rw [List.getElem?_set_ne h2]; exact z⟩⟩
theorem Lf.put {l n : Nat} {xs ys : List (List Nat)} {S : Sto} (h : Lf d c l n xs S) : Lf d c l n ys (S.set l (.lst (ys.map .str))) := ⟨h.dk.other' h.l1 h.l2 _, rdL_set_same h.le, h.l1, h.l2⟩
theorem Ky.rd' {d c lf j : Nat} {S S' : Sto} {u : List W} (k : Ky d c lf S S') (h : rdL S j = some u) (h1 : j ≠ d) (h2 : j ≠ c) (h3 : j ≠ lf) : rdL S' j = some u := rdL_of (k.get (rdL_iff.mp h) h1 h2 h3)
/-- what is wanted of the forms of depth D -/
def FmS (ds : Nat → Option Def) (d c : Nat) (D : Nat) : Prop := ∀ (k n l : Nat) (xs : List (List Nat)) (S : Sto), Lf d c l n xs S → xs.Nodup → Nms xs → xs.length ≤ 4 → n + 10 * 4 ^ D ≤ 900000000 →
  Is (callF ds (k + D + 4) 116 [.ref d, .int (D : Nat), .ref l] S) fun w S' => ∃ p ys, w = enc p ∧ FGd D xs ys p ∧ Lf d c l (n + 10 * 4 ^ D) ys S' ∧ Ky d c l S S'
theorem len_sub' : ∀ (l xs : List (List Nat)), l.Nodup → (∀ z ∈ l, z ∈ xs) → l.length ≤ xs.length
  | [], _, _, _ => Nat.zero_le _
  | z :: l, xs, hn, h => by
    have hz := h z (List.mem_cons_self ..)
    rw [List.nodup_cons] at hn
    have ih := len_sub' l (xs.erase z) hn.2 fun u hu => by
      have ne : u ≠ z := fun e => hn.1 (e ▸ hu)
      exact (List.mem_erase_of_ne ne).mpr (h u (List.mem_cons_of_mem _ hu))
    rw [List.length_erase_of_mem hz] at ih
    have : 0 < xs.length := List.length_pos_of_mem hz
    rw [List.length_cons]
    omega
theorem erase_map : ∀ (xs : List (List Nat)) (i : Nat), (xs.map W.str).eraseIdx i = (xs.eraseIdx i).map W.str
  | [], _ => rfl
  | x :: r, 0 => rfl
  | x :: r, i + 1 => by rw [List.map_cons, List.eraseIdx_cons_succ, List.eraseIdx_cons_succ, List.map_cons, erase_map r i]
theorem form2_zero (Z : LS ds) : FmS ds d c 0 := by
  intro k n l xs S h hx hN hl hn
  refine w_callF (k := k + 3) Z.h116 rfl ?_
  simp only [b_law_form_v2, w_var, w_c, w_bin, w_cmp, w_chain, w_and, w_or, w_ite, w_not, w_nil, w_cons, w_tup, w_lst, w_ix, w_no, w_yes, w_sl, w_call, w_bi, w_val, w_rng1, w_rng2, s_nil, s_cons, s_ret, s_expr, s_set, s_if, s_pass, s_setix, s_app, s_ext, o_addI, o_addS, o_addT, o_addL, o_sub, o_mulI, o_mulS, o_mulL, o_fdiv, o_mod, o_pow, c_ltI, c_ltS, c_le, c_gt, c_ge, c_eq, c_ne, e_ii, e_ss, e_bb, c_inS, c_notS, i_str, i_tup, i_ref, l_str, l_tup, l_rol, l_ref, b_lenS, b_lenT, b_lenR, b_abs, b_tupR, b_tupT, b_listR, b_listT, b_all, b_any, b_intI, b_intB, b_isiN, b_isiB, b_isiI, b_isiS, b_isiT, b_isiR, b_isiL, b_isN, b_notN, b_neg, b_rev, b_join, t_str, is_some, isB_some, byB_true, byB_false, start, wipe, bindT, List.map_cons, List.map_nil, List.cons_append, List.nil_append, List.append_nil, List.getElem?_cons_zero, List.getElem?_cons_succ, List.length_cons, List.length_nil, List.set_cons_zero, List.set_cons_succ, atI_0, atI_1, atI_2, atI_3, List.replicate, Nat.zero_add, Nat.reduceAdd, Nat.reduceSub, seqW_ref, seqW_tup, c_leS, b_iaddI, b_iaddS, b_isub, w_enum, w_zip, w_callv]
  refine draw_w Z.h4 (k + 2) h.dk (.refl _ _ _) (by omega) 10 (by omega) (by omega) fun v S1 a1 a2 a3 a4 _ => ?_
  try simp only [w_var, w_c, w_bin, w_cmp, w_chain, w_and, w_or, w_ite, w_not, w_nil, w_cons, w_tup, w_lst, w_ix, w_no, w_yes, w_sl, w_call, w_bi, w_val, w_rng1, w_rng2, s_nil, s_cons, s_ret, s_expr, s_set, s_if, s_pass, s_setix, s_app, s_ext, o_addI, o_addS, o_addT, o_addL, o_sub, o_mulI, o_mulS, o_mulL, o_fdiv, o_mod, o_pow, c_ltI, c_ltS, c_le, c_gt, c_ge, c_eq, c_ne, e_ii, e_ss, e_bb, c_inS, c_notS, i_str, i_tup, i_ref, l_str, l_tup, l_rol, l_ref, b_lenS, b_lenT, b_lenR, b_abs, b_tupR, b_tupT, b_listR, b_listT, b_all, b_any, b_intI, b_intB, b_isiN, b_isiB, b_isiI, b_isiS, b_isiT, b_isiR, b_isiL, b_isN, b_notN, b_neg, b_rev, b_join, t_str, is_some, isB_some, byB_true, byB_false, start, wipe, bindT, List.map_cons, List.map_nil, List.cons_append, List.nil_append, List.append_nil, List.getElem?_cons_zero, List.getElem?_cons_succ, List.length_cons, List.length_nil, List.set_cons_zero, List.set_cons_succ, atI_0, atI_1, atI_2, atI_3, List.replicate, Nat.zero_add, Nat.reduceAdd, Nat.reduceSub, seqW_ref, seqW_tup, c_leS, b_iaddI, b_iaddS, b_isub, w_enum, w_zip, w_callv, e_ii, show decide (((0 : Nat) : Int) = 0) = true from rfl]
  refine (lsign_spec Z.h4 Z.h112 (k + 1) a3 (by omega)).imp fun w S2 hw => ?_
  obtain ⟨s, rfl, s1, s2, s3⟩ := hw
  exact ⟨_, xs, rfl, fgd_sign hx s1, (h.kx (a4.trans s3) s2).mono (by omega), .of (a4.trans s3)⟩
theorem form2_succ (Z : LS ds) {D : Nat} (hD : D ≤ 2) (IH : FmS ds d c D) : FmS ds d c (D + 1) := by
  intro k n l xs S h hx hN hl hn
  have e4 : 10 * 4 ^ (D + 1) = 4 * (10 * 4 ^ D) := by rw [Nat.pow_succ]; omega
  have e1 : 1 ≤ 4 ^ D := Nat.pos_of_ne_zero (by simp)
  have es : 4 * 3 ^ D ≤ 10 * 4 ^ D := by
    have : 3 ^ D ≤ 4 ^ D := Nat.pow_le_pow_left (by omega) D
    omega
  rw [e4] at hn
  simp only [e4]
  unfold FmS at IH
  generalize hX : 10 * 4 ^ D = X at *
  have hX4 : 10 ≤ X := by omega
  refine w_callF (k := k + D + 4) Z.h116 rfl ?_
  simp only [b_law_form_v2, w_var, w_c, w_bin, w_cmp, w_chain, w_and, w_or, w_ite, w_not, w_nil, w_cons, w_tup, w_lst, w_ix, w_no, w_yes, w_sl, w_call, w_bi, w_val, w_rng1, w_rng2, s_nil, s_cons, s_ret, s_expr, s_set, s_if, s_pass, s_setix, s_app, s_ext, o_addI, o_addS, o_addT, o_addL, o_sub, o_mulI, o_mulS, o_mulL, o_fdiv, o_mod, o_pow, c_ltI, c_ltS, c_le, c_gt, c_ge, c_eq, c_ne, e_ii, e_ss, e_bb, c_inS, c_notS, i_str, i_tup, i_ref, l_str, l_tup, l_rol, l_ref, b_lenS, b_lenT, b_lenR, b_abs, b_tupR, b_tupT, b_listR, b_listT, b_all, b_any, b_intI, b_intB, b_isiN, b_isiB, b_isiI, b_isiS, b_isiT, b_isiR, b_isiL, b_isN, b_notN, b_neg, b_rev, b_join, t_str, is_some, isB_some, byB_true, byB_false, start, wipe, bindT, List.map_cons, List.map_nil, List.cons_append, List.nil_append, List.append_nil, List.getElem?_cons_zero, List.getElem?_cons_succ, List.length_cons, List.length_nil, List.set_cons_zero, List.set_cons_succ, atI_0, atI_1, atI_2, atI_3, List.replicate, Nat.zero_add, Nat.reduceAdd, Nat.reduceSub, seqW_ref, seqW_tup, c_leS, b_iaddI, b_iaddS, b_isub, w_enum, w_zip, w_callv]
  refine draw_w Z.h4 (k + D + 3) h.dk (.refl _ _ _) (by omega) 10 (by omega) (by omega) fun v S1 a1 a2 a3 a4 _ => ?_
  have F1 := h.kx a4 a3
  try simp only [w_var, w_c, w_bin, w_cmp, w_chain, w_and, w_or, w_ite, w_not, w_nil, w_cons, w_tup, w_lst, w_ix, w_no, w_yes, w_sl, w_call, w_bi, w_val, w_rng1, w_rng2, s_nil, s_cons, s_ret, s_expr, s_set, s_if, s_pass, s_setix, s_app, s_ext, o_addI, o_addS, o_addT, o_addL, o_sub, o_mulI, o_mulS, o_mulL, o_fdiv, o_mod, o_pow, c_ltI, c_ltS, c_le, c_gt, c_ge, c_eq, c_ne, e_ii, e_ss, e_bb, c_inS, c_notS, i_str, i_tup, i_ref, l_str, l_tup, l_rol, l_ref, b_lenS, b_lenT, b_lenR, b_abs, b_tupR, b_tupT, b_listR, b_listT, b_all, b_any, b_intI, b_intB, b_isiN, b_isiB, b_isiI, b_isiS, b_isiT, b_isiR, b_isiL, b_isN, b_notN, b_neg, b_rev, b_join, t_str, is_some, isB_some, byB_true, byB_false, start, wipe, bindT, List.map_cons, List.map_nil, List.cons_append, List.nil_append, List.append_nil, List.getElem?_cons_zero, List.getElem?_cons_succ, List.length_cons, List.length_nil, List.set_cons_zero, List.set_cons_succ, atI_0, atI_1, atI_2, atI_3, List.replicate, Nat.zero_add, Nat.reduceAdd, Nat.reduceSub, seqW_ref, seqW_tup, c_leS, b_iaddI, b_iaddS, b_isub, w_enum, w_zip, w_callv, e_ii]
  rw [show decide (((D + 1 : Nat) : Int) = 0) = false from decide_eq_false (by omega)]
  try simp only [w_var, w_c, w_bin, w_cmp, w_chain, w_and, w_or, w_ite, w_not, w_nil, w_cons, w_tup, w_lst, w_ix, w_no, w_yes, w_sl, w_call, w_bi, w_val, w_rng1, w_rng2, s_nil, s_cons, s_ret, s_expr, s_set, s_if, s_pass, s_setix, s_app, s_ext, o_addI, o_addS, o_addT, o_addL, o_sub, o_mulI, o_mulS, o_mulL, o_fdiv, o_mod, o_pow, c_ltI, c_ltS, c_le, c_gt, c_ge, c_eq, c_ne, e_ii, e_ss, e_bb, c_inS, c_notS, i_str, i_tup, i_ref, l_str, l_tup, l_rol, l_ref, b_lenS, b_lenT, b_lenR, b_abs, b_tupR, b_tupT, b_listR, b_listT, b_all, b_any, b_intI, b_intB, b_isiN, b_isiB, b_isiI, b_isiS, b_isiT, b_isiR, b_isiL, b_isN, b_notN, b_neg, b_rev, b_join, t_str, is_some, isB_some, byB_true, byB_false, start, wipe, bindT, List.map_cons, List.map_nil, List.cons_append, List.nil_append, List.append_nil, List.getElem?_cons_zero, List.getElem?_cons_succ, List.length_cons, List.length_nil, List.set_cons_zero, List.set_cons_succ, atI_0, atI_1, atI_2, atI_3, List.replicate, Nat.zero_add, Nat.reduceAdd, Nat.reduceSub, seqW_ref, seqW_tup, c_leS, b_iaddI, b_iaddS, b_isub, w_enum, w_zip, w_callv]
  have ed : ((D + 1 : Nat) : Int) - 1 = (D : Nat) := by omega
  refine byB_dec _ _ _ (fun hv => ?_) (fun hv => ?_)
  · refine (lsign_spec Z.h4 Z.h112 (k + D + 2) a3 (by omega)).imp fun w S2 hw => ?_
    obtain ⟨s, rfl, s1, s2, s3⟩ := hw
    exact ⟨_, xs, rfl, fgd_sign hx s1, (h.kx (a4.trans s3) s2).mono (by omega), .of (a4.trans s3)⟩
  have hDk : ∀ S2, Kx d c S S2 → Dk d c (n + 1) S2 → Lf d c l (n + 1) xs S2 := fun S2 q1 q2 => h.kx q1 q2
  have hv2 : 2 ≤ v := by have := of_decide_eq_false hv; omega
  -- behind the mark
  have rest : ∀ (S1 : Sto), Dk d c (n + 1) S1 → Kx d c S S1 →
      IsS (exs (callF ds (k + D + 4)) (.cons (.ifs (.cmp .lt (.var 3) (.c (.int 7))) (.cons (.ifs (.cmp .eq (.call 4 (.cons (.var 0) (.cons (.c (.int 9)) .nil))) (.c (.int 0))) (.cons (.ret (.tup (.cons (.c (.str [114, 111, 119])) (.cons (.tup .nil) .nil)))) .nil) .nil) (.cons (.ret (.call 114 (.cons (.comp [8] [8] (.rng1 (.bin .add (.c (.int 2)) (.bin .mul (.bi .int (.cons (.cmp .lt (.var 1) (.c (.int 3))) .nil)) (.call 4 (.cons (.var 0) (.cons (.c (.int 2)) .nil)))))) (.c (.bl true)) (.call 116 (.cons (.var 0) (.cons (.bin .sub (.var 1) (.c (.int 1))) (.cons (.var 2) .nil))))) .nil))) .nil)) .nil) (.cons (.ifs (.cmp .eq (.var 3) (.c (.int 7))) (.cons (.ret (.tup (.cons (.c (.str [115, 111, 109, 101])) (.cons (.c (.int 0)) (.cons (.c (.int 1)) (.cons (.call 116 (.cons (.var 0) (.cons (.bin .sub (.var 1) (.c (.int 1))) (.cons (.var 2) .nil)))) .nil)))))) .nil) .nil) (.cons (.ifs (.cmp .eq (.var 3) (.c (.int 8))) (.cons (.ret (.tup (.cons (.c (.str [115, 111, 109, 101])) (.cons (.call 4 (.cons (.var 0) (.cons (.c (.int 2)) .nil))) (.cons (.c .non) (.cons (.call 113 (.cons (.var 0) (.cons (.bin .sub (.var 1) (.c (.int 1))) .nil))) .nil)))))) .nil) .nil) (.cons (.set [4] (.bi .list (.cons (.var 2) .nil))) (.cons (.set [5] (.bi .list (.cons (.var 2) .nil))) (.cons (.set [6] (.lst (.cons (.call 116 (.cons (.var 0) (.cons (.bin .sub (.var 1) (.c (.int 1))) (.cons (.var 4) .nil)))) (.cons (.call 116 (.cons (.var 0) (.cons (.bin .sub (.var 1) (.c (.int 1))) (.cons (.var 5) .nil)))) .nil)))) (.cons (.for_ [7] (.val (.bi .list (.cons (.var 2) .nil))) (.cons (.ifs (.or (.cmp .notIn (.var 7) (.var 4)) (.cmp .notIn (.var 7) (.var 5))) (.cons (.expr (.bi .rem (.cons (.var 2) (.cons (.var 7) .nil)))) .nil) .nil) .nil)) (.cons (.ret (.call 115 (.cons (.var 6) .nil))) .nil))))))))
        [some (.ref d), some (.int ((D + 1 : Nat) : Int)), some (.ref l), some (.int v), none, none, none, none, none] S1) (fun _ S' => ∃ p ys, W.non = enc p ∧ FGd (D + 1) xs ys p ∧ Lf d c l (n + 4 * X) ys S' ∧ Ky d c l S S') fun w S' => ∃ p ys, w = enc p ∧ FGd (D + 1) xs ys p ∧ Lf d c l (n + 4 * X) ys S' ∧ Ky d c l S S' := by
    intro S1 a3 a4
    have F1 := hDk S1 a4 a3
    try simp only [w_var, w_c, w_bin, w_cmp, w_chain, w_and, w_or, w_ite, w_not, w_nil, w_cons, w_tup, w_lst, w_ix, w_no, w_yes, w_sl, w_call, w_bi, w_val, w_rng1, w_rng2, s_nil, s_cons, s_ret, s_expr, s_set, s_if, s_pass, s_setix, s_app, s_ext, o_addI, o_addS, o_addT, o_addL, o_sub, o_mulI, o_mulS, o_mulL, o_fdiv, o_mod, o_pow, c_ltI, c_ltS, c_le, c_gt, c_ge, c_eq, c_ne, e_ii, e_ss, e_bb, c_inS, c_notS, i_str, i_tup, i_ref, l_str, l_tup, l_rol, l_ref, b_lenS, b_lenT, b_lenR, b_abs, b_tupR, b_tupT, b_listR, b_listT, b_all, b_any, b_intI, b_intB, b_isiN, b_isiB, b_isiI, b_isiS, b_isiT, b_isiR, b_isiL, b_isN, b_notN, b_neg, b_rev, b_join, t_str, is_some, isB_some, byB_true, byB_false, start, wipe, bindT, List.map_cons, List.map_nil, List.cons_append, List.nil_append, List.append_nil, List.getElem?_cons_zero, List.getElem?_cons_succ, List.length_cons, List.length_nil, List.set_cons_zero, List.set_cons_succ, atI_0, atI_1, atI_2, atI_3, List.replicate, Nat.zero_add, Nat.reduceAdd, Nat.reduceSub, seqW_ref, seqW_tup, c_leS, b_iaddI, b_iaddS, b_isub, w_enum, w_zip, w_callv, e_ii]
    refine byB_dec _ _ _ (fun h7 => ?_) (fun h7 => ?_)
    · refine draw_w Z.h4 (k + D + 3) a3 a4 (by omega) 9 (by omega) (by omega) fun u S2 b1 b2 b3 b4 _ => ?_
      try simp only [w_var, w_c, w_bin, w_cmp, w_chain, w_and, w_or, w_ite, w_not, w_nil, w_cons, w_tup, w_lst, w_ix, w_no, w_yes, w_sl, w_call, w_bi, w_val, w_rng1, w_rng2, s_nil, s_cons, s_ret, s_expr, s_set, s_if, s_pass, s_setix, s_app, s_ext, o_addI, o_addS, o_addT, o_addL, o_sub, o_mulI, o_mulS, o_mulL, o_fdiv, o_mod, o_pow, c_ltI, c_ltS, c_le, c_gt, c_ge, c_eq, c_ne, e_ii, e_ss, e_bb, c_inS, c_notS, i_str, i_tup, i_ref, l_str, l_tup, l_rol, l_ref, b_lenS, b_lenT, b_lenR, b_abs, b_tupR, b_tupT, b_listR, b_listT, b_all, b_any, b_intI, b_intB, b_isiN, b_isiB, b_isiI, b_isiS, b_isiT, b_isiR, b_isiL, b_isN, b_notN, b_neg, b_rev, b_join, t_str, is_some, isB_some, byB_true, byB_false, start, wipe, bindT, List.map_cons, List.map_nil, List.cons_append, List.nil_append, List.append_nil, List.getElem?_cons_zero, List.getElem?_cons_succ, List.length_cons, List.length_nil, List.set_cons_zero, List.set_cons_succ, atI_0, atI_1, atI_2, atI_3, List.replicate, Nat.zero_add, Nat.reduceAdd, Nat.reduceSub, seqW_ref, seqW_tup, c_leS, b_iaddI, b_iaddS, b_isub, w_enum, w_zip, w_callv, e_ii]
      refine byB_dec _ _ _ (fun h9 => ?_) (fun h9 => ?_)
      · exact ⟨by simp [LIM], by simp [LIM], .row [], xs, rfl, fgd_nil hx, (h.kx b4 b3).mono (by omega), .of b4⟩
      · refine w_compX ?_
        try simp only [w_var, w_c, w_bin, w_cmp, w_chain, w_and, w_or, w_ite, w_not, w_nil, w_cons, w_tup, w_lst, w_ix, w_no, w_yes, w_sl, w_call, w_bi, w_val, w_rng1, w_rng2, s_nil, s_cons, s_ret, s_expr, s_set, s_if, s_pass, s_setix, s_app, s_ext, o_addI, o_addS, o_addT, o_addL, o_sub, o_mulI, o_mulS, o_mulL, o_fdiv, o_mod, o_pow, c_ltI, c_ltS, c_le, c_gt, c_ge, c_eq, c_ne, e_ii, e_ss, e_bb, c_inS, c_notS, i_str, i_tup, i_ref, l_str, l_tup, l_rol, l_ref, b_lenS, b_lenT, b_lenR, b_abs, b_tupR, b_tupT, b_listR, b_listT, b_all, b_any, b_intI, b_intB, b_isiN, b_isiB, b_isiI, b_isiS, b_isiT, b_isiR, b_isiL, b_isN, b_notN, b_neg, b_rev, b_join, t_str, is_some, isB_some, byB_true, byB_false, start, wipe, bindT, List.map_cons, List.map_nil, List.cons_append, List.nil_append, List.append_nil, List.getElem?_cons_zero, List.getElem?_cons_succ, List.length_cons, List.length_nil, List.set_cons_zero, List.set_cons_succ, atI_0, atI_1, atI_2, atI_3, List.replicate, Nat.zero_add, Nat.reduceAdd, Nat.reduceSub, seqW_ref, seqW_tup, c_leS, b_iaddI, b_iaddS, b_isub, w_enum, w_zip, w_callv]
        refine draw_w Z.h4 (k + D + 3) b3 b4 (by omega) 2 (by omega) (by omega) fun g S3 c1 c2 c3 c4 _ => ?_
        try simp only [w_var, w_c, w_bin, w_cmp, w_chain, w_and, w_or, w_ite, w_not, w_nil, w_cons, w_tup, w_lst, w_ix, w_no, w_yes, w_sl, w_call, w_bi, w_val, w_rng1, w_rng2, s_nil, s_cons, s_ret, s_expr, s_set, s_if, s_pass, s_setix, s_app, s_ext, o_addI, o_addS, o_addT, o_addL, o_sub, o_mulI, o_mulS, o_mulL, o_fdiv, o_mod, o_pow, c_ltI, c_ltS, c_le, c_gt, c_ge, c_eq, c_ne, e_ii, e_ss, e_bb, c_inS, c_notS, i_str, i_tup, i_ref, l_str, l_tup, l_rol, l_ref, b_lenS, b_lenT, b_lenR, b_abs, b_tupR, b_tupT, b_listR, b_listT, b_all, b_any, b_intI, b_intB, b_isiN, b_isiB, b_isiI, b_isiS, b_isiT, b_isiR, b_isiL, b_isN, b_notN, b_neg, b_rev, b_join, t_str, is_some, isB_some, byB_true, byB_false, start, wipe, bindT, List.map_cons, List.map_nil, List.cons_append, List.nil_append, List.append_nil, List.getElem?_cons_zero, List.getElem?_cons_succ, List.length_cons, List.length_nil, List.set_cons_zero, List.set_cons_succ, atI_0, atI_1, atI_2, atI_3, List.replicate, Nat.zero_add, Nat.reduceAdd, Nat.reduceSub, seqW_ref, seqW_tup, c_leS, b_iaddI, b_iaddS, b_isub, w_enum, w_zip, w_callv]
        have hm : ∃ m : Nat, (2 : Int) + (if decide (((D + 1 : Nat) : Int) < 3) = true then 1 else 0) * g = (m : Int) ∧ m ≤ (if D < 2 then 3 else 2) := by
          by_cases q : D < 2
          · rw [show decide (((D + 1 : Nat) : Int) < 3) = true from decide_eq_true (by omega), if_pos q]
            exact ⟨2 + g.toNat, by simp; omega, by omega⟩
          · rw [show decide (((D + 1 : Nat) : Int) < 3) = false from decide_eq_false (by omega), if_neg q]
            exact ⟨2, by simp, by omega⟩
        obtain ⟨m, em, hm⟩ := hm
        have hm3 : m ≤ 3 := by split at hm <;> omega
        simp only [em]
        refine ⟨.inr ⟨by omega, by omega⟩, rng_small (by omega) (by omega), m, fun i acc S' => ∃ ps ys, acc = encs ps ∧ RGd D i xs ys ps ∧ Lf d c l (n + 3 + i * X) ys S' ∧ Ky d c l S S', by simp only [LIM]; omega, by simp only [Src.len]; simp, ⟨[], xs, rfl, rgd_nil hx, (h.kx c4 c3).mono (by omega), .of c4⟩, fun i acc S' hi hI => ?_, fun acc S' _ hI => ?_⟩
        · obtain ⟨ps, ys, rfl, r1, r2, r3⟩ := hI
          refine ⟨.int (0 + (i : Nat)), _, by simp only [Src.item]; rw [if_pos (by simpa using hi)], rfl, ?_⟩
          try simp only [w_var, w_c, w_bin, w_cmp, w_chain, w_and, w_or, w_ite, w_not, w_nil, w_cons, w_tup, w_lst, w_ix, w_no, w_yes, w_sl, w_call, w_bi, w_val, w_rng1, w_rng2, s_nil, s_cons, s_ret, s_expr, s_set, s_if, s_pass, s_setix, s_app, s_ext, o_addI, o_addS, o_addT, o_addL, o_sub, o_mulI, o_mulS, o_mulL, o_fdiv, o_mod, o_pow, c_ltI, c_ltS, c_le, c_gt, c_ge, c_eq, c_ne, e_ii, e_ss, e_bb, c_inS, c_notS, i_str, i_tup, i_ref, l_str, l_tup, l_rol, l_ref, b_lenS, b_lenT, b_lenR, b_abs, b_tupR, b_tupT, b_listR, b_listT, b_all, b_any, b_intI, b_intB, b_isiN, b_isiB, b_isiI, b_isiS, b_isiT, b_isiR, b_isiL, b_isN, b_notN, b_neg, b_rev, b_join, t_str, is_some, isB_some, byB_true, byB_false, start, wipe, bindT, List.map_cons, List.map_nil, List.cons_append, List.nil_append, List.append_nil, List.getElem?_cons_zero, List.getElem?_cons_succ, List.length_cons, List.length_nil, List.set_cons_zero, List.set_cons_succ, atI_0, atI_1, atI_2, atI_3, List.replicate, Nat.zero_add, Nat.reduceAdd, Nat.reduceSub, seqW_ref, seqW_tup, c_leS, b_iaddI, b_iaddS, b_isub, w_enum, w_zip, w_callv, ed]
          have hys : Nms ys := fun z hz => hN z (r1.sub z hz)
          have hyl : ys.length ≤ 4 := Nat.le_trans (len_sub' ys xs r1.nd r1.sub) hl
          have hix : i * X ≤ 2 * X := Nat.mul_le_mul_right _ (by omega)
          refine (IH k _ l ys S' r2 r1.nd hys hyl (by omega)).imp fun w S4 hw => ?_
          obtain ⟨p, zs, rfl, p1, p2, p3⟩ := hw
          exact ⟨ps ++ [p], zs, by rw [encs_app]; rfl, rgd_snoc r1 p1, p2.mono (by rw [Nat.succ_mul]; omega), r3.trans p3⟩
        · obtain ⟨ps, ys, rfl, r1, r2, r3⟩ := hI
          refine ⟨⟨_, Nat.le_refl _, by simp only [Src.len]; simp⟩, ?_⟩
          have hln := r1.len
          refine (lrow_spec Z.h114 (k + D + 3) (rdL_new _ _) (by omega)).imp fun w S4 hw => ?_
          obtain ⟨rfl, q1⟩ := hw
          have hix : m * X ≤ 3 * X := Nat.mul_le_mul_right _ hm3
          exact ⟨_, ys, rfl, fgd_row hD hm r1, (r2.kp ((Kp.app _ _).trans q1)).mono (by omega), r3.trans (.of (.of ((Kp.app _ _).trans q1)))⟩
    refine byB_dec _ _ _ (fun h8 => ?_) (fun h8 => ?_)
    · try simp only [w_var, w_c, w_bin, w_cmp, w_chain, w_and, w_or, w_ite, w_not, w_nil, w_cons, w_tup, w_lst, w_ix, w_no, w_yes, w_sl, w_call, w_bi, w_val, w_rng1, w_rng2, s_nil, s_cons, s_ret, s_expr, s_set, s_if, s_pass, s_setix, s_app, s_ext, o_addI, o_addS, o_addT, o_addL, o_sub, o_mulI, o_mulS, o_mulL, o_fdiv, o_mod, o_pow, c_ltI, c_ltS, c_le, c_gt, c_ge, c_eq, c_ne, e_ii, e_ss, e_bb, c_inS, c_notS, i_str, i_tup, i_ref, l_str, l_tup, l_rol, l_ref, b_lenS, b_lenT, b_lenR, b_abs, b_tupR, b_tupT, b_listR, b_listT, b_all, b_any, b_intI, b_intB, b_isiN, b_isiB, b_isiI, b_isiS, b_isiT, b_isiR, b_isiL, b_isN, b_notN, b_neg, b_rev, b_join, t_str, is_some, isB_some, byB_true, byB_false, start, wipe, bindT, List.map_cons, List.map_nil, List.cons_append, List.nil_append, List.append_nil, List.getElem?_cons_zero, List.getElem?_cons_succ, List.length_cons, List.length_nil, List.set_cons_zero, List.set_cons_succ, atI_0, atI_1, atI_2, atI_3, List.replicate, Nat.zero_add, Nat.reduceAdd, Nat.reduceSub, seqW_ref, seqW_tup, c_leS, b_iaddI, b_iaddS, b_isub, w_enum, w_zip, w_callv, ed]
      refine (IH k _ l xs S1 F1 hx hN hl (by omega)).imp fun w S4 hw => ?_
      obtain ⟨p, ys, rfl, p1, p2, p3⟩ := hw
      exact ⟨by simp [LIM], _, ys, rfl, fgd_opt hD p1, p2.mono (by omega), (Ky.of a4).trans p3⟩
    refine byB_dec _ _ _ (fun h9 => ?_) (fun h9 => ?_)
    · refine draw_w Z.h4 (k + D + 3) a3 a4 (by omega) 2 (by omega) (by omega) fun u S2 b1 b2 b3 b4 _ => ?_
      try simp only [w_var, w_c, w_bin, w_cmp, w_chain, w_and, w_or, w_ite, w_not, w_nil, w_cons, w_tup, w_lst, w_ix, w_no, w_yes, w_sl, w_call, w_bi, w_val, w_rng1, w_rng2, s_nil, s_cons, s_ret, s_expr, s_set, s_if, s_pass, s_setix, s_app, s_ext, o_addI, o_addS, o_addT, o_addL, o_sub, o_mulI, o_mulS, o_mulL, o_fdiv, o_mod, o_pow, c_ltI, c_ltS, c_le, c_gt, c_ge, c_eq, c_ne, e_ii, e_ss, e_bb, c_inS, c_notS, i_str, i_tup, i_ref, l_str, l_tup, l_rol, l_ref, b_lenS, b_lenT, b_lenR, b_abs, b_tupR, b_tupT, b_listR, b_listT, b_all, b_any, b_intI, b_intB, b_isiN, b_isiB, b_isiI, b_isiS, b_isiT, b_isiR, b_isiL, b_isN, b_notN, b_neg, b_rev, b_join, t_str, is_some, isB_some, byB_true, byB_false, start, wipe, bindT, List.map_cons, List.map_nil, List.cons_append, List.nil_append, List.append_nil, List.getElem?_cons_zero, List.getElem?_cons_succ, List.length_cons, List.length_nil, List.set_cons_zero, List.set_cons_succ, atI_0, atI_1, atI_2, atI_3, List.replicate, Nat.zero_add, Nat.reduceAdd, Nat.reduceSub, seqW_ref, seqW_tup, c_leS, b_iaddI, b_iaddS, b_isub, w_enum, w_zip, w_callv, ed]
      rw [show k + D + 4 = k + 1 + D + 3 by omega]
      refine (solid_spec Z.h4 Z.h112 Z.h113 D (k + 1) _ S2 b3 (by omega) (by omega)).imp fun w S3 hw => ?_
      obtain ⟨p, rfl, p1, p2, p3⟩ := hw
      exact ⟨by simp [LIM], .some u .non p, xs, rfl, fgd_solid hD hx (by omega) p1, (h.kx (b4.trans p3) p2).mono (by omega), .of (b4.trans p3)⟩
    -- an any
    have ld := F1.dk.lt
    have ll : l < S1.length := (List.getElem?_eq_some_iff.mp (rdL_iff.mp F1.le)).1
    simp only [F1.le, w_var, w_c, w_bin, w_cmp, w_chain, w_and, w_or, w_ite, w_not, w_nil, w_cons, w_tup, w_lst, w_ix, w_no, w_yes, w_sl, w_call, w_bi, w_val, w_rng1, w_rng2, s_nil, s_cons, s_ret, s_expr, s_set, s_if, s_pass, s_setix, s_app, s_ext, o_addI, o_addS, o_addT, o_addL, o_sub, o_mulI, o_mulS, o_mulL, o_fdiv, o_mod, o_pow, c_ltI, c_ltS, c_le, c_gt, c_ge, c_eq, c_ne, e_ii, e_ss, e_bb, c_inS, c_notS, i_str, i_tup, i_ref, l_str, l_tup, l_rol, l_ref, b_lenS, b_lenT, b_lenR, b_abs, b_tupR, b_tupT, b_listR, b_listT, b_all, b_any, b_intI, b_intB, b_isiN, b_isiB, b_isiI, b_isiS, b_isiT, b_isiR, b_isiL, b_isN, b_notN, b_neg, b_rev, b_join, t_str, is_some, isB_some, byB_true, byB_false, start, wipe, bindT, List.map_cons, List.map_nil, List.cons_append, List.nil_append, List.append_nil, List.getElem?_cons_zero, List.getElem?_cons_succ, List.length_cons, List.length_nil, List.set_cons_zero, List.set_cons_succ, atI_0, atI_1, atI_2, atI_3, List.replicate, Nat.zero_add, Nat.reduceAdd, Nat.reduceSub, seqW_ref, seqW_tup, c_leS, b_iaddI, b_iaddS, b_isub, w_enum, w_zip, w_callv, ed]
    refine ⟨by rw [List.length_map]; simp only [LIM]; omega, ?_⟩
    generalize hS2 : S1 ++ [SO.lst (xs.map W.str)] = S2
    have k2 : Kp S1 S2 := by rw [← hS2]; exact .app _ _
    have l2 : S2.length = S1.length + 1 := by rw [← hS2, List.length_append]; rfl
    have r2 : rdL S2 S1.length = some (xs.map W.str) := by rw [← hS2]; exact rdL_new _ _
    have F2 := F1.kp k2
    simp only [F2.le, w_var, w_c, w_bin, w_cmp, w_chain, w_and, w_or, w_ite, w_not, w_nil, w_cons, w_tup, w_lst, w_ix, w_no, w_yes, w_sl, w_call, w_bi, w_val, w_rng1, w_rng2, s_nil, s_cons, s_ret, s_expr, s_set, s_if, s_pass, s_setix, s_app, s_ext, o_addI, o_addS, o_addT, o_addL, o_sub, o_mulI, o_mulS, o_mulL, o_fdiv, o_mod, o_pow, c_ltI, c_ltS, c_le, c_gt, c_ge, c_eq, c_ne, e_ii, e_ss, e_bb, c_inS, c_notS, i_str, i_tup, i_ref, l_str, l_tup, l_rol, l_ref, b_lenS, b_lenT, b_lenR, b_abs, b_tupR, b_tupT, b_listR, b_listT, b_all, b_any, b_intI, b_intB, b_isiN, b_isiB, b_isiI, b_isiS, b_isiT, b_isiR, b_isiL, b_isN, b_notN, b_neg, b_rev, b_join, t_str, is_some, isB_some, byB_true, byB_false, start, wipe, bindT, List.map_cons, List.map_nil, List.cons_append, List.nil_append, List.append_nil, List.getElem?_cons_zero, List.getElem?_cons_succ, List.length_cons, List.length_nil, List.set_cons_zero, List.set_cons_succ, atI_0, atI_1, atI_2, atI_3, List.replicate, Nat.zero_add, Nat.reduceAdd, Nat.reduceSub, seqW_ref, seqW_tup, c_leS, b_iaddI, b_iaddS, b_isub, w_enum, w_zip, w_callv, ed]
    refine ⟨by rw [List.length_map]; simp only [LIM]; omega, ?_⟩
    generalize hS3 : S2 ++ [SO.lst (xs.map W.str)] = S3
    have k3 : Kp S2 S3 := by rw [← hS3]; exact .app _ _
    have l3 : S3.length = S1.length + 2 := by rw [← hS3, List.length_append, l2]; rfl
    have r3 : rdL S3 S2.length = some (xs.map W.str) := by rw [← hS3]; exact rdL_new _ _
    have F3 := F2.kp k3
    have G1 : Lf d c S1.length (n + 1) xs S3 := ⟨F3.dk, rdL_of (k3.get (rdL_iff.mp r2)), by omega, by omega⟩
    refine (IH k _ S1.length xs S3 G1 hx hN hl (by omega)).imp fun w S4 hw => ?_
    obtain ⟨p, ys, rfl, p1, p2, p3⟩ := hw
    have r4 : rdL S4 S2.length = some (xs.map W.str) := p3.rd' r3 (by omega) (by omega) (by omega)
    have G2 : Lf d c S2.length (n + 1 + X) xs S4 := ⟨p2.dk, r4, by omega, by omega⟩
    try simp only [w_var, w_c, w_bin, w_cmp, w_chain, w_and, w_or, w_ite, w_not, w_nil, w_cons, w_tup, w_lst, w_ix, w_no, w_yes, w_sl, w_call, w_bi, w_val, w_rng1, w_rng2, s_nil, s_cons, s_ret, s_expr, s_set, s_if, s_pass, s_setix, s_app, s_ext, o_addI, o_addS, o_addT, o_addL, o_sub, o_mulI, o_mulS, o_mulL, o_fdiv, o_mod, o_pow, c_ltI, c_ltS, c_le, c_gt, c_ge, c_eq, c_ne, e_ii, e_ss, e_bb, c_inS, c_notS, i_str, i_tup, i_ref, l_str, l_tup, l_rol, l_ref, b_lenS, b_lenT, b_lenR, b_abs, b_tupR, b_tupT, b_listR, b_listT, b_all, b_any, b_intI, b_intB, b_isiN, b_isiB, b_isiI, b_isiS, b_isiT, b_isiR, b_isiL, b_isN, b_notN, b_neg, b_rev, b_join, t_str, is_some, isB_some, byB_true, byB_false, start, wipe, bindT, List.map_cons, List.map_nil, List.cons_append, List.nil_append, List.append_nil, List.getElem?_cons_zero, List.getElem?_cons_succ, List.length_cons, List.length_nil, List.set_cons_zero, List.set_cons_succ, atI_0, atI_1, atI_2, atI_3, List.replicate, Nat.zero_add, Nat.reduceAdd, Nat.reduceSub, seqW_ref, seqW_tup, c_leS, b_iaddI, b_iaddS, b_isub, w_enum, w_zip, w_callv, ed]
    refine (IH k _ S2.length xs S4 G2 hx hN hl (by omega)).imp fun w S5 hw => ?_
    obtain ⟨q, zs, rfl, q1, q2, q3⟩ := hw
    try simp only [w_var, w_c, w_bin, w_cmp, w_chain, w_and, w_or, w_ite, w_not, w_nil, w_cons, w_tup, w_lst, w_ix, w_no, w_yes, w_sl, w_call, w_bi, w_val, w_rng1, w_rng2, s_nil, s_cons, s_ret, s_expr, s_set, s_if, s_pass, s_setix, s_app, s_ext, o_addI, o_addS, o_addT, o_addL, o_sub, o_mulI, o_mulS, o_mulL, o_fdiv, o_mod, o_pow, c_ltI, c_ltS, c_le, c_gt, c_ge, c_eq, c_ne, e_ii, e_ss, e_bb, c_inS, c_notS, i_str, i_tup, i_ref, l_str, l_tup, l_rol, l_ref, b_lenS, b_lenT, b_lenR, b_abs, b_tupR, b_tupT, b_listR, b_listT, b_all, b_any, b_intI, b_intB, b_isiN, b_isiB, b_isiI, b_isiS, b_isiT, b_isiR, b_isiL, b_isN, b_notN, b_neg, b_rev, b_join, t_str, is_some, isB_some, byB_true, byB_false, start, wipe, bindT, List.map_cons, List.map_nil, List.cons_append, List.nil_append, List.append_nil, List.getElem?_cons_zero, List.getElem?_cons_succ, List.length_cons, List.length_nil, List.set_cons_zero, List.set_cons_succ, atI_0, atI_1, atI_2, atI_3, List.replicate, Nat.zero_add, Nat.reduceAdd, Nat.reduceSub, seqW_ref, seqW_tup, c_leS, b_iaddI, b_iaddS, b_isub, w_enum, w_zip, w_callv]
    refine ⟨by simp [LIM], ?_⟩
    generalize hS6 : S5 ++ [SO.lst [enc p, enc q]] = S6
    have k6 : Kp S5 S6 := by rw [← hS6]; exact .app _ _
    have r6 : rdL S6 S5.length = some (encs [p, q]) := by rw [← hS6]; exact rdL_new _ _
    have o5 : rdL S5 S1.length = some (ys.map W.str) := q3.rd' p2.le (by omega) (by omega) (by omega)
    have o6 : rdL S6 S1.length = some (ys.map W.str) := rdL_of (k6.get (rdL_iff.mp o5))
    have t6 : rdL S6 S2.length = some (zs.map W.str) := rdL_of (k6.get (rdL_iff.mp q2.le))
    have b4 : rdL S4 l = some (xs.map W.str) := p3.rd' F3.le F1.l1 F1.l2 (by omega)
    have b5 : rdL S5 l = some (xs.map W.str) := q3.rd' b4 F1.l1 F1.l2 (by omega)
    have b6 : rdL S6 l = some (xs.map W.str) := rdL_of (k6.get (rdL_iff.mp b5))
    have l4 := p3.1
    have l5 := q3.1
    have l6 : S6.length = S5.length + 1 := by rw [← hS6, List.length_append]; rfl
    -- what stands of S
    have y6 : Ky d c l S S6 := by
      refine ⟨by have := a4.1; omega, fun j hj j1 j2 j3 => ?_⟩
      have hl1 := a4.1
      rw [k6.2 j (by omega), q3.2 j (by omega) j1 j2 (by omega), p3.2 j (by omega) j1 j2 (by omega), k3.2 j (by omega), k2.2 j (by omega), a4.2 j hj j1 j2]
    have D6 : Dk d c (n + 1 + X + X) S6 := q2.dk.kp k6
    refine w_forX ?_
    try simp only [w_var, w_c, w_bin, w_cmp, w_chain, w_and, w_or, w_ite, w_not, w_nil, w_cons, w_tup, w_lst, w_ix, w_no, w_yes, w_sl, w_call, w_bi, w_val, w_rng1, w_rng2, s_nil, s_cons, s_ret, s_expr, s_set, s_if, s_pass, s_setix, s_app, s_ext, o_addI, o_addS, o_addT, o_addL, o_sub, o_mulI, o_mulS, o_mulL, o_fdiv, o_mod, o_pow, c_ltI, c_ltS, c_le, c_gt, c_ge, c_eq, c_ne, e_ii, e_ss, e_bb, c_inS, c_notS, i_str, i_tup, i_ref, l_str, l_tup, l_rol, l_ref, b_lenS, b_lenT, b_lenR, b_abs, b_tupR, b_tupT, b_listR, b_listT, b_all, b_any, b_intI, b_intB, b_isiN, b_isiB, b_isiI, b_isiS, b_isiT, b_isiR, b_isiL, b_isN, b_notN, b_neg, b_rev, b_join, t_str, is_some, isB_some, byB_true, byB_false, start, wipe, bindT, List.map_cons, List.map_nil, List.cons_append, List.nil_append, List.append_nil, List.getElem?_cons_zero, List.getElem?_cons_succ, List.length_cons, List.length_nil, List.set_cons_zero, List.set_cons_succ, atI_0, atI_1, atI_2, atI_3, List.replicate, Nat.zero_add, Nat.reduceAdd, Nat.reduceSub, seqW_ref, seqW_tup, c_leS, b_iaddI, b_iaddS, b_isub, w_enum, w_zip, w_callv, b6]
    refine ⟨by rw [List.length_map]; simp only [LIM]; omega, ?_⟩
    generalize hS7 : S6 ++ [SO.lst (xs.map W.str)] = S7
    have k7 : Kp S6 S7 := by rw [← hS7]; exact .app _ _
    have r7 : rdL S7 S6.length = some (xs.map W.str) := by rw [← hS7]; exact rdL_new _ _
    let gd := fun z : List Nat => decide (z ∈ ys) && decide (z ∈ zs)
    refine ⟨xs.length, fun i env S' => (∃ v7, env = [some (.ref d), some (.int ((D + 1 : Nat) : Int)), some (.ref l), some (.int v), some (.ref S1.length), some (.ref S2.length), some (.ref S5.length), v7, none]) ∧ rdL S' l = some (((xs.take i).filter gd ++ xs.drop i).map W.str) ∧ S7.length ≤ S'.length ∧ ∀ j, j < S7.length → j ≠ l → S'[j]? = S7[j]?, by simp only [Src.len, r7, Option.map_some, List.length_map], ⟨⟨none, rfl⟩, by simpa using rdL_of (k7.get (rdL_iff.mp b6)), Nat.le_refl _, fun _ _ _ => rfl⟩, fun i env S' hi hI => ?_, fun env S' hI => ?_⟩
    · obtain ⟨⟨v7, rfl⟩, i1, i0, i2⟩ := hI
      have at7 : ∀ j u, j ≠ l → rdL S7 j = some u → rdL S' j = some u := fun j u hj hu => rdL_of ((i2 j (List.getElem?_eq_some_iff.mp (rdL_iff.mp hu)).1 hj).trans (rdL_iff.mp hu))
      have r7' := at7 _ _ (by omega) r7
      have o7 := at7 _ _ (by omega) (rdL_of (k7.get (rdL_iff.mp o6)))
      have t7 := at7 _ _ (by omega) (rdL_of (k7.get (rdL_iff.mp t6)))
      have hxi : xs[i]? = some xs[i] := List.getElem?_eq_getElem hi
      refine ⟨.str xs[i], _, by simp only [Src.item, r7', Option.bind_some]; rw [List.getElem?_map, hxi]; rfl, rfl, ?_⟩
      have hxm : xs[i] ∈ xs := List.getElem_mem hi
      have n1 := nms_128 hN xs[i] hxm
      have n2 : ∀ y ∈ ys, (y.all fun c => decide (c < 128)) = true := fun y hy => nms_128 hN y (p1.sub y hy)
      have n3 : ∀ y ∈ zs, (y.all fun c => decide (c < 128)) = true := fun y hy => nms_128 hN y (q1.sub y hy)
      have dr : xs.drop i = xs[i] :: xs.drop (i + 1) := List.drop_eq_getElem_cons hi
      have tk : xs.take (i + 1) = xs.take i ++ [xs[i]] := by rw [List.take_add_one, hxi]; rfl
      have nin : xs[i] ∉ (xs.take i).filter gd := by
        intro hc
        have hc := (List.mem_filter.mp hc).1
        have : (xs.take i ++ xs.drop i).Nodup := by rw [List.take_append_drop]; exact hx
        rw [List.nodup_append] at this
        exact this.2.2 _ hc _ (by rw [dr]; exact List.mem_cons_self ..) rfl
      have stay : gd xs[i] = true → (∃ v7', [some (.ref d), some (.int ((D + 1 : Nat) : Int)), some (.ref l), some (.int v), some (.ref S1.length), some (.ref S2.length), some (.ref S5.length), some (W.str xs[i]), none] = [some (.ref d), some (.int ((D + 1 : Nat) : Int)), some (.ref l), some (.int v), some (.ref S1.length), some (.ref S2.length), some (.ref S5.length), v7', none]) ∧ rdL S' l = some (((xs.take (i + 1)).filter gd ++ xs.drop (i + 1)).map W.str) ∧ S7.length ≤ S'.length ∧ ∀ j, j < S7.length → j ≠ l → S'[j]? = S7[j]? := by
        intro hg
        refine ⟨⟨_, rfl⟩, ?_, i0, i2⟩
        rw [i1, tk, List.filter_append, List.filter_cons_of_pos hg, dr]
        simp
      have go : gd xs[i] = false → Is (opI .rem [.ref l, .str xs[i]] S') fun _ S'' => (∃ v7', [some (.ref d), some (.int ((D + 1 : Nat) : Int)), some (.ref l), some (.int v), some (.ref S1.length), some (.ref S2.length), some (.ref S5.length), some (W.str xs[i]), none] = [some (.ref d), some (.int ((D + 1 : Nat) : Int)), some (.ref l), some (.int v), some (.ref S1.length), some (.ref S2.length), some (.ref S5.length), v7', none]) ∧ rdL S'' l = some (((xs.take (i + 1)).filter gd ++ xs.drop (i + 1)).map W.str) ∧ S7.length ≤ S''.length ∧ ∀ j, j < S7.length → j ≠ l → S''[j]? = S7[j]? := by
        intro hg
        refine b_rem i1 (List.mem_append.mpr (.inr (by rw [dr]; exact List.mem_cons_self ..))) ⟨⟨_, rfl⟩, ?_, by rw [List.length_set]; exact i0, fun j hj hjl => by rw [List.getElem?_set_ne (Ne.symm hjl)]; exact i2 j hj hjl⟩
        rw [rdL_set_same i1, List.erase_append_right _ nin, dr, List.erase_cons_head, tk, List.filter_append, List.filter_cons_of_neg (by rw [hg]; decide)]
        simp
      try simp only [w_var, w_c, w_bin, w_cmp, w_chain, w_and, w_or, w_ite, w_not, w_nil, w_cons, w_tup, w_lst, w_ix, w_no, w_yes, w_sl, w_call, w_bi, w_val, w_rng1, w_rng2, s_nil, s_cons, s_ret, s_expr, s_set, s_if, s_pass, s_setix, s_app, s_ext, o_addI, o_addS, o_addT, o_addL, o_sub, o_mulI, o_mulS, o_mulL, o_fdiv, o_mod, o_pow, c_ltI, c_ltS, c_le, c_gt, c_ge, c_eq, c_ne, e_ii, e_ss, e_bb, c_inS, c_notS, i_str, i_tup, i_ref, l_str, l_tup, l_rol, l_ref, b_lenS, b_lenT, b_lenR, b_abs, b_tupR, b_tupT, b_listR, b_listT, b_all, b_any, b_intI, b_intB, b_isiN, b_isiB, b_isiI, b_isiS, b_isiT, b_isiR, b_isiL, b_isN, b_notN, b_neg, b_rev, b_join, t_str, is_some, isB_some, byB_true, byB_false, start, wipe, bindT, List.map_cons, List.map_nil, List.cons_append, List.nil_append, List.append_nil, List.getElem?_cons_zero, List.getElem?_cons_succ, List.length_cons, List.length_nil, List.set_cons_zero, List.set_cons_succ, atI_0, atI_1, atI_2, atI_3, List.replicate, Nat.zero_add, Nat.reduceAdd, Nat.reduceSub, seqW_ref, seqW_tup, c_leS, b_iaddI, b_iaddS, b_isub, w_enum, w_zip, w_callv, c_inL o7 n1 n2]
      by_cases g1 : xs[i] ∈ ys
      · rw [show (!decide (xs[i] ∈ ys)) = false by simp [g1]]
        try simp only [w_var, w_c, w_bin, w_cmp, w_chain, w_and, w_or, w_ite, w_not, w_nil, w_cons, w_tup, w_lst, w_ix, w_no, w_yes, w_sl, w_call, w_bi, w_val, w_rng1, w_rng2, s_nil, s_cons, s_ret, s_expr, s_set, s_if, s_pass, s_setix, s_app, s_ext, o_addI, o_addS, o_addT, o_addL, o_sub, o_mulI, o_mulS, o_mulL, o_fdiv, o_mod, o_pow, c_ltI, c_ltS, c_le, c_gt, c_ge, c_eq, c_ne, e_ii, e_ss, e_bb, c_inS, c_notS, i_str, i_tup, i_ref, l_str, l_tup, l_rol, l_ref, b_lenS, b_lenT, b_lenR, b_abs, b_tupR, b_tupT, b_listR, b_listT, b_all, b_any, b_intI, b_intB, b_isiN, b_isiB, b_isiI, b_isiS, b_isiT, b_isiR, b_isiL, b_isN, b_notN, b_neg, b_rev, b_join, t_str, is_some, isB_some, byB_true, byB_false, start, wipe, bindT, List.map_cons, List.map_nil, List.cons_append, List.nil_append, List.append_nil, List.getElem?_cons_zero, List.getElem?_cons_succ, List.length_cons, List.length_nil, List.set_cons_zero, List.set_cons_succ, atI_0, atI_1, atI_2, atI_3, List.replicate, Nat.zero_add, Nat.reduceAdd, Nat.reduceSub, seqW_ref, seqW_tup, c_leS, b_iaddI, b_iaddS, b_isub, w_enum, w_zip, w_callv, c_inL t7 n1 n3]
        by_cases g2 : xs[i] ∈ zs
        · rw [show (!decide (xs[i] ∈ zs)) = false by simp [g2]]
          try simp only [w_var, w_c, w_bin, w_cmp, w_chain, w_and, w_or, w_ite, w_not, w_nil, w_cons, w_tup, w_lst, w_ix, w_no, w_yes, w_sl, w_call, w_bi, w_val, w_rng1, w_rng2, s_nil, s_cons, s_ret, s_expr, s_set, s_if, s_pass, s_setix, s_app, s_ext, o_addI, o_addS, o_addT, o_addL, o_sub, o_mulI, o_mulS, o_mulL, o_fdiv, o_mod, o_pow, c_ltI, c_ltS, c_le, c_gt, c_ge, c_eq, c_ne, e_ii, e_ss, e_bb, c_inS, c_notS, i_str, i_tup, i_ref, l_str, l_tup, l_rol, l_ref, b_lenS, b_lenT, b_lenR, b_abs, b_tupR, b_tupT, b_listR, b_listT, b_all, b_any, b_intI, b_intB, b_isiN, b_isiB, b_isiI, b_isiS, b_isiT, b_isiR, b_isiL, b_isN, b_notN, b_neg, b_rev, b_join, t_str, is_some, isB_some, byB_true, byB_false, start, wipe, bindT, List.map_cons, List.map_nil, List.cons_append, List.nil_append, List.append_nil, List.getElem?_cons_zero, List.getElem?_cons_succ, List.length_cons, List.length_nil, List.set_cons_zero, List.set_cons_succ, atI_0, atI_1, atI_2, atI_3, List.replicate, Nat.zero_add, Nat.reduceAdd, Nat.reduceSub, seqW_ref, seqW_tup, c_leS, b_iaddI, b_iaddS, b_isub, w_enum, w_zip, w_callv]
          exact stay (by simp [gd, g1, g2])
        · rw [show (!decide (xs[i] ∈ zs)) = true by simp [g2]]
          try simp only [w_var, w_c, w_bin, w_cmp, w_chain, w_and, w_or, w_ite, w_not, w_nil, w_cons, w_tup, w_lst, w_ix, w_no, w_yes, w_sl, w_call, w_bi, w_val, w_rng1, w_rng2, s_nil, s_cons, s_ret, s_expr, s_set, s_if, s_pass, s_setix, s_app, s_ext, o_addI, o_addS, o_addT, o_addL, o_sub, o_mulI, o_mulS, o_mulL, o_fdiv, o_mod, o_pow, c_ltI, c_ltS, c_le, c_gt, c_ge, c_eq, c_ne, e_ii, e_ss, e_bb, c_inS, c_notS, i_str, i_tup, i_ref, l_str, l_tup, l_rol, l_ref, b_lenS, b_lenT, b_lenR, b_abs, b_tupR, b_tupT, b_listR, b_listT, b_all, b_any, b_intI, b_intB, b_isiN, b_isiB, b_isiI, b_isiS, b_isiT, b_isiR, b_isiL, b_isN, b_notN, b_neg, b_rev, b_join, t_str, is_some, isB_some, byB_true, byB_false, start, wipe, bindT, List.map_cons, List.map_nil, List.cons_append, List.nil_append, List.append_nil, List.getElem?_cons_zero, List.getElem?_cons_succ, List.length_cons, List.length_nil, List.set_cons_zero, List.set_cons_succ, atI_0, atI_1, atI_2, atI_3, List.replicate, Nat.zero_add, Nat.reduceAdd, Nat.reduceSub, seqW_ref, seqW_tup, c_leS, b_iaddI, b_iaddS, b_isub, w_enum, w_zip, w_callv]
          exact go (by simp [gd, g2])
      · rw [show (!decide (xs[i] ∈ ys)) = true by simp [g1]]
        try simp only [w_var, w_c, w_bin, w_cmp, w_chain, w_and, w_or, w_ite, w_not, w_nil, w_cons, w_tup, w_lst, w_ix, w_no, w_yes, w_sl, w_call, w_bi, w_val, w_rng1, w_rng2, s_nil, s_cons, s_ret, s_expr, s_set, s_if, s_pass, s_setix, s_app, s_ext, o_addI, o_addS, o_addT, o_addL, o_sub, o_mulI, o_mulS, o_mulL, o_fdiv, o_mod, o_pow, c_ltI, c_ltS, c_le, c_gt, c_ge, c_eq, c_ne, e_ii, e_ss, e_bb, c_inS, c_notS, i_str, i_tup, i_ref, l_str, l_tup, l_rol, l_ref, b_lenS, b_lenT, b_lenR, b_abs, b_tupR, b_tupT, b_listR, b_listT, b_all, b_any, b_intI, b_intB, b_isiN, b_isiB, b_isiI, b_isiS, b_isiT, b_isiR, b_isiL, b_isN, b_notN, b_neg, b_rev, b_join, t_str, is_some, isB_some, byB_true, byB_false, start, wipe, bindT, List.map_cons, List.map_nil, List.cons_append, List.nil_append, List.append_nil, List.getElem?_cons_zero, List.getElem?_cons_succ, List.length_cons, List.length_nil, List.set_cons_zero, List.set_cons_succ, atI_0, atI_1, atI_2, atI_3, List.replicate, Nat.zero_add, Nat.reduceAdd, Nat.reduceSub, seqW_ref, seqW_tup, c_leS, b_iaddI, b_iaddS, b_isub, w_enum, w_zip, w_callv]
        exact go (by simp [gd, g1])
    · obtain ⟨⟨v7, rfl⟩, i1, i0, i2⟩ := hI
      have at7 : ∀ j u, j ≠ l → rdL S7 j = some u → rdL S' j = some u := fun j u hj hu => rdL_of ((i2 j (List.getElem?_eq_some_iff.mp (rdL_iff.mp hu)).1 hj).trans (rdL_iff.mp hu))
      refine ⟨⟨_, Nat.le_refl _, by simp only [Src.len, at7 _ _ (by omega) r7, Option.map_some, List.length_map]⟩, ?_⟩
      try simp only [w_var, w_c, w_bin, w_cmp, w_chain, w_and, w_or, w_ite, w_not, w_nil, w_cons, w_tup, w_lst, w_ix, w_no, w_yes, w_sl, w_call, w_bi, w_val, w_rng1, w_rng2, s_nil, s_cons, s_ret, s_expr, s_set, s_if, s_pass, s_setix, s_app, s_ext, o_addI, o_addS, o_addT, o_addL, o_sub, o_mulI, o_mulS, o_mulL, o_fdiv, o_mod, o_pow, c_ltI, c_ltS, c_le, c_gt, c_ge, c_eq, c_ne, e_ii, e_ss, e_bb, c_inS, c_notS, i_str, i_tup, i_ref, l_str, l_tup, l_rol, l_ref, b_lenS, b_lenT, b_lenR, b_abs, b_tupR, b_tupT, b_listR, b_listT, b_all, b_any, b_intI, b_intB, b_isiN, b_isiB, b_isiI, b_isiS, b_isiT, b_isiR, b_isiL, b_isN, b_notN, b_neg, b_rev, b_join, t_str, is_some, isB_some, byB_true, byB_false, start, wipe, bindT, List.map_cons, List.map_nil, List.cons_append, List.nil_append, List.append_nil, List.getElem?_cons_zero, List.getElem?_cons_succ, List.length_cons, List.length_nil, List.set_cons_zero, List.set_cons_succ, atI_0, atI_1, atI_2, atI_3, List.replicate, Nat.zero_add, Nat.reduceAdd, Nat.reduceSub, seqW_ref, seqW_tup, c_leS, b_iaddI, b_iaddS, b_isub, w_enum, w_zip, w_callv]
      rw [List.take_length, List.drop_length, List.append_nil] at i1
      have r6' := at7 _ _ (by omega) (rdL_of (k7.get (rdL_iff.mp r6)))
      refine (lany_spec Z.h115 (k + D + 3) r6' (by simp)).imp fun w S8 hw => ?_
      obtain ⟨rfl, k8⟩ := hw
      have D7 : Dk d c (n + 1 + X + X) S' := by
        obtain ⟨cnt, a, b, e⟩ := (D6.kp k7).hd
        obtain ⟨cs, x, y, z⟩ := (D6.kp k7).hc
        have l7 := (D6.kp k7).lt
        exact ⟨D6.ne, ⟨cnt, a, b, (i2 _ l7.1 (Ne.symm F1.l1)).trans e⟩, ⟨cs, x, y, (i2 _ l7.2 (Ne.symm F1.l2)).trans z⟩⟩
      have F8 : Lf d c l (n + 1 + X + X) (xs.filter gd) S' := ⟨D7, i1, F1.l1, F1.l2⟩
      refine ⟨_, xs.filter gd, rfl, fgd_any hD p1 q1 (hx.sublist List.filter_sublist) fun z hz => ?_, (F8.kp k8).mono (by omega), ?_⟩
      · have := List.mem_filter.mp hz
        simp only [gd, Bool.and_eq_true, decide_eq_true_eq] at this
        exact ⟨this.1, this.2.1, this.2.2⟩
      · refine y6.trans ⟨by have := k7.1; have := k8.1; omega, fun j hj j1 j2 j3 => ?_⟩
        have := k7.1
        rw [k8.2 j (by omega), i2 j (by omega) j3, k7.2 j hj]
  try simp only [w_var, w_c, w_bin, w_cmp, w_chain, w_and, w_or, w_ite, w_not, w_nil, w_cons, w_tup, w_lst, w_ix, w_no, w_yes, w_sl, w_call, w_bi, w_val, w_rng1, w_rng2, s_nil, s_cons, s_ret, s_expr, s_set, s_if, s_pass, s_setix, s_app, s_ext, o_addI, o_addS, o_addT, o_addL, o_sub, o_mulI, o_mulS, o_mulL, o_fdiv, o_mod, o_pow, c_ltI, c_ltS, c_le, c_gt, c_ge, c_eq, c_ne, e_ii, e_ss, e_bb, c_inS, c_notS, i_str, i_tup, i_ref, l_str, l_tup, l_rol, l_ref, b_lenS, b_lenT, b_lenR, b_abs, b_tupR, b_tupT, b_listR, b_listT, b_all, b_any, b_intI, b_intB, b_isiN, b_isiB, b_isiI, b_isiS, b_isiT, b_isiR, b_isiL, b_isN, b_notN, b_neg, b_rev, b_join, t_str, is_some, isB_some, byB_true, byB_false, start, wipe, bindT, List.map_cons, List.map_nil, List.cons_append, List.nil_append, List.append_nil, List.getElem?_cons_zero, List.getElem?_cons_succ, List.length_cons, List.length_nil, List.set_cons_zero, List.set_cons_succ, atI_0, atI_1, atI_2, atI_3, List.replicate, Nat.zero_add, Nat.reduceAdd, Nat.reduceSub, seqW_ref, seqW_tup, c_leS, b_iaddI, b_iaddS, b_isub, w_enum, w_zip, w_callv] at rest
  refine byB_dec _ _ _ (fun h5 => ?_) (fun h5 => rest S1 a3 a4)
  refine ⟨by simp [LIM], ?_⟩
  obtain ⟨dd, hd⟩ := dats_strs (S := S1 ++ [SO.lst []]) (n := 59) xs fun y hy c hc => by have := (hN y hy).2.2 c hc; omega
  rw [eqW_nil (rdL_app F1.le) hd (rdL_new _ _), isB_some]
  have k2 : Kp S1 (S1 ++ [SO.lst []]) := .app _ _
  cases hxe : xs with
  | nil =>
    simp only [List.map_nil, List.isEmpty_nil, Bool.not_true, w_var, w_c, w_bin, w_cmp, w_chain, w_and, w_or, w_ite, w_not, w_nil, w_cons, w_tup, w_lst, w_ix, w_no, w_yes, w_sl, w_call, w_bi, w_val, w_rng1, w_rng2, s_nil, s_cons, s_ret, s_expr, s_set, s_if, s_pass, s_setix, s_app, s_ext, o_addI, o_addS, o_addT, o_addL, o_sub, o_mulI, o_mulS, o_mulL, o_fdiv, o_mod, o_pow, c_ltI, c_ltS, c_le, c_gt, c_ge, c_eq, c_ne, e_ii, e_ss, e_bb, c_inS, c_notS, i_str, i_tup, i_ref, l_str, l_tup, l_rol, l_ref, b_lenS, b_lenT, b_lenR, b_abs, b_tupR, b_tupT, b_listR, b_listT, b_all, b_any, b_intI, b_intB, b_isiN, b_isiB, b_isiI, b_isiS, b_isiT, b_isiR, b_isiL, b_isN, b_notN, b_neg, b_rev, b_join, t_str, is_some, isB_some, byB_true, byB_false, start, wipe, bindT, List.map_cons, List.map_nil, List.cons_append, List.nil_append, List.append_nil, List.getElem?_cons_zero, List.getElem?_cons_succ, List.length_cons, List.length_nil, List.set_cons_zero, List.set_cons_succ, atI_0, atI_1, atI_2, atI_3, List.replicate, Nat.zero_add, Nat.reduceAdd, Nat.reduceSub, seqW_ref, seqW_tup, c_leS, b_iaddI, b_iaddS, b_isub, w_enum, w_zip, w_callv]
    have t := rest (S1 ++ [SO.lst []]) (a3.kp k2) (a4.trans (.of k2))
    rw [hxe] at t
    exact t
  | cons x0 xr =>
    rw [← hxe]
    rw [show (!(xs.map W.str).isEmpty) = true by rw [hxe]; rfl]
    have F2 := F1.kp k2
    try simp only [w_var, w_c, w_bin, w_cmp, w_chain, w_and, w_or, w_ite, w_not, w_nil, w_cons, w_tup, w_lst, w_ix, w_no, w_yes, w_sl, w_call, w_bi, w_val, w_rng1, w_rng2, s_nil, s_cons, s_ret, s_expr, s_set, s_if, s_pass, s_setix, s_app, s_ext, o_addI, o_addS, o_addT, o_addL, o_sub, o_mulI, o_mulS, o_mulL, o_fdiv, o_mod, o_pow, c_ltI, c_ltS, c_le, c_gt, c_ge, c_eq, c_ne, e_ii, e_ss, e_bb, c_inS, c_notS, i_str, i_tup, i_ref, l_str, l_tup, l_rol, l_ref, b_lenS, b_lenT, b_lenR, b_abs, b_tupR, b_tupT, b_listR, b_listT, b_all, b_any, b_intI, b_intB, b_isiN, b_isiB, b_isiI, b_isiS, b_isiT, b_isiR, b_isiL, b_isN, b_notN, b_neg, b_rev, b_join, t_str, is_some, isB_some, byB_true, byB_false, start, wipe, bindT, List.map_cons, List.map_nil, List.cons_append, List.nil_append, List.append_nil, List.getElem?_cons_zero, List.getElem?_cons_succ, List.length_cons, List.length_nil, List.set_cons_zero, List.set_cons_succ, atI_0, atI_1, atI_2, atI_3, List.replicate, Nat.zero_add, Nat.reduceAdd, Nat.reduceSub, seqW_ref, seqW_tup, c_leS, b_iaddI, b_iaddS, b_isub, w_enum, w_zip, w_callv, F2.le, List.length_map]
    have hxl : 0 < xs.length := by rw [hxe]; simp
    refine draw_w Z.h4 (k + D + 3) F2.dk (.refl _ _ _) (by omega) (xs.length : Nat) (by omega) (by omega) fun u S3 b1 b2 b3 b4 _ => ?_
    have F3 := F2.kx b4 b3
    have hu : u.toNat < xs.length := by omega
    refine b_popi F3.le b1 (by rw [List.getElem?_map, List.getElem?_eq_getElem hu]; rfl) (by rw [List.length_map]; simp only [LIM]; omega) ?_
    have ee : (xs.map W.str).eraseIdx u.toNat = (xs.eraseIdx u.toNat).map W.str := erase_map xs _
    rw [ee]
    have F4 : Lf d c l _ (xs.eraseIdx u.toNat) _ := F3.put
    have y4 : Ky d c l S (S3.set l (.lst ((xs.eraseIdx u.toNat).map W.str))) := (Ky.of ((a4.trans (.of k2)).trans b4)).trans (.put _ _ _ _ _)
    generalize S3.set l (.lst ((xs.eraseIdx u.toNat).map W.str)) = S4 at *
    try simp only [w_var, w_c, w_bin, w_cmp, w_chain, w_and, w_or, w_ite, w_not, w_nil, w_cons, w_tup, w_lst, w_ix, w_no, w_yes, w_sl, w_call, w_bi, w_val, w_rng1, w_rng2, s_nil, s_cons, s_ret, s_expr, s_set, s_if, s_pass, s_setix, s_app, s_ext, o_addI, o_addS, o_addT, o_addL, o_sub, o_mulI, o_mulS, o_mulL, o_fdiv, o_mod, o_pow, c_ltI, c_ltS, c_le, c_gt, c_ge, c_eq, c_ne, e_ii, e_ss, e_bb, c_inS, c_notS, i_str, i_tup, i_ref, l_str, l_tup, l_rol, l_ref, b_lenS, b_lenT, b_lenR, b_abs, b_tupR, b_tupT, b_listR, b_listT, b_all, b_any, b_intI, b_intB, b_isiN, b_isiB, b_isiI, b_isiS, b_isiT, b_isiR, b_isiL, b_isN, b_notN, b_neg, b_rev, b_join, t_str, is_some, isB_some, byB_true, byB_false, start, wipe, bindT, List.map_cons, List.map_nil, List.cons_append, List.nil_append, List.append_nil, List.getElem?_cons_zero, List.getElem?_cons_succ, List.length_cons, List.length_nil, List.set_cons_zero, List.set_cons_succ, atI_0, atI_1, atI_2, atI_3, List.replicate, Nat.zero_add, Nat.reduceAdd, Nat.reduceSub, seqW_ref, seqW_tup, c_leS, b_iaddI, b_iaddS, b_isub, w_enum, w_zip, w_callv, ed]
    refine (IH k _ l (xs.eraseIdx u.toNat) S4 F4 (nd_erase hx _) (fun z hz => hN z (List.mem_of_mem_eraseIdx hz)) (by rw [List.length_eraseIdx]; split <;> omega) (by omega)).imp fun w S5 hw => ?_
    obtain ⟨p, ys, rfl, p1, p2, p3⟩ := hw
    exact ⟨by simp [LIM], .mark xs[u.toNat] p, ys, rfl, fgd_mark hD hx (List.getElem?_eq_getElem hu) (hN _ (List.getElem_mem hu)).2.2 p1, p2.mono (by omega), y4.trans p3⟩
theorem form2_all (Z : LS ds) : ∀ D, D ≤ 3 → FmS ds d c D
  | 0, _ => form2_zero Z
  | D + 1, h => form2_succ Z (by omega) (form2_all Z D (by omega))
end
end Pg
namespace Pg
open MP
/-! ### a text from a place on -/
structure At (T : List Nat) (i : Int) (s : List Nat) : Prop where
  nn : 0 ≤ i
  len : (T.length : Int) = i + s.length
  dr : T.drop i.toNat = s
theorem At.start (T : List Nat) : At T 0 T := ⟨by omega, by omega, rfl⟩
section
variable {T s x : List Nat} {i : Int} {c : Nat}
theorem At.app (h : At T i (x ++ s)) : At T (i + x.length) s := by
  have h1 := h.nn
  have h2 := h.len
  rw [List.length_append] at h2
  refine ⟨by omega, by omega, ?_⟩
  have e : (i + x.length).toNat = i.toNat + x.length := by omega
  rw [e, ← List.drop_drop, h.dr, List.drop_left]
theorem At.cons (h : At T i (c :: s)) : At T (i + 1) s := At.app (x := [c]) h
theorem At.ix (h : At T i (c :: s)) : atI T i = some c := by
  rw [atI_nn _ h.nn, ← List.head?_drop, h.dr]
  rfl
theorem At.cut (h : At T i s) (n : Nat) {j : Int} (hj : j = i + n) : cut T (some i) (some j) = s.take n := by
  have h1 := h.nn
  have h2 := h.len
  subst hj
  unfold MP.cut
  simp only [sIx]
  rw [if_neg (by omega), if_neg (by omega)]
  have e1 : min i.toNat T.length = i.toNat := by omega
  rw [e1, h.dr]
  by_cases hn : n ≤ s.length
  · have e2 : min (i + (n : Int)).toNat T.length - i.toNat = n := by omega
    rw [e2]
  · have e2 : min (i + (n : Int)).toNat T.length - i.toNat = s.length := by omega
    rw [e2, List.take_length, List.take_of_length_le (by omega)]
end
end Pg
namespace Pg
open MP
/-! ### ways -/
inductive Wy where
  | at (n : Nat)
  | tup (ws : List Wy)
  | pick (k : Nat) (w : Wy)
mutual
def encY : Wy → W
  | .at n => .int (n : Nat)
  | .tup ws => .tup (encYs ws)
  | .pick k w => .tup [.int (k : Nat), encY w]
def encYs : List Wy → List W
  | [] => []
  | w :: r => encY w :: encYs r
end
theorem encYs_map : ∀ ws : List Wy, encYs ws = ws.map encY
  | [] => rfl
  | w :: r => by rw [encYs, encYs_map r, List.map_cons]
theorem encYs_len (ws : List Wy) : (encYs ws).length = ws.length := by rw [encYs_map, List.length_map]
theorem encYs_app (a b : List Wy) : encYs (a ++ b) = encYs a ++ encYs b := by rw [encYs_map, encYs_map, encYs_map, List.map_append]
mutual
def ysz : Wy → Nat
  | .at _ => 1
  | .tup ws => 1 + yszs ws
  | .pick _ w => 1 + ysz w
def yszs : List Wy → Nat
  | [] => 0
  | w :: r => ysz w + yszs r
end
theorem ysz_pos : ∀ w : Wy, 1 ≤ ysz w
  | .at _ => by simp [ysz]
  | .tup _ => by simp [ysz]
  | .pick _ _ => by simp [ysz]
theorem yszs_len : ∀ ws : List Wy, ws.length ≤ yszs ws
  | [] => Nat.le_refl _
  | w :: r => by have := ysz_pos w; have := yszs_len r; rw [List.length_cons, yszs]; omega
theorem ysz_mem : ∀ {ws : List Wy} {w : Wy}, w ∈ ws → ysz w ≤ yszs ws
  | w0 :: r, w, h => by
    rw [yszs]
    rcases List.mem_cons.mp h with rfl | h
    · omega
    · have := ysz_mem h; omega
theorem yszs_app : ∀ a b : List Wy, yszs (a ++ b) = yszs a + yszs b
  | [], b => by simp [yszs]
  | w :: r, b => by rw [List.cons_append, yszs, yszs, yszs_app r b, Nat.add_assoc]
/-- so many times are let by low and high -/
def Tms (lo : Int) (hi : W) (n : Nat) : Prop := isHi hi = true ∧ lo ≤ n ∧ (hi = .int 1 → n ≤ 1)
mutual
/-- a way of a pattern from a place on, the text that it goes through, the names that it marks, in the order of their ends -/
inductive Gw : Pt → Nat → List Nat → Wy → List (List Nat) → Prop
  | sign {s : List Nat} {c i : Nat} (h : c ∈ s) : Gw (.sign s) i [c] (.at i) []
  | row {ps : List Pt} {i : Nat} {x : List Nat} {ws : List Wy} {m : List (List Nat)} (h : Gws ps i x ws m) : Gw (.row ps) i x (.tup ws) m
  | any {ps : List Pt} {p : Pt} {k i : Nat} {x : List Nat} {w : Wy} {m : List (List Nat)} (hk : ps[k]? = some p) (h : Gw p i x w m) : Gw (.any ps) i x (.pick k w) m
  | some {lo : Int} {hi : W} {p : Pt} {i : Nat} {x : List Nat} {ws : List Wy} {m : List (List Nat)} (ht : Tms lo hi ws.length) (h : Gws (List.replicate ws.length p) i x ws m) : Gw (.some lo hi p) i x (.tup ws) m
  | mark {n : List Nat} {p : Pt} {i : Nat} {x : List Nat} {w : Wy} {m : List (List Nat)} (h : Gw p i x w m) : Gw (.mark n p) i x w (m ++ [n])
inductive Gws : List Pt → Nat → List Nat → List Wy → List (List Nat) → Prop
  | nil {i : Nat} : Gws [] i [] [] []
  | cons {p : Pt} {ps : List Pt} {i : Nat} {x y : List Nat} {w : Wy} {ws : List Wy} {m n : List (List Nat)} (h : Gw p i x w m) (t : Gws ps (i + x.length) y ws n) : Gws (p :: ps) i (x ++ y) (w :: ws) (m ++ n)
end
theorem Gws.len : ∀ {ps : List Pt} {i : Nat} {x : List Nat} {ws : List Wy} {m : List (List Nat)}, Gws ps i x ws m → ps.length = ws.length
  | _, _, _, _, _, .nil => rfl
  | _, _, _, _, _, .cons _ t => by rw [List.length_cons, List.length_cons, Gws.len t]
theorem Gws.snoc : ∀ {ps : List Pt} {i : Nat} {x y : List Nat} {ws : List Wy} {w : Wy} {m n : List (List Nat)} {p : Pt}, Gws ps i x ws m → Gw p (i + x.length) y w n → Gws (ps ++ [p]) i (x ++ y) (ws ++ [w]) (m ++ n)
  | _, _, _, y, _, _, _, n, _, .nil, h => by
    have q := Gws.cons h (.nil (i := _))
    simpa using q
  | _, i, _, y, _, _, _, n, _, .cons (x := x1) (y := y1) (m := m1) (n := n1) h t, g => by
    have q := Gws.cons h (t.snoc (by rw [Nat.add_assoc, ← List.length_append]; exact g))
    rw [List.append_assoc, List.append_assoc, List.cons_append, List.cons_append]
    exact q
/-- split at a place among the parts -/
theorem Gws.at : ∀ {ps : List Pt} {i : Nat} {x : List Nat} {ws : List Wy} {m : List (List Nat)} (_ : Gws ps i x ws m) (j : Nat) (_ : j < ps.length), ∃ (x1 x2 x3 : List Nat) (p : Pt) (w : Wy) (m1 m2 m3 : List (List Nat)), x = x1 ++ (x2 ++ x3) ∧ m = m1 ++ (m2 ++ m3) ∧ ps[j]? = some p ∧ ws[j]? = some w ∧ Gws (ps.take j) i x1 (ws.take j) m1 ∧ Gw p (i + x1.length) x2 w m2 ∧ Gws (ps.drop (j + 1)) (i + x1.length + x2.length) x3 (ws.drop (j + 1)) m3
  | _, _, _, _, _, .nil, j, hj => by simp at hj
  | _, _, _, _, _, .cons (p := p) (x := x) (y := y) (w := w) (m := m) (n := n) h t, 0, _ => ⟨[], x, y, p, w, [], m, n, by simp, by simp, rfl, rfl, .nil, by simpa using h, by simpa using t⟩
  | _, i, _, _, _, .cons (p := p0) (x := x0) (w := w0) (m := m0) h t, j + 1, hj => by
    obtain ⟨x1, x2, x3, p, w, m1, m2, m3, e1, e2, e3, e4, e5, e6, e7⟩ := t.at j (by simpa using hj)
    refine ⟨x0 ++ x1, x2, x3, p, w, m0 ++ m1, m2, m3, by rw [e1]; simp, by rw [e2]; simp, by simpa using e3, by simpa using e4, by simpa using Gws.cons h e5, ?_, ?_⟩
    · rw [List.length_append, ← Nat.add_assoc]; exact e6
    · rw [List.length_append, ← Nat.add_assoc]
      simpa using e7
end Pg
namespace Pg
open MP
/-! ### where anything that may be a way comes to -/
def isI : W → Bool
  | .int _ => true
  | _ => false
mutual
/-- a thing that a way may be bent to -/
def wk : W → Bool
  | .tup ws => decide (ws.length ≤ 100000) && wks ws
  | .rol _ => false
  | .fn _ => false
  | _ => true
def wks : List W → Bool
  | [] => true
  | w :: r => wk w && wks r
end
theorem wks_mem : ∀ {ws : List W} {w : W}, wks ws = true → w ∈ ws → wk w = true
  | x :: r, w, h, hm => by
    simp only [wks, Bool.and_eq_true] at h
    rcases List.mem_cons.mp hm with rfl | hm
    · exact h.1
    · exact wks_mem h.2 hm
theorem wks_of : ∀ {ws : List W}, (∀ w ∈ ws, wk w = true) → wks ws = true
  | [], _ => rfl
  | x :: r, h => by simp only [wks, h x (List.mem_cons_self ..), wks_of fun w hw => h w (List.mem_cons_of_mem _ hw), Bool.and_self]
mutual
/-- a way as it is drawn: shorter -/
def wl : W → Bool
  | .tup ws => decide (ws.length ≤ 50000) && wls ws
  | .rol _ => false
  | .fn _ => false
  | _ => true
def wls : List W → Bool
  | [] => true
  | w :: r => wl w && wls r
end
mutual
theorem wl_wk : ∀ {w : W}, wl w = true → wk w = true
  | .tup ws, h => by
    simp only [wl, Bool.and_eq_true, decide_eq_true_eq] at h
    simp only [wk, Bool.and_eq_true, decide_eq_true_eq]
    exact ⟨by omega, wls_wks h.2⟩
  | .rol _, h => by simp [wl] at h
  | .fn _, h => by simp [wl] at h
  | .non, _ => rfl
  | .bl _, _ => rfl
  | .int _, _ => rfl
  | .str _, _ => rfl
  | .ref _, _ => rfl
  | .dic _, _ => rfl
theorem wls_wks : ∀ {ws : List W}, wls ws = true → wks ws = true
  | [], _ => rfl
  | w :: r, h => by
    simp only [wls, Bool.and_eq_true] at h
    simp only [wks, wl_wk h.1, wls_wks h.2, Bool.and_self]
end
theorem wls_mem : ∀ {ws : List W} {w : W}, wls ws = true → w ∈ ws → wl w = true
  | x :: r, w, h, hm => by
    simp only [wls, Bool.and_eq_true] at h
    rcases List.mem_cons.mp hm with rfl | hm
    · exact h.1
    · exact wls_mem h.2 hm
theorem wls_of : ∀ {ws : List W}, (∀ w ∈ ws, wl w = true) → wls ws = true
  | [], _ => rfl
  | x :: r, h => by simp only [wls, h x (List.mem_cons_self ..), wls_of fun w hw => h w (List.mem_cons_of_mem _ hw), Bool.and_self]
theorem wk_fn {w : W} (h : wk w = true) : isFn w = false := by cases w <;> simp_all [wk, isFn]
def sgAt (T s : List Nat) (i : Nat) : Bool := match T[i]? with
  | some c => decide (c ∈ s)
  | none => false
def hiOk (hi : W) (n : Nat) : Bool := match hi with
  | .int h => decide ((n : Int) ≤ h)
  | _ => true
/-- does a thing fit a form -/
def fitB : Pt → W → Bool
  | .mark _ _, _ => true
  | .sign _, w => isI w
  | .row ps, .tup ws => decide (ws.length = ps.length)
  | .any ps, .tup [.int k, _] => decide (0 ≤ k) && decide (k < ps.length)
  | .some lo hi _, .tup ws => decide (lo ≤ ws.length) && hiOk hi ws.length
  | _, _ => false
/-- the parts and what is theirs -/
def prs : Pt → W → List (Pt × W)
  | .mark _ p, w => [(p, w)]
  | .row ps, .tup ws => ps.zip ws
  | .any ps, .tup [.int k, w] => (match ps[k.toNat]? with
    | some q => [(q, w)]
    | none => [])
  | .some _ _ p, .tup ws => ws.map fun w => (p, w)
  | _, _ => []
def eFold (f : W → Nat → Option Nat) : List W → Nat → Option Nat
  | [], i => some i
  | w :: ws, i => (f w i).bind (eFold f ws)
mutual
def eW (T : List Nat) : Pt → W → Nat → Option Nat
  | .sign s, w, i => (match w with
    | .int j => if decide (j = (i : Int)) && sgAt T s i then some (i + 1) else none
    | _ => none)
  | .mark _ p, w, i => eW T p w i
  | .any ps, w, i => (match w with
    | .tup [.int k, u] => if 0 ≤ k then eAt T ps k.toNat u i else none
    | _ => none)
  | .row ps, w, i => (match w with
    | .tup ws => eWs T ps ws i
    | _ => none)
  | .some lo hi p, w, i => (match w with
    | .tup ws => if decide (lo ≤ ws.length) && hiOk hi ws.length then eFold (fun u j => eW T p u j) ws i else none
    | _ => none)
def eAt (T : List Nat) : List Pt → Nat → W → Nat → Option Nat
  | [], _, _, _ => none
  | p :: _, 0, w, i => eW T p w i
  | _ :: r, k + 1, w, i => eAt T r k w i
def eWs (T : List Nat) : List Pt → List W → Nat → Option Nat
  | [], [], i => some i
  | p :: ps, w :: ws, i => (eW T p w i).bind (eWs T ps ws)
  | _, _, _ => none
end
def eP (T : List Nat) : List (Pt × W) → Nat → Option Nat
  | [], i => some i
  | (q, u) :: r, i => (eW T q u i).bind (eP T r)
theorem eAt_get (T : List Nat) (w : W) (i : Nat) : ∀ (ps : List Pt) (k : Nat), eAt T ps k w i = match ps[k]? with | some q => eW T q w i | none => none
  | [], k => by simp [eAt]
  | p :: r, 0 => by simp [eAt]
  | p :: r, k + 1 => by rw [eAt, eAt_get T w i r k, List.getElem?_cons_succ]
theorem eWs_zip (T : List Nat) : ∀ (ps : List Pt) (ws : List W) (i : Nat), eWs T ps ws i = if ws.length = ps.length then eP T (ps.zip ws) i else none
  | [], [], i => by simp [eWs, eP]
  | [], w :: ws, i => by simp [eWs]
  | p :: ps, [], i => by simp [eWs]
  | p :: ps, w :: ws, i => by
    rw [eWs]
    simp only [List.length_cons, List.zip_cons_cons, eP, Nat.add_right_cancel_iff]
    cases h : eW T p w i with
    | none => simp
    | some j => simp only [Option.bind_some]; exact eWs_zip T ps ws j
theorem eFold_map (T : List Nat) (p : Pt) : ∀ (ws : List W) (i : Nat), eFold (fun u j => eW T p u j) ws i = eP T (ws.map fun w => (p, w)) i
  | [], i => rfl
  | w :: ws, i => by
    rw [eFold, List.map_cons, eP]
    cases h : eW T p w i with
    | none => rfl
    | some j => exact eFold_map T p ws j
theorem eP_none {T : List Nat} {i : Nat} {q : Pt} {w : W} : eP T [(q, w)] i = eW T q w i := by
  simp only [eP]
  cases eW T q w i <;> rfl
theorem eW_prs (T : List Nat) (p : Pt) (hs : ∀ s, p ≠ .sign s) (w : W) (i : Nat) : eW T p w i = cond (fitB p w) (eP T (prs p w) i) none := by
  cases p with
  | sign s => exact absurd rfl (hs s)
  | mark n q => simp only [eW, fitB, prs, cond_true, eP_none]
  | row ps =>
    simp only [eW]
    cases w <;> simp only [fitB, prs, cond_false]
    rename_i ws
    rw [eWs_zip]
    by_cases h : ws.length = ps.length
    · rw [if_pos h, decide_eq_true h]; rfl
    · rw [if_neg h, decide_eq_false h]; rfl
  | any ps =>
    simp only [eW]
    split
    · rename_i k u
      simp only [fitB, prs]
      by_cases h0 : 0 ≤ k
      · rw [if_pos h0, eAt_get, decide_eq_true h0, Bool.true_and]
        by_cases h1 : k < ps.length
        · rw [decide_eq_true h1, List.getElem?_eq_getElem (by omega)]
          simp only [eP_none, cond_true]
        · rw [decide_eq_false h1, List.getElem?_eq_none (by omega)]
          rfl
      · rw [if_neg h0, decide_eq_false h0]
        rfl
    · rename_i hn
      have : fitB (.any ps) w = false := by
        unfold fitB
        split <;> simp_all
      rw [this]; rfl
  | some lo hi q =>
    simp only [eW]
    cases w <;> simp only [fitB, prs, cond_false]
    rename_i ws
    rw [eFold_map]
    cases h : (decide (lo ≤ ws.length) && hiOk hi ws.length) <;> rfl
theorem fit_any {ps : List Pt} {w : W} (h : fitB (.any ps) w = true) : ∃ (k : Nat) (u : W) (q : Pt), w = .tup [.int (k : Nat), u] ∧ ps[k]? = some q ∧ prs (.any ps) w = [(q, u)] := by
  unfold fitB at h
  split at h <;> try (simp_all; done)
  rename_i ps' k u e
  cases e
  simp only [Bool.and_eq_true, decide_eq_true_eq] at h
  obtain ⟨n, rfl⟩ : ∃ n : Nat, k = (n : Int) := ⟨k.toNat, by omega⟩
  have hn : n < ps.length := by omega
  refine ⟨n, u, ps[n], rfl, List.getElem?_eq_getElem hn, ?_⟩
  simp only [prs, Int.toNat_natCast, List.getElem?_eq_getElem hn]
theorem okGs_in : ∀ {ps : List Pt} {p : Pt}, okGs ps = true → p ∈ ps → okG p = true
  | x :: r, p, h, hm => by
    simp only [okGs, Bool.and_eq_true] at h
    rcases List.mem_cons.mp hm with rfl | hm
    · exact h.1
    · exact okGs_in h.2 hm
theorem mem_zip_l {α β : Type} : ∀ {xs : List α} {ys : List β} {a : α} {b : β}, (a, b) ∈ xs.zip ys → a ∈ xs ∧ b ∈ ys
  | x :: xs, y :: ys, a, b, h => by
    rw [List.zip_cons_cons] at h
    rcases List.mem_cons.mp h with e | h
    · cases e; exact ⟨List.mem_cons_self .., List.mem_cons_self ..⟩
    · have := mem_zip_l h
      exact ⟨List.mem_cons_of_mem _ this.1, List.mem_cons_of_mem _ this.2⟩
/-- parts are smaller, and as they should be -/
theorem prs_ok {p : Pt} {w : W} (hp : okG p = true) (hw : wk w = true) {q : Pt} {u : W} (h : (q, u) ∈ prs p w) : okG q = true ∧ deep q + 1 ≤ deep p ∧ wk u = true ∧ size q + 1 ≤ size p := by
  cases p with
  | sign s => simp [prs] at h
  | mark n p0 =>
    simp only [prs, List.mem_singleton] at h
    cases h
    simp only [okG, Bool.and_eq_true] at hp
    exact ⟨hp.2, by simp only [deep]; omega, hw, by simp only [size]; omega⟩
  | row ps =>
    cases w <;> simp only [prs, List.not_mem_nil] at h
    rename_i ws
    simp only [okG] at hp
    simp only [wk, Bool.and_eq_true] at hw
    have hm := mem_zip_l h
    have h1 := deep_mem hm.1
    have h2 := size_mem hm.1
    exact ⟨okGs_in hp hm.1, by simp only [deep]; omega, wks_mem hw.2 hm.2, by simp only [size]; omega⟩
  | any ps =>
    unfold prs at h
    split at h <;> try (simp_all; done)
    rename_i ps' k u' e1
    cases e1
    simp only [okG, Bool.and_eq_true] at hp
    split at h
    · rename_i q' hq
      simp only [List.mem_singleton] at h
      cases h
      have hm := List.mem_of_getElem? hq
      have h1 := deep_mem hm
      have h2 := size_mem hm
      simp only [wk, wks, Bool.and_eq_true] at hw
      exact ⟨okGs_in hp.2 hm, by simp only [deep]; omega, hw.2.2.1, by simp only [size]; omega⟩
    · simp at h
  | some lo hi p0 =>
    cases w <;> simp only [prs, List.not_mem_nil] at h
    rename_i ws
    simp only [okG, Bool.and_eq_true] at hp
    simp only [wk, Bool.and_eq_true] at hw
    obtain ⟨u', hu, e⟩ := List.mem_map.mp h
    cases e
    exact ⟨hp.2, by simp only [deep]; omega, wks_mem hw.2 hu, by simp only [size]; omega⟩
def encPr : Pt × W → W := fun x => .tup [enc x.1, x.2]
theorem zipT_zip : ∀ (ps : List Pt) (ws : List W), zipT (encs ps) ws = (ps.zip ws).map encPr
  | [], ws => by simp [encs, zipT]
  | p :: ps, [] => by simp [encs, zipT]
  | p :: ps, w :: ws => by
    rw [encs, zipT, List.zip_cons_cons, List.map_cons, zipT_zip ps ws]
    rfl
theorem atI_sg {T : List Nat} {i : Nat} (h : i < T.length) : atI T (i : Int) = some T[i] := by rw [atI_lit, List.getElem?_eq_getElem h]
theorem sgAt_lt {T s : List Nat} {i : Nat} (h : i < T.length) : sgAt T s i = decide (T[i] ∈ s) := by unfold sgAt; rw [List.getElem?_eq_getElem h]
theorem sgAt_ge {T s : List Nat} {i : Nat} (h : ¬ i < T.length) : sgAt T s i = false := by unfold sgAt; rw [List.getElem?_eq_none (by omega)]
end Pg
namespace MP
theorem putD_len (acc : List (List Nat × W)) (x : List Nat) (w : W) : (putD acc x w).length ≤ acc.length + 1 := by
  unfold putD
  split
  · rw [List.length_map]; omega
  · rw [List.length_append, List.length_singleton]; omega
theorem w_dcompX {Φ : Fns} {env : Env} {S : Sto} {P : W → Sto → Prop} {vs ts : List Nat} {s : CI} {t kx e : CE}
    (h : IsI (evi Φ s env S) fun J S1 => ∃ (n : Nat) (Inv : Nat → List (List Nat × W) → Sto → Prop), n ≤ LIM ∧ J.len S1 = some n ∧ Inv 0 [] S1 ∧ (∀ i acc S', i < n → Inv i acc S' → ∃ x env', J.item S' i = some x ∧ bindT S' (wipe env vs) ts x = some env' ∧ Is (ev Φ t env' S') fun k S2 => ByB k (Is (ev Φ kx env' S2) fun u S3 => Is (ev Φ e env' S3) fun w S4 => ∃ y, u = .str y ∧ Inv (i + 1) (putD acc y w) S4) (Inv (i + 1) acc S2)) ∧ ∀ acc S', Inv n acc S' → (∃ n', n' ≤ n ∧ J.len S' = some n') ∧ P (.dic acc) S') :
    Is (ev Φ (.dcomp vs ts s t kx e) env S) P := by
  rw [ev_dcomp_eq]
  cases he : evi Φ s env S with
  | none => rw [he, isI_none] at h; exact h.elim
  | some p =>
    obtain ⟨J, S1⟩ := p
    rw [he, isI_some] at h
    obtain ⟨n, Inv, hn, h1, h2, h3, h4⟩ := h
    simp only [h1]
    have go : ∀ m i acc S, i + m = n → acc.length ≤ i → Inv i acc S → ∃ acc' S', dictGo (turnD Φ vs ts t kx e env J) i m acc S = some (acc', S') ∧ Inv n acc' S' := by
      intro m
      induction m with
      | zero =>
        intro i acc S him hl hi
        have e : i = n := by omega
        subst e
        exact ⟨acc, S, rfl, hi⟩
      | succ m ih =>
        intro i acc S him hl hi
        obtain ⟨x, env', e1, e2, e3⟩ := h3 i acc S (by omega) hi
        obtain ⟨k, S', e4, e5⟩ := Is.ex e3
        simp only [dictGo, turnD, e1, e2, e4]
        cases k with
        | bl k =>
          cases k with
          | true =>
            rw [byB_true] at e5
            obtain ⟨u, S2, e6, e7⟩ := Is.ex e5
            obtain ⟨w, S3, e8, y, rfl, e9⟩ := Is.ex e7
            simp only [e6, e8]
            rw [if_pos (by omega)]
            have := putD_len acc y w
            exact ih (i + 1) _ S3 (by omega) (by omega) e9
          | false => exact ih (i + 1) _ S' (by omega) (by omega) e5
        | _ => exact e5.elim
    obtain ⟨acc', S', r1, r3⟩ := go n 0 [] S1 (by omega) (by simp) h2
    obtain ⟨⟨n', a1, a2⟩, a3⟩ := h4 acc' S' r3
    simp only [r1, a2, a1, if_true]
    rw [is_some]
    exact a3
theorem b_dgt {P : W → Sto → Prop} {S : Sto} {kvs : List (List Nat × W)} {x : List Nat} : Is (opI .dgt [.dic kvs, .str x] S) P = P (atT kvs x) S := is_some _ _ _
end MP
namespace Pg
open MP
section
variable {ds : Nat → Option Def}
theorem b_zip {P : W → Sto → Prop} {S : Sto} {x y : List W} : Is (opI .zip [.tup x, .tup y] S) P = ((zipT x y).length ≤ LIM ∧ P (.ref S.length) (S ++ [.lst (zipT x y)])) := by simp only [opI]; exact w_new _
theorem str_spec (h110 : ds 110 = some ⟨2, 4, b_stretches⟩) (k : Nat) (S : Sto) (p : Pt) (w : W) (hs : ∀ s, p ≠ .sign s) (hf : fitB p w = true) (hw : wk w = true) : Is (callF ds (k + 1) 110 [enc p, w] S) fun r S' => r = .ref S.length ∧ S' = S ++ [.lst ((prs p w).map encPr)] ∧ (prs p w).length ≤ LIM := by
  refine w_callF (k := k) h110 rfl ?_
  cases p with
  | sign s => exact absurd rfl (hs s)
  | mark n q =>
    simp only [b_stretches, w_var, w_c, w_bin, w_cmp, w_chain, w_and, w_or, w_ite, w_not, w_nil, w_cons, w_tup, w_lst, w_ix, w_no, w_yes, w_sl, w_call, w_bi, w_val, w_rng1, w_rng2, s_nil, s_cons, s_ret, s_expr, s_set, s_if, s_pass, s_setix, s_app, s_ext, o_addI, o_addS, o_addT, o_addL, o_sub, o_mulI, o_mulS, o_mulL, o_fdiv, o_mod, o_pow, c_ltI, c_ltS, c_le, c_gt, c_ge, c_eq, c_ne, e_ii, e_ss, e_bb, c_inS, c_notS, i_str, i_tup, i_ref, l_str, l_tup, l_rol, l_ref, b_lenS, b_lenT, b_lenR, b_abs, b_tupR, b_tupT, b_listR, b_listT, b_all, b_any, b_intI, b_intB, b_isiN, b_isiB, b_isiI, b_isiS, b_isiT, b_isiR, b_isiL, b_isN, b_notN, b_neg, b_rev, b_join, t_str, is_some, isB_some, byB_true, byB_false, start, wipe, bindT, List.map_cons, List.map_nil, List.cons_append, List.nil_append, List.append_nil, List.getElem?_cons_zero, List.getElem?_cons_succ, List.length_cons, List.length_nil, List.set_cons_zero, List.set_cons_succ, atI_0, atI_1, atI_2, atI_3, List.replicate, Nat.zero_add, Nat.reduceAdd, Nat.reduceSub, seqW_ref, seqW_tup, c_leS, b_iaddI, b_iaddS, b_isub, w_enum, w_zip, w_callv, enc, e_ss, show decide (kMark = [114, 111, 119]) = false from rfl, show decide (kMark = [97, 110, 121]) = false from rfl, show decide (kMark = [115, 111, 109, 101]) = false from rfl]
    exact ⟨by simp [LIM], by simp [LIM], by trivial, rfl, by simp [prs, LIM]⟩
  | row ps =>
    cases w <;> simp only [fitB, Bool.false_eq_true] at hf
    rename_i ws
    simp only [wk, Bool.and_eq_true, decide_eq_true_eq] at hw
    simp only [b_stretches, w_var, w_c, w_bin, w_cmp, w_chain, w_and, w_or, w_ite, w_not, w_nil, w_cons, w_tup, w_lst, w_ix, w_no, w_yes, w_sl, w_call, w_bi, w_val, w_rng1, w_rng2, s_nil, s_cons, s_ret, s_expr, s_set, s_if, s_pass, s_setix, s_app, s_ext, o_addI, o_addS, o_addT, o_addL, o_sub, o_mulI, o_mulS, o_mulL, o_fdiv, o_mod, o_pow, c_ltI, c_ltS, c_le, c_gt, c_ge, c_eq, c_ne, e_ii, e_ss, e_bb, c_inS, c_notS, i_str, i_tup, i_ref, l_str, l_tup, l_rol, l_ref, b_lenS, b_lenT, b_lenR, b_abs, b_tupR, b_tupT, b_listR, b_listT, b_all, b_any, b_intI, b_intB, b_isiN, b_isiB, b_isiI, b_isiS, b_isiT, b_isiR, b_isiL, b_isN, b_notN, b_neg, b_rev, b_join, t_str, is_some, isB_some, byB_true, byB_false, start, wipe, bindT, List.map_cons, List.map_nil, List.cons_append, List.nil_append, List.append_nil, List.getElem?_cons_zero, List.getElem?_cons_succ, List.length_cons, List.length_nil, List.set_cons_zero, List.set_cons_succ, atI_0, atI_1, atI_2, atI_3, List.replicate, Nat.zero_add, Nat.reduceAdd, Nat.reduceSub, seqW_ref, seqW_tup, c_leS, b_iaddI, b_iaddS, b_isub, w_enum, w_zip, w_callv, enc, e_ss, decide_true, b_zip]
    have e1 : (zipT (encs ps) ws).length ≤ LIM := by
      rw [zipT_zip, List.length_map, List.length_zip]; simp only [LIM]; omega
    refine ⟨e1, by trivial, by rw [zipT_zip]; rfl, ?_⟩
    rw [zipT_zip, List.length_map] at e1
    exact e1
  | any ps =>
    obtain ⟨n, u, q, rfl, hq, e⟩ := fit_any hf
    have hx0 : atI (encs ps) ((n : Nat) : Int) = some (enc q) := by rw [atI_lit, encs_map, List.getElem?_map, hq]; rfl
    simp only [b_stretches, w_var, w_c, w_bin, w_cmp, w_chain, w_and, w_or, w_ite, w_not, w_nil, w_cons, w_tup, w_lst, w_ix, w_no, w_yes, w_sl, w_call, w_bi, w_val, w_rng1, w_rng2, s_nil, s_cons, s_ret, s_expr, s_set, s_if, s_pass, s_setix, s_app, s_ext, o_addI, o_addS, o_addT, o_addL, o_sub, o_mulI, o_mulS, o_mulL, o_fdiv, o_mod, o_pow, c_ltI, c_ltS, c_le, c_gt, c_ge, c_eq, c_ne, e_ii, e_ss, e_bb, c_inS, c_notS, i_str, i_tup, i_ref, l_str, l_tup, l_rol, l_ref, b_lenS, b_lenT, b_lenR, b_abs, b_tupR, b_tupT, b_listR, b_listT, b_all, b_any, b_intI, b_intB, b_isiN, b_isiB, b_isiI, b_isiS, b_isiT, b_isiR, b_isiL, b_isN, b_notN, b_neg, b_rev, b_join, t_str, is_some, isB_some, byB_true, byB_false, start, wipe, bindT, List.map_cons, List.map_nil, List.cons_append, List.nil_append, List.append_nil, List.getElem?_cons_zero, List.getElem?_cons_succ, List.length_cons, List.length_nil, List.set_cons_zero, List.set_cons_succ, atI_0, atI_1, atI_2, atI_3, List.replicate, Nat.zero_add, Nat.reduceAdd, Nat.reduceSub, seqW_ref, seqW_tup, c_leS, b_iaddI, b_iaddS, b_isub, w_enum, w_zip, w_callv, enc, e_ss, show decide (kAny = [114, 111, 119]) = false from rfl, decide_true, hx0]
    exact ⟨by simp [LIM], by simp [LIM], by trivial, by rw [e]; rfl, by rw [e]; simp [LIM]⟩
  | some lo hi q =>
    cases w <;> simp only [fitB, Bool.false_eq_true] at hf
    rename_i ws
    simp only [wk, Bool.and_eq_true, decide_eq_true_eq] at hw
    simp only [b_stretches, w_var, w_c, w_bin, w_cmp, w_chain, w_and, w_or, w_ite, w_not, w_nil, w_cons, w_tup, w_lst, w_ix, w_no, w_yes, w_sl, w_call, w_bi, w_val, w_rng1, w_rng2, s_nil, s_cons, s_ret, s_expr, s_set, s_if, s_pass, s_setix, s_app, s_ext, o_addI, o_addS, o_addT, o_addL, o_sub, o_mulI, o_mulS, o_mulL, o_fdiv, o_mod, o_pow, c_ltI, c_ltS, c_le, c_gt, c_ge, c_eq, c_ne, e_ii, e_ss, e_bb, c_inS, c_notS, i_str, i_tup, i_ref, l_str, l_tup, l_rol, l_ref, b_lenS, b_lenT, b_lenR, b_abs, b_tupR, b_tupT, b_listR, b_listT, b_all, b_any, b_intI, b_intB, b_isiN, b_isiB, b_isiI, b_isiS, b_isiT, b_isiR, b_isiL, b_isN, b_notN, b_neg, b_rev, b_join, t_str, is_some, isB_some, byB_true, byB_false, start, wipe, bindT, List.map_cons, List.map_nil, List.cons_append, List.nil_append, List.append_nil, List.getElem?_cons_zero, List.getElem?_cons_succ, List.length_cons, List.length_nil, List.set_cons_zero, List.set_cons_succ, atI_0, atI_1, atI_2, atI_3, List.replicate, Nat.zero_add, Nat.reduceAdd, Nat.reduceSub, seqW_ref, seqW_tup, c_leS, b_iaddI, b_iaddS, b_isub, w_enum, w_zip, w_callv, enc, e_ss, show decide (kSome = [114, 111, 119]) = false from rfl, show decide (kSome = [97, 110, 121]) = false from rfl, decide_true]
    refine w_compP ws (fun _ => true) (fun u => .tup [enc q, u]) (by simp only [LIM]; omega) ?_
    try simp only [w_var, w_c, w_bin, w_cmp, w_chain, w_and, w_or, w_ite, w_not, w_nil, w_cons, w_tup, w_lst, w_ix, w_no, w_yes, w_sl, w_call, w_bi, w_val, w_rng1, w_rng2, s_nil, s_cons, s_ret, s_expr, s_set, s_if, s_pass, s_setix, s_app, s_ext, o_addI, o_addS, o_addT, o_addL, o_sub, o_mulI, o_mulS, o_mulL, o_fdiv, o_mod, o_pow, c_ltI, c_ltS, c_le, c_gt, c_ge, c_eq, c_ne, e_ii, e_ss, e_bb, c_inS, c_notS, i_str, i_tup, i_ref, l_str, l_tup, l_rol, l_ref, b_lenS, b_lenT, b_lenR, b_abs, b_tupR, b_tupT, b_listR, b_listT, b_all, b_any, b_intI, b_intB, b_isiN, b_isiB, b_isiI, b_isiS, b_isiT, b_isiR, b_isiL, b_isN, b_notN, b_neg, b_rev, b_join, t_str, is_some, isB_some, byB_true, byB_false, start, wipe, bindT, List.map_cons, List.map_nil, List.cons_append, List.nil_append, List.append_nil, List.getElem?_cons_zero, List.getElem?_cons_succ, List.length_cons, List.length_nil, List.set_cons_zero, List.set_cons_succ, atI_0, atI_1, atI_2, atI_3, List.replicate, Nat.zero_add, Nat.reduceAdd, Nat.reduceSub, seqW_ref, seqW_tup, c_leS, b_iaddI, b_iaddS, b_isub, w_enum, w_zip, w_callv, Src.items]
    refine ⟨trivial, fun u hu => ⟨_, rfl, ?_⟩, trivial, ?_, by simp only [prs, List.length_map, LIM]; omega⟩
    · try simp only [w_var, w_c, w_bin, w_cmp, w_chain, w_and, w_or, w_ite, w_not, w_nil, w_cons, w_tup, w_lst, w_ix, w_no, w_yes, w_sl, w_call, w_bi, w_val, w_rng1, w_rng2, s_nil, s_cons, s_ret, s_expr, s_set, s_if, s_pass, s_setix, s_app, s_ext, o_addI, o_addS, o_addT, o_addL, o_sub, o_mulI, o_mulS, o_mulL, o_fdiv, o_mod, o_pow, c_ltI, c_ltS, c_le, c_gt, c_ge, c_eq, c_ne, e_ii, e_ss, e_bb, c_inS, c_notS, i_str, i_tup, i_ref, l_str, l_tup, l_rol, l_ref, b_lenS, b_lenT, b_lenR, b_abs, b_tupR, b_tupT, b_listR, b_listT, b_all, b_any, b_intI, b_intB, b_isiN, b_isiB, b_isiI, b_isiS, b_isiT, b_isiR, b_isiL, b_isN, b_notN, b_neg, b_rev, b_join, t_str, is_some, isB_some, byB_true, byB_false, start, wipe, bindT, List.map_cons, List.map_nil, List.cons_append, List.nil_append, List.append_nil, List.getElem?_cons_zero, List.getElem?_cons_succ, List.length_cons, List.length_nil, List.set_cons_zero, List.set_cons_succ, atI_0, atI_1, atI_2, atI_3, List.replicate, Nat.zero_add, Nat.reduceAdd, Nat.reduceSub, seqW_ref, seqW_tup, c_leS, b_iaddI, b_iaddS, b_isub, w_enum, w_zip, w_callv]
      exact ⟨trivial, trivial, fun _ => ⟨by simp [LIM], trivial, trivial⟩⟩
    · rw [List.filter_eq_self.mpr fun _ _ => rfl, prs, List.map_map]
      rfl
end
end Pg
namespace Pg
open MP
section
variable {ds : Nat → Option Def}
theorem whole_any (h120 : ds 120 = some ⟨1, 1, b_law_whole_v4⟩) (k : Nat) (S : Sto) (w : W) (hw : isFn w = false) : Is (callF ds (k + 1) 120 [w] S) fun r S' => r = .bl (isI w) ∧ S' = S := by
  refine w_callF h120 rfl ?_
  simp only [b_law_whole_v4, w_var, w_c, w_bin, w_cmp, w_chain, w_and, w_or, w_ite, w_not, w_nil, w_cons, w_tup, w_lst, w_ix, w_no, w_yes, w_sl, w_call, w_bi, w_val, w_rng1, w_rng2, s_nil, s_cons, s_ret, s_expr, s_set, s_if, s_pass, s_setix, s_app, s_ext, o_addI, o_addS, o_addT, o_addL, o_sub, o_mulI, o_mulS, o_mulL, o_fdiv, o_mod, o_pow, c_ltI, c_ltS, c_le, c_gt, c_ge, c_eq, c_ne, e_ii, e_ss, e_bb, c_inS, c_notS, i_str, i_tup, i_ref, l_str, l_tup, l_rol, l_ref, b_lenS, b_lenT, b_lenR, b_abs, b_tupR, b_tupT, b_listR, b_listT, b_all, b_any, b_intI, b_intB, b_isiN, b_isiB, b_isiI, b_isiS, b_isiT, b_isiR, b_isiL, b_isN, b_notN, b_neg, b_rev, b_join, t_str, is_some, isB_some, byB_true, byB_false, start, wipe, bindT, List.map_cons, List.map_nil, List.cons_append, List.nil_append, List.append_nil, List.getElem?_cons_zero, List.getElem?_cons_succ, List.length_cons, List.length_nil, List.set_cons_zero, List.set_cons_succ, atI_0, atI_1, atI_2, atI_3, List.replicate, Nat.zero_add, Nat.reduceAdd, Nat.reduceSub, seqW_ref, seqW_tup, c_leS, b_iaddI, b_iaddS, b_isub, w_enum, w_zip, w_callv, b_isi _ hw]
  cases w <;> simp only [isT, isI, w_var, w_c, w_bin, w_cmp, w_chain, w_and, w_or, w_ite, w_not, w_nil, w_cons, w_tup, w_lst, w_ix, w_no, w_yes, w_sl, w_call, w_bi, w_val, w_rng1, w_rng2, s_nil, s_cons, s_ret, s_expr, s_set, s_if, s_pass, s_setix, s_app, s_ext, o_addI, o_addS, o_addT, o_addL, o_sub, o_mulI, o_mulS, o_mulL, o_fdiv, o_mod, o_pow, c_ltI, c_ltS, c_le, c_gt, c_ge, c_eq, c_ne, e_ii, e_ss, e_bb, c_inS, c_notS, i_str, i_tup, i_ref, l_str, l_tup, l_rol, l_ref, b_lenS, b_lenT, b_lenR, b_abs, b_tupR, b_tupT, b_listR, b_listT, b_all, b_any, b_intI, b_intB, b_isiN, b_isiB, b_isiI, b_isiS, b_isiT, b_isiR, b_isiL, b_isN, b_notN, b_neg, b_rev, b_join, t_str, is_some, isB_some, byB_true, byB_false, start, wipe, bindT, List.map_cons, List.map_nil, List.cons_append, List.nil_append, List.append_nil, List.getElem?_cons_zero, List.getElem?_cons_succ, List.length_cons, List.length_nil, List.set_cons_zero, List.set_cons_succ, atI_0, atI_1, atI_2, atI_3, List.replicate, Nat.zero_add, Nat.reduceAdd, Nat.reduceSub, seqW_ref, seqW_tup, c_leS, b_iaddI, b_iaddS, b_isub, w_enum, w_zip, w_callv, show (1 == 1) = true from rfl, show (2 == 1) = false from rfl, show (2 == 2) = true from rfl, show (0 == 1) = false from rfl, show (1 == 0) = false from rfl, show (1 == 3) = false from rfl, show (1 == 4) = false from rfl, show (1 == 2) = false from rfl, Bool.true_or, Bool.or_true] <;> exact ⟨by trivial, by trivial⟩
theorem eWs_drop (T : List Nat) {ps : List Pt} {ws : List W} (h : ws.length = ps.length) {j : Nat} (h1 : j < ps.length) (i : Nat) : eWs T (ps.drop j) (ws.drop j) i = (eW T ps[j] (ws[j]'(by omega)) i).bind (eWs T (ps.drop (j + 1)) (ws.drop (j + 1))) := by
  rw [List.drop_eq_getElem_cons h1, List.drop_eq_getElem_cons (show j < ws.length by omega), eWs]
theorem eWs_ne (T : List Nat) : ∀ {ps : List Pt} {ws : List W} {i : Nat}, ws.length ≠ ps.length → eWs T ps ws i = none := fun {ps ws i} h => by
  rw [eWs_zip, if_neg h]
theorem eWs_rep (T : List Nat) (p : Pt) : ∀ (ws : List W) (i : Nat), eFold (fun u j => eW T p u j) ws i = eWs T (List.replicate ws.length p) ws i
  | [], i => by simp [eFold, eWs]
  | w :: ws, i => by
    rw [eFold, List.length_cons, List.replicate_succ, eWs]
    cases h : eW T p w i with
    | none => rfl
    | some j => exact eWs_rep T p ws j
theorem deeps_rp (n : Nat) (p : Pt) : deeps (List.replicate n p) ≤ deep p := by
  induction n with
  | zero => simp [deeps]
  | succ n ih => rw [List.replicate_succ, deeps]; omega
theorem okGs_rp (n : Nat) {p : Pt} (h : okG p = true) : okGs (List.replicate n p) = true := by
  induction n with
  | zero => simp [okGs]
  | succ n ih => rw [List.replicate_succ, okGs, h, ih]; rfl
theorem rp_eq (p : Pt) : ∀ (ws : List W), ws.map (fun _ => enc p) = encs (List.replicate ws.length p)
  | [] => rfl
  | w :: r => by rw [List.map_cons, rp_eq p r]; rfl
end
end Pg
namespace Pg
open MP
/-! ### ways as they are drawn, with their pieces -/
abbrev Pc := List Nat × Nat × Nat
def encPc (x : Pc) : W := .tup [.str x.1, .int (x.2.1 : Nat), .int (x.2.2 : Nat)]
mutual
inductive Gq : Pt → Nat → List Nat → Wy → List Pc → Prop
  | sign {s : List Nat} {c i : Nat} (h : c ∈ s) : Gq (.sign s) i [c] (.at i) []
  | row {ps : List Pt} {i : Nat} {x : List Nat} {ws : List Wy} {m : List Pc} (h : Gqs ps i x ws m) : Gq (.row ps) i x (.tup ws) m
  | any {ps : List Pt} {p : Pt} {k i : Nat} {x : List Nat} {w : Wy} {m : List Pc} (hk : ps[k]? = some p) (h : Gq p i x w m) : Gq (.any ps) i x (.pick k w) m
  | some {lo : Int} {hi : W} {p : Pt} {i : Nat} {x : List Nat} {ws : List Wy} {m : List Pc} (ht : lo ≤ ws.length) (hh : hiOk hi ws.length = true) (h : Gqs (List.replicate ws.length p) i x ws m) : Gq (.some lo hi p) i x (.tup ws) m
  | mark {n : List Nat} {p : Pt} {i : Nat} {x : List Nat} {w : Wy} {m : List Pc} (h : Gq p i x w m) : Gq (.mark n p) i x w (m ++ [(n, i, i + x.length)])
inductive Gqs : List Pt → Nat → List Nat → List Wy → List Pc → Prop
  | nil {i : Nat} : Gqs [] i [] [] []
  | cons {p : Pt} {ps : List Pt} {i : Nat} {x y : List Nat} {w : Wy} {ws : List Wy} {m n : List Pc} (h : Gq p i x w m) (t : Gqs ps (i + x.length) y ws n) : Gqs (p :: ps) i (x ++ y) (w :: ws) (m ++ n)
end
theorem Gqs.snoc : ∀ {ps : List Pt} {i : Nat} {x y : List Nat} {ws : List Wy} {w : Wy} {m n : List Pc} {p : Pt}, Gqs ps i x ws m → Gq p (i + x.length) y w n → Gqs (ps ++ [p]) i (x ++ y) (ws ++ [w]) (m ++ n)
  | _, _, _, y, _, _, _, n, _, .nil, h => by
    have q := Gqs.cons h (.nil (i := _))
    simpa using q
  | _, i, _, y, _, _, _, n, _, .cons (x := x1) (y := y1) (m := m1) (n := n1) h t, g => by
    have q := Gqs.cons h (t.snoc (by rw [Nat.add_assoc, ← List.length_append]; exact g))
    rw [List.append_assoc, List.append_assoc, List.cons_append, List.cons_append]
    exact q
theorem Gqs.len : ∀ {ps : List Pt} {i : Nat} {x : List Nat} {ws : List Wy} {m : List Pc}, Gqs ps i x ws m → ps.length = ws.length
  | _, _, _, _, _, .nil => rfl
  | _, _, _, _, _, .cons _ t => by rw [List.length_cons, List.length_cons, Gqs.len t]
theorem At.nat {T x s : List Nat} {i : Nat} (h : At T (i : Nat) (x ++ s)) : At T ((i + x.length : Nat) : Int) s := by
  have := h.app
  rw [show (i : Int) + (x.length : Int) = ((i + x.length : Nat) : Int) by omega] at this
  exact this
theorem At.sg {T s ss : List Nat} {c i : Nat} (h : At T (i : Nat) (c :: s)) (hc : c ∈ ss) : sgAt T ss i = true := by
  have := h.ix
  rw [atI_lit] at this
  unfold sgAt
  rw [this]
  exact decide_eq_true hc
mutual
/-- a way comes to the end of what it goes through -/
theorem Gq.ends {T : List Nat} : ∀ {p : Pt} {i : Nat} {x : List Nat} {w : Wy} {m : List Pc} {s : List Nat}, Gq p i x w m → At T (i : Nat) (x ++ s) → eW T p (encY w) i = some (i + x.length)
  | _, i, _, _, _, s, .sign (s := ss) (c := c) hc, a => by
    simp only [encY, eW, decide_true, Bool.true_and]
    rw [At.sg (s := s) (by simpa using a) hc]
    rfl
  | _, i, x, _, _, s, .row h, a => by simp only [encY, eW]; exact h.ends a
  | _, i, x, _, _, s, .any (k := k) hk h, a => by
    simp only [encY, eW]
    rw [if_pos (by omega), eAt_get, Int.toNat_natCast, hk]
    exact h.ends a
  | _, i, x, _, _, s, .some (ws := ws) ht hh h, a => by
    simp only [encY, eW]
    rw [encYs_len, if_pos (by rw [decide_eq_true ht, hh]; rfl)]
    have q := h.ends a
    rw [eWs_rep, encYs_len]
    exact q
  | _, i, x, _, _, s, .mark h, a => by simp only [eW]; exact h.ends a
theorem Gqs.ends {T : List Nat} : ∀ {ps : List Pt} {i : Nat} {x : List Nat} {ws : List Wy} {m : List Pc} {s : List Nat}, Gqs ps i x ws m → At T (i : Nat) (x ++ s) → eWs T ps (encYs ws) i = some (i + x.length)
  | _, i, _, _, _, s, .nil, a => by simp [encYs, eWs]
  | _, i, _, _, _, s, .cons (x := x) (y := y) h t, a => by
    rw [List.append_assoc] at a
    rw [encYs, eWs, h.ends a, Option.bind_some, t.ends a.nat, List.length_append, Nat.add_assoc]
end
/-! sizes -/
mutual
def gl : Pt → Nat
  | .sign _ => 1
  | .row ps => gls ps
  | .any ps => gls ps
  | .some _ _ p => 3 * gl p
  | .mark _ p => gl p + 1
def gls : List Pt → Nat
  | [] => 0
  | p :: r => gl p + gls r
end
mutual
def gd : Pt → Nat
  | .sign _ => 1
  | .row ps => gds ps
  | .any ps => 1 + gds ps
  | .some _ _ p => 1 + 3 * gd p
  | .mark _ p => gd p
def gds : List Pt → Nat
  | [] => 0
  | p :: r => gd p + gds r
end
theorem gl_mem : ∀ {ps : List Pt} {p : Pt}, p ∈ ps → gl p ≤ gls ps
  | x :: r, p, h => by
    rw [gls]
    rcases List.mem_cons.mp h with rfl | h
    · omega
    · have := gl_mem h; omega
theorem gd_mem : ∀ {ps : List Pt} {p : Pt}, p ∈ ps → gd p ≤ gds ps
  | x :: r, p, h => by
    rw [gds]
    rcases List.mem_cons.mp h with rfl | h
    · omega
    · have := gd_mem h; omega
theorem gls_app : ∀ a b : List Pt, gls (a ++ b) = gls a + gls b
  | [], b => by simp [gls]
  | p :: r, b => by rw [List.cons_append, gls, gls, gls_app r b, Nat.add_assoc]
theorem gds_app : ∀ a b : List Pt, gds (a ++ b) = gds a + gds b
  | [], b => by simp [gds]
  | p :: r, b => by rw [List.cons_append, gds, gds, gds_app r b, Nat.add_assoc]
theorem gls_rep (p : Pt) : ∀ n, gls (List.replicate n p) = n * gl p
  | 0 => by simp [gls]
  | n + 1 => by rw [List.replicate_succ, gls, gls_rep p n, Nat.succ_mul, Nat.add_comm]
theorem gds_rep (p : Pt) : ∀ n, gds (List.replicate n p) = n * gd p
  | 0 => by simp [gds]
  | n + 1 => by rw [List.replicate_succ, gds, gds_rep p n, Nat.succ_mul, Nat.add_comm]
theorem pw_le {b m n : Nat} (hb : 0 < b) (h : m ≤ n) : b ^ m ≤ b ^ n := Nat.pow_le_pow_right hb h
mutual
theorem gl_le : ∀ p : Pt, 3 * gl p ≤ 3 ^ deep p * size p
  | .sign s => by simp [gl, deep, size]
  | .row ps => by
    have := gls_le ps (deeps ps) (Nat.le_refl _)
    simp only [gl, deep, size, Nat.add_comm 1 (deeps ps), Nat.pow_succ]
    have h2 : 3 ^ deeps ps * sizes ps ≤ 3 ^ deeps ps * 3 * (1 + sizes ps) := Nat.mul_le_mul (Nat.le_mul_of_pos_right _ (by omega)) (by omega)
    omega
  | .any ps => by
    have := gls_le ps (deeps ps) (Nat.le_refl _)
    simp only [gl, deep, size, Nat.add_comm 1 (deeps ps), Nat.pow_succ]
    have h2 : 3 ^ deeps ps * sizes ps ≤ 3 ^ deeps ps * 3 * (1 + sizes ps) := Nat.mul_le_mul (Nat.le_mul_of_pos_right _ (by omega)) (by omega)
    omega
  | .some lo hi p => by
    have := gl_le p
    simp only [gl, deep, size, Nat.add_comm 1 (deep p), Nat.pow_succ]
    have h2 : 3 ^ deep p * 3 * size p ≤ 3 ^ deep p * 3 * (1 + size p) := Nat.mul_le_mul (Nat.le_refl _) (by omega)
    have h3 : 3 ^ deep p * 3 * size p = 3 * (3 ^ deep p * size p) := by rw [Nat.mul_comm (3 ^ deep p) 3, Nat.mul_assoc]
    omega
  | .mark n p => by
    have := gl_le p
    simp only [gl, deep, size, Nat.add_comm 1 (deep p), Nat.pow_succ]
    have h1 : 1 ≤ 3 ^ deep p := Nat.one_le_pow _ _ (by omega)
    have h2 : 3 ^ deep p * 3 * (1 + size p) = 3 ^ deep p * 3 + 3 * (3 ^ deep p * size p) := by rw [Nat.mul_add, Nat.mul_one, Nat.mul_comm (3 ^ deep p) 3, Nat.mul_assoc]
    omega
theorem gls_le : ∀ (ps : List Pt) (D : Nat), deeps ps ≤ D → 3 * gls ps ≤ 3 ^ D * sizes ps
  | [], D, _ => by simp [gls]
  | p :: r, D, h => by
    rw [deeps] at h
    have h1 := gl_le p
    have h2 := gls_le r D (by omega)
    have h3 : 3 ^ deep p * size p ≤ 3 ^ D * size p := Nat.mul_le_mul (pw_le (by omega) (by omega)) (Nat.le_refl _)
    rw [gls, sizes, Nat.mul_add (3 ^ D)]
    omega
end
mutual
theorem gd_le : ∀ p : Pt, gd p ≤ 4 ^ deep p * size p
  | .sign s => by simp [gd, deep, size]
  | .row ps => by
    have := gds_le ps (deeps ps) (Nat.le_refl _)
    simp only [gd, deep, size, Nat.add_comm 1 (deeps ps), Nat.pow_succ]
    have h2 : 4 ^ deeps ps * sizes ps ≤ 4 ^ deeps ps * 4 * (1 + sizes ps) := Nat.mul_le_mul (Nat.le_mul_of_pos_right _ (by omega)) (by omega)
    omega
  | .any ps => by
    have := gds_le ps (deeps ps) (Nat.le_refl _)
    simp only [gd, deep, size, Nat.add_comm 1 (deeps ps), Nat.pow_succ]
    have h1 : 1 ≤ 4 ^ deeps ps := Nat.one_le_pow _ _ (by omega)
    have h2 : 4 ^ deeps ps * 4 * (1 + sizes ps) = 4 ^ deeps ps * 4 + 4 * (4 ^ deeps ps * sizes ps) := by rw [Nat.mul_add, Nat.mul_one, Nat.mul_comm (4 ^ deeps ps) 4, Nat.mul_assoc]
    omega
  | .some lo hi p => by
    have := gd_le p
    simp only [gd, deep, size, Nat.add_comm 1 (deep p), Nat.pow_succ]
    have h1 : 1 ≤ 4 ^ deep p := Nat.one_le_pow _ _ (by omega)
    have h2 : 4 ^ deep p * 4 * (1 + size p) = 4 ^ deep p * 4 + 4 * (4 ^ deep p * size p) := by rw [Nat.mul_add, Nat.mul_one, Nat.mul_comm (4 ^ deep p) 4, Nat.mul_assoc]
    omega
  | .mark n p => by
    have := gd_le p
    simp only [gd, deep, size, Nat.add_comm 1 (deep p), Nat.pow_succ]
    have h2 : 4 ^ deep p * size p ≤ 4 ^ deep p * 4 * (1 + size p) := Nat.mul_le_mul (Nat.le_mul_of_pos_right _ (by omega)) (by omega)
    omega
theorem gds_le : ∀ (ps : List Pt) (D : Nat), deeps ps ≤ D → gds ps ≤ 4 ^ D * sizes ps
  | [], D, _ => by simp [gds]
  | p :: r, D, h => by
    rw [deeps] at h
    have h1 := gd_le p
    have h2 := gds_le r D (by omega)
    have h3 : 4 ^ deep p * size p ≤ 4 ^ D * size p := Nat.mul_le_mul (pw_le (by omega) (by omega)) (Nat.le_refl _)
    rw [gds, sizes, Nat.mul_add (4 ^ D)]
    omega
end
end Pg
namespace Pg
open MP
section
variable {ds : Nat → Option Def}
structure GoD (ds : Nat → Option Def) : Prop where
  h4 : ds 4 = some ⟨2, 4, b_law_draw⟩
  h118 : ds 118 = some ⟨3, 3, b_law_times⟩
  h119 : ds 119 = some ⟨4, 13, b_law_go⟩
theorem times_spec (Z : GoD ds) (k : Nat) {S : Sto} {d c n : Nat} (h : Dk d c n S) (hn : n ≤ 900000000) {lo : Int} {hi : W} {p : Pt} (hp : okG (.some lo hi p) = true) :
    Is (callF ds (k + 2) 118 [.ref d, enc (.some lo hi p), .int 3] S) fun r S' => ∃ t : Nat, r = .int (t : Nat) ∧ t ≤ 3 ∧ lo ≤ t ∧ hiOk hi t = true ∧ Dk d c (n + 1) S' ∧ Kx d c S S' := by
  refine w_callF (k := k + 1) Z.h118 rfl ?_
  simp only [okG, Bool.and_eq_true] at hp
  cases hi with
  | non =>
    have hlo : lo = 0 ∨ lo = 1 := by have := hp.1; simpa [okT] using this
    simp only [b_law_times, w_var, w_c, w_bin, w_cmp, w_chain, w_and, w_or, w_ite, w_not, w_nil, w_cons, w_tup, w_lst, w_ix, w_no, w_yes, w_sl, w_call, w_bi, w_val, w_rng1, w_rng2, s_nil, s_cons, s_ret, s_expr, s_set, s_if, s_pass, s_setix, s_app, s_ext, o_addI, o_addS, o_addT, o_addL, o_sub, o_mulI, o_mulS, o_mulL, o_fdiv, o_mod, o_pow, c_ltI, c_ltS, c_le, c_gt, c_ge, c_eq, c_ne, e_ii, e_ss, e_bb, c_inS, c_notS, i_str, i_tup, i_ref, l_str, l_tup, l_rol, l_ref, b_lenS, b_lenT, b_lenR, b_abs, b_tupR, b_tupT, b_listR, b_listT, b_all, b_any, b_intI, b_intB, b_isiN, b_isiB, b_isiI, b_isiS, b_isiT, b_isiR, b_isiL, b_isN, b_notN, b_neg, b_rev, b_join, t_str, is_some, isB_some, byB_true, byB_false, start, wipe, bindT, List.map_cons, List.map_nil, List.cons_append, List.nil_append, List.append_nil, List.getElem?_cons_zero, List.getElem?_cons_succ, List.length_cons, List.length_nil, List.set_cons_zero, List.set_cons_succ, atI_0, atI_1, atI_2, atI_3, List.replicate, Nat.zero_add, Nat.reduceAdd, Nat.reduceSub, seqW_ref, seqW_tup, c_leS, b_iaddI, b_iaddS, b_isub, w_enum, w_zip, w_callv, enc, show eqW S W.non (.int 1) = some false from rfl]
    refine draw_w Z.h4 k h (.refl _ _ _) (by omega) 3 (by omega) (by omega) fun v S1 a1 a2 a3 a4 _ => ?_
    try simp only [w_var, w_c, w_bin, w_cmp, w_chain, w_and, w_or, w_ite, w_not, w_nil, w_cons, w_tup, w_lst, w_ix, w_no, w_yes, w_sl, w_call, w_bi, w_val, w_rng1, w_rng2, s_nil, s_cons, s_ret, s_expr, s_set, s_if, s_pass, s_setix, s_app, s_ext, o_addI, o_addS, o_addT, o_addL, o_sub, o_mulI, o_mulS, o_mulL, o_fdiv, o_mod, o_pow, c_ltI, c_ltS, c_le, c_gt, c_ge, c_eq, c_ne, e_ii, e_ss, e_bb, c_inS, c_notS, i_str, i_tup, i_ref, l_str, l_tup, l_rol, l_ref, b_lenS, b_lenT, b_lenR, b_abs, b_tupR, b_tupT, b_listR, b_listT, b_all, b_any, b_intI, b_intB, b_isiN, b_isiB, b_isiI, b_isiS, b_isiT, b_isiR, b_isiL, b_isN, b_notN, b_neg, b_rev, b_join, t_str, is_some, isB_some, byB_true, byB_false, start, wipe, bindT, List.map_cons, List.map_nil, List.cons_append, List.nil_append, List.append_nil, List.getElem?_cons_zero, List.getElem?_cons_succ, List.length_cons, List.length_nil, List.set_cons_zero, List.set_cons_succ, atI_0, atI_1, atI_2, atI_3, List.replicate, Nat.zero_add, Nat.reduceAdd, Nat.reduceSub, seqW_ref, seqW_tup, c_leS, b_iaddI, b_iaddS, b_isub, w_enum, w_zip, w_callv]
    exact ⟨(lo + v).toNat, by congr 1; omega, by omega, by omega, rfl, a3, a4⟩
  | int z =>
    have hlo : lo = 0 ∧ z = 1 := by have := hp.1; simpa [okT] using this
    obtain ⟨rfl, rfl⟩ := hlo
    simp only [b_law_times, w_var, w_c, w_bin, w_cmp, w_chain, w_and, w_or, w_ite, w_not, w_nil, w_cons, w_tup, w_lst, w_ix, w_no, w_yes, w_sl, w_call, w_bi, w_val, w_rng1, w_rng2, s_nil, s_cons, s_ret, s_expr, s_set, s_if, s_pass, s_setix, s_app, s_ext, o_addI, o_addS, o_addT, o_addL, o_sub, o_mulI, o_mulS, o_mulL, o_fdiv, o_mod, o_pow, c_ltI, c_ltS, c_le, c_gt, c_ge, c_eq, c_ne, e_ii, e_ss, e_bb, c_inS, c_notS, i_str, i_tup, i_ref, l_str, l_tup, l_rol, l_ref, b_lenS, b_lenT, b_lenR, b_abs, b_tupR, b_tupT, b_listR, b_listT, b_all, b_any, b_intI, b_intB, b_isiN, b_isiB, b_isiI, b_isiS, b_isiT, b_isiR, b_isiL, b_isN, b_notN, b_neg, b_rev, b_join, t_str, is_some, isB_some, byB_true, byB_false, start, wipe, bindT, List.map_cons, List.map_nil, List.cons_append, List.nil_append, List.append_nil, List.getElem?_cons_zero, List.getElem?_cons_succ, List.length_cons, List.length_nil, List.set_cons_zero, List.set_cons_succ, atI_0, atI_1, atI_2, atI_3, List.replicate, Nat.zero_add, Nat.reduceAdd, Nat.reduceSub, seqW_ref, seqW_tup, c_leS, b_iaddI, b_iaddS, b_isub, w_enum, w_zip, w_callv, enc, e_ii, decide_true]
    refine draw_w Z.h4 k h (.refl _ _ _) (by omega) 2 (by omega) (by omega) fun v S1 a1 a2 a3 a4 _ => ?_
    exact ⟨v.toNat, by congr 1; omega, by omega, by omega, by simp only [hiOk]; exact decide_eq_true (by omega), a3, a4⟩
  | _ => have := hp.1; simp [okT] at this
/-- what is told of a drawn way -/
structure Gone (d c n i : Nat) (p : Pt) (S : Sto) (r : W) (S' : Sto) (x : List Nat) (w : Wy) (m : List Pc) (f : Nat) : Prop where
  eq : r = .tup [.str x, encY w, .ref f]
  gq : Gq p i x w m
  rd : rdL S' f = some (m.map encPc)
  fr : S.length ≤ f
  dk : Dk d c (n + gd p) S'
  kx : Kx d c S S'
  xl : x.length ≤ gl p
  ml : m.length ≤ gl p
  wl : wl (encY w) = true
theorem encs_rs (q : Pt) (j : Nat) : encs (List.replicate j q) ++ [enc q] = encs (q :: List.replicate j q) := by
  rw [← List.replicate_succ, List.replicate_succ', encs_app]; rfl
theorem okG_ne {ps : List Pt} (h : okG (.any ps) = true) : 0 < ps.length := by
  cases ps with
  | nil => simp [okG] at h
  | cons _ _ => simp
theorem go_spec (Z : GoD ds) : ∀ (D k : Nat) (p : Pt) (i n : Nat) (S : Sto) (d c : Nat), deep p ≤ D → okG p = true → size p ≤ 1000 → gl p ≤ 400000 → n + gd p ≤ 800000000 → Dk d c n S →
    Is (callF ds (k + D + 3) 119 [.ref d, enc p, .int (i : Nat), .int 3] S) fun r S' => ∃ x w m f, Gone d c n i p S r S' x w m f := by
  intro D
  induction D with
  | zero => intro k p i n S d c hd; have := deep_pos p; omega
  | succ D IH =>
  intro k p i n S d c hd hp hsz hgl hn hD
  refine w_callF (k := k + D + 3) Z.h119 rfl ?_
  have many : ∀ (ps : List Pt) (n1 : Nat) (P : W) (S1 : Sto) (v9 : Option W), deeps ps ≤ D → okGs ps = true → sizes ps ≤ 3000 → (∀ q ∈ ps, size q ≤ 1000) → gls ps ≤ 400000 → n1 + gds ps ≤ 800000000 → (P = .tup (encs ps) ∨ ∃ f, P = .ref f ∧ f ≠ d ∧ f ≠ c ∧ rdL S1 f = some (encs ps)) → Dk d c n1 S1 → Kx d c S S1 →
      IsS (exs (callF ds (k + D + 3)) (.cons (.set [5] (.c (.str []))) (.cons (.set [6] (.lst .nil)) (.cons (.set [7] (.lst .nil)) (.cons (.for_ [8] (.val (.var 4)) (.cons (.set [11, 10, 12] (.call 119 (.cons (.var 0) (.cons (.var 8) (.cons (.bin .add (.var 2) (.bi .len (.cons (.var 5) .nil))) (.cons (.var 3) .nil)))))) (.cons (.set [5] (.bin .add (.var 5) (.var 11))) (.cons (.app (.var 6) (.var 10)) (.cons (.set [7] (.bin .add (.var 7) (.var 12))) .nil))))) (.cons (.ret (.tup (.cons (.var 5) (.cons (.bi .tuple (.cons (.var 6) .nil)) (.cons (.var 7) .nil))))) .nil))))) [some (.ref d), some (enc p), some (.int (i : Nat)), some (.int 3), some P, none, none, none, none, v9, none, none, none] S1) (fun _ S' => False) fun r S' => ∃ x ws m f, r = .tup [.str x, .tup (encYs ws), .ref f] ∧ Gqs ps i x ws m ∧ rdL S' f = some (m.map encPc) ∧ S.length ≤ f ∧ Dk d c (n1 + gds ps) S' ∧ Kx d c S S' ∧ x.length ≤ gls ps ∧ m.length ≤ gls ps ∧ wls (encYs ws) = true := by
    intro ps n1 P S1 v9 hdp hgp hsp hsq hgs hn1 hP hD1 hk1
    have ne1 := hD1.lt
    try simp only [w_var, w_c, w_bin, w_cmp, w_chain, w_and, w_or, w_ite, w_not, w_nil, w_cons, w_tup, w_lst, w_ix, w_no, w_yes, w_sl, w_call, w_bi, w_val, w_rng1, w_rng2, s_nil, s_cons, s_ret, s_expr, s_set, s_if, s_pass, s_setix, s_app, s_ext, o_addI, o_addS, o_addT, o_addL, o_sub, o_mulI, o_mulS, o_mulL, o_fdiv, o_mod, o_pow, c_ltI, c_ltS, c_le, c_gt, c_ge, c_eq, c_ne, e_ii, e_ss, e_bb, c_inS, c_notS, i_str, i_tup, i_ref, l_str, l_tup, l_rol, l_ref, b_lenS, b_lenT, b_lenR, b_abs, b_tupR, b_tupT, b_listR, b_listT, b_all, b_any, b_intI, b_intB, b_isiN, b_isiB, b_isiI, b_isiS, b_isiT, b_isiR, b_isiL, b_isN, b_notN, b_neg, b_rev, b_join, t_str, is_some, isB_some, byB_true, byB_false, start, wipe, bindT, List.map_cons, List.map_nil, List.cons_append, List.nil_append, List.append_nil, List.getElem?_cons_zero, List.getElem?_cons_succ, List.length_cons, List.length_nil, List.set_cons_zero, List.set_cons_succ, atI_0, atI_1, atI_2, atI_3, List.replicate, Nat.zero_add, Nat.reduceAdd, Nat.reduceSub, seqW_ref, seqW_tup, c_leS, b_iaddI, b_iaddS, b_isub, w_enum, w_zip, w_callv]
    refine ⟨by simp [LIM], by simp [LIM], ?_⟩
    have k2 : Kp S1 (S1 ++ [SO.lst []]) := .app _ _
    have k3 : Kp (S1 ++ [SO.lst []]) ((S1 ++ [SO.lst []]) ++ [SO.lst []]) := .app _ _
    have r6 : rdL ((S1 ++ [SO.lst []]) ++ [SO.lst []]) S1.length = some [] := rdL_app (rdL_new _ _)
    have r7 : rdL ((S1 ++ [SO.lst []]) ++ [SO.lst []]) (S1 ++ [SO.lst []]).length = some [] := rdL_new _ _
    have e7 : (S1 ++ [SO.lst []]).length = S1.length + 1 := by simp
    rw [e7] at r7
    simp only [e7]
    generalize (S1 ++ [SO.lst []]) ++ [SO.lst []] = S3 at *
    have k13 : Kp S1 S3 := k2.trans k3
    refine w_forX ?_
    try simp only [w_var, w_c, w_bin, w_cmp, w_chain, w_and, w_or, w_ite, w_not, w_nil, w_cons, w_tup, w_lst, w_ix, w_no, w_yes, w_sl, w_call, w_bi, w_val, w_rng1, w_rng2, s_nil, s_cons, s_ret, s_expr, s_set, s_if, s_pass, s_setix, s_app, s_ext, o_addI, o_addS, o_addT, o_addL, o_sub, o_mulI, o_mulS, o_mulL, o_fdiv, o_mod, o_pow, c_ltI, c_ltS, c_le, c_gt, c_ge, c_eq, c_ne, e_ii, e_ss, e_bb, c_inS, c_notS, i_str, i_tup, i_ref, l_str, l_tup, l_rol, l_ref, b_lenS, b_lenT, b_lenR, b_abs, b_tupR, b_tupT, b_listR, b_listT, b_all, b_any, b_intI, b_intB, b_isiN, b_isiB, b_isiI, b_isiS, b_isiT, b_isiR, b_isiL, b_isN, b_notN, b_neg, b_rev, b_join, t_str, is_some, isB_some, byB_true, byB_false, start, wipe, bindT, List.map_cons, List.map_nil, List.cons_append, List.nil_append, List.append_nil, List.getElem?_cons_zero, List.getElem?_cons_succ, List.length_cons, List.length_nil, List.set_cons_zero, List.set_cons_succ, atI_0, atI_1, atI_2, atI_3, List.replicate, Nat.zero_add, Nat.reduceAdd, Nat.reduceSub, seqW_ref, seqW_tup, c_leS, b_iaddI, b_iaddS, b_isub, w_enum, w_zip, w_callv]
    have rdP : ∀ S2, Kx d c S1 S2 → P = .tup (encs ps) ∨ ∃ f, P = .ref f ∧ f ≠ d ∧ f ≠ c ∧ rdL S2 f = some (encs ps) := fun S2 kk => by
      rcases hP with h | ⟨f, h1, h2, h3, h4⟩
      · exact .inl h
      · exact .inr ⟨f, h1, h2, h3, rd_kx h4 kk h2 h3⟩
    have lenP : ∀ S2, Kx d c S1 S2 → (Src.seq P).len S2 = some ps.length := fun S2 kk => by
      rcases rdP S2 kk with e | ⟨f, e, _, _, e2⟩
      · rw [e]; simp only [Src.len, encs_len]
      · rw [e]; simp only [Src.len, e2, Option.map_some, encs_len]
    have itP : ∀ S2 (j : Nat) (hj : j < ps.length), Kx d c S1 S2 → (Src.seq P).item S2 j = some (enc ps[j]) := fun S2 j hj kk => by
      have e0 : (encs ps)[j]? = some (enc ps[j]) := by rw [encs_map, List.getElem?_map, List.getElem?_eq_getElem hj]; rfl
      rcases rdP S2 kk with e | ⟨f, e, _, _, e2⟩
      · rw [e]; simp only [Src.item, e0]
      · rw [e]; simp only [Src.item, e2, Option.bind_some, e0]
    have l3 : S1.length + 2 ≤ S3.length := by
      have h := (List.getElem?_eq_some_iff.mp (rdL_iff.mp r7)).1
      omega
    refine ⟨ps.length, fun j env S' => ∃ (x : List Nat) (ws : List Wy) (m : List Pc) (f : Nat) (v8 v10 v11 v12 : Option W), env = [some (.ref d), some (enc p), some (.int (i : Nat)), some (.int 3), some P, some (.str x), some (.ref S1.length), some (.ref f), v8, v9, v10, v11, v12] ∧ Gqs (ps.take j) i x ws m ∧ rdL S' S1.length = some (encYs ws) ∧ rdL S' f = some (m.map encPc) ∧ S1.length + 1 ≤ f ∧ Dk d c (n1 + gds (ps.take j)) S' ∧ Kx d c S1 S' ∧ x.length ≤ gls (ps.take j) ∧ m.length ≤ gls (ps.take j) ∧ wls (encYs ws) = true, lenP S3 (.of k13), ⟨[], [], [], S1.length + 1, none, none, none, none, rfl, by simpa using Gqs.nil, r6, r7, Nat.le_refl _, by simpa [gds] using hD1.kp k13, .of k13, by simp, by simp, rfl⟩, fun j env S' hj hI => ?_, fun env S' hI => ?_⟩
    · obtain ⟨x, ws, m, f, v8, v10, v11, v12, rfl, g1, g2, g3, g4, g5, g6, g7, g8, g9⟩ := hI
      refine ⟨enc ps[j], _, itP S' j hj g6, rfl, ?_⟩
      have hm : ps[j] ∈ ps := List.getElem_mem hj
      have hdj := deep_mem hm
      have hgj := gl_mem hm
      have etk : ps.take (j + 1) = ps.take j ++ [ps[j]] := by rw [List.take_add_one, List.getElem?_eq_getElem hj]; rfl
      have egl : gls (ps.take (j + 1)) = gls (ps.take j) + gl ps[j] := by rw [etk, gls_app]; simp [gls]
      have egd : gds (ps.take (j + 1)) = gds (ps.take j) + gd ps[j] := by rw [etk, gds_app]; simp [gds]
      have egl2 : gls (ps.take (j + 1)) ≤ gls ps := by
        have := gls_app (ps.take (j + 1)) (ps.drop (j + 1))
        rw [List.take_append_drop] at this; omega
      have egd2 : gds (ps.take (j + 1)) ≤ gds ps := by
        have := gds_app (ps.take (j + 1)) (ps.drop (j + 1))
        rw [List.take_append_drop] at this; omega
      have hx : x.length ≤ LIM := by simp only [LIM]; omega
      try simp only [w_var, w_c, w_bin, w_cmp, w_chain, w_and, w_or, w_ite, w_not, w_nil, w_cons, w_tup, w_lst, w_ix, w_no, w_yes, w_sl, w_call, w_bi, w_val, w_rng1, w_rng2, s_nil, s_cons, s_ret, s_expr, s_set, s_if, s_pass, s_setix, s_app, s_ext, o_addI, o_addS, o_addT, o_addL, o_sub, o_mulI, o_mulS, o_mulL, o_fdiv, o_mod, o_pow, c_ltI, c_ltS, c_le, c_gt, c_ge, c_eq, c_ne, e_ii, e_ss, e_bb, c_inS, c_notS, i_str, i_tup, i_ref, l_str, l_tup, l_rol, l_ref, b_lenS, b_lenT, b_lenR, b_abs, b_tupR, b_tupT, b_listR, b_listT, b_all, b_any, b_intI, b_intB, b_isiN, b_isiB, b_isiI, b_isiS, b_isiT, b_isiR, b_isiL, b_isN, b_notN, b_neg, b_rev, b_join, t_str, is_some, isB_some, byB_true, byB_false, start, wipe, bindT, List.map_cons, List.map_nil, List.cons_append, List.nil_append, List.append_nil, List.getElem?_cons_zero, List.getElem?_cons_succ, List.length_cons, List.length_nil, List.set_cons_zero, List.set_cons_succ, atI_0, atI_1, atI_2, atI_3, List.replicate, Nat.zero_add, Nat.reduceAdd, Nat.reduceSub, seqW_ref, seqW_tup, c_leS, b_iaddI, b_iaddS, b_isub, w_enum, w_zip, w_callv, hx, true_and]
      rw [show (i : Int) + (x.length : Int) = ((i + x.length : Nat) : Int) by omega]
      refine (IH k ps[j] (i + x.length) (n1 + gds (ps.take j)) S' d c (by omega) (okGs_in hgp hm) (hsq _ hm) (by omega) (by omega) g5).imp fun r S4 hr => ?_
      obtain ⟨y, w, m2, f2, R⟩ := hr
      obtain rfl := R.eq
      have xl := R.xl
      have ml := R.ml
      try simp only [w_var, w_c, w_bin, w_cmp, w_chain, w_and, w_or, w_ite, w_not, w_nil, w_cons, w_tup, w_lst, w_ix, w_no, w_yes, w_sl, w_call, w_bi, w_val, w_rng1, w_rng2, s_nil, s_cons, s_ret, s_expr, s_set, s_if, s_pass, s_setix, s_app, s_ext, o_addI, o_addS, o_addT, o_addL, o_sub, o_mulI, o_mulS, o_mulL, o_fdiv, o_mod, o_pow, c_ltI, c_ltS, c_le, c_gt, c_ge, c_eq, c_ne, e_ii, e_ss, e_bb, c_inS, c_notS, i_str, i_tup, i_ref, l_str, l_tup, l_rol, l_ref, b_lenS, b_lenT, b_lenR, b_abs, b_tupR, b_tupT, b_listR, b_listT, b_all, b_any, b_intI, b_intB, b_isiN, b_isiB, b_isiI, b_isiS, b_isiT, b_isiR, b_isiL, b_isN, b_notN, b_neg, b_rev, b_join, t_str, is_some, isB_some, byB_true, byB_false, start, wipe, bindT, List.map_cons, List.map_nil, List.cons_append, List.nil_append, List.append_nil, List.getElem?_cons_zero, List.getElem?_cons_succ, List.length_cons, List.length_nil, List.set_cons_zero, List.set_cons_succ, atI_0, atI_1, atI_2, atI_3, List.replicate, Nat.zero_add, Nat.reduceAdd, Nat.reduceSub, seqW_ref, seqW_tup, c_leS, b_iaddI, b_iaddS, b_isub, w_enum, w_zip, w_callv, bindL]
      refine ⟨by simp only [LIM]; omega, ?_⟩
      have l1 : rdL S4 S1.length = some (encYs ws) := rd_kx g2 R.kx (by omega) (by omega)
      simp only [l1]
      refine ⟨by rw [encYs_len]; have := g1.len; rw [List.length_take] at this; have := len_sizes ps; simp only [LIM]; omega, ?_⟩
      have kk4 : Kx d c S1 S4 := g6.trans R.kx
      have lf2 : f2 ≠ S1.length := fun e => by
        have h1 := R.fr
        have h2 := g6.1
        have h3 := (List.getElem?_eq_some_iff.mp (rdL_iff.mp g2)).1
        omega
      have r5 : rdL (S4.set S1.length (.lst (encYs ws ++ [encY w]))) f = some (m.map encPc) := by
        rw [rdL_set_ne (by omega)]
        exact rd_kx g3 R.kx (by omega) (by omega)
      have r52 : rdL (S4.set S1.length (.lst (encYs ws ++ [encY w]))) f2 = some (m2.map encPc) := by
        rw [rdL_set_ne (Ne.symm lf2)]
        exact R.rd
      have r56 : rdL (S4.set S1.length (.lst (encYs ws ++ [encY w]))) S1.length = some (encYs ws ++ [encY w]) := rdL_set_same l1
      have kk5 : Kx d c S1 (S4.set S1.length (.lst (encYs ws ++ [encY w]))) := ⟨by rw [List.length_set]; exact kk4.1, fun j' hj' h1 h2 => by rw [List.getElem?_set_ne (by omega)]; exact kk4.2 j' hj' h1 h2⟩
      have dk5 : Dk d c (n1 + gds (ps.take j) + gd ps[j]) (S4.set S1.length (.lst (encYs ws ++ [encY w]))) := R.dk.other' (by omega) (by omega) _
      have len5 : (S4.set S1.length (.lst (encYs ws ++ [encY w]))).length = S4.length := List.length_set ..
      generalize S4.set S1.length (.lst (encYs ws ++ [encY w])) = S5 at *
      simp only [r5, r52]
      refine ⟨by rw [List.length_append, List.length_map, List.length_map]; simp only [LIM]; omega, x ++ y, ws ++ [w], m ++ m2, S5.length, some (enc ps[j]), _, _, _, rfl, ?_, ?_, ?_, ?_, ?_, kk5.trans (.of (.app _ _)), ?_, ?_, ?_⟩
      · rw [etk]; exact g1.snoc R.gq
      · rw [encYs_app]; exact rdL_app r56
      · rw [List.map_append]; exact rdL_new _ _
      · have := (List.getElem?_eq_some_iff.mp (rdL_iff.mp r5)).1; omega
      · rw [egd, ← Nat.add_assoc]; exact dk5.kp (.app _ _)
      · rw [List.length_append]; omega
      · rw [List.length_append]; omega
      · rw [encYs_app]
        refine wls_of fun u hu => ?_
        rcases List.mem_append.mp hu with h | h
        · exact wls_mem g9 h
        · rw [encYs, encYs, List.mem_singleton] at h
          rw [h]; exact R.wl
    · obtain ⟨x, ws, m, f, v8, v10, v11, v12, rfl, g1, g2, g3, g4, g5, g6, g7, g8, g9⟩ := hI
      rw [List.take_length] at g1 g5 g7 g8
      try simp only [w_var, w_c, w_bin, w_cmp, w_chain, w_and, w_or, w_ite, w_not, w_nil, w_cons, w_tup, w_lst, w_ix, w_no, w_yes, w_sl, w_call, w_bi, w_val, w_rng1, w_rng2, s_nil, s_cons, s_ret, s_expr, s_set, s_if, s_pass, s_setix, s_app, s_ext, o_addI, o_addS, o_addT, o_addL, o_sub, o_mulI, o_mulS, o_mulL, o_fdiv, o_mod, o_pow, c_ltI, c_ltS, c_le, c_gt, c_ge, c_eq, c_ne, e_ii, e_ss, e_bb, c_inS, c_notS, i_str, i_tup, i_ref, l_str, l_tup, l_rol, l_ref, b_lenS, b_lenT, b_lenR, b_abs, b_tupR, b_tupT, b_listR, b_listT, b_all, b_any, b_intI, b_intB, b_isiN, b_isiB, b_isiI, b_isiS, b_isiT, b_isiR, b_isiL, b_isN, b_notN, b_neg, b_rev, b_join, t_str, is_some, isB_some, byB_true, byB_false, start, wipe, bindT, List.map_cons, List.map_nil, List.cons_append, List.nil_append, List.append_nil, List.getElem?_cons_zero, List.getElem?_cons_succ, List.length_cons, List.length_nil, List.set_cons_zero, List.set_cons_succ, atI_0, atI_1, atI_2, atI_3, List.replicate, Nat.zero_add, Nat.reduceAdd, Nat.reduceSub, seqW_ref, seqW_tup, c_leS, b_iaddI, b_iaddS, b_isub, w_enum, w_zip, w_callv, g2]
      exact ⟨⟨_, Nat.le_refl _, lenP S' g6⟩, by simp [LIM], x, ws, m, f, rfl, g1, g3, by have := hk1.1; omega, g5, hk1.trans g6, g7, g8, g9⟩
  cases p with
  | sign s =>
    simp only [okG, Bool.and_eq_true, okS, decide_eq_true_eq] at hp
    have hs0 : 0 < s.length := by
      cases s with
      | nil => simp at hp
      | cons _ _ => simp
    have hsl : s.length ≤ LIM := by simp only [LIM]; omega
    simp only [b_law_go, w_var, w_c, w_bin, w_cmp, w_chain, w_and, w_or, w_ite, w_not, w_nil, w_cons, w_tup, w_lst, w_ix, w_no, w_yes, w_sl, w_call, w_bi, w_val, w_rng1, w_rng2, s_nil, s_cons, s_ret, s_expr, s_set, s_if, s_pass, s_setix, s_app, s_ext, o_addI, o_addS, o_addT, o_addL, o_sub, o_mulI, o_mulS, o_mulL, o_fdiv, o_mod, o_pow, c_ltI, c_ltS, c_le, c_gt, c_ge, c_eq, c_ne, e_ii, e_ss, e_bb, c_inS, c_notS, i_str, i_tup, i_ref, l_str, l_tup, l_rol, l_ref, b_lenS, b_lenT, b_lenR, b_abs, b_tupR, b_tupT, b_listR, b_listT, b_all, b_any, b_intI, b_intB, b_isiN, b_isiB, b_isiI, b_isiS, b_isiT, b_isiR, b_isiL, b_isN, b_notN, b_neg, b_rev, b_join, t_str, is_some, isB_some, byB_true, byB_false, start, wipe, bindT, List.map_cons, List.map_nil, List.cons_append, List.nil_append, List.append_nil, List.getElem?_cons_zero, List.getElem?_cons_succ, List.length_cons, List.length_nil, List.set_cons_zero, List.set_cons_succ, atI_0, atI_1, atI_2, atI_3, List.replicate, Nat.zero_add, Nat.reduceAdd, Nat.reduceSub, seqW_ref, seqW_tup, c_leS, b_iaddI, b_iaddS, b_isub, w_enum, w_zip, w_callv, enc, e_ss, decide_true, hsl, true_and]
    refine draw_w Z.h4 (k + D + 2) hD (.refl _ _ _) (by omega) (s.length : Nat) (by omega) (by omega) fun v S1 a1 a2 a3 a4 _ => ?_
    obtain ⟨q, rfl⟩ : ∃ q : Nat, v = (q : Int) := ⟨v.toNat, by omega⟩
    have hq : q < s.length := by omega
    try simp only [w_var, w_c, w_bin, w_cmp, w_chain, w_and, w_or, w_ite, w_not, w_nil, w_cons, w_tup, w_lst, w_ix, w_no, w_yes, w_sl, w_call, w_bi, w_val, w_rng1, w_rng2, s_nil, s_cons, s_ret, s_expr, s_set, s_if, s_pass, s_setix, s_app, s_ext, o_addI, o_addS, o_addT, o_addL, o_sub, o_mulI, o_mulS, o_mulL, o_fdiv, o_mod, o_pow, c_ltI, c_ltS, c_le, c_gt, c_ge, c_eq, c_ne, e_ii, e_ss, e_bb, c_inS, c_notS, i_str, i_tup, i_ref, l_str, l_tup, l_rol, l_ref, b_lenS, b_lenT, b_lenR, b_abs, b_tupR, b_tupT, b_listR, b_listT, b_all, b_any, b_intI, b_intB, b_isiN, b_isiB, b_isiI, b_isiS, b_isiT, b_isiR, b_isiL, b_isN, b_notN, b_neg, b_rev, b_join, t_str, is_some, isB_some, byB_true, byB_false, start, wipe, bindT, List.map_cons, List.map_nil, List.cons_append, List.nil_append, List.append_nil, List.getElem?_cons_zero, List.getElem?_cons_succ, List.length_cons, List.length_nil, List.set_cons_zero, List.set_cons_succ, atI_0, atI_1, atI_2, atI_3, List.replicate, Nat.zero_add, Nat.reduceAdd, Nat.reduceSub, seqW_ref, seqW_tup, c_leS, b_iaddI, b_iaddS, b_isub, w_enum, w_zip, w_callv, hsl, true_and, atI_sg hq]
    refine ⟨by simp [LIM], by simp [LIM], [s[q]], .at i, [], S1.length, rfl, .sign (List.getElem_mem hq), by simp [rdL_new], a4.1, by simp only [gd]; exact a3.kp (.app _ _), a4.trans (.of (.app _ _)), by simp [gl], by simp, by simp [encY, wl]⟩
  | any ps =>
    have hne := okG_ne hp
    simp only [okG, Bool.and_eq_true] at hp
    simp only [deep] at hd
    simp only [size] at hsz
    simp only [gl] at hgl
    simp only [gd] at hn
    have hlp := len_sizes ps
    simp only [b_law_go, w_var, w_c, w_bin, w_cmp, w_chain, w_and, w_or, w_ite, w_not, w_nil, w_cons, w_tup, w_lst, w_ix, w_no, w_yes, w_sl, w_call, w_bi, w_val, w_rng1, w_rng2, s_nil, s_cons, s_ret, s_expr, s_set, s_if, s_pass, s_setix, s_app, s_ext, o_addI, o_addS, o_addT, o_addL, o_sub, o_mulI, o_mulS, o_mulL, o_fdiv, o_mod, o_pow, c_ltI, c_ltS, c_le, c_gt, c_ge, c_eq, c_ne, e_ii, e_ss, e_bb, c_inS, c_notS, i_str, i_tup, i_ref, l_str, l_tup, l_rol, l_ref, b_lenS, b_lenT, b_lenR, b_abs, b_tupR, b_tupT, b_listR, b_listT, b_all, b_any, b_intI, b_intB, b_isiN, b_isiB, b_isiI, b_isiS, b_isiT, b_isiR, b_isiL, b_isN, b_notN, b_neg, b_rev, b_join, t_str, is_some, isB_some, byB_true, byB_false, start, wipe, bindT, List.map_cons, List.map_nil, List.cons_append, List.nil_append, List.append_nil, List.getElem?_cons_zero, List.getElem?_cons_succ, List.length_cons, List.length_nil, List.set_cons_zero, List.set_cons_succ, atI_0, atI_1, atI_2, atI_3, List.replicate, Nat.zero_add, Nat.reduceAdd, Nat.reduceSub, seqW_ref, seqW_tup, c_leS, b_iaddI, b_iaddS, b_isub, w_enum, w_zip, w_callv, enc, e_ss, show decide (kAny = [115, 105, 103, 110]) = false from rfl, decide_true, encs_len]
    refine draw_w Z.h4 (k + D + 2) hD (.refl _ _ _) (by omega) (ps.length : Nat) (by omega) (by omega) fun v S1 a1 a2 a3 a4 _ => ?_
    obtain ⟨q, rfl⟩ : ∃ q : Nat, v = (q : Int) := ⟨v.toNat, by omega⟩
    have hq : q < ps.length := by omega
    have hm : ps[q] ∈ ps := List.getElem_mem hq
    have h1 := deep_mem hm
    have h2 := size_mem hm
    have h3 := gl_mem hm
    have h4 := gd_mem hm
    have hx0 : atI (encs ps) ((q : Nat) : Int) = some (enc ps[q]) := by rw [atI_lit, encs_map, List.getElem?_map, List.getElem?_eq_getElem hq]; rfl
    try simp only [w_var, w_c, w_bin, w_cmp, w_chain, w_and, w_or, w_ite, w_not, w_nil, w_cons, w_tup, w_lst, w_ix, w_no, w_yes, w_sl, w_call, w_bi, w_val, w_rng1, w_rng2, s_nil, s_cons, s_ret, s_expr, s_set, s_if, s_pass, s_setix, s_app, s_ext, o_addI, o_addS, o_addT, o_addL, o_sub, o_mulI, o_mulS, o_mulL, o_fdiv, o_mod, o_pow, c_ltI, c_ltS, c_le, c_gt, c_ge, c_eq, c_ne, e_ii, e_ss, e_bb, c_inS, c_notS, i_str, i_tup, i_ref, l_str, l_tup, l_rol, l_ref, b_lenS, b_lenT, b_lenR, b_abs, b_tupR, b_tupT, b_listR, b_listT, b_all, b_any, b_intI, b_intB, b_isiN, b_isiB, b_isiI, b_isiS, b_isiT, b_isiR, b_isiL, b_isN, b_notN, b_neg, b_rev, b_join, t_str, is_some, isB_some, byB_true, byB_false, start, wipe, bindT, List.map_cons, List.map_nil, List.cons_append, List.nil_append, List.append_nil, List.getElem?_cons_zero, List.getElem?_cons_succ, List.length_cons, List.length_nil, List.set_cons_zero, List.set_cons_succ, atI_0, atI_1, atI_2, atI_3, List.replicate, Nat.zero_add, Nat.reduceAdd, Nat.reduceSub, seqW_ref, seqW_tup, c_leS, b_iaddI, b_iaddS, b_isub, w_enum, w_zip, w_callv, hx0]
    refine (IH k ps[q] i (n + 1) S1 d c (by omega) (okGs_in hp.2 hm) (by omega) (by omega) (by omega) a3).imp fun r S2 hr => ?_
    obtain ⟨x, w, m, f, R⟩ := hr
    obtain rfl := R.eq
    have xl := R.xl
    have ml := R.ml
    try simp only [w_var, w_c, w_bin, w_cmp, w_chain, w_and, w_or, w_ite, w_not, w_nil, w_cons, w_tup, w_lst, w_ix, w_no, w_yes, w_sl, w_call, w_bi, w_val, w_rng1, w_rng2, s_nil, s_cons, s_ret, s_expr, s_set, s_if, s_pass, s_setix, s_app, s_ext, o_addI, o_addS, o_addT, o_addL, o_sub, o_mulI, o_mulS, o_mulL, o_fdiv, o_mod, o_pow, c_ltI, c_ltS, c_le, c_gt, c_ge, c_eq, c_ne, e_ii, e_ss, e_bb, c_inS, c_notS, i_str, i_tup, i_ref, l_str, l_tup, l_rol, l_ref, b_lenS, b_lenT, b_lenR, b_abs, b_tupR, b_tupT, b_listR, b_listT, b_all, b_any, b_intI, b_intB, b_isiN, b_isiB, b_isiI, b_isiS, b_isiT, b_isiR, b_isiL, b_isN, b_notN, b_neg, b_rev, b_join, t_str, is_some, isB_some, byB_true, byB_false, start, wipe, bindT, List.map_cons, List.map_nil, List.cons_append, List.nil_append, List.append_nil, List.getElem?_cons_zero, List.getElem?_cons_succ, List.length_cons, List.length_nil, List.set_cons_zero, List.set_cons_succ, atI_0, atI_1, atI_2, atI_3, List.replicate, Nat.zero_add, Nat.reduceAdd, Nat.reduceSub, seqW_ref, seqW_tup, c_leS, b_iaddI, b_iaddS, b_isub, w_enum, w_zip, w_callv, bindL]
    exact ⟨by simp [LIM], by simp [LIM], x, .pick q w, m, f, rfl, .any (List.getElem?_eq_getElem hq) R.gq, R.rd, Nat.le_trans a4.1 R.fr, R.dk.mono (by simp only [gd]; omega), a4.trans R.kx, by simp only [gl]; omega, by simp only [gl]; omega, by simp [encY, wl, wls, R.wl]⟩
  | mark nm q =>
    simp only [okG, Bool.and_eq_true] at hp
    simp only [deep] at hd
    simp only [size] at hsz
    simp only [gl] at hgl
    simp only [gd] at hn
    simp only [b_law_go, w_var, w_c, w_bin, w_cmp, w_chain, w_and, w_or, w_ite, w_not, w_nil, w_cons, w_tup, w_lst, w_ix, w_no, w_yes, w_sl, w_call, w_bi, w_val, w_rng1, w_rng2, s_nil, s_cons, s_ret, s_expr, s_set, s_if, s_pass, s_setix, s_app, s_ext, o_addI, o_addS, o_addT, o_addL, o_sub, o_mulI, o_mulS, o_mulL, o_fdiv, o_mod, o_pow, c_ltI, c_ltS, c_le, c_gt, c_ge, c_eq, c_ne, e_ii, e_ss, e_bb, c_inS, c_notS, i_str, i_tup, i_ref, l_str, l_tup, l_rol, l_ref, b_lenS, b_lenT, b_lenR, b_abs, b_tupR, b_tupT, b_listR, b_listT, b_all, b_any, b_intI, b_intB, b_isiN, b_isiB, b_isiI, b_isiS, b_isiT, b_isiR, b_isiL, b_isN, b_notN, b_neg, b_rev, b_join, t_str, is_some, isB_some, byB_true, byB_false, start, wipe, bindT, List.map_cons, List.map_nil, List.cons_append, List.nil_append, List.append_nil, List.getElem?_cons_zero, List.getElem?_cons_succ, List.length_cons, List.length_nil, List.set_cons_zero, List.set_cons_succ, atI_0, atI_1, atI_2, atI_3, List.replicate, Nat.zero_add, Nat.reduceAdd, Nat.reduceSub, seqW_ref, seqW_tup, c_leS, b_iaddI, b_iaddS, b_isub, w_enum, w_zip, w_callv, enc, e_ss, show decide (kMark = [115, 105, 103, 110]) = false from rfl, show decide (kMark = [97, 110, 121]) = false from rfl, decide_true]
    refine (IH k q i n S d c (by omega) hp.2 (by omega) (by omega) (by omega) hD).imp fun r S2 hr => ?_
    obtain ⟨x, w, m, f, R⟩ := hr
    obtain rfl := R.eq
    have xl := R.xl
    have ml := R.ml
    have hx : x.length ≤ LIM := by simp only [LIM]; omega
    try simp only [w_var, w_c, w_bin, w_cmp, w_chain, w_and, w_or, w_ite, w_not, w_nil, w_cons, w_tup, w_lst, w_ix, w_no, w_yes, w_sl, w_call, w_bi, w_val, w_rng1, w_rng2, s_nil, s_cons, s_ret, s_expr, s_set, s_if, s_pass, s_setix, s_app, s_ext, o_addI, o_addS, o_addT, o_addL, o_sub, o_mulI, o_mulS, o_mulL, o_fdiv, o_mod, o_pow, c_ltI, c_ltS, c_le, c_gt, c_ge, c_eq, c_ne, e_ii, e_ss, e_bb, c_inS, c_notS, i_str, i_tup, i_ref, l_str, l_tup, l_rol, l_ref, b_lenS, b_lenT, b_lenR, b_abs, b_tupR, b_tupT, b_listR, b_listT, b_all, b_any, b_intI, b_intB, b_isiN, b_isiB, b_isiI, b_isiS, b_isiT, b_isiR, b_isiL, b_isN, b_notN, b_neg, b_rev, b_join, t_str, is_some, isB_some, byB_true, byB_false, start, wipe, bindT, List.map_cons, List.map_nil, List.cons_append, List.nil_append, List.append_nil, List.getElem?_cons_zero, List.getElem?_cons_succ, List.length_cons, List.length_nil, List.set_cons_zero, List.set_cons_succ, atI_0, atI_1, atI_2, atI_3, List.replicate, Nat.zero_add, Nat.reduceAdd, Nat.reduceSub, seqW_ref, seqW_tup, c_leS, b_iaddI, b_iaddS, b_isub, w_enum, w_zip, w_callv, bindL, hx, true_and]
    refine ⟨by simp [LIM], by simp [LIM], ?_⟩
    simp only [rdL_app R.rd, rdL_new]
    refine ⟨by rw [List.length_append, List.length_map]; simp only [LIM, List.length_singleton]; omega, by simp [LIM], x, w, m ++ [(nm, i, i + x.length)], _, rfl, .mark R.gq, ?_, ?_, ?_, (R.kx.trans (.of (.app _ _))).trans (.of (.app _ _)), ?_, ?_, R.wl⟩
    · rw [rdL_new, List.map_append]
      simp [encPc]
    · have := R.kx.1; simp; omega
    · simp only [gd]; exact (R.dk.kp (.app _ _)).kp (.app _ _)
    · simp only [gl]; omega
    · simp only [gl, List.length_append, List.length_singleton]; omega
  | row ps =>
    simp only [okG] at hp
    simp only [deep] at hd
    simp only [size] at hsz
    simp only [gl] at hgl
    simp only [gd] at hn
    have hlp := len_sizes ps
    have mm := (many ps n (.tup (encs ps)) S none (by omega) hp (by omega) (fun q hq => by have := size_mem hq; omega) hgl hn (.inl rfl) hD (.refl _ _ _)).imp (N' := fun _ _ => False) (Q := fun r S' => ∃ x w m f, Gone d c n i (.row ps) S r S' x w m f) (fun _ _ h => h) fun r S' hr => by
      obtain ⟨x, ws, m, f, rfl, t1, t2, t3, t4, t5, t6, t7, t8⟩ := hr
      have := t1.len
      exact ⟨x, .tup ws, m, f, rfl, .row t1, t2, t3, t4, t5, t6, t7, by simp only [encY, wl, t8, encYs_len, Bool.and_true]; exact decide_eq_true (by omega)⟩
    simp only [b_law_go, w_var, w_c, w_bin, w_cmp, w_chain, w_and, w_or, w_ite, w_not, w_nil, w_cons, w_tup, w_lst, w_ix, w_no, w_yes, w_sl, w_call, w_bi, w_val, w_rng1, w_rng2, s_nil, s_cons, s_ret, s_expr, s_set, s_if, s_pass, s_setix, s_app, s_ext, o_addI, o_addS, o_addT, o_addL, o_sub, o_mulI, o_mulS, o_mulL, o_fdiv, o_mod, o_pow, c_ltI, c_ltS, c_le, c_gt, c_ge, c_eq, c_ne, e_ii, e_ss, e_bb, c_inS, c_notS, i_str, i_tup, i_ref, l_str, l_tup, l_rol, l_ref, b_lenS, b_lenT, b_lenR, b_abs, b_tupR, b_tupT, b_listR, b_listT, b_all, b_any, b_intI, b_intB, b_isiN, b_isiB, b_isiI, b_isiS, b_isiT, b_isiR, b_isiL, b_isN, b_notN, b_neg, b_rev, b_join, t_str, is_some, isB_some, byB_true, byB_false, start, wipe, bindT, List.map_cons, List.map_nil, List.cons_append, List.nil_append, List.append_nil, List.getElem?_cons_zero, List.getElem?_cons_succ, List.length_cons, List.length_nil, List.set_cons_zero, List.set_cons_succ, atI_0, atI_1, atI_2, atI_3, List.replicate, Nat.zero_add, Nat.reduceAdd, Nat.reduceSub, seqW_ref, seqW_tup, c_leS, b_iaddI, b_iaddS, b_isub, w_enum, w_zip, w_callv, enc, e_ss, show decide (kRow = [115, 105, 103, 110]) = false from rfl, show decide (kRow = [97, 110, 121]) = false from rfl, show decide (kRow = [109, 97, 114, 107]) = false from rfl, show decide (kRow = [115, 111, 109, 101]) = false from rfl]
    try simp only [w_var, w_c, w_bin, w_cmp, w_chain, w_and, w_or, w_ite, w_not, w_nil, w_cons, w_tup, w_lst, w_ix, w_no, w_yes, w_sl, w_call, w_bi, w_val, w_rng1, w_rng2, s_nil, s_cons, s_ret, s_expr, s_set, s_if, s_pass, s_setix, s_app, s_ext, o_addI, o_addS, o_addT, o_addL, o_sub, o_mulI, o_mulS, o_mulL, o_fdiv, o_mod, o_pow, c_ltI, c_ltS, c_le, c_gt, c_ge, c_eq, c_ne, e_ii, e_ss, e_bb, c_inS, c_notS, i_str, i_tup, i_ref, l_str, l_tup, l_rol, l_ref, b_lenS, b_lenT, b_lenR, b_abs, b_tupR, b_tupT, b_listR, b_listT, b_all, b_any, b_intI, b_intB, b_isiN, b_isiB, b_isiI, b_isiS, b_isiT, b_isiR, b_isiL, b_isN, b_notN, b_neg, b_rev, b_join, t_str, is_some, isB_some, byB_true, byB_false, start, wipe, bindT, List.map_cons, List.map_nil, List.cons_append, List.nil_append, List.append_nil, List.getElem?_cons_zero, List.getElem?_cons_succ, List.length_cons, List.length_nil, List.set_cons_zero, List.set_cons_succ, atI_0, atI_1, atI_2, atI_3, List.replicate, Nat.zero_add, Nat.reduceAdd, Nat.reduceSub, seqW_ref, seqW_tup, c_leS, b_iaddI, b_iaddS, b_isub, w_enum, w_zip, w_callv, enc] at mm
    exact mm
  | some lo hi q =>
    have hp0 := hp
    simp only [okG, Bool.and_eq_true] at hp
    simp only [deep] at hd
    simp only [size] at hsz
    simp only [gl] at hgl
    simp only [gd] at hn
    simp only [b_law_go, w_var, w_c, w_bin, w_cmp, w_chain, w_and, w_or, w_ite, w_not, w_nil, w_cons, w_tup, w_lst, w_ix, w_no, w_yes, w_sl, w_call, w_bi, w_val, w_rng1, w_rng2, s_nil, s_cons, s_ret, s_expr, s_set, s_if, s_pass, s_setix, s_app, s_ext, o_addI, o_addS, o_addT, o_addL, o_sub, o_mulI, o_mulS, o_mulL, o_fdiv, o_mod, o_pow, c_ltI, c_ltS, c_le, c_gt, c_ge, c_eq, c_ne, e_ii, e_ss, e_bb, c_inS, c_notS, i_str, i_tup, i_ref, l_str, l_tup, l_rol, l_ref, b_lenS, b_lenT, b_lenR, b_abs, b_tupR, b_tupT, b_listR, b_listT, b_all, b_any, b_intI, b_intB, b_isiN, b_isiB, b_isiI, b_isiS, b_isiT, b_isiR, b_isiL, b_isN, b_notN, b_neg, b_rev, b_join, t_str, is_some, isB_some, byB_true, byB_false, start, wipe, bindT, List.map_cons, List.map_nil, List.cons_append, List.nil_append, List.append_nil, List.getElem?_cons_zero, List.getElem?_cons_succ, List.length_cons, List.length_nil, List.set_cons_zero, List.set_cons_succ, atI_0, atI_1, atI_2, atI_3, List.replicate, Nat.zero_add, Nat.reduceAdd, Nat.reduceSub, seqW_ref, seqW_tup, c_leS, b_iaddI, b_iaddS, b_isub, w_enum, w_zip, w_callv, enc, e_ss, show decide (kSome = [115, 105, 103, 110]) = false from rfl, show decide (kSome = [97, 110, 121]) = false from rfl, show decide (kSome = [109, 97, 114, 107]) = false from rfl, decide_true]
    refine w_compX ?_
    try simp only [w_var, w_c, w_bin, w_cmp, w_chain, w_and, w_or, w_ite, w_not, w_nil, w_cons, w_tup, w_lst, w_ix, w_no, w_yes, w_sl, w_call, w_bi, w_val, w_rng1, w_rng2, s_nil, s_cons, s_ret, s_expr, s_set, s_if, s_pass, s_setix, s_app, s_ext, o_addI, o_addS, o_addT, o_addL, o_sub, o_mulI, o_mulS, o_mulL, o_fdiv, o_mod, o_pow, c_ltI, c_ltS, c_le, c_gt, c_ge, c_eq, c_ne, e_ii, e_ss, e_bb, c_inS, c_notS, i_str, i_tup, i_ref, l_str, l_tup, l_rol, l_ref, b_lenS, b_lenT, b_lenR, b_abs, b_tupR, b_tupT, b_listR, b_listT, b_all, b_any, b_intI, b_intB, b_isiN, b_isiB, b_isiI, b_isiS, b_isiT, b_isiR, b_isiL, b_isN, b_notN, b_neg, b_rev, b_join, t_str, is_some, isB_some, byB_true, byB_false, start, wipe, bindT, List.map_cons, List.map_nil, List.cons_append, List.nil_append, List.append_nil, List.getElem?_cons_zero, List.getElem?_cons_succ, List.length_cons, List.length_nil, List.set_cons_zero, List.set_cons_succ, atI_0, atI_1, atI_2, atI_3, List.replicate, Nat.zero_add, Nat.reduceAdd, Nat.reduceSub, seqW_ref, seqW_tup, c_leS, b_iaddI, b_iaddS, b_isub, w_enum, w_zip, w_callv]
    refine (times_spec Z (k + D + 1) hD (by omega) hp0).imp fun r S1 hr => ?_
    obtain ⟨t, rfl, t1, t2, t3, t4, t5⟩ := hr
    try simp only [w_var, w_c, w_bin, w_cmp, w_chain, w_and, w_or, w_ite, w_not, w_nil, w_cons, w_tup, w_lst, w_ix, w_no, w_yes, w_sl, w_call, w_bi, w_val, w_rng1, w_rng2, s_nil, s_cons, s_ret, s_expr, s_set, s_if, s_pass, s_setix, s_app, s_ext, o_addI, o_addS, o_addT, o_addL, o_sub, o_mulI, o_mulS, o_mulL, o_fdiv, o_mod, o_pow, c_ltI, c_ltS, c_le, c_gt, c_ge, c_eq, c_ne, e_ii, e_ss, e_bb, c_inS, c_notS, i_str, i_tup, i_ref, l_str, l_tup, l_rol, l_ref, b_lenS, b_lenT, b_lenR, b_abs, b_tupR, b_tupT, b_listR, b_listT, b_all, b_any, b_intI, b_intB, b_isiN, b_isiB, b_isiI, b_isiS, b_isiT, b_isiR, b_isiL, b_isN, b_notN, b_neg, b_rev, b_join, t_str, is_some, isB_some, byB_true, byB_false, start, wipe, bindT, List.map_cons, List.map_nil, List.cons_append, List.nil_append, List.append_nil, List.getElem?_cons_zero, List.getElem?_cons_succ, List.length_cons, List.length_nil, List.set_cons_zero, List.set_cons_succ, atI_0, atI_1, atI_2, atI_3, List.replicate, Nat.zero_add, Nat.reduceAdd, Nat.reduceSub, seqW_ref, seqW_tup, c_leS, b_iaddI, b_iaddS, b_isub, w_enum, w_zip, w_callv]
    refine ⟨rng_small (by omega) (by omega), t, fun j acc S' => acc = encs (List.replicate j q) ∧ S' = S1, by simp only [LIM]; omega, by simp only [Src.len]; simp, ⟨rfl, rfl⟩, fun j acc S' hj hI => ?_, fun acc S' _ hI => ?_⟩
    · obtain ⟨rfl, rfl⟩ := hI
      refine ⟨.int (0 + (j : Nat)), _, by simp only [Src.item]; rw [if_pos (by simpa using hj)], rfl, ?_⟩
      try simp only [w_var, w_c, w_bin, w_cmp, w_chain, w_and, w_or, w_ite, w_not, w_nil, w_cons, w_tup, w_lst, w_ix, w_no, w_yes, w_sl, w_call, w_bi, w_val, w_rng1, w_rng2, s_nil, s_cons, s_ret, s_expr, s_set, s_if, s_pass, s_setix, s_app, s_ext, o_addI, o_addS, o_addT, o_addL, o_sub, o_mulI, o_mulS, o_mulL, o_fdiv, o_mod, o_pow, c_ltI, c_ltS, c_le, c_gt, c_ge, c_eq, c_ne, e_ii, e_ss, e_bb, c_inS, c_notS, i_str, i_tup, i_ref, l_str, l_tup, l_rol, l_ref, b_lenS, b_lenT, b_lenR, b_abs, b_tupR, b_tupT, b_listR, b_listT, b_all, b_any, b_intI, b_intB, b_isiN, b_isiB, b_isiI, b_isiS, b_isiT, b_isiR, b_isiL, b_isN, b_notN, b_neg, b_rev, b_join, t_str, is_some, isB_some, byB_true, byB_false, start, wipe, bindT, List.map_cons, List.map_nil, List.cons_append, List.nil_append, List.append_nil, List.getElem?_cons_zero, List.getElem?_cons_succ, List.length_cons, List.length_nil, List.set_cons_zero, List.set_cons_succ, atI_0, atI_1, atI_2, atI_3, List.replicate, Nat.zero_add, Nat.reduceAdd, Nat.reduceSub, seqW_ref, seqW_tup, c_leS, b_iaddI, b_iaddS, b_isub, w_enum, w_zip, w_callv]
      exact ⟨encs_rs q j, by trivial⟩
    · obtain ⟨rfl, rfl⟩ := hI
      refine ⟨⟨t, Nat.le_refl _, by simp only [Src.len]; simp⟩, ?_⟩
      have drp := deeps_rp t q
      have lt1 := t4.lt
      have e1 := gls_rep q t
      have e2 := gds_rep q t
      have e3 : t * gl q ≤ 3 * gl q := Nat.mul_le_mul t1 (Nat.le_refl _)
      have e4 : t * gd q ≤ 3 * gd q := Nat.mul_le_mul t1 (Nat.le_refl _)
      have e5 : sizes (List.replicate t q) ≤ 3000 := by
        have : ∀ n, sizes (List.replicate n q) = n * size q := fun n => by
          induction n with
          | zero => simp [sizes]
          | succ n ih => rw [List.replicate_succ, sizes, ih, Nat.succ_mul, Nat.add_comm]
        rw [this]
        have := Nat.mul_le_mul t1 (show size q ≤ 1000 by omega)
        omega
      have mm := (many (List.replicate t q) (n + 1) (.ref S'.length) (S' ++ [.lst (encs (List.replicate t q))]) none (by omega) (okGs_rp _ hp.2) e5 (fun q' hq' => by rw [(List.mem_replicate.mp hq').2]; omega) (by omega) (by omega) (.inr ⟨_, rfl, by omega, by omega, rdL_new _ _⟩) (t4.kp (.app _ _)) (t5.trans (.of (.app _ _)))).imp (N' := fun _ _ => False) (Q := fun r S' => ∃ x w m f, Gone d c n i (.some lo hi q) S r S' x w m f) (fun _ _ h => h) fun r S' hr => by
        obtain ⟨x, ws, m, f, rfl, u1, u2, u3, u4, u5, u6, u7, u8⟩ := hr
        have hlen := u1.len
        rw [List.length_replicate] at hlen
        subst hlen
        exact ⟨x, .tup ws, m, f, rfl, .some t2 t3 u1, u2, u3, u4.mono (by simp only [gd]; omega), u5, by simp only [gl]; omega, by simp only [gl]; omega, by simp only [encY, wl, u8, encYs_len, Bool.and_true]; exact decide_eq_true (by omega)⟩
      try simp only [w_var, w_c, w_bin, w_cmp, w_chain, w_and, w_or, w_ite, w_not, w_nil, w_cons, w_tup, w_lst, w_ix, w_no, w_yes, w_sl, w_call, w_bi, w_val, w_rng1, w_rng2, s_nil, s_cons, s_ret, s_expr, s_set, s_if, s_pass, s_setix, s_app, s_ext, o_addI, o_addS, o_addT, o_addL, o_sub, o_mulI, o_mulS, o_mulL, o_fdiv, o_mod, o_pow, c_ltI, c_ltS, c_le, c_gt, c_ge, c_eq, c_ne, e_ii, e_ss, e_bb, c_inS, c_notS, i_str, i_tup, i_ref, l_str, l_tup, l_rol, l_ref, b_lenS, b_lenT, b_lenR, b_abs, b_tupR, b_tupT, b_listR, b_listT, b_all, b_any, b_intI, b_intB, b_isiN, b_isiB, b_isiI, b_isiS, b_isiT, b_isiR, b_isiL, b_isN, b_notN, b_neg, b_rev, b_join, t_str, is_some, isB_some, byB_true, byB_false, start, wipe, bindT, List.map_cons, List.map_nil, List.cons_append, List.nil_append, List.append_nil, List.getElem?_cons_zero, List.getElem?_cons_succ, List.length_cons, List.length_nil, List.set_cons_zero, List.set_cons_succ, atI_0, atI_1, atI_2, atI_3, List.replicate, Nat.zero_add, Nat.reduceAdd, Nat.reduceSub, seqW_ref, seqW_tup, c_leS, b_iaddI, b_iaddS, b_isub, w_enum, w_zip, w_callv, enc] at mm
      exact mm
end
end Pg
namespace Pg
open MP
section
variable {ds : Nat → Option Def}
theorem FGd.bnd {D : Nat} {xs ys : List (List Nat)} {p : Pt} (h : FGd D xs ys p) (hD : D ≤ 3) : size p ≤ 53 ∧ deep p ≤ 7 ∧ gl p ≤ 38637 ∧ gd p ≤ 868352 := by
  have h1 := h.sz
  have h2 := h.dp
  have h3 : szB D ≤ 53 := by
    have : D = 0 ∨ D = 1 ∨ D = 2 ∨ D = 3 := by omega
    rcases this with rfl | rfl | rfl | rfl <;> decide
  have h4 := gl_le p
  have h5 := gd_le p
  have h6 : 3 ^ deep p * size p ≤ 3 ^ 7 * 53 := Nat.mul_le_mul (pw_le (by omega) (by omega)) (by omega)
  have h7 : 4 ^ deep p * size p ≤ 4 ^ 7 * 53 := Nat.mul_le_mul (pw_le (by omega) (by omega)) (by omega)
  refine ⟨by omega, by omega, ?_, ?_⟩
  · have : (3 : Nat) ^ 7 * 53 = 115911 := by decide
    omega
  · have : (4 : Nat) ^ 7 * 53 = 868352 := by decide
    omega
/-- a form of the law, of the names of a new list -/
theorem formK (Z : LS ds) {d c : Nat} (D : Nat) (hD : D ≤ 3) (k kn n m : Nat) (hm : m ≤ 4) (S : Sto) (h : Dk d c n S) (hn : n ≤ 20000000) :
    Is (callF ds (kn + 2) 111 [.ref d, .int m] S) fun w S1 => Is (callF ds (k + D + 4) 116 [.ref d, .int (D : Nat), w] S1) fun w S' => ∃ p xs ys, w = enc p ∧ FGd D xs ys p ∧ Nms xs ∧ xs.Nodup ∧ xs.length = m ∧ Dk d c (n + 1000) S' ∧ Kx d c S S' := by
  refine (names2_spec Z.h4 Z.h111 kn h m hm (by omega)).imp fun w S1 hw => ?_
  obtain ⟨f, xs, rfl, f1, f2, f3, f4, f5, f6, f7⟩ := hw
  have hne := h.ne_of f1
  have e4 : 10 * 4 ^ D ≤ 640 := by
    have : D = 0 ∨ D = 1 ∨ D = 2 ∨ D = 3 := by omega
    rcases this with rfl | rfl | rfl | rfl <;> decide
  refine (form2_all Z D hD k (n + 10) f xs S1 ⟨f6, f2, hne.1, hne.2⟩ f5 f4 (by omega) (by omega)).imp fun w S2 hw => ?_
  obtain ⟨p, ys, rfl, p1, p2, p3⟩ := hw
  exact ⟨p, xs, ys, rfl, p1, f4, f5, f3, p2.dk.mono (by omega), ⟨Nat.le_trans f7.1 p3.1, fun j hj h1 h2 => by
    rw [p3.2 j (Nat.lt_of_lt_of_le hj f7.1) h1 h2 (by omega)]
    exact f7.2 j hj h1 h2⟩⟩
theorem sound_spec (Z : LS ds) (h117 : ds 117 = some ⟨2, 2, b_law_sound⟩) {d c : Nat} (k n : Nat) (S : Sto) (h : Dk d c n S) (hn : n ≤ 10000000) (m : Nat) (hm : m ≤ 4) :
    Is (callF ds (k + 8) 117 [.ref d, .int (m : Nat)] S) fun w S' => ∃ p D xs ys, w = enc p ∧ D ≤ 3 ∧ FGd D xs ys p ∧ Nms xs ∧ xs.Nodup ∧ xs.length ≤ m ∧ Dk d c (n + 1010) S' ∧ Kx d c S S' := by
  refine w_callF (k := k + 7) h117 rfl ?_
  simp only [b_law_sound, w_var, w_c, w_bin, w_cmp, w_chain, w_and, w_or, w_ite, w_not, w_nil, w_cons, w_tup, w_lst, w_ix, w_no, w_yes, w_sl, w_call, w_bi, w_val, w_rng1, w_rng2, s_nil, s_cons, s_ret, s_expr, s_set, s_if, s_pass, s_setix, s_app, s_ext, o_addI, o_addS, o_addT, o_addL, o_sub, o_mulI, o_mulS, o_mulL, o_fdiv, o_mod, o_pow, c_ltI, c_ltS, c_le, c_gt, c_ge, c_eq, c_ne, e_ii, e_ss, e_bb, c_inS, c_notS, i_str, i_tup, i_ref, l_str, l_tup, l_rol, l_ref, b_lenS, b_lenT, b_lenR, b_abs, b_tupR, b_tupT, b_listR, b_listT, b_all, b_any, b_intI, b_intB, b_isiN, b_isiB, b_isiI, b_isiS, b_isiT, b_isiR, b_isiL, b_isN, b_notN, b_neg, b_rev, b_join, t_str, is_some, isB_some, byB_true, byB_false, start, wipe, bindT, List.map_cons, List.map_nil, List.cons_append, List.nil_append, List.append_nil, List.getElem?_cons_zero, List.getElem?_cons_succ, List.length_cons, List.length_nil, List.set_cons_zero, List.set_cons_succ, atI_0, atI_1, atI_2, atI_3, List.replicate, Nat.zero_add, Nat.reduceAdd, Nat.reduceSub, seqW_ref, seqW_tup, c_leS, b_iaddI, b_iaddS, b_isub, w_enum, w_zip, w_callv]
  refine draw_w Z.h4 (k + 6) h (.refl _ _ _) (by omega) 3 (by omega) (by omega) fun v S1 a1 a2 a3 a4 _ => ?_
  obtain ⟨q, rfl⟩ : ∃ q : Nat, v = (q : Int) := ⟨v.toNat, by omega⟩
  try simp only [w_var, w_c, w_bin, w_cmp, w_chain, w_and, w_or, w_ite, w_not, w_nil, w_cons, w_tup, w_lst, w_ix, w_no, w_yes, w_sl, w_call, w_bi, w_val, w_rng1, w_rng2, s_nil, s_cons, s_ret, s_expr, s_set, s_if, s_pass, s_setix, s_app, s_ext, o_addI, o_addS, o_addT, o_addL, o_sub, o_mulI, o_mulS, o_mulL, o_fdiv, o_mod, o_pow, c_ltI, c_ltS, c_le, c_gt, c_ge, c_eq, c_ne, e_ii, e_ss, e_bb, c_inS, c_notS, i_str, i_tup, i_ref, l_str, l_tup, l_rol, l_ref, b_lenS, b_lenT, b_lenR, b_abs, b_tupR, b_tupT, b_listR, b_listT, b_all, b_any, b_intI, b_intB, b_isiN, b_isiB, b_isiI, b_isiS, b_isiT, b_isiR, b_isiL, b_isN, b_notN, b_neg, b_rev, b_join, t_str, is_some, isB_some, byB_true, byB_false, start, wipe, bindT, List.map_cons, List.map_nil, List.cons_append, List.nil_append, List.append_nil, List.getElem?_cons_zero, List.getElem?_cons_succ, List.length_cons, List.length_nil, List.set_cons_zero, List.set_cons_succ, atI_0, atI_1, atI_2, atI_3, List.replicate, Nat.zero_add, Nat.reduceAdd, Nat.reduceSub, seqW_ref, seqW_tup, c_leS, b_iaddI, b_iaddS, b_isub, w_enum, w_zip, w_callv]
  refine draw_w Z.h4 (k + 6) a3 a4 (by omega) ((m : Nat) + 1) (by omega) (by omega) fun u S2 b1 b2 b3 b4 _ => ?_
  obtain ⟨t, rfl⟩ : ∃ t : Nat, u = (t : Int) := ⟨u.toNat, by omega⟩
  rw [show (1 : Int) + (q : Int) = ((1 + q : Nat) : Int) by omega]
  have ef : k + 7 = (k + (2 - q)) + (1 + q) + 4 := by omega
  have F := formK Z (1 + q) (by omega) (k + (2 - q)) (k + 5) (n + 2) t (by omega) S2 b3 (by omega)
  rw [← ef] at F
  refine F.imp fun w S3 hw => hw.imp fun w S4 hw => ?_
  obtain ⟨p, xs, ys, rfl, p1, p2, p3, p4, p5, p6⟩ := hw
  exact ⟨p, 1 + q, xs, ys, rfl, by omega, p1, p2, p3, by omega, p5.mono (by omega), b4.trans p6⟩
end
end Pg
namespace Pg
open MP
/-! ### pieces gathered along a way -/
/-- parts and their ways, one behind another -/
inductive Gch : List (Pt × Wy) → Nat → List Nat → List Pc → Prop
  | nil {i : Nat} : Gch [] i [] []
  | cons {q : Pt} {v : Wy} {r : List (Pt × Wy)} {i : Nat} {x y : List Nat} {m n : List Pc} (h : Gq q i x v m) (t : Gch r (i + x.length) y n) : Gch ((q, v) :: r) i (x ++ y) (m ++ n)
theorem Gqs.chain : ∀ {ps : List Pt} {i : Nat} {x : List Nat} {ws : List Wy} {m : List Pc}, Gqs ps i x ws m → Gch (ps.zip ws) i x m
  | _, _, _, _, _, .nil => .nil
  | _, _, _, _, _, .cons h t => .cons h t.chain
def encCh (c : List (Pt × Wy)) : List W := c.map fun z => .tup [enc z.1, encY z.2]
def chOf : Pt → Wy → List (Pt × Wy)
  | .row ps, .tup ws => ps.zip ws
  | .any ps, .pick k w => (match ps[k]? with
    | some q => [(q, w)]
    | none => [])
  | .some _ _ p, .tup ws => ws.map fun w => (p, w)
  | .mark _ p, w => [(p, w)]
  | _, _ => []
theorem zip_encYs : ∀ (ps : List Pt) (ws : List Wy), ((ps.zip (encYs ws)).map encPr) = encCh (ps.zip ws)
  | [], ws => by simp [encCh]
  | p :: ps, [] => by simp [encCh, encYs]
  | p :: ps, w :: ws => by
    rw [encYs, List.zip_cons_cons, List.zip_cons_cons, List.map_cons, zip_encYs ps ws]
    rfl
theorem zip_rep (p : Pt) : ∀ ws : List Wy, (List.replicate ws.length p).zip ws = ws.map fun w => (p, w)
  | [] => rfl
  | w :: ws => by rw [List.length_cons, List.replicate_succ, List.zip_cons_cons, List.map_cons, zip_rep p ws]
def mkOf (p : Pt) (i j : Nat) : List Pc := match p with
  | .mark n _ => [(n, i, j)]
  | _ => []
/-- a way, part by part -/
theorem Gq.split {p : Pt} {i : Nat} {x : List Nat} {w : Wy} {m : List Pc} (h : Gq p i x w m) (hs : ∀ s, p ≠ .sign s) : ∃ m0, Gch (chOf p w) i x m0 ∧ m = m0 ++ mkOf p i (i + x.length) ∧ fitB p (encY w) = true ∧ (prs p (encY w)).map encPr = encCh (chOf p w) := by
  cases h with
  | sign hc => exact absurd rfl (hs _)
  | row h =>
    rename_i ps ws
    refine ⟨m, h.chain, by simp [mkOf], ?_, ?_⟩
    · simp only [encY, fitB, encYs_len]
      exact decide_eq_true h.len.symm
    · simp only [encY, prs, chOf]
      exact zip_encYs ps ws
  | any hk h =>
    rename_i ps q k v
    have hl := (List.getElem?_eq_some_iff.mp hk).1
    refine ⟨m, ?_, by simp [mkOf], ?_, ?_⟩
    · simp only [chOf, hk]
      have := Gch.cons h (.nil (i := _))
      simpa using this
    · simp only [encY, fitB, Bool.and_eq_true, decide_eq_true_eq]
      exact ⟨by omega, by omega⟩
    · simp only [encY, prs, Int.toNat_natCast, hk, chOf, encCh, List.map_cons, List.map_nil, encPr]
  | some ht hh h =>
    rename_i lo hi q ws
    refine ⟨m, ?_, by simp [mkOf], ?_, ?_⟩
    · simp only [chOf]
      rw [← zip_rep]
      exact h.chain
    · simp only [encY, fitB, encYs_len, hh, Bool.and_true]
      exact decide_eq_true ht
    · simp only [encY, prs, chOf, encCh, List.map_map, encYs_map]
      rfl
  | mark h =>
    rename_i n q m0
    refine ⟨m0, ?_, rfl, rfl, ?_⟩
    · have := Gch.cons h (.nil (i := _))
      simpa [chOf] using this
    · simp only [prs, chOf, encCh, List.map_cons, List.map_nil, encPr]
theorem chOf_deep {p : Pt} {w : Wy} {q : Pt} {v : Wy} (h : (q, v) ∈ chOf p w) : deep q + 1 ≤ deep p := by
  cases p with
  | sign s => simp [chOf] at h
  | row ps =>
    cases w <;> simp only [chOf, List.not_mem_nil] at h
    have := deep_mem (mem_zip_l h).1
    simp only [deep]; omega
  | any ps =>
    cases w <;> simp only [chOf, List.not_mem_nil] at h
    split at h
    · rename_i q' hq
      simp only [List.mem_singleton] at h
      cases h
      have := deep_mem (List.mem_of_getElem? hq)
      simp only [deep]; omega
    · simp at h
  | some lo hi p0 =>
    cases w <;> simp only [chOf, List.not_mem_nil] at h
    obtain ⟨u, _, e⟩ := List.mem_map.mp h
    cases e
    simp only [deep]; omega
  | mark n p0 =>
    simp only [chOf, List.mem_singleton] at h
    cases h
    simp only [deep]; omega
theorem chOf_wk {p : Pt} {w : Wy} (hw : wk (encY w) = true) {q : Pt} {v : Wy} (h : (q, v) ∈ chOf p w) : wk (encY v) = true := by
  cases p with
  | sign s => simp [chOf] at h
  | row ps =>
    cases w <;> simp only [chOf, List.not_mem_nil] at h
    simp only [encY, wk, Bool.and_eq_true] at hw
    exact wks_mem hw.2 (by rw [encYs_map]; exact List.mem_map_of_mem (mem_zip_l h).2)
  | any ps =>
    cases w <;> simp only [chOf, List.not_mem_nil] at h
    split at h
    · simp only [List.mem_singleton] at h
      cases h
      simp only [encY, wk, wks, Bool.and_eq_true] at hw
      exact hw.2.2.1
    · simp at h
  | some lo hi p0 =>
    cases w <;> simp only [chOf, List.not_mem_nil] at h
    obtain ⟨u, hu, e⟩ := List.mem_map.mp h
    cases e
    simp only [encY, wk, Bool.and_eq_true] at hw
    exact wks_mem hw.2 (by rw [encYs_map]; exact List.mem_map_of_mem hu)
  | mark n p0 =>
    simp only [chOf, List.mem_singleton] at h
    cases h
    exact hw
/-- all but one list stands -/
def Ko (f : Nat) (S S' : Sto) : Prop := S.length ≤ S'.length ∧ ∀ k, k < S.length → k ≠ f → S'[k]? = S[k]?
theorem Ko.refl (f : Nat) (S : Sto) : Ko f S S := ⟨Nat.le_refl _, fun _ _ _ => rfl⟩
theorem Ko.trans {f : Nat} {S S1 S2 : Sto} (a : Ko f S S1) (b : Ko f S1 S2) : Ko f S S2 := ⟨Nat.le_trans a.1 b.1, fun k h h1 => (b.2 k (Nat.lt_of_lt_of_le h a.1) h1).trans (a.2 k h h1)⟩
theorem Ko.of {f : Nat} {S S' : Sto} (h : Kp S S') : Ko f S S' := ⟨h.1, fun k hk _ => h.2 k hk⟩
theorem Ko.rd {f j : Nat} {S S' : Sto} {xs : List W} (h : Ko f S S') (e : rdL S j = some xs) (hj : j ≠ f) : rdL S' j = some xs := rdL_of ((h.2 j (List.getElem?_eq_some_iff.mp (rdL_iff.mp e)).1 hj).trans (rdL_iff.mp e))
section
variable {ds : Nat → Option Def}
structure GaD (ds : Nat → Option Def) : Prop where
  h110 : ds 110 = some ⟨2, 4, b_stretches⟩
  h127 : ds 127 = some ⟨3, 4, b_pieces_of⟩
  h128 : ds 128 = some ⟨4, 7, b_gather⟩
theorem gather_spec (Z : GaD ds) : ∀ (D k : Nat) (p : Pt) (i : Nat) (x : List Nat) (w : Wy) (m : List Pc) (S : Sto) (f : Nat) (L : List Pc), deep p ≤ D → Gq p i x w m → wk (encY w) = true → rdL S f = some (L.map encPc) → L.length + m.length ≤ 900000 →
    Is (callF ds (k + D + 1) 128 [enc p, encY w, .int (i : Nat), .ref f] S) fun r S' => r = .int ((i + x.length : Nat) : Int) ∧ rdL S' f = some ((L ++ m).map encPc) ∧ Ko f S S' := by
  intro D
  induction D with
  | zero => intro k p i x w m S f L hd; have := deep_pos p; omega
  | succ D IH =>
  intro k p i x w m S f L hd hG hw hf hL
  refine w_callF (k := k + D + 1) Z.h128 rfl ?_
  by_cases hs : ∃ s, p = .sign s
  · obtain ⟨s, rfl⟩ := hs
    cases hG with
    | sign hc =>
      simp only [b_gather, w_var, w_c, w_bin, w_cmp, w_chain, w_and, w_or, w_ite, w_not, w_nil, w_cons, w_tup, w_lst, w_ix, w_no, w_yes, w_sl, w_call, w_bi, w_val, w_rng1, w_rng2, s_nil, s_cons, s_ret, s_expr, s_set, s_if, s_pass, s_setix, s_app, s_ext, o_addI, o_addS, o_addT, o_addL, o_sub, o_mulI, o_mulS, o_mulL, o_fdiv, o_mod, o_pow, c_ltI, c_ltS, c_le, c_gt, c_ge, c_eq, c_ne, e_ii, e_ss, e_bb, c_inS, c_notS, i_str, i_tup, i_ref, l_str, l_tup, l_rol, l_ref, b_lenS, b_lenT, b_lenR, b_abs, b_tupR, b_tupT, b_listR, b_listT, b_all, b_any, b_intI, b_intB, b_isiN, b_isiB, b_isiI, b_isiS, b_isiT, b_isiR, b_isiL, b_isN, b_notN, b_neg, b_rev, b_join, t_str, is_some, isB_some, byB_true, byB_false, start, wipe, bindT, List.map_cons, List.map_nil, List.cons_append, List.nil_append, List.append_nil, List.getElem?_cons_zero, List.getElem?_cons_succ, List.length_cons, List.length_nil, List.set_cons_zero, List.set_cons_succ, atI_0, atI_1, atI_2, atI_3, List.replicate, Nat.zero_add, Nat.reduceAdd, Nat.reduceSub, seqW_ref, seqW_tup, c_leS, b_iaddI, b_iaddS, b_isub, w_enum, w_zip, w_callv, enc, e_ss, decide_true]
      exact ⟨by simp, by simpa using hf, .refl _ _⟩
  · have hs' : ∀ s, p ≠ .sign s := fun s e => hs ⟨s, e⟩
    obtain ⟨m0, hC, rfl, hfit, hprs⟩ := hG.split hs'
    rw [List.length_append] at hL
    have ew : decide (word p = [115, 105, 103, 110]) = false := by
      cases p with
      | sign s => exact absurd rfl (hs' s)
      | _ => rfl
    obtain ⟨rr, er⟩ := enc_head p
    simp only [b_gather, w_var, w_c, w_bin, w_cmp, w_chain, w_and, w_or, w_ite, w_not, w_nil, w_cons, w_tup, w_lst, w_ix, w_no, w_yes, w_sl, w_call, w_bi, w_val, w_rng1, w_rng2, s_nil, s_cons, s_ret, s_expr, s_set, s_if, s_pass, s_setix, s_app, s_ext, o_addI, o_addS, o_addT, o_addL, o_sub, o_mulI, o_mulS, o_mulL, o_fdiv, o_mod, o_pow, c_ltI, c_ltS, c_le, c_gt, c_ge, c_eq, c_ne, e_ii, e_ss, e_bb, c_inS, c_notS, i_str, i_tup, i_ref, l_str, l_tup, l_rol, l_ref, b_lenS, b_lenT, b_lenR, b_abs, b_tupR, b_tupT, b_listR, b_listT, b_all, b_any, b_intI, b_intB, b_isiN, b_isiB, b_isiI, b_isiS, b_isiT, b_isiR, b_isiL, b_isN, b_notN, b_neg, b_rev, b_join, t_str, is_some, isB_some, byB_true, byB_false, start, wipe, bindT, List.map_cons, List.map_nil, List.cons_append, List.nil_append, List.append_nil, List.getElem?_cons_zero, List.getElem?_cons_succ, List.length_cons, List.length_nil, List.set_cons_zero, List.set_cons_succ, atI_0, atI_1, atI_2, atI_3, List.replicate, Nat.zero_add, Nat.reduceAdd, Nat.reduceSub, seqW_ref, seqW_tup, c_leS, b_iaddI, b_iaddS, b_isub, w_enum, w_zip, w_callv]
    rw [er]
    try simp only [w_var, w_c, w_bin, w_cmp, w_chain, w_and, w_or, w_ite, w_not, w_nil, w_cons, w_tup, w_lst, w_ix, w_no, w_yes, w_sl, w_call, w_bi, w_val, w_rng1, w_rng2, s_nil, s_cons, s_ret, s_expr, s_set, s_if, s_pass, s_setix, s_app, s_ext, o_addI, o_addS, o_addT, o_addL, o_sub, o_mulI, o_mulS, o_mulL, o_fdiv, o_mod, o_pow, c_ltI, c_ltS, c_le, c_gt, c_ge, c_eq, c_ne, e_ii, e_ss, e_bb, c_inS, c_notS, i_str, i_tup, i_ref, l_str, l_tup, l_rol, l_ref, b_lenS, b_lenT, b_lenR, b_abs, b_tupR, b_tupT, b_listR, b_listT, b_all, b_any, b_intI, b_intB, b_isiN, b_isiB, b_isiI, b_isiS, b_isiT, b_isiR, b_isiL, b_isN, b_notN, b_neg, b_rev, b_join, t_str, is_some, isB_some, byB_true, byB_false, start, wipe, bindT, List.map_cons, List.map_nil, List.cons_append, List.nil_append, List.append_nil, List.getElem?_cons_zero, List.getElem?_cons_succ, List.length_cons, List.length_nil, List.set_cons_zero, List.set_cons_succ, atI_0, atI_1, atI_2, atI_3, List.replicate, Nat.zero_add, Nat.reduceAdd, Nat.reduceSub, seqW_ref, seqW_tup, c_leS, b_iaddI, b_iaddS, b_isub, w_enum, w_zip, w_callv, e_ss, ew]
    refine w_forX ?_
    try simp only [w_var, w_c, w_bin, w_cmp, w_chain, w_and, w_or, w_ite, w_not, w_nil, w_cons, w_tup, w_lst, w_ix, w_no, w_yes, w_sl, w_call, w_bi, w_val, w_rng1, w_rng2, s_nil, s_cons, s_ret, s_expr, s_set, s_if, s_pass, s_setix, s_app, s_ext, o_addI, o_addS, o_addT, o_addL, o_sub, o_mulI, o_mulS, o_mulL, o_fdiv, o_mod, o_pow, c_ltI, c_ltS, c_le, c_gt, c_ge, c_eq, c_ne, e_ii, e_ss, e_bb, c_inS, c_notS, i_str, i_tup, i_ref, l_str, l_tup, l_rol, l_ref, b_lenS, b_lenT, b_lenR, b_abs, b_tupR, b_tupT, b_listR, b_listT, b_all, b_any, b_intI, b_intB, b_isiN, b_isiB, b_isiI, b_isiS, b_isiT, b_isiR, b_isiL, b_isN, b_notN, b_neg, b_rev, b_join, t_str, is_some, isB_some, byB_true, byB_false, start, wipe, bindT, List.map_cons, List.map_nil, List.cons_append, List.nil_append, List.append_nil, List.getElem?_cons_zero, List.getElem?_cons_succ, List.length_cons, List.length_nil, List.set_cons_zero, List.set_cons_succ, atI_0, atI_1, atI_2, atI_3, List.replicate, Nat.zero_add, Nat.reduceAdd, Nat.reduceSub, seqW_ref, seqW_tup, c_leS, b_iaddI, b_iaddS, b_isub, w_enum, w_zip, w_callv]
    rw [← er]
    refine (str_spec Z.h110 (k + D) S p (encY w) hs' hfit hw).imp fun r S1 hr => ?_
    obtain ⟨rfl, rfl, hpl⟩ := hr
    rw [hprs]
    have hlen : (chOf p w).length ≤ LIM := by
      have e : ((prs p (encY w)).map encPr).length = (encCh (chOf p w)).length := by rw [hprs]
      rw [List.length_map, encCh, List.length_map] at e
      omega
    have fl : f < S.length := (List.getElem?_eq_some_iff.mp (rdL_iff.mp hf)).1
    have r1 : rdL (S ++ [SO.lst (encCh (chOf p w))]) S.length = some (encCh (chOf p w)) := rdL_new _ _
    have k1 : Ko f S (S ++ [SO.lst (encCh (chOf p w))]) := .of (.app _ _)
    have f1 : rdL (S ++ [SO.lst (encCh (chOf p w))]) f = some (L.map encPc) := rdL_app hf
    have hne : S.length ≠ f := by omega
    generalize S ++ [SO.lst (encCh (chOf p w))] = S1 at *
    refine ⟨(chOf p w).length, fun j env S' => ∃ (x1 x2 : List Nat) (m1 m2 : List Pc) (v5 v6 : Option W), env = [some (enc p), some (encY w), some (.int (i : Nat)), some (.ref f), some (.int ((i + x1.length : Nat) : Int)), v5, v6] ∧ x = x1 ++ x2 ∧ m0 = m1 ++ m2 ∧ Gch ((chOf p w).drop j) (i + x1.length) x2 m2 ∧ rdL S' f = some ((L ++ m1).map encPc) ∧ Ko f S1 S', by simp only [Src.len, r1, Option.map_some, encCh, List.length_map], ⟨[], x, [], m0, none, none, by rw [er]; simp, rfl, rfl, by simpa using hC, by simpa using f1, .refl _ _⟩, fun j env S' hj hI => ?_, fun env S' hI => ?_⟩
    · obtain ⟨x1, x2, m1, m2, v5, v6, rfl, e1, e2, hG2, r2, k2⟩ := hI
      have r3 : rdL S' S.length = some (encCh (chOf p w)) := k2.rd r1 hne
      have hm : ((chOf p w)[j].1, (chOf p w)[j].2) ∈ chOf p w := List.getElem_mem hj
      refine ⟨.tup [enc (chOf p w)[j].1, encY (chOf p w)[j].2], _, by simp only [Src.item, r3, Option.bind_some, encCh, List.getElem?_map, List.getElem?_eq_getElem hj, Option.map_some], rfl, ?_⟩
      have hdq := chOf_deep hm
      have hwq := chOf_wk hw hm
      rw [List.drop_eq_getElem_cons hj] at hG2
      generalize hy2 : x2 = y2 at *
      generalize hn2 : m2 = n2 at *
      generalize hcc : (chOf p w)[j] = cc at *
      obtain ⟨q, v⟩ := cc
      cases hG2 with
      | cons h t =>
        rename_i y1 y3 a1 a2
        try simp only [w_var, w_c, w_bin, w_cmp, w_chain, w_and, w_or, w_ite, w_not, w_nil, w_cons, w_tup, w_lst, w_ix, w_no, w_yes, w_sl, w_call, w_bi, w_val, w_rng1, w_rng2, s_nil, s_cons, s_ret, s_expr, s_set, s_if, s_pass, s_setix, s_app, s_ext, o_addI, o_addS, o_addT, o_addL, o_sub, o_mulI, o_mulS, o_mulL, o_fdiv, o_mod, o_pow, c_ltI, c_ltS, c_le, c_gt, c_ge, c_eq, c_ne, e_ii, e_ss, e_bb, c_inS, c_notS, i_str, i_tup, i_ref, l_str, l_tup, l_rol, l_ref, b_lenS, b_lenT, b_lenR, b_abs, b_tupR, b_tupT, b_listR, b_listT, b_all, b_any, b_intI, b_intB, b_isiN, b_isiB, b_isiI, b_isiS, b_isiT, b_isiR, b_isiL, b_isN, b_notN, b_neg, b_rev, b_join, t_str, is_some, isB_some, byB_true, byB_false, start, wipe, bindT, List.map_cons, List.map_nil, List.cons_append, List.nil_append, List.append_nil, List.getElem?_cons_zero, List.getElem?_cons_succ, List.length_cons, List.length_nil, List.set_cons_zero, List.set_cons_succ, atI_0, atI_1, atI_2, atI_3, List.replicate, Nat.zero_add, Nat.reduceAdd, Nat.reduceSub, seqW_ref, seqW_tup, c_leS, b_iaddI, b_iaddS, b_isub, w_enum, w_zip, w_callv]
        subst e2
        simp only [List.length_append] at hL
        refine (IH k q (i + x1.length) y1 v a1 S' f (L ++ m1) (by simp only at hdq; omega) h hwq r2 (by rw [List.length_append]; omega)).imp fun r S2 hr => ?_
        obtain ⟨rfl, r4, k4⟩ := hr
        refine ⟨x1 ++ y1, y3, m1 ++ a1, a2, some (enc q), some (encY v), ?_, by rw [e1]; simp, by simp, ?_, by rw [← List.append_assoc]; exact r4, k2.trans k4⟩
        · rw [List.length_append, Nat.add_assoc]
        · rw [List.length_append, ← Nat.add_assoc]; exact t
    · obtain ⟨x1, x2, m1, m2, v5, v6, rfl, e1, e2, hG2, r2, k2⟩ := hI
      have r3 : rdL S' S.length = some (encCh (chOf p w)) := k2.rd r1 hne
      rw [List.drop_of_length_le (Nat.le_refl _)] at hG2
      generalize hy2 : x2 = y2 at *
      generalize hn2 : m2 = n2 at *
      cases hG2
      rw [List.append_nil] at e1 e2
      subst e1 e2
      refine ⟨⟨_, Nat.le_refl _, by simp only [Src.len, r3, Option.map_some, encCh, List.length_map]⟩, ?_⟩
      try simp only [w_var, w_c, w_bin, w_cmp, w_chain, w_and, w_or, w_ite, w_not, w_nil, w_cons, w_tup, w_lst, w_ix, w_no, w_yes, w_sl, w_call, w_bi, w_val, w_rng1, w_rng2, s_nil, s_cons, s_ret, s_expr, s_set, s_if, s_pass, s_setix, s_app, s_ext, o_addI, o_addS, o_addT, o_addL, o_sub, o_mulI, o_mulS, o_mulL, o_fdiv, o_mod, o_pow, c_ltI, c_ltS, c_le, c_gt, c_ge, c_eq, c_ne, e_ii, e_ss, e_bb, c_inS, c_notS, i_str, i_tup, i_ref, l_str, l_tup, l_rol, l_ref, b_lenS, b_lenT, b_lenR, b_abs, b_tupR, b_tupT, b_listR, b_listT, b_all, b_any, b_intI, b_intB, b_isiN, b_isiB, b_isiI, b_isiS, b_isiT, b_isiR, b_isiL, b_isN, b_notN, b_neg, b_rev, b_join, t_str, is_some, isB_some, byB_true, byB_false, start, wipe, bindT, List.map_cons, List.map_nil, List.cons_append, List.nil_append, List.append_nil, List.getElem?_cons_zero, List.getElem?_cons_succ, List.length_cons, List.length_nil, List.set_cons_zero, List.set_cons_succ, atI_0, atI_1, atI_2, atI_3, List.replicate, Nat.zero_add, Nat.reduceAdd, Nat.reduceSub, seqW_ref, seqW_tup, c_leS, b_iaddI, b_iaddS, b_isub, w_enum, w_zip, w_callv]
      cases p with
      | mark n q =>
        simp only [enc, w_var, w_c, w_bin, w_cmp, w_chain, w_and, w_or, w_ite, w_not, w_nil, w_cons, w_tup, w_lst, w_ix, w_no, w_yes, w_sl, w_call, w_bi, w_val, w_rng1, w_rng2, s_nil, s_cons, s_ret, s_expr, s_set, s_if, s_pass, s_setix, s_app, s_ext, o_addI, o_addS, o_addT, o_addL, o_sub, o_mulI, o_mulS, o_mulL, o_fdiv, o_mod, o_pow, c_ltI, c_ltS, c_le, c_gt, c_ge, c_eq, c_ne, e_ii, e_ss, e_bb, c_inS, c_notS, i_str, i_tup, i_ref, l_str, l_tup, l_rol, l_ref, b_lenS, b_lenT, b_lenR, b_abs, b_tupR, b_tupT, b_listR, b_listT, b_all, b_any, b_intI, b_intB, b_isiN, b_isiB, b_isiI, b_isiS, b_isiT, b_isiR, b_isiL, b_isN, b_notN, b_neg, b_rev, b_join, t_str, is_some, isB_some, byB_true, byB_false, start, wipe, bindT, List.map_cons, List.map_nil, List.cons_append, List.nil_append, List.append_nil, List.getElem?_cons_zero, List.getElem?_cons_succ, List.length_cons, List.length_nil, List.set_cons_zero, List.set_cons_succ, atI_0, atI_1, atI_2, atI_3, List.replicate, Nat.zero_add, Nat.reduceAdd, Nat.reduceSub, seqW_ref, seqW_tup, c_leS, b_iaddI, b_iaddS, b_isub, w_enum, w_zip, w_callv, e_ss, decide_true, r2]
        refine ⟨by simp [LIM], by rw [List.length_map, List.length_append]; simp only [LIM]; omega, by trivial, ?_, ?_⟩
        · rw [rdL_set_same r2]
          simp [mkOf, encPc]
        · refine (k1.trans k2).trans ⟨by rw [List.length_set]; exact Nat.le_refl _, fun j' hj' h1 => by rw [List.getElem?_set_ne (Ne.symm h1)]⟩
      | sign s => exact absurd rfl (hs' s)
      | row ps =>
        simp only [enc, w_var, w_c, w_bin, w_cmp, w_chain, w_and, w_or, w_ite, w_not, w_nil, w_cons, w_tup, w_lst, w_ix, w_no, w_yes, w_sl, w_call, w_bi, w_val, w_rng1, w_rng2, s_nil, s_cons, s_ret, s_expr, s_set, s_if, s_pass, s_setix, s_app, s_ext, o_addI, o_addS, o_addT, o_addL, o_sub, o_mulI, o_mulS, o_mulL, o_fdiv, o_mod, o_pow, c_ltI, c_ltS, c_le, c_gt, c_ge, c_eq, c_ne, e_ii, e_ss, e_bb, c_inS, c_notS, i_str, i_tup, i_ref, l_str, l_tup, l_rol, l_ref, b_lenS, b_lenT, b_lenR, b_abs, b_tupR, b_tupT, b_listR, b_listT, b_all, b_any, b_intI, b_intB, b_isiN, b_isiB, b_isiI, b_isiS, b_isiT, b_isiR, b_isiL, b_isN, b_notN, b_neg, b_rev, b_join, t_str, is_some, isB_some, byB_true, byB_false, start, wipe, bindT, List.map_cons, List.map_nil, List.cons_append, List.nil_append, List.append_nil, List.getElem?_cons_zero, List.getElem?_cons_succ, List.length_cons, List.length_nil, List.set_cons_zero, List.set_cons_succ, atI_0, atI_1, atI_2, atI_3, List.replicate, Nat.zero_add, Nat.reduceAdd, Nat.reduceSub, seqW_ref, seqW_tup, c_leS, b_iaddI, b_iaddS, b_isub, w_enum, w_zip, w_callv, e_ss, show decide (kRow = [109, 97, 114, 107]) = false from rfl, mkOf, List.append_nil]
        exact ⟨by trivial, r2, k1.trans k2⟩
      | any ps =>
        simp only [enc, w_var, w_c, w_bin, w_cmp, w_chain, w_and, w_or, w_ite, w_not, w_nil, w_cons, w_tup, w_lst, w_ix, w_no, w_yes, w_sl, w_call, w_bi, w_val, w_rng1, w_rng2, s_nil, s_cons, s_ret, s_expr, s_set, s_if, s_pass, s_setix, s_app, s_ext, o_addI, o_addS, o_addT, o_addL, o_sub, o_mulI, o_mulS, o_mulL, o_fdiv, o_mod, o_pow, c_ltI, c_ltS, c_le, c_gt, c_ge, c_eq, c_ne, e_ii, e_ss, e_bb, c_inS, c_notS, i_str, i_tup, i_ref, l_str, l_tup, l_rol, l_ref, b_lenS, b_lenT, b_lenR, b_abs, b_tupR, b_tupT, b_listR, b_listT, b_all, b_any, b_intI, b_intB, b_isiN, b_isiB, b_isiI, b_isiS, b_isiT, b_isiR, b_isiL, b_isN, b_notN, b_neg, b_rev, b_join, t_str, is_some, isB_some, byB_true, byB_false, start, wipe, bindT, List.map_cons, List.map_nil, List.cons_append, List.nil_append, List.append_nil, List.getElem?_cons_zero, List.getElem?_cons_succ, List.length_cons, List.length_nil, List.set_cons_zero, List.set_cons_succ, atI_0, atI_1, atI_2, atI_3, List.replicate, Nat.zero_add, Nat.reduceAdd, Nat.reduceSub, seqW_ref, seqW_tup, c_leS, b_iaddI, b_iaddS, b_isub, w_enum, w_zip, w_callv, e_ss, show decide (kAny = [109, 97, 114, 107]) = false from rfl, mkOf, List.append_nil]
        exact ⟨by trivial, r2, k1.trans k2⟩
      | some lo hi q =>
        simp only [enc, w_var, w_c, w_bin, w_cmp, w_chain, w_and, w_or, w_ite, w_not, w_nil, w_cons, w_tup, w_lst, w_ix, w_no, w_yes, w_sl, w_call, w_bi, w_val, w_rng1, w_rng2, s_nil, s_cons, s_ret, s_expr, s_set, s_if, s_pass, s_setix, s_app, s_ext, o_addI, o_addS, o_addT, o_addL, o_sub, o_mulI, o_mulS, o_mulL, o_fdiv, o_mod, o_pow, c_ltI, c_ltS, c_le, c_gt, c_ge, c_eq, c_ne, e_ii, e_ss, e_bb, c_inS, c_notS, i_str, i_tup, i_ref, l_str, l_tup, l_rol, l_ref, b_lenS, b_lenT, b_lenR, b_abs, b_tupR, b_tupT, b_listR, b_listT, b_all, b_any, b_intI, b_intB, b_isiN, b_isiB, b_isiI, b_isiS, b_isiT, b_isiR, b_isiL, b_isN, b_notN, b_neg, b_rev, b_join, t_str, is_some, isB_some, byB_true, byB_false, start, wipe, bindT, List.map_cons, List.map_nil, List.cons_append, List.nil_append, List.append_nil, List.getElem?_cons_zero, List.getElem?_cons_succ, List.length_cons, List.length_nil, List.set_cons_zero, List.set_cons_succ, atI_0, atI_1, atI_2, atI_3, List.replicate, Nat.zero_add, Nat.reduceAdd, Nat.reduceSub, seqW_ref, seqW_tup, c_leS, b_iaddI, b_iaddS, b_isub, w_enum, w_zip, w_callv, e_ss, show decide (kSome = [109, 97, 114, 107]) = false from rfl, mkOf, List.append_nil]
        exact ⟨by trivial, r2, k1.trans k2⟩
theorem piecesof_spec (Z : GaD ds) (D k : Nat) (p : Pt) (i : Nat) (x : List Nat) (w : Wy) (m : List Pc) (S : Sto) (hd : deep p ≤ D) (hG : Gq p i x w m) (hw : wk (encY w) = true) (hm : m.length ≤ 900000) :
    Is (callF ds (k + D + 2) 127 [enc p, encY w, .int (i : Nat)] S) fun r S' => r = .tup (m.map encPc) ∧ Kp S S' := by
  refine w_callF (k := k + D + 1) Z.h127 rfl ?_
  simp only [b_pieces_of, w_var, w_c, w_bin, w_cmp, w_chain, w_and, w_or, w_ite, w_not, w_nil, w_cons, w_tup, w_lst, w_ix, w_no, w_yes, w_sl, w_call, w_bi, w_val, w_rng1, w_rng2, s_nil, s_cons, s_ret, s_expr, s_set, s_if, s_pass, s_setix, s_app, s_ext, o_addI, o_addS, o_addT, o_addL, o_sub, o_mulI, o_mulS, o_mulL, o_fdiv, o_mod, o_pow, c_ltI, c_ltS, c_le, c_gt, c_ge, c_eq, c_ne, e_ii, e_ss, e_bb, c_inS, c_notS, i_str, i_tup, i_ref, l_str, l_tup, l_rol, l_ref, b_lenS, b_lenT, b_lenR, b_abs, b_tupR, b_tupT, b_listR, b_listT, b_all, b_any, b_intI, b_intB, b_isiN, b_isiB, b_isiI, b_isiS, b_isiT, b_isiR, b_isiL, b_isN, b_notN, b_neg, b_rev, b_join, t_str, is_some, isB_some, byB_true, byB_false, start, wipe, bindT, List.map_cons, List.map_nil, List.cons_append, List.nil_append, List.append_nil, List.getElem?_cons_zero, List.getElem?_cons_succ, List.length_cons, List.length_nil, List.set_cons_zero, List.set_cons_succ, atI_0, atI_1, atI_2, atI_3, List.replicate, Nat.zero_add, Nat.reduceAdd, Nat.reduceSub, seqW_ref, seqW_tup, c_leS, b_iaddI, b_iaddS, b_isub, w_enum, w_zip, w_callv]
  refine ⟨by simp [LIM], ?_⟩
  refine (gather_spec Z D k p i x w m (S ++ [SO.lst []]) S.length [] hd hG hw (by simp [rdL_new]) (by simpa using hm)).imp fun r S1 hr => ?_
  obtain ⟨rfl, r1, k1⟩ := hr
  try simp only [w_var, w_c, w_bin, w_cmp, w_chain, w_and, w_or, w_ite, w_not, w_nil, w_cons, w_tup, w_lst, w_ix, w_no, w_yes, w_sl, w_call, w_bi, w_val, w_rng1, w_rng2, s_nil, s_cons, s_ret, s_expr, s_set, s_if, s_pass, s_setix, s_app, s_ext, o_addI, o_addS, o_addT, o_addL, o_sub, o_mulI, o_mulS, o_mulL, o_fdiv, o_mod, o_pow, c_ltI, c_ltS, c_le, c_gt, c_ge, c_eq, c_ne, e_ii, e_ss, e_bb, c_inS, c_notS, i_str, i_tup, i_ref, l_str, l_tup, l_rol, l_ref, b_lenS, b_lenT, b_lenR, b_abs, b_tupR, b_tupT, b_listR, b_listT, b_all, b_any, b_intI, b_intB, b_isiN, b_isiB, b_isiI, b_isiS, b_isiT, b_isiR, b_isiL, b_isN, b_notN, b_neg, b_rev, b_join, t_str, is_some, isB_some, byB_true, byB_false, start, wipe, bindT, List.map_cons, List.map_nil, List.cons_append, List.nil_append, List.append_nil, List.getElem?_cons_zero, List.getElem?_cons_succ, List.length_cons, List.length_nil, List.set_cons_zero, List.set_cons_succ, atI_0, atI_1, atI_2, atI_3, List.replicate, Nat.zero_add, Nat.reduceAdd, Nat.reduceSub, seqW_ref, seqW_tup, c_leS, b_iaddI, b_iaddS, b_isub, w_enum, w_zip, w_callv]
  rw [show ([] ++ m) = m from rfl] at r1
  simp only [r1]
  refine ⟨by trivial, ⟨?_, fun j hj => ?_⟩⟩
  · have := k1.1; simp at this; omega
  · rw [k1.2 j (by simp; omega) (by omega), List.getElem?_append_left hj]
end
end Pg
namespace Pg
open MP
section
variable {ds : Nat → Option Def}
def heads (ps : List Pt) : List (List Nat) := ps.flatMap fun q => sortU (marks q)
theorem heads_len : ∀ ps : List Pt, (heads ps).length ≤ (markss ps).length
  | [] => Nat.le_refl _
  | p :: r => by
    have h1 := heads_len r
    have h2 := len_sortU (marks p)
    rw [heads, List.flatMap_cons, List.length_append, markss, List.length_append]
    exact Nat.add_le_add h2 h1
theorem heads_mem {z : List Nat} : ∀ ps : List Pt, z ∈ heads ps ↔ z ∈ markss ps
  | [] => Iff.rfl
  | p :: r => by
    rw [heads, List.flatMap_cons, List.mem_append, markss, List.mem_append, mem_sortU]
    exact or_congr Iff.rfl (heads_mem r)
theorem heads13_spec (h130 : ds 130 = some ⟨1, 4, b_law_heads⟩) : ∀ (D k : Nat) (p : Pt) (S : Sto), deep p ≤ D → size p ≤ 60 → Is (callF ds (k + D + 1) 130 [enc p] S) fun w S' => ∃ f, w = .ref f ∧ S.length ≤ f ∧ rdL S' f = some ((sortU (marks p)).map .str) ∧ Kp S S' := by
  intro D
  induction D with
  | zero => intro k p S hd; have := deep_pos p; omega
  | succ D IH =>
  intro k p S hd hs
  refine w_callF (k := k + D + 1) h130 rfl ?_
  have hml := marks_len p
  have core : ∀ (ps : List Pt) (own : List (List Nat)) (P : W) (g : Nat) (S1 : Sto), Kp S S1 → deeps ps ≤ D → sizes ps ≤ 60 → rdL S1 g = some (own.map .str) → marks p = own ++ markss ps → (P = .tup (encs ps) ∨ ∃ f, P = .ref f ∧ rdL S1 f = some (encs ps)) →
      IsS (exs (callF ds (k + D + 1)) (.cons (.for_ [3] (.val (.var 1)) (.cons (.set [2] (.bin .add (.var 2) (.call 130 (.cons (.var 3) .nil)))) .nil)) (.cons (.ret (.bi .sset (.cons (.var 2) .nil))) .nil)) [some (enc p), some P, some (.ref g), none] S1) (fun _ _ => False) fun w S' => ∃ f, w = .ref f ∧ S.length ≤ f ∧ rdL S' f = some ((sortU (marks p)).map .str) ∧ Kp S S' := by
    intro ps own P g S1 h1 hdp hsp hg hm hP
    have rdP : ∀ S2, Kp S1 S2 → P = .tup (encs ps) ∨ ∃ f, P = .ref f ∧ rdL S2 f = some (encs ps) := fun S2 k2 => by
      rcases hP with h | ⟨f, h1, h2⟩
      · exact .inl h
      · exact .inr ⟨f, h1, rdL_of (k2.get (rdL_iff.mp h2))⟩
    have lenP : ∀ S2, Kp S1 S2 → (Src.seq P).len S2 = some ps.length := fun S2 kk => by
      rcases rdP S2 kk with e | ⟨f, e, e2⟩
      · rw [e]; simp only [Src.len, encs_len]
      · rw [e]; simp only [Src.len, e2, Option.map_some, encs_len]
    have itP : ∀ S2 (j : Nat) (hj : j < ps.length), Kp S1 S2 → (Src.seq P).item S2 j = some (enc ps[j]) := fun S2 j hj kk => by
      have e0 : (encs ps)[j]? = some (enc ps[j]) := by rw [encs_map, List.getElem?_map, List.getElem?_eq_getElem hj]; rfl
      rcases rdP S2 kk with e | ⟨f, e, e2⟩
      · rw [e]; simp only [Src.item, e0]
      · rw [e]; simp only [Src.item, e2, Option.bind_some, e0]
    try simp only [w_var, w_c, w_bin, w_cmp, w_chain, w_and, w_or, w_ite, w_not, w_nil, w_cons, w_tup, w_lst, w_ix, w_no, w_yes, w_sl, w_call, w_bi, w_val, w_rng1, w_rng2, s_nil, s_cons, s_ret, s_expr, s_set, s_if, s_pass, s_setix, s_app, s_ext, o_addI, o_addS, o_addT, o_addL, o_sub, o_mulI, o_mulS, o_mulL, o_fdiv, o_mod, o_pow, c_ltI, c_ltS, c_le, c_gt, c_ge, c_eq, c_ne, e_ii, e_ss, e_bb, c_inS, c_notS, i_str, i_tup, i_ref, l_str, l_tup, l_rol, l_ref, b_lenS, b_lenT, b_lenR, b_abs, b_tupR, b_tupT, b_listR, b_listT, b_all, b_any, b_intI, b_intB, b_isiN, b_isiB, b_isiI, b_isiS, b_isiT, b_isiR, b_isiL, b_isN, b_notN, b_neg, b_rev, b_join, t_str, is_some, isB_some, byB_true, byB_false, start, wipe, bindT, List.map_cons, List.map_nil, List.cons_append, List.nil_append, List.append_nil, List.getElem?_cons_zero, List.getElem?_cons_succ, List.length_cons, List.length_nil, List.set_cons_zero, List.set_cons_succ, atI_0, atI_1, atI_2, atI_3, List.replicate, Nat.zero_add, Nat.reduceAdd, Nat.reduceSub, seqW_ref, seqW_tup, c_leS, b_iaddI, b_iaddS, b_isub, w_enum, w_zip, w_callv]
    refine w_forX ?_
    try simp only [w_var, w_c, w_bin, w_cmp, w_chain, w_and, w_or, w_ite, w_not, w_nil, w_cons, w_tup, w_lst, w_ix, w_no, w_yes, w_sl, w_call, w_bi, w_val, w_rng1, w_rng2, s_nil, s_cons, s_ret, s_expr, s_set, s_if, s_pass, s_setix, s_app, s_ext, o_addI, o_addS, o_addT, o_addL, o_sub, o_mulI, o_mulS, o_mulL, o_fdiv, o_mod, o_pow, c_ltI, c_ltS, c_le, c_gt, c_ge, c_eq, c_ne, e_ii, e_ss, e_bb, c_inS, c_notS, i_str, i_tup, i_ref, l_str, l_tup, l_rol, l_ref, b_lenS, b_lenT, b_lenR, b_abs, b_tupR, b_tupT, b_listR, b_listT, b_all, b_any, b_intI, b_intB, b_isiN, b_isiB, b_isiI, b_isiS, b_isiT, b_isiR, b_isiL, b_isN, b_notN, b_neg, b_rev, b_join, t_str, is_some, isB_some, byB_true, byB_false, start, wipe, bindT, List.map_cons, List.map_nil, List.cons_append, List.nil_append, List.append_nil, List.getElem?_cons_zero, List.getElem?_cons_succ, List.length_cons, List.length_nil, List.set_cons_zero, List.set_cons_succ, atI_0, atI_1, atI_2, atI_3, List.replicate, Nat.zero_add, Nat.reduceAdd, Nat.reduceSub, seqW_ref, seqW_tup, c_leS, b_iaddI, b_iaddS, b_isub, w_enum, w_zip, w_callv]
    have hml2 := heads_len ps
    have hml3 : (marks p).length = own.length + (markss ps).length := by rw [hm, List.length_append]
    refine ⟨ps.length, fun i env S' => ∃ g1 x3, env = [some (enc p), some P, some (.ref g1), x3] ∧ rdL S' g1 = some ((own ++ heads (ps.take i)).map .str) ∧ Kp S1 S', lenP S1 (.refl _), ⟨g, none, rfl, by rw [List.take_zero]; simpa [heads] using hg, .refl _⟩, fun i env S' hi hI => ?_, fun env S' hI => ?_⟩
    · obtain ⟨g1, x3, rfl, r1, f3⟩ := hI
      have hmm : ps[i] ∈ ps := List.getElem_mem hi
      have q1 := deep_mem hmm
      have q2 := size_mem hmm
      have ht : ps.take (i + 1) = ps.take i ++ [ps[i]] := by rw [List.take_add_one, List.getElem?_eq_getElem hi]; rfl
      have hh : heads (ps.take (i + 1)) = heads (ps.take i) ++ sortU (marks ps[i]) := by rw [ht, heads, heads, List.flatMap_append]; simp only [List.flatMap_cons, List.flatMap_nil, List.append_nil]
      refine ⟨enc ps[i], _, itP S' i hi f3, rfl, ?_⟩
      try simp only [w_var, w_c, w_bin, w_cmp, w_chain, w_and, w_or, w_ite, w_not, w_nil, w_cons, w_tup, w_lst, w_ix, w_no, w_yes, w_sl, w_call, w_bi, w_val, w_rng1, w_rng2, s_nil, s_cons, s_ret, s_expr, s_set, s_if, s_pass, s_setix, s_app, s_ext, o_addI, o_addS, o_addT, o_addL, o_sub, o_mulI, o_mulS, o_mulL, o_fdiv, o_mod, o_pow, c_ltI, c_ltS, c_le, c_gt, c_ge, c_eq, c_ne, e_ii, e_ss, e_bb, c_inS, c_notS, i_str, i_tup, i_ref, l_str, l_tup, l_rol, l_ref, b_lenS, b_lenT, b_lenR, b_abs, b_tupR, b_tupT, b_listR, b_listT, b_all, b_any, b_intI, b_intB, b_isiN, b_isiB, b_isiI, b_isiS, b_isiT, b_isiR, b_isiL, b_isN, b_notN, b_neg, b_rev, b_join, t_str, is_some, isB_some, byB_true, byB_false, start, wipe, bindT, List.map_cons, List.map_nil, List.cons_append, List.nil_append, List.append_nil, List.getElem?_cons_zero, List.getElem?_cons_succ, List.length_cons, List.length_nil, List.set_cons_zero, List.set_cons_succ, atI_0, atI_1, atI_2, atI_3, List.replicate, Nat.zero_add, Nat.reduceAdd, Nat.reduceSub, seqW_ref, seqW_tup, c_leS, b_iaddI, b_iaddS, b_isub, w_enum, w_zip, w_callv]
      refine (IH k ps[i] S' (by omega) (by omega)).imp fun w S2 hw => ?_
      obtain ⟨f, rfl, _, e1, e2⟩ := hw
      try simp only [w_var, w_c, w_bin, w_cmp, w_chain, w_and, w_or, w_ite, w_not, w_nil, w_cons, w_tup, w_lst, w_ix, w_no, w_yes, w_sl, w_call, w_bi, w_val, w_rng1, w_rng2, s_nil, s_cons, s_ret, s_expr, s_set, s_if, s_pass, s_setix, s_app, s_ext, o_addI, o_addS, o_addT, o_addL, o_sub, o_mulI, o_mulS, o_mulL, o_fdiv, o_mod, o_pow, c_ltI, c_ltS, c_le, c_gt, c_ge, c_eq, c_ne, e_ii, e_ss, e_bb, c_inS, c_notS, i_str, i_tup, i_ref, l_str, l_tup, l_rol, l_ref, b_lenS, b_lenT, b_lenR, b_abs, b_tupR, b_tupT, b_listR, b_listT, b_all, b_any, b_intI, b_intB, b_isiN, b_isiB, b_isiI, b_isiS, b_isiT, b_isiR, b_isiL, b_isN, b_notN, b_neg, b_rev, b_join, t_str, is_some, isB_some, byB_true, byB_false, start, wipe, bindT, List.map_cons, List.map_nil, List.cons_append, List.nil_append, List.append_nil, List.getElem?_cons_zero, List.getElem?_cons_succ, List.length_cons, List.length_nil, List.set_cons_zero, List.set_cons_succ, atI_0, atI_1, atI_2, atI_3, List.replicate, Nat.zero_add, Nat.reduceAdd, Nat.reduceSub, seqW_ref, seqW_tup, c_leS, b_iaddI, b_iaddS, b_isub, w_enum, w_zip, w_callv, rdL_of (e2.get (rdL_iff.mp r1)), e1]
      have hl2 : (heads (ps.take (i + 1))).length ≤ (markss ps).length := by
        refine Nat.le_trans (heads_len _) ?_
        conv => rhs; rw [← List.take_append_drop (i + 1) ps, markss_app, List.length_append]
        omega
      rw [hh, List.length_append] at hl2
      refine ⟨by simp only [List.length_append, List.length_map, LIM]; omega, _, _, rfl, ?_, (f3.trans e2).snoc _⟩
      rw [rdL_new, hh]
      simp
    · obtain ⟨g1, x3, rfl, r1, f3⟩ := hI
      rw [List.take_length] at r1
      refine ⟨⟨_, Nat.le_refl _, lenP S' f3⟩, ?_⟩
      try simp only [w_var, w_c, w_bin, w_cmp, w_chain, w_and, w_or, w_ite, w_not, w_nil, w_cons, w_tup, w_lst, w_ix, w_no, w_yes, w_sl, w_call, w_bi, w_val, w_rng1, w_rng2, s_nil, s_cons, s_ret, s_expr, s_set, s_if, s_pass, s_setix, s_app, s_ext, o_addI, o_addS, o_addT, o_addL, o_sub, o_mulI, o_mulS, o_mulL, o_fdiv, o_mod, o_pow, c_ltI, c_ltS, c_le, c_gt, c_ge, c_eq, c_ne, e_ii, e_ss, e_bb, c_inS, c_notS, i_str, i_tup, i_ref, l_str, l_tup, l_rol, l_ref, b_lenS, b_lenT, b_lenR, b_abs, b_tupR, b_tupT, b_listR, b_listT, b_all, b_any, b_intI, b_intB, b_isiN, b_isiB, b_isiI, b_isiS, b_isiT, b_isiR, b_isiL, b_isN, b_notN, b_neg, b_rev, b_join, t_str, is_some, isB_some, byB_true, byB_false, start, wipe, bindT, List.map_cons, List.map_nil, List.cons_append, List.nil_append, List.append_nil, List.getElem?_cons_zero, List.getElem?_cons_succ, List.length_cons, List.length_nil, List.set_cons_zero, List.set_cons_succ, atI_0, atI_1, atI_2, atI_3, List.replicate, Nat.zero_add, Nat.reduceAdd, Nat.reduceSub, seqW_ref, seqW_tup, c_leS, b_iaddI, b_iaddS, b_isub, w_enum, w_zip, w_callv]
      rw [b_sset r1 (by rw [List.length_append]; omega)]
      refine ⟨_, rfl, Nat.le_trans h1.1 f3.1, ?_, (h1.trans f3).snoc _⟩
      rw [rdL_new, hm, sortU_congr (a := own ++ heads ps) (b := own ++ markss ps) fun z => by rw [List.mem_append, List.mem_append, heads_mem]]
  cases p with
  | sign s =>
    simp only [b_law_heads, w_var, w_c, w_bin, w_cmp, w_chain, w_and, w_or, w_ite, w_not, w_nil, w_cons, w_tup, w_lst, w_ix, w_no, w_yes, w_sl, w_call, w_bi, w_val, w_rng1, w_rng2, s_nil, s_cons, s_ret, s_expr, s_set, s_if, s_pass, s_setix, s_app, s_ext, o_addI, o_addS, o_addT, o_addL, o_sub, o_mulI, o_mulS, o_mulL, o_fdiv, o_mod, o_pow, c_ltI, c_ltS, c_le, c_gt, c_ge, c_eq, c_ne, e_ii, e_ss, e_bb, c_inS, c_notS, i_str, i_tup, i_ref, l_str, l_tup, l_rol, l_ref, b_lenS, b_lenT, b_lenR, b_abs, b_tupR, b_tupT, b_listR, b_listT, b_all, b_any, b_intI, b_intB, b_isiN, b_isiB, b_isiI, b_isiS, b_isiT, b_isiR, b_isiL, b_isN, b_notN, b_neg, b_rev, b_join, t_str, is_some, isB_some, byB_true, byB_false, start, wipe, bindT, List.map_cons, List.map_nil, List.cons_append, List.nil_append, List.append_nil, List.getElem?_cons_zero, List.getElem?_cons_succ, List.length_cons, List.length_nil, List.set_cons_zero, List.set_cons_succ, atI_0, atI_1, atI_2, atI_3, List.replicate, Nat.zero_add, Nat.reduceAdd, Nat.reduceSub, seqW_ref, seqW_tup, c_leS, b_iaddI, b_iaddS, b_isub, w_enum, w_zip, w_callv, enc, e_ss, decide_true]
    exact ⟨by simp [LIM], _, rfl, Nat.le_refl _, by rw [rdL_new]; rfl, .app _ _⟩
  | row ps =>
    simp only [deep] at hd
    simp only [size] at hs
    have C := core ps [] (.tup (encs ps)) S.length (S ++ [.lst []]) (.app _ _) (by omega) (by omega) (rdL_new _ _) (by simp [marks]) (.inl rfl)
    try simp only [w_var, w_c, w_bin, w_cmp, w_chain, w_and, w_or, w_ite, w_not, w_nil, w_cons, w_tup, w_lst, w_ix, w_no, w_yes, w_sl, w_call, w_bi, w_val, w_rng1, w_rng2, s_nil, s_cons, s_ret, s_expr, s_set, s_if, s_pass, s_setix, s_app, s_ext, o_addI, o_addS, o_addT, o_addL, o_sub, o_mulI, o_mulS, o_mulL, o_fdiv, o_mod, o_pow, c_ltI, c_ltS, c_le, c_gt, c_ge, c_eq, c_ne, e_ii, e_ss, e_bb, c_inS, c_notS, i_str, i_tup, i_ref, l_str, l_tup, l_rol, l_ref, b_lenS, b_lenT, b_lenR, b_abs, b_tupR, b_tupT, b_listR, b_listT, b_all, b_any, b_intI, b_intB, b_isiN, b_isiB, b_isiI, b_isiS, b_isiT, b_isiR, b_isiL, b_isN, b_notN, b_neg, b_rev, b_join, t_str, is_some, isB_some, byB_true, byB_false, start, wipe, bindT, List.map_cons, List.map_nil, List.cons_append, List.nil_append, List.append_nil, List.getElem?_cons_zero, List.getElem?_cons_succ, List.length_cons, List.length_nil, List.set_cons_zero, List.set_cons_succ, atI_0, atI_1, atI_2, atI_3, List.replicate, Nat.zero_add, Nat.reduceAdd, Nat.reduceSub, seqW_ref, seqW_tup, c_leS, b_iaddI, b_iaddS, b_isub, w_enum, w_zip, w_callv, enc] at C
    simp only [b_law_heads, w_var, w_c, w_bin, w_cmp, w_chain, w_and, w_or, w_ite, w_not, w_nil, w_cons, w_tup, w_lst, w_ix, w_no, w_yes, w_sl, w_call, w_bi, w_val, w_rng1, w_rng2, s_nil, s_cons, s_ret, s_expr, s_set, s_if, s_pass, s_setix, s_app, s_ext, o_addI, o_addS, o_addT, o_addL, o_sub, o_mulI, o_mulS, o_mulL, o_fdiv, o_mod, o_pow, c_ltI, c_ltS, c_le, c_gt, c_ge, c_eq, c_ne, e_ii, e_ss, e_bb, c_inS, c_notS, i_str, i_tup, i_ref, l_str, l_tup, l_rol, l_ref, b_lenS, b_lenT, b_lenR, b_abs, b_tupR, b_tupT, b_listR, b_listT, b_all, b_any, b_intI, b_intB, b_isiN, b_isiB, b_isiI, b_isiS, b_isiT, b_isiR, b_isiL, b_isN, b_notN, b_neg, b_rev, b_join, t_str, is_some, isB_some, byB_true, byB_false, start, wipe, bindT, List.map_cons, List.map_nil, List.cons_append, List.nil_append, List.append_nil, List.getElem?_cons_zero, List.getElem?_cons_succ, List.length_cons, List.length_nil, List.set_cons_zero, List.set_cons_succ, atI_0, atI_1, atI_2, atI_3, List.replicate, Nat.zero_add, Nat.reduceAdd, Nat.reduceSub, seqW_ref, seqW_tup, c_leS, b_iaddI, b_iaddS, b_isub, w_enum, w_zip, w_callv, enc, e_ss, show decide (kRow = [115, 105, 103, 110]) = false from rfl, show decide (kRow = [115, 111, 109, 101]) = false from rfl, show decide (kRow = [109, 97, 114, 107]) = false from rfl]
    exact ⟨by simp [LIM], C⟩
  | any ps =>
    simp only [deep] at hd
    simp only [size] at hs
    have C := core ps [] (.tup (encs ps)) S.length (S ++ [.lst []]) (.app _ _) (by omega) (by omega) (rdL_new _ _) (by simp [marks]) (.inl rfl)
    try simp only [w_var, w_c, w_bin, w_cmp, w_chain, w_and, w_or, w_ite, w_not, w_nil, w_cons, w_tup, w_lst, w_ix, w_no, w_yes, w_sl, w_call, w_bi, w_val, w_rng1, w_rng2, s_nil, s_cons, s_ret, s_expr, s_set, s_if, s_pass, s_setix, s_app, s_ext, o_addI, o_addS, o_addT, o_addL, o_sub, o_mulI, o_mulS, o_mulL, o_fdiv, o_mod, o_pow, c_ltI, c_ltS, c_le, c_gt, c_ge, c_eq, c_ne, e_ii, e_ss, e_bb, c_inS, c_notS, i_str, i_tup, i_ref, l_str, l_tup, l_rol, l_ref, b_lenS, b_lenT, b_lenR, b_abs, b_tupR, b_tupT, b_listR, b_listT, b_all, b_any, b_intI, b_intB, b_isiN, b_isiB, b_isiI, b_isiS, b_isiT, b_isiR, b_isiL, b_isN, b_notN, b_neg, b_rev, b_join, t_str, is_some, isB_some, byB_true, byB_false, start, wipe, bindT, List.map_cons, List.map_nil, List.cons_append, List.nil_append, List.append_nil, List.getElem?_cons_zero, List.getElem?_cons_succ, List.length_cons, List.length_nil, List.set_cons_zero, List.set_cons_succ, atI_0, atI_1, atI_2, atI_3, List.replicate, Nat.zero_add, Nat.reduceAdd, Nat.reduceSub, seqW_ref, seqW_tup, c_leS, b_iaddI, b_iaddS, b_isub, w_enum, w_zip, w_callv, enc] at C
    simp only [b_law_heads, w_var, w_c, w_bin, w_cmp, w_chain, w_and, w_or, w_ite, w_not, w_nil, w_cons, w_tup, w_lst, w_ix, w_no, w_yes, w_sl, w_call, w_bi, w_val, w_rng1, w_rng2, s_nil, s_cons, s_ret, s_expr, s_set, s_if, s_pass, s_setix, s_app, s_ext, o_addI, o_addS, o_addT, o_addL, o_sub, o_mulI, o_mulS, o_mulL, o_fdiv, o_mod, o_pow, c_ltI, c_ltS, c_le, c_gt, c_ge, c_eq, c_ne, e_ii, e_ss, e_bb, c_inS, c_notS, i_str, i_tup, i_ref, l_str, l_tup, l_rol, l_ref, b_lenS, b_lenT, b_lenR, b_abs, b_tupR, b_tupT, b_listR, b_listT, b_all, b_any, b_intI, b_intB, b_isiN, b_isiB, b_isiI, b_isiS, b_isiT, b_isiR, b_isiL, b_isN, b_notN, b_neg, b_rev, b_join, t_str, is_some, isB_some, byB_true, byB_false, start, wipe, bindT, List.map_cons, List.map_nil, List.cons_append, List.nil_append, List.append_nil, List.getElem?_cons_zero, List.getElem?_cons_succ, List.length_cons, List.length_nil, List.set_cons_zero, List.set_cons_succ, atI_0, atI_1, atI_2, atI_3, List.replicate, Nat.zero_add, Nat.reduceAdd, Nat.reduceSub, seqW_ref, seqW_tup, c_leS, b_iaddI, b_iaddS, b_isub, w_enum, w_zip, w_callv, enc, e_ss, show decide (kAny = [115, 105, 103, 110]) = false from rfl, show decide (kAny = [115, 111, 109, 101]) = false from rfl, show decide (kAny = [109, 97, 114, 107]) = false from rfl]
    exact ⟨by simp [LIM], C⟩
  | some lo hi q =>
    simp only [deep] at hd
    simp only [size] at hs
    have C := core [q] [] (.ref (S.length + 1)) S.length ((S ++ [.lst []]) ++ [.lst [enc q]]) ((Kp.app _ _).snoc _) (by simp only [deeps]; omega) (by simp only [sizes]; omega) (rdL_app (rdL_new _ _)) (by simp [marks, markss]) (.inr ⟨_, rfl, by have := rdL_new (S ++ [SO.lst []]) [enc q]; simpa [encs] using this⟩)
    try simp only [w_var, w_c, w_bin, w_cmp, w_chain, w_and, w_or, w_ite, w_not, w_nil, w_cons, w_tup, w_lst, w_ix, w_no, w_yes, w_sl, w_call, w_bi, w_val, w_rng1, w_rng2, s_nil, s_cons, s_ret, s_expr, s_set, s_if, s_pass, s_setix, s_app, s_ext, o_addI, o_addS, o_addT, o_addL, o_sub, o_mulI, o_mulS, o_mulL, o_fdiv, o_mod, o_pow, c_ltI, c_ltS, c_le, c_gt, c_ge, c_eq, c_ne, e_ii, e_ss, e_bb, c_inS, c_notS, i_str, i_tup, i_ref, l_str, l_tup, l_rol, l_ref, b_lenS, b_lenT, b_lenR, b_abs, b_tupR, b_tupT, b_listR, b_listT, b_all, b_any, b_intI, b_intB, b_isiN, b_isiB, b_isiI, b_isiS, b_isiT, b_isiR, b_isiL, b_isN, b_notN, b_neg, b_rev, b_join, t_str, is_some, isB_some, byB_true, byB_false, start, wipe, bindT, List.map_cons, List.map_nil, List.cons_append, List.nil_append, List.append_nil, List.getElem?_cons_zero, List.getElem?_cons_succ, List.length_cons, List.length_nil, List.set_cons_zero, List.set_cons_succ, atI_0, atI_1, atI_2, atI_3, List.replicate, Nat.zero_add, Nat.reduceAdd, Nat.reduceSub, seqW_ref, seqW_tup, c_leS, b_iaddI, b_iaddS, b_isub, w_enum, w_zip, w_callv, enc] at C
    simp only [b_law_heads, w_var, w_c, w_bin, w_cmp, w_chain, w_and, w_or, w_ite, w_not, w_nil, w_cons, w_tup, w_lst, w_ix, w_no, w_yes, w_sl, w_call, w_bi, w_val, w_rng1, w_rng2, s_nil, s_cons, s_ret, s_expr, s_set, s_if, s_pass, s_setix, s_app, s_ext, o_addI, o_addS, o_addT, o_addL, o_sub, o_mulI, o_mulS, o_mulL, o_fdiv, o_mod, o_pow, c_ltI, c_ltS, c_le, c_gt, c_ge, c_eq, c_ne, e_ii, e_ss, e_bb, c_inS, c_notS, i_str, i_tup, i_ref, l_str, l_tup, l_rol, l_ref, b_lenS, b_lenT, b_lenR, b_abs, b_tupR, b_tupT, b_listR, b_listT, b_all, b_any, b_intI, b_intB, b_isiN, b_isiB, b_isiI, b_isiS, b_isiT, b_isiR, b_isiL, b_isN, b_notN, b_neg, b_rev, b_join, t_str, is_some, isB_some, byB_true, byB_false, start, wipe, bindT, List.map_cons, List.map_nil, List.cons_append, List.nil_append, List.append_nil, List.getElem?_cons_zero, List.getElem?_cons_succ, List.length_cons, List.length_nil, List.set_cons_zero, List.set_cons_succ, atI_0, atI_1, atI_2, atI_3, List.replicate, Nat.zero_add, Nat.reduceAdd, Nat.reduceSub, seqW_ref, seqW_tup, c_leS, b_iaddI, b_iaddS, b_isub, w_enum, w_zip, w_callv, enc, e_ss, show decide (kSome = [115, 105, 103, 110]) = false from rfl, decide_true, show decide (kSome = [109, 97, 114, 107]) = false from rfl, show atI [W.str kSome, .int lo, hi, enc q] (-1) = some (enc q) from rfl, List.length_append]
    exact ⟨by simp [LIM], by simp [LIM], C⟩
  | mark n q =>
    simp only [deep] at hd
    simp only [size] at hs
    have C := core [q] [n] (.ref (S.length + 1)) (S.length + 1 + 1) (((S ++ [.lst []]) ++ [.lst [enc q]]) ++ [.lst [.str n]]) (((Kp.app _ _).snoc _).snoc _) (by simp only [deeps]; omega) (by simp only [sizes]; omega) (by have := rdL_new ((S ++ [SO.lst []]) ++ [SO.lst [enc q]]) [W.str n]; simpa using this) (by simp [marks, markss]) (.inr ⟨_, rfl, rdL_app (by have := rdL_new (S ++ [SO.lst []]) [enc q]; simpa [encs] using this)⟩)
    try simp only [w_var, w_c, w_bin, w_cmp, w_chain, w_and, w_or, w_ite, w_not, w_nil, w_cons, w_tup, w_lst, w_ix, w_no, w_yes, w_sl, w_call, w_bi, w_val, w_rng1, w_rng2, s_nil, s_cons, s_ret, s_expr, s_set, s_if, s_pass, s_setix, s_app, s_ext, o_addI, o_addS, o_addT, o_addL, o_sub, o_mulI, o_mulS, o_mulL, o_fdiv, o_mod, o_pow, c_ltI, c_ltS, c_le, c_gt, c_ge, c_eq, c_ne, e_ii, e_ss, e_bb, c_inS, c_notS, i_str, i_tup, i_ref, l_str, l_tup, l_rol, l_ref, b_lenS, b_lenT, b_lenR, b_abs, b_tupR, b_tupT, b_listR, b_listT, b_all, b_any, b_intI, b_intB, b_isiN, b_isiB, b_isiI, b_isiS, b_isiT, b_isiR, b_isiL, b_isN, b_notN, b_neg, b_rev, b_join, t_str, is_some, isB_some, byB_true, byB_false, start, wipe, bindT, List.map_cons, List.map_nil, List.cons_append, List.nil_append, List.append_nil, List.getElem?_cons_zero, List.getElem?_cons_succ, List.length_cons, List.length_nil, List.set_cons_zero, List.set_cons_succ, atI_0, atI_1, atI_2, atI_3, List.replicate, Nat.zero_add, Nat.reduceAdd, Nat.reduceSub, seqW_ref, seqW_tup, c_leS, b_iaddI, b_iaddS, b_isub, w_enum, w_zip, w_callv, enc] at C
    simp only [b_law_heads, w_var, w_c, w_bin, w_cmp, w_chain, w_and, w_or, w_ite, w_not, w_nil, w_cons, w_tup, w_lst, w_ix, w_no, w_yes, w_sl, w_call, w_bi, w_val, w_rng1, w_rng2, s_nil, s_cons, s_ret, s_expr, s_set, s_if, s_pass, s_setix, s_app, s_ext, o_addI, o_addS, o_addT, o_addL, o_sub, o_mulI, o_mulS, o_mulL, o_fdiv, o_mod, o_pow, c_ltI, c_ltS, c_le, c_gt, c_ge, c_eq, c_ne, e_ii, e_ss, e_bb, c_inS, c_notS, i_str, i_tup, i_ref, l_str, l_tup, l_rol, l_ref, b_lenS, b_lenT, b_lenR, b_abs, b_tupR, b_tupT, b_listR, b_listT, b_all, b_any, b_intI, b_intB, b_isiN, b_isiB, b_isiI, b_isiS, b_isiT, b_isiR, b_isiL, b_isN, b_notN, b_neg, b_rev, b_join, t_str, is_some, isB_some, byB_true, byB_false, start, wipe, bindT, List.map_cons, List.map_nil, List.cons_append, List.nil_append, List.append_nil, List.getElem?_cons_zero, List.getElem?_cons_succ, List.length_cons, List.length_nil, List.set_cons_zero, List.set_cons_succ, atI_0, atI_1, atI_2, atI_3, List.replicate, Nat.zero_add, Nat.reduceAdd, Nat.reduceSub, seqW_ref, seqW_tup, c_leS, b_iaddI, b_iaddS, b_isub, w_enum, w_zip, w_callv, enc, e_ss, show decide (kMark = [115, 105, 103, 110]) = false from rfl, decide_true, show decide (kMark = [115, 111, 109, 101]) = false from rfl, show atI [W.str kMark, .str n, enc q] (-1) = some (enc q) from rfl, List.length_append]
    exact ⟨by simp [LIM], by simp [LIM], by simp [LIM], C⟩
end
end Pg
namespace Pg
open MP
/-! ### a name's piece -/
def pv (c : Pc) : W := .tup [.int (c.2.1 : Nat), .int (c.2.2 : Nat)]
def ofN (m : List Pc) (z : List Nat) : List Pc := m.filter fun c => decide (c.1 = z)
/-- the piece of a name, or None -/
def pOf (m : List Pc) (z : List Nat) : W := match ofN m z with
  | c :: _ => pv c
  | [] => .non
theorem ofN_app (a b : List Pc) (z : List Nat) : ofN (a ++ b) z = ofN a z ++ ofN b z := by unfold ofN; rw [List.filter_append]
theorem tmMax_mem {z : List Nat} {q : Pt} : ∀ {ps : List Pt}, q ∈ ps → tm z q ≤ tmMax z ps
  | p :: ps, h => by
    rw [tmMax]
    rcases List.mem_cons.mp h with e | h
    · subst e; omega
    · have := tmMax_mem (z := z) h; omega
theorem tmSum_rep (z : List Nat) (q : Pt) : ∀ n, tmSum z (List.replicate n q) = n * tm z q
  | 0 => by simp [tmSum]
  | n + 1 => by rw [List.replicate_succ, tmSum, tmSum_rep z q n, Nat.succ_mul, Nat.add_comm]
mutual
theorem Gq.once {z : List Nat} : ∀ {p : Pt} {i : Nat} {x : List Nat} {w : Wy} {m : List Pc}, Gq p i x w m → okG p = true → tm z p ≤ 1 → (ofN m z).length ≤ tm z p
  | _, _, _, _, _, .sign _, _, _ => by simp [ofN]
  | .row ps, _, _, _, _, .row h, ho, ht => by
    simp only [okG] at ho
    rw [tm] at ht ⊢
    have := h.once (z := z) ho (by omega)
    omega
  | .any ps, _, _, _, _, .any (p := q) hk h, ho, ht => by
    simp only [okG, Bool.and_eq_true] at ho
    rw [tm] at ht ⊢
    have hm := List.mem_of_getElem? hk
    have h1 := tmMax_mem (z := z) hm
    have := h.once (z := z) (okGs_in ho.2 hm) (by omega)
    omega
  | .some lo hi q, _, _, _, _, .some (ws := ws) ht0 hh h, ho, ht => by
    simp only [okG, Bool.and_eq_true] at ho
    rw [tm] at ht ⊢
    have e := tmSum_rep z q ws.length
    split at ht
    · omega
    · rename_i hc
      rw [if_neg hc]
      cases hi with
      | non =>
        have h0 : tm z q = 0 := by
          by_cases c : 0 < tm z q
          · exact absurd ⟨rfl, c⟩ hc
          · omega
        rw [h0, Nat.mul_zero] at e
        have := h.once (z := z) (okGs_rp _ ho.2) (by omega)
        omega
      | int v =>
        have hv : lo = 0 ∧ v = 1 := by have := ho.1; simpa [okT] using this
        simp only [hiOk, decide_eq_true_eq, hv.2] at hh
        have hw : ws.length = 0 ∨ ws.length = 1 := by omega
        have e' : ws.length * tm z q ≤ tm z q := by
          rcases hw with c | c
          · rw [c, Nat.zero_mul]; exact Nat.zero_le _
          · rw [c, Nat.one_mul]; exact Nat.le_refl _
        have := h.once (z := z) (okGs_rp _ ho.2) (by omega)
        omega
      | _ => have := ho.1; simp [okT] at this
  | .mark n q, i, x, _, _, .mark h, ho, ht => by
    simp only [okG, Bool.and_eq_true] at ho
    rw [tm] at ht ⊢
    rw [ofN_app, List.length_append]
    by_cases c : n = z
    · rw [if_pos c] at ht ⊢
      have := h.once (z := z) ho.2 (by omega)
      have e : (ofN [(n, i, i + x.length)] z).length ≤ 1 := List.length_filter_le _ _
      omega
    · rw [if_neg c] at ht ⊢
      have := h.once (z := z) ho.2 (by omega)
      simp only [ofN, List.filter_cons, decide_eq_false c, Bool.false_eq_true, if_false, List.filter_nil, List.length_nil] at this ⊢
      omega
theorem Gqs.once {z : List Nat} : ∀ {ps : List Pt} {i : Nat} {x : List Nat} {ws : List Wy} {m : List Pc}, Gqs ps i x ws m → okGs ps = true → tmSum z ps ≤ 1 → (ofN m z).length ≤ tmSum z ps
  | _, _, _, _, _, .nil, _, _ => by simp [ofN]
  | p :: ps, _, _, _, _, .cons h t, ho, ht => by
    simp only [okGs, Bool.and_eq_true] at ho
    rw [tmSum] at ht ⊢
    rw [ofN_app, List.length_append]
    have h1 := h.once (z := z) ho.1 (by omega)
    have h2 := t.once (z := z) ho.2 (by omega)
    omega
end
mutual
/-- names of small letters -/
theorem Gq.low : ∀ {p : Pt} {i : Nat} {x : List Nat} {w : Wy} {m : List Pc}, Gq p i x w m → okG p = true → ∀ c ∈ m, (c.1.all fun c => decide (c < 128)) = true
  | _, _, _, _, _, .sign _, _, c, hc => by simp at hc
  | .row ps, _, _, _, _, .row h, ho, c, hc => by
    simp only [okG] at ho
    exact h.low ho c hc
  | .any ps, _, _, _, _, .any hk h, ho, c, hc => by
    simp only [okG, Bool.and_eq_true] at ho
    exact h.low (okGs_in ho.2 (List.mem_of_getElem? hk)) c hc
  | .some lo hi q, _, _, _, _, .some _ _ h, ho, c, hc => by
    simp only [okG, Bool.and_eq_true] at ho
    exact h.low (okGs_rp _ ho.2) c hc
  | .mark n q, _, _, _, _, .mark h, ho, c, hc => by
    simp only [okG, Bool.and_eq_true] at ho
    rcases List.mem_append.mp hc with hc | hc
    · exact h.low ho.2 c hc
    · rw [List.mem_singleton.mp hc]
      refine List.all_eq_true.mpr fun y hy => ?_
      have := List.all_eq_true.mp ho.1 y hy
      simp only [Bool.and_eq_true, decide_eq_true_eq] at this ⊢
      omega
theorem Gqs.low : ∀ {ps : List Pt} {i : Nat} {x : List Nat} {ws : List Wy} {m : List Pc}, Gqs ps i x ws m → okGs ps = true → ∀ c ∈ m, (c.1.all fun c => decide (c < 128)) = true
  | _, _, _, _, _, .nil, _, c, hc => by simp at hc
  | p :: ps, _, _, _, _, .cons h t, ho, c, hc => by
    simp only [okGs, Bool.and_eq_true] at ho
    rcases List.mem_append.mp hc with hc | hc
    · exact h.low ho.1 c hc
    · exact t.low ho.2 c hc
end
/-! the dict of the pieces -/
theorem atT_rep (x : List Nat) (w : W) (z : List Nat) : ∀ acc : List (List Nat × W), atT (acc.map fun p => if p.1 = x then (p.1, w) else p) z = if x = z ∧ (acc.any fun p => decide (p.1 = x)) = true then w else atT acc z
  | [] => by simp [atT]
  | (y, u) :: r => by
    have ih := atT_rep x w z r
    by_cases c : y = x
    · subst c
      by_cases d : y = z
      · simp [atT, d]
      · have d' : ¬ z = y := fun e => d e.symm
        simp only [List.map_cons, if_true, atT, if_neg d', ih, d, false_and, if_false]
    · simp only [List.map_cons, if_neg c, atT, ih, List.any_cons, decide_eq_false c, Bool.false_or]
      by_cases d : z = y
      · have e : ¬ x = z := fun h => c (by rw [h, d])
        simp [d, e]
        intro h1; exact absurd h1.symm c
      · simp only [if_neg d]
theorem atT_snoc (x : List Nat) (w : W) (z : List Nat) : ∀ acc : List (List Nat × W), (acc.any fun p => decide (p.1 = x)) = false → atT (acc ++ [(x, w)]) z = if x = z then w else atT acc z
  | [], _ => by
    simp only [List.nil_append, atT]
    by_cases d : x = z
    · rw [if_pos d, if_pos d.symm]
    · rw [if_neg d, if_neg (fun e => d e.symm)]
  | (y, u) :: r, h => by
    simp only [List.any_cons, Bool.or_eq_false_iff, decide_eq_false_iff_not] at h
    have ih := atT_snoc x w z r h.2
    simp only [List.cons_append, atT, ih]
    by_cases d : z = y
    · have e : ¬ x = z := fun h1 => h.1 (by rw [h1, d])
      rw [if_pos d, if_neg e]
      rw [if_pos d]
    · rw [if_neg d, if_neg d]
theorem atT_put (acc : List (List Nat × W)) (x : List Nat) (w : W) (z : List Nat) : atT (putD acc x w) z = if x = z then w else atT acc z := by
  unfold putD
  cases h : (acc.any fun p => decide (p.1 = x))
  · rw [if_neg Bool.false_ne_true]
    exact atT_snoc x w z acc h
  · rw [if_pos rfl, atT_rep, h]
    simp
def dOf (acc : List (List Nat × W)) (m : List Pc) : List (List Nat × W) := m.foldl (fun a c => putD a c.1 (pv c)) acc
theorem dOf_at (z : List Nat) : ∀ (m : List Pc) (acc : List (List Nat × W)), atT (dOf acc m) z = (ofN m z).foldl (fun _ c => pv c) (atT acc z)
  | [], acc => rfl
  | c :: m, acc => by
    rw [dOf, List.foldl_cons]
    have ih := dOf_at z m (putD acc c.1 (pv c))
    rw [dOf] at ih
    rw [ih, atT_put]
    unfold ofN
    by_cases d : c.1 = z
    · rw [if_pos d, List.filter_cons, if_pos (by simpa using d), List.foldl_cons]
    · rw [if_neg d, List.filter_cons, if_neg (by simpa using d)]
theorem dOf_p (z : List Nat) (m : List Pc) (h : (ofN m z).length ≤ 1) : atT (dOf [] m) z = pOf m z := by
  rw [dOf_at]
  unfold pOf
  match ofN m z, h with
  | [], _ => rfl
  | [c], _ => rfl
/-! things that are equal to themselves -/
mutual
theorem D.refl : ∀ d : D, D.eqv d d = true
  | .non => rfl
  | .bl b => by cases b <;> rfl
  | .int i => by simp [D.eqv]
  | .str x => by simp [D.eqv]
  | .lst xs => by simp only [D.eqv]; exact D.refls xs
  | .tup xs => by simp only [D.eqv]; exact D.refls xs
theorem D.refls : ∀ ds : List D, D.eqvs ds ds = true
  | [] => rfl
  | d :: r => by simp only [D.eqvs, D.refl d, D.refls r, Bool.and_self]
end
theorem eqW_tup {S : Sto} {ws : List W} {ds : List D} (h : dats (dat S 59) ws = some ds) : eqW S (.tup ws) (.tup ws) = some true := by
  simp only [eqW, dat, h, Option.map_some, D.refl]
theorem eqW_lst {S : Sto} {a b : Nat} {ws : List W} {ds : List D} (ha : rdL S a = some ws) (hb : rdL S b = some ws) (h : dats (dat S 59) ws = some ds) : eqW S (.ref a) (.ref b) = some true := by
  simp only [eqW, dat, ha, hb, h, Option.map_some, D.refl]
theorem dats_pcs {S : Sto} {n : Nat} : ∀ m : List Pc, (∀ c ∈ m, (c.1.all fun c => decide (c < 128)) = true) → ∃ ds, dats (dat S (n + 1)) (m.map encPc) = some ds
  | [], _ => ⟨[], rfl⟩
  | c :: m, h => by
    obtain ⟨ds, e⟩ := dats_pcs (S := S) (n := n) m fun c hc => h c (List.mem_cons_of_mem _ hc)
    have e1 : ∀ i : Int, dat S n (.int i) = some (.int i) := fun i => by cases n <;> simp only [dat]
    exact ⟨_ :: ds, by simp only [List.map_cons, encPc, dats, dat, dat_str (h c (List.mem_cons_self ..)), e1, Option.map_some, e]; rfl⟩
theorem dats_row {S : Sto} {n : Nat} (m : List Pc) : ∀ zs : List (List Nat), ∃ ds, dats (dat S (n + 1)) (zs.map (pOf m)) = some ds
  | [] => ⟨[], rfl⟩
  | z :: zs => by
    obtain ⟨ds, e⟩ := dats_row (S := S) (n := n) m zs
    have e1 : ∀ i : Int, dat S n (.int i) = some (.int i) := fun i => by cases n <;> simp only [dat]
    have h : ∃ d, dat S (n + 1) (pOf m z) = some d := by
      unfold pOf
      split
      · exact ⟨_, by simp only [pv, dat, dats, e1, Option.map_some]; rfl⟩
      · exact ⟨.non, rfl⟩
    obtain ⟨d, hd⟩ := h
    exact ⟨d :: ds, by simp only [List.map_cons, dats, hd, e]⟩
section
variable {ds : Nat → Option Def}
structure RwD (ds : Nat → Option Def) : Prop where
  ga : GaD ds
  h20 : ds 20 = some ⟨1, 2, b_parts_of⟩
  h35 : ds 35 = some ⟨1, 1, b_forms_of⟩ ∧ ds 560 = some ⟨2, 4, b_forms_within⟩
  h36 : ds 36 = some ⟨1, 2, b_names_of⟩
  h562 : ds 562 = some ⟨2, 6, b_row_of_v3⟩
theorem rowof_spec (Z : RwD ds) (D k : Nat) (p : Pt) (x : List Nat) (w : Wy) (m : List Pc) (S : Sto) (hd : deep p ≤ D) (hsz : size p ≤ 60) (ho : okG p = true) (ht : ∀ z, tm z p ≤ 1) (hG : Gq p 0 x w m) (hw : wk (encY w) = true) (hm : m.length ≤ 900000) :
    Is (callF ds (k + D + 4) 562 [enc p, encY w] S) fun r S' => r = .tup ((sortU (marks p)).map (pOf m)) ∧ Kp S S' := by
  refine w_callF (k := k + D + 3) Z.h562 rfl ?_
  simp only [b_row_of_v3, s_cons, s_set]
  refine w_dcompX ?_
  try simp only [w_var, w_c, w_bin, w_cmp, w_chain, w_and, w_or, w_ite, w_not, w_nil, w_cons, w_tup, w_lst, w_ix, w_no, w_yes, w_sl, w_call, w_bi, w_val, w_rng1, w_rng2, s_nil, s_cons, s_ret, s_expr, s_set, s_if, s_pass, s_setix, s_app, s_ext, o_addI, o_addS, o_addT, o_addL, o_sub, o_mulI, o_mulS, o_mulL, o_fdiv, o_mod, o_pow, c_ltI, c_ltS, c_le, c_gt, c_ge, c_eq, c_ne, e_ii, e_ss, e_bb, c_inS, c_notS, i_str, i_tup, i_ref, l_str, l_tup, l_rol, l_ref, b_lenS, b_lenT, b_lenR, b_abs, b_tupR, b_tupT, b_listR, b_listT, b_all, b_any, b_intI, b_intB, b_isiN, b_isiB, b_isiI, b_isiS, b_isiT, b_isiR, b_isiL, b_isN, b_notN, b_neg, b_rev, b_join, t_str, is_some, isB_some, byB_true, byB_false, start, wipe, bindT, List.map_cons, List.map_nil, List.cons_append, List.nil_append, List.append_nil, List.getElem?_cons_zero, List.getElem?_cons_succ, List.length_cons, List.length_nil, List.set_cons_zero, List.set_cons_succ, atI_0, atI_1, atI_2, atI_3, List.replicate, Nat.zero_add, Nat.reduceAdd, Nat.reduceSub, seqW_ref, seqW_tup, c_leS, b_iaddI, b_iaddS, b_isub, w_enum, w_zip, w_callv]
  refine (piecesof_spec Z.ga (D + 1) k p 0 x w m S (by omega) hG hw hm).imp fun r S1 hr => ?_
  obtain ⟨rfl, k1⟩ := hr
  refine ⟨m.length, fun i acc S' => acc = dOf [] (m.take i) ∧ S' = S1, by simp only [LIM]; omega, by simp only [Src.len, List.length_map], ⟨rfl, rfl⟩, fun i acc S' hi hI => ?_, fun acc S' hI => ?_⟩
  · obtain ⟨rfl, rfl⟩ := hI
    refine ⟨encPc m[i], _, by simp only [Src.item, List.getElem?_map, List.getElem?_eq_getElem hi, Option.map_some], rfl, ?_⟩
    try simp only [w_var, w_c, w_bin, w_cmp, w_chain, w_and, w_or, w_ite, w_not, w_nil, w_cons, w_tup, w_lst, w_ix, w_no, w_yes, w_sl, w_call, w_bi, w_val, w_rng1, w_rng2, s_nil, s_cons, s_ret, s_expr, s_set, s_if, s_pass, s_setix, s_app, s_ext, o_addI, o_addS, o_addT, o_addL, o_sub, o_mulI, o_mulS, o_mulL, o_fdiv, o_mod, o_pow, c_ltI, c_ltS, c_le, c_gt, c_ge, c_eq, c_ne, e_ii, e_ss, e_bb, c_inS, c_notS, i_str, i_tup, i_ref, l_str, l_tup, l_rol, l_ref, b_lenS, b_lenT, b_lenR, b_abs, b_tupR, b_tupT, b_listR, b_listT, b_all, b_any, b_intI, b_intB, b_isiN, b_isiB, b_isiI, b_isiS, b_isiT, b_isiR, b_isiL, b_isN, b_notN, b_neg, b_rev, b_join, t_str, is_some, isB_some, byB_true, byB_false, start, wipe, bindT, List.map_cons, List.map_nil, List.cons_append, List.nil_append, List.append_nil, List.getElem?_cons_zero, List.getElem?_cons_succ, List.length_cons, List.length_nil, List.set_cons_zero, List.set_cons_succ, atI_0, atI_1, atI_2, atI_3, List.replicate, Nat.zero_add, Nat.reduceAdd, Nat.reduceSub, seqW_ref, seqW_tup, c_leS, b_iaddI, b_iaddS, b_isub, w_enum, w_zip, w_callv]
    refine ⟨by simp [LIM], _, rfl, ?_, by trivial⟩
    rw [List.take_add_one, List.getElem?_eq_getElem hi]
    simp only [dOf, Option.toList_some, List.foldl_append, List.foldl_cons, List.foldl_nil]
    rfl
  · obtain ⟨rfl, rfl⟩ := hI
    rw [List.take_length]
    refine ⟨⟨_, Nat.le_refl _, by simp only [Src.len, List.length_map]⟩, ?_⟩
    try simp only [w_var, w_c, w_bin, w_cmp, w_chain, w_and, w_or, w_ite, w_not, w_nil, w_cons, w_tup, w_lst, w_ix, w_no, w_yes, w_sl, w_call, w_bi, w_val, w_rng1, w_rng2, s_nil, s_cons, s_ret, s_expr, s_set, s_if, s_pass, s_setix, s_app, s_ext, o_addI, o_addS, o_addT, o_addL, o_sub, o_mulI, o_mulS, o_mulL, o_fdiv, o_mod, o_pow, c_ltI, c_ltS, c_le, c_gt, c_ge, c_eq, c_ne, e_ii, e_ss, e_bb, c_inS, c_notS, i_str, i_tup, i_ref, l_str, l_tup, l_rol, l_ref, b_lenS, b_lenT, b_lenR, b_abs, b_tupR, b_tupT, b_listR, b_listT, b_all, b_any, b_intI, b_intB, b_isiN, b_isiB, b_isiI, b_isiS, b_isiT, b_isiR, b_isiL, b_isN, b_notN, b_neg, b_rev, b_join, t_str, is_some, isB_some, byB_true, byB_false, start, wipe, bindT, List.map_cons, List.map_nil, List.cons_append, List.nil_append, List.append_nil, List.getElem?_cons_zero, List.getElem?_cons_succ, List.length_cons, List.length_nil, List.set_cons_zero, List.set_cons_succ, atI_0, atI_1, atI_2, atI_3, List.replicate, Nat.zero_add, Nat.reduceAdd, Nat.reduceSub, seqW_ref, seqW_tup, c_leS, b_iaddI, b_iaddS, b_isub, w_enum, w_zip, w_callv]
    have hml := marks_len p
    have hsl := len_sortU (marks p)
    refine w_compP ((sortU (marks p)).map .str) (fun _ => true) (fun u => match u with | .str z => pOf m z | u => u) (by rw [List.length_map]; simp only [LIM]; omega) ?_
    try simp only [w_var, w_c, w_bin, w_cmp, w_chain, w_and, w_or, w_ite, w_not, w_nil, w_cons, w_tup, w_lst, w_ix, w_no, w_yes, w_sl, w_call, w_bi, w_val, w_rng1, w_rng2, s_nil, s_cons, s_ret, s_expr, s_set, s_if, s_pass, s_setix, s_app, s_ext, o_addI, o_addS, o_addT, o_addL, o_sub, o_mulI, o_mulS, o_mulL, o_fdiv, o_mod, o_pow, c_ltI, c_ltS, c_le, c_gt, c_ge, c_eq, c_ne, e_ii, e_ss, e_bb, c_inS, c_notS, i_str, i_tup, i_ref, l_str, l_tup, l_rol, l_ref, b_lenS, b_lenT, b_lenR, b_abs, b_tupR, b_tupT, b_listR, b_listT, b_all, b_any, b_intI, b_intB, b_isiN, b_isiB, b_isiI, b_isiS, b_isiT, b_isiR, b_isiL, b_isN, b_notN, b_neg, b_rev, b_join, t_str, is_some, isB_some, byB_true, byB_false, start, wipe, bindT, List.map_cons, List.map_nil, List.cons_append, List.nil_append, List.append_nil, List.getElem?_cons_zero, List.getElem?_cons_succ, List.length_cons, List.length_nil, List.set_cons_zero, List.set_cons_succ, atI_0, atI_1, atI_2, atI_3, List.replicate, Nat.zero_add, Nat.reduceAdd, Nat.reduceSub, seqW_ref, seqW_tup, c_leS, b_iaddI, b_iaddS, b_isub, w_enum, w_zip, w_callv]
    refine (namesof_spec Z.h20 Z.h35 Z.h36 k D p S' hd hsz).imp fun r S2 hr => ?_
    obtain ⟨rfl, k2⟩ := hr
    refine ⟨by simp only [Src.items], fun u hu => ?_, ?_⟩
    · obtain ⟨z, hz, rfl⟩ := List.mem_map.mp hu
      refine ⟨_, rfl, ?_⟩
      try simp only [w_var, w_c, w_bin, w_cmp, w_chain, w_and, w_or, w_ite, w_not, w_nil, w_cons, w_tup, w_lst, w_ix, w_no, w_yes, w_sl, w_call, w_bi, w_val, w_rng1, w_rng2, s_nil, s_cons, s_ret, s_expr, s_set, s_if, s_pass, s_setix, s_app, s_ext, o_addI, o_addS, o_addT, o_addL, o_sub, o_mulI, o_mulS, o_mulL, o_fdiv, o_mod, o_pow, c_ltI, c_ltS, c_le, c_gt, c_ge, c_eq, c_ne, e_ii, e_ss, e_bb, c_inS, c_notS, i_str, i_tup, i_ref, l_str, l_tup, l_rol, l_ref, b_lenS, b_lenT, b_lenR, b_abs, b_tupR, b_tupT, b_listR, b_listT, b_all, b_any, b_intI, b_intB, b_isiN, b_isiB, b_isiI, b_isiS, b_isiT, b_isiR, b_isiL, b_isN, b_notN, b_neg, b_rev, b_join, t_str, is_some, isB_some, byB_true, byB_false, start, wipe, bindT, List.map_cons, List.map_nil, List.cons_append, List.nil_append, List.append_nil, List.getElem?_cons_zero, List.getElem?_cons_succ, List.length_cons, List.length_nil, List.set_cons_zero, List.set_cons_succ, atI_0, atI_1, atI_2, atI_3, List.replicate, Nat.zero_add, Nat.reduceAdd, Nat.reduceSub, seqW_ref, seqW_tup, c_leS, b_iaddI, b_iaddS, b_isub, w_enum, w_zip, w_callv, b_dgt]
      exact ⟨trivial, trivial, fun _ => ⟨dOf_p z m (Nat.le_trans (hG.once ho (ht z)) (ht z)), trivial⟩⟩
    · try simp only [w_var, w_c, w_bin, w_cmp, w_chain, w_and, w_or, w_ite, w_not, w_nil, w_cons, w_tup, w_lst, w_ix, w_no, w_yes, w_sl, w_call, w_bi, w_val, w_rng1, w_rng2, s_nil, s_cons, s_ret, s_expr, s_set, s_if, s_pass, s_setix, s_app, s_ext, o_addI, o_addS, o_addT, o_addL, o_sub, o_mulI, o_mulS, o_mulL, o_fdiv, o_mod, o_pow, c_ltI, c_ltS, c_le, c_gt, c_ge, c_eq, c_ne, e_ii, e_ss, e_bb, c_inS, c_notS, i_str, i_tup, i_ref, l_str, l_tup, l_rol, l_ref, b_lenS, b_lenT, b_lenR, b_abs, b_tupR, b_tupT, b_listR, b_listT, b_all, b_any, b_intI, b_intB, b_isiN, b_isiB, b_isiI, b_isiS, b_isiT, b_isiR, b_isiL, b_isN, b_notN, b_neg, b_rev, b_join, t_str, is_some, isB_some, byB_true, byB_false, start, wipe, bindT, List.map_cons, List.map_nil, List.cons_append, List.nil_append, List.append_nil, List.getElem?_cons_zero, List.getElem?_cons_succ, List.length_cons, List.length_nil, List.set_cons_zero, List.set_cons_succ, atI_0, atI_1, atI_2, atI_3, List.replicate, Nat.zero_add, Nat.reduceAdd, Nat.reduceSub, seqW_ref, seqW_tup, c_leS, b_iaddI, b_iaddS, b_isub, w_enum, w_zip, w_callv, rdL_new]
      refine ⟨?_, (k1.trans k2).snoc _⟩
      rw [List.filter_eq_self.mpr fun _ _ => rfl, List.map_map]
      rfl
end
end Pg
namespace Pg
open MP
section
variable {ds : Nat → Option Def}
theorem isT_t (u : List W) : isT 3 (.tup u) = true := rfl
theorem isT_s (u : List Nat) : isT 0 (.str u) = true := rfl
theorem are_spec (h120 : ds 120 = some ⟨1, 1, b_law_whole_v4⟩) (h131 : ds 131 = some ⟨1, 2, b_law_are_pieces⟩) (k : Nat) (m : List Pc) (S : Sto) : Is (callF ds (k + 2) 131 [.tup (m.map encPc)] S) fun r S' => r = .bl true ∧ S' = S := by
  refine w_callF (k := k + 1) h131 rfl ?_
  simp only [b_law_are_pieces, w_var, w_c, w_bin, w_cmp, w_chain, w_and, w_or, w_ite, w_not, w_nil, w_cons, w_tup, w_lst, w_ix, w_no, w_yes, w_sl, w_call, w_bi, w_val, w_rng1, w_rng2, s_nil, s_cons, s_ret, s_expr, s_set, s_if, s_pass, s_setix, s_app, s_ext, o_addI, o_addS, o_addT, o_addL, o_sub, o_mulI, o_mulS, o_mulL, o_fdiv, o_mod, o_pow, c_ltI, c_ltS, c_le, c_gt, c_ge, c_eq, c_ne, e_ii, e_ss, e_bb, c_inS, c_notS, i_str, i_tup, i_ref, l_str, l_tup, l_rol, l_ref, b_lenS, b_lenT, b_lenR, b_abs, b_tupR, b_tupT, b_listR, b_listT, b_all, b_any, b_intI, b_intB, b_isiN, b_isiB, b_isiI, b_isiS, b_isiT, b_isiR, b_isiL, b_isN, b_notN, b_neg, b_rev, b_join, t_str, is_some, isB_some, byB_true, byB_false, start, wipe, bindT, List.map_cons, List.map_nil, List.cons_append, List.nil_append, List.append_nil, List.getElem?_cons_zero, List.getElem?_cons_succ, List.length_cons, List.length_nil, List.set_cons_zero, List.set_cons_succ, atI_0, atI_1, atI_2, atI_3, List.replicate, Nat.zero_add, Nat.reduceAdd, Nat.reduceSub, seqW_ref, seqW_tup, c_leS, b_iaddI, b_iaddS, b_isub, w_enum, w_zip, w_callv, isT_t, Bool.not_true]
  refine w_forX ?_
  try simp only [w_var, w_c, w_bin, w_cmp, w_chain, w_and, w_or, w_ite, w_not, w_nil, w_cons, w_tup, w_lst, w_ix, w_no, w_yes, w_sl, w_call, w_bi, w_val, w_rng1, w_rng2, s_nil, s_cons, s_ret, s_expr, s_set, s_if, s_pass, s_setix, s_app, s_ext, o_addI, o_addS, o_addT, o_addL, o_sub, o_mulI, o_mulS, o_mulL, o_fdiv, o_mod, o_pow, c_ltI, c_ltS, c_le, c_gt, c_ge, c_eq, c_ne, e_ii, e_ss, e_bb, c_inS, c_notS, i_str, i_tup, i_ref, l_str, l_tup, l_rol, l_ref, b_lenS, b_lenT, b_lenR, b_abs, b_tupR, b_tupT, b_listR, b_listT, b_all, b_any, b_intI, b_intB, b_isiN, b_isiB, b_isiI, b_isiS, b_isiT, b_isiR, b_isiL, b_isN, b_notN, b_neg, b_rev, b_join, t_str, is_some, isB_some, byB_true, byB_false, start, wipe, bindT, List.map_cons, List.map_nil, List.cons_append, List.nil_append, List.append_nil, List.getElem?_cons_zero, List.getElem?_cons_succ, List.length_cons, List.length_nil, List.set_cons_zero, List.set_cons_succ, atI_0, atI_1, atI_2, atI_3, List.replicate, Nat.zero_add, Nat.reduceAdd, Nat.reduceSub, seqW_ref, seqW_tup, c_leS, b_iaddI, b_iaddS, b_isub, w_enum, w_zip, w_callv]
  refine ⟨m.length, fun j env S' => ∃ v1, env = [some (.tup (m.map encPc)), v1] ∧ S' = S, by simp only [Src.len, List.length_map], ⟨none, rfl, rfl⟩, fun j env S' hj hI => ?_, fun env S' hI => ?_⟩
  · obtain ⟨v1, rfl, rfl⟩ := hI
    refine ⟨encPc m[j], _, by simp only [Src.item, List.getElem?_map, List.getElem?_eq_getElem hj, Option.map_some], rfl, ?_⟩
    simp only [encPc, w_var, w_c, w_bin, w_cmp, w_chain, w_and, w_or, w_ite, w_not, w_nil, w_cons, w_tup, w_lst, w_ix, w_no, w_yes, w_sl, w_call, w_bi, w_val, w_rng1, w_rng2, s_nil, s_cons, s_ret, s_expr, s_set, s_if, s_pass, s_setix, s_app, s_ext, o_addI, o_addS, o_addT, o_addL, o_sub, o_mulI, o_mulS, o_mulL, o_fdiv, o_mod, o_pow, c_ltI, c_ltS, c_le, c_gt, c_ge, c_eq, c_ne, e_ii, e_ss, e_bb, c_inS, c_notS, i_str, i_tup, i_ref, l_str, l_tup, l_rol, l_ref, b_lenS, b_lenT, b_lenR, b_abs, b_tupR, b_tupT, b_listR, b_listT, b_all, b_any, b_intI, b_intB, b_isiN, b_isiB, b_isiI, b_isiS, b_isiT, b_isiR, b_isiL, b_isN, b_notN, b_neg, b_rev, b_join, t_str, is_some, isB_some, byB_true, byB_false, start, wipe, bindT, List.map_cons, List.map_nil, List.cons_append, List.nil_append, List.append_nil, List.getElem?_cons_zero, List.getElem?_cons_succ, List.length_cons, List.length_nil, List.set_cons_zero, List.set_cons_succ, atI_0, atI_1, atI_2, atI_3, List.replicate, Nat.zero_add, Nat.reduceAdd, Nat.reduceSub, seqW_ref, seqW_tup, c_leS, b_iaddI, b_iaddS, b_isub, w_enum, w_zip, w_callv, isT_t, isT_s, Bool.not_true, e_ii, show decide (((3 : Nat) : Int) = 3) = true from rfl]
    refine (whole_any h120 k S' (.int (m[j].2.1 : Nat)) rfl).imp fun r S1 hr => ?_
    obtain ⟨rfl, rfl⟩ := hr
    simp only [isI, w_var, w_c, w_bin, w_cmp, w_chain, w_and, w_or, w_ite, w_not, w_nil, w_cons, w_tup, w_lst, w_ix, w_no, w_yes, w_sl, w_call, w_bi, w_val, w_rng1, w_rng2, s_nil, s_cons, s_ret, s_expr, s_set, s_if, s_pass, s_setix, s_app, s_ext, o_addI, o_addS, o_addT, o_addL, o_sub, o_mulI, o_mulS, o_mulL, o_fdiv, o_mod, o_pow, c_ltI, c_ltS, c_le, c_gt, c_ge, c_eq, c_ne, e_ii, e_ss, e_bb, c_inS, c_notS, i_str, i_tup, i_ref, l_str, l_tup, l_rol, l_ref, b_lenS, b_lenT, b_lenR, b_abs, b_tupR, b_tupT, b_listR, b_listT, b_all, b_any, b_intI, b_intB, b_isiN, b_isiB, b_isiI, b_isiS, b_isiT, b_isiR, b_isiL, b_isN, b_notN, b_neg, b_rev, b_join, t_str, is_some, isB_some, byB_true, byB_false, start, wipe, bindT, List.map_cons, List.map_nil, List.cons_append, List.nil_append, List.append_nil, List.getElem?_cons_zero, List.getElem?_cons_succ, List.length_cons, List.length_nil, List.set_cons_zero, List.set_cons_succ, atI_0, atI_1, atI_2, atI_3, List.replicate, Nat.zero_add, Nat.reduceAdd, Nat.reduceSub, seqW_ref, seqW_tup, c_leS, b_iaddI, b_iaddS, b_isub, w_enum, w_zip, w_callv]
    refine (whole_any h120 k S1 (.int (m[j].2.2 : Nat)) rfl).imp fun r S2 hr => ?_
    obtain ⟨rfl, rfl⟩ := hr
    simp only [isI, w_var, w_c, w_bin, w_cmp, w_chain, w_and, w_or, w_ite, w_not, w_nil, w_cons, w_tup, w_lst, w_ix, w_no, w_yes, w_sl, w_call, w_bi, w_val, w_rng1, w_rng2, s_nil, s_cons, s_ret, s_expr, s_set, s_if, s_pass, s_setix, s_app, s_ext, o_addI, o_addS, o_addT, o_addL, o_sub, o_mulI, o_mulS, o_mulL, o_fdiv, o_mod, o_pow, c_ltI, c_ltS, c_le, c_gt, c_ge, c_eq, c_ne, e_ii, e_ss, e_bb, c_inS, c_notS, i_str, i_tup, i_ref, l_str, l_tup, l_rol, l_ref, b_lenS, b_lenT, b_lenR, b_abs, b_tupR, b_tupT, b_listR, b_listT, b_all, b_any, b_intI, b_intB, b_isiN, b_isiB, b_isiI, b_isiS, b_isiT, b_isiR, b_isiL, b_isN, b_notN, b_neg, b_rev, b_join, t_str, is_some, isB_some, byB_true, byB_false, start, wipe, bindT, List.map_cons, List.map_nil, List.cons_append, List.nil_append, List.append_nil, List.getElem?_cons_zero, List.getElem?_cons_succ, List.length_cons, List.length_nil, List.set_cons_zero, List.set_cons_succ, atI_0, atI_1, atI_2, atI_3, List.replicate, Nat.zero_add, Nat.reduceAdd, Nat.reduceSub, seqW_ref, seqW_tup, c_leS, b_iaddI, b_iaddS, b_isub, w_enum, w_zip, w_callv]
    exact ⟨_, rfl, by trivial⟩
  · obtain ⟨v1, rfl, rfl⟩ := hI
    refine ⟨⟨_, Nat.le_refl _, by simp only [Src.len, List.length_map]⟩, ?_⟩
    try simp only [w_var, w_c, w_bin, w_cmp, w_chain, w_and, w_or, w_ite, w_not, w_nil, w_cons, w_tup, w_lst, w_ix, w_no, w_yes, w_sl, w_call, w_bi, w_val, w_rng1, w_rng2, s_nil, s_cons, s_ret, s_expr, s_set, s_if, s_pass, s_setix, s_app, s_ext, o_addI, o_addS, o_addT, o_addL, o_sub, o_mulI, o_mulS, o_mulL, o_fdiv, o_mod, o_pow, c_ltI, c_ltS, c_le, c_gt, c_ge, c_eq, c_ne, e_ii, e_ss, e_bb, c_inS, c_notS, i_str, i_tup, i_ref, l_str, l_tup, l_rol, l_ref, b_lenS, b_lenT, b_lenR, b_abs, b_tupR, b_tupT, b_listR, b_listT, b_all, b_any, b_intI, b_intB, b_isiN, b_isiB, b_isiI, b_isiS, b_isiT, b_isiR, b_isiL, b_isN, b_notN, b_neg, b_rev, b_join, t_str, is_some, isB_some, byB_true, byB_false, start, wipe, bindT, List.map_cons, List.map_nil, List.cons_append, List.nil_append, List.append_nil, List.getElem?_cons_zero, List.getElem?_cons_succ, List.length_cons, List.length_nil, List.set_cons_zero, List.set_cons_succ, atI_0, atI_1, atI_2, atI_3, List.replicate, Nat.zero_add, Nat.reduceAdd, Nat.reduceSub, seqW_ref, seqW_tup, c_leS, b_iaddI, b_iaddS, b_isub, w_enum, w_zip, w_callv]
    exact ⟨by trivial, by trivial⟩
def hdN (z : List Nat) : W → Bool
  | .tup (.str n :: _) => decide (n = z)
  | _ => false
def tl1 : W → W
  | .tup (_ :: r) => .tup r
  | w => w
theorem cut_1 {α : Type} (a b c : α) : cut [a, b, c] (some 1) none = [b, c] := rfl
theorem own_eq (z : List Nat) : ∀ m : List Pc, ((m.map encPc).filter (hdN z)).map tl1 = (ofN m z).map pv
  | [] => rfl
  | c :: m => by
    have ih := own_eq z m
    unfold ofN at ih ⊢
    rw [List.map_cons, List.filter_cons, List.filter_cons]
    by_cases d : c.1 = z
    · rw [if_pos (by simp only [encPc, hdN]; exact decide_eq_true d), if_pos (by simpa using d), List.map_cons, List.map_cons, ih]
      rfl
    · rw [if_neg (by simp only [encPc, hdN]; simpa using d), if_neg (by simpa using d), ih]
theorem pOf_or (m : List Pc) (z : List Nat) : pOf m z = .non ∨ ∃ c, pOf m z = pv c := by
  unfold pOf
  split
  · exact .inr ⟨_, rfl⟩
  · exact .inl rfl
theorem head_eq (m : List Pc) (z : List Nat) : ((ofN m z).map pv ++ [.non])[0]? = some (pOf m z) := by
  unfold pOf
  cases ofN m z <;> rfl
theorem tail13 (go : GoD ds) (rw_ : RwD ds) (h120 : ds 120 = some ⟨1, 1, b_law_whole_v4⟩) (h130 : ds 130 = some ⟨1, 4, b_law_heads⟩) (h131 : ds 131 = some ⟨1, 2, b_law_are_pieces⟩) (P p : Pt) (i n : Nat) (hd : deep P ≤ 10) (hp : okG P = true) (hs : size P ≤ 1000) (hgl : gl P ≤ 400000) (hgd : gd P ≤ 100000000)
    (pd : deep p ≤ 7) (po : okG p = true) (psz : size p ≤ 53) (pgl : gl p ≤ 38637) (pgd : gd p ≤ 868352) (pt : ∀ z, tm z p ≤ 1) (hn : n ≤ 10000) (S : Sto) (hD : Dk 2 1 n S) (a0 a2 a6 : Option W) :
    IsS (exs (callF ds 59) (.cons (.set [11, 12, 13] (.call 119 (.cons (.var 1) (.cons (.var 4) (.cons (.var 3) (.cons (.c (.int 3)) .nil)))))) (.cons (.set [7] (.call 127 (.cons (.var 4) (.cons (.var 12) (.cons (.var 3) .nil))))) (.cons (.ifs (.or (.not (.call 131 (.cons (.var 7) .nil))) (.cmp .ne (.bi .list (.cons (.var 7) .nil)) (.var 13))) (.cons (.ret (.c (.bl false))) .nil) .nil) (.cons (.set [11, 12, 13] (.call 119 (.cons (.var 1) (.cons (.var 5) (.cons (.c (.int 0)) (.cons (.c (.int 3)) .nil)))))) (.cons (.set [8] (.lst .nil)) (.cons (.for_ [9] (.val (.call 130 (.cons (.var 5) .nil))) (.cons (.set [14] (.comp [15] [15] (.val (.var 13)) (.cmp .eq (.ix (.var 15) (.c (.int 0))) (.var 9)) (.sl (.var 15) (.yes (.c (.int 1))) .no))) (.cons (.app (.var 8) (.ix (.bin .add (.var 14) (.lst (.cons (.c .non) .nil))) (.c (.int 0)))) .nil))) (.cons (.set [10] (.call 562 (.cons (.var 5) (.cons (.var 12) .nil)))) (.cons (.ifs (.or (.not (.bi (.isi 3) (.cons (.var 10) .nil))) (.cmp .ne (.var 10) (.bi .tuple (.cons (.var 8) .nil)))) (.cons (.ret (.c (.bl false))) .nil) .nil) (.cons (.ret (.cmp .eq (.comp [16] [16] (.val (.var 10)) (.and (.bi .notN (.cons (.var 16) .nil)) (.not (.call 131 (.cons (.tup (.cons (.bin .add (.tup (.cons (.c (.str [97])) .nil)) (.var 16)) .nil)) .nil)))) (.var 16)) (.lst .nil))) .nil))))))))) [a0, some (.ref 2), a2, some (.int (i : Nat)), some (enc P), some (enc p), a6, none, none, none, none, none, none, none, none, none, none] S) (fun _ _ => False) fun w _ => w = .bl true := by
  try simp only [w_var, w_c, w_bin, w_cmp, w_chain, w_and, w_or, w_ite, w_not, w_nil, w_cons, w_tup, w_lst, w_ix, w_no, w_yes, w_sl, w_call, w_bi, w_val, w_rng1, w_rng2, s_nil, s_cons, s_ret, s_expr, s_set, s_if, s_pass, s_setix, s_app, s_ext, o_addI, o_addS, o_addT, o_addL, o_sub, o_mulI, o_mulS, o_mulL, o_fdiv, o_mod, o_pow, c_ltI, c_ltS, c_le, c_gt, c_ge, c_eq, c_ne, e_ii, e_ss, e_bb, c_inS, c_notS, i_str, i_tup, i_ref, l_str, l_tup, l_rol, l_ref, b_lenS, b_lenT, b_lenR, b_abs, b_tupR, b_tupT, b_listR, b_listT, b_all, b_any, b_intI, b_intB, b_isiN, b_isiB, b_isiI, b_isiS, b_isiT, b_isiR, b_isiL, b_isN, b_notN, b_neg, b_rev, b_join, t_str, is_some, isB_some, byB_true, byB_false, start, wipe, bindT, List.map_cons, List.map_nil, List.cons_append, List.nil_append, List.append_nil, List.getElem?_cons_zero, List.getElem?_cons_succ, List.length_cons, List.length_nil, List.set_cons_zero, List.set_cons_succ, atI_0, atI_1, atI_2, atI_3, List.replicate, Nat.zero_add, Nat.reduceAdd, Nat.reduceSub, seqW_ref, seqW_tup, c_leS, b_iaddI, b_iaddS, b_isub, w_enum, w_zip, w_callv]
  refine (go_spec go 10 46 P i n S 2 1 hd hp hs hgl (by omega) hD).imp fun r S1 hr => ?_
  obtain ⟨x, w, m, f, R⟩ := hr
  obtain rfl := R.eq
  have ml := R.ml
  try simp only [w_var, w_c, w_bin, w_cmp, w_chain, w_and, w_or, w_ite, w_not, w_nil, w_cons, w_tup, w_lst, w_ix, w_no, w_yes, w_sl, w_call, w_bi, w_val, w_rng1, w_rng2, s_nil, s_cons, s_ret, s_expr, s_set, s_if, s_pass, s_setix, s_app, s_ext, o_addI, o_addS, o_addT, o_addL, o_sub, o_mulI, o_mulS, o_mulL, o_fdiv, o_mod, o_pow, c_ltI, c_ltS, c_le, c_gt, c_ge, c_eq, c_ne, e_ii, e_ss, e_bb, c_inS, c_notS, i_str, i_tup, i_ref, l_str, l_tup, l_rol, l_ref, b_lenS, b_lenT, b_lenR, b_abs, b_tupR, b_tupT, b_listR, b_listT, b_all, b_any, b_intI, b_intB, b_isiN, b_isiB, b_isiI, b_isiS, b_isiT, b_isiR, b_isiL, b_isN, b_notN, b_neg, b_rev, b_join, t_str, is_some, isB_some, byB_true, byB_false, start, wipe, bindT, List.map_cons, List.map_nil, List.cons_append, List.nil_append, List.append_nil, List.getElem?_cons_zero, List.getElem?_cons_succ, List.length_cons, List.length_nil, List.set_cons_zero, List.set_cons_succ, atI_0, atI_1, atI_2, atI_3, List.replicate, Nat.zero_add, Nat.reduceAdd, Nat.reduceSub, seqW_ref, seqW_tup, c_leS, b_iaddI, b_iaddS, b_isub, w_enum, w_zip, w_callv, bindL]
  refine (piecesof_spec rw_.ga 10 47 P i x w m S1 hd R.gq (wl_wk R.wl) (by omega)).imp fun r S2 hr => ?_
  obtain ⟨rfl, k2⟩ := hr
  try simp only [w_var, w_c, w_bin, w_cmp, w_chain, w_and, w_or, w_ite, w_not, w_nil, w_cons, w_tup, w_lst, w_ix, w_no, w_yes, w_sl, w_call, w_bi, w_val, w_rng1, w_rng2, s_nil, s_cons, s_ret, s_expr, s_set, s_if, s_pass, s_setix, s_app, s_ext, o_addI, o_addS, o_addT, o_addL, o_sub, o_mulI, o_mulS, o_mulL, o_fdiv, o_mod, o_pow, c_ltI, c_ltS, c_le, c_gt, c_ge, c_eq, c_ne, e_ii, e_ss, e_bb, c_inS, c_notS, i_str, i_tup, i_ref, l_str, l_tup, l_rol, l_ref, b_lenS, b_lenT, b_lenR, b_abs, b_tupR, b_tupT, b_listR, b_listT, b_all, b_any, b_intI, b_intB, b_isiN, b_isiB, b_isiI, b_isiS, b_isiT, b_isiR, b_isiL, b_isN, b_notN, b_neg, b_rev, b_join, t_str, is_some, isB_some, byB_true, byB_false, start, wipe, bindT, List.map_cons, List.map_nil, List.cons_append, List.nil_append, List.append_nil, List.getElem?_cons_zero, List.getElem?_cons_succ, List.length_cons, List.length_nil, List.set_cons_zero, List.set_cons_succ, atI_0, atI_1, atI_2, atI_3, List.replicate, Nat.zero_add, Nat.reduceAdd, Nat.reduceSub, seqW_ref, seqW_tup, c_leS, b_iaddI, b_iaddS, b_isub, w_enum, w_zip, w_callv]
  refine (are_spec h120 h131 57 m S2).imp fun r S3 hr => ?_
  obtain ⟨rfl, rfl⟩ := hr
  try simp only [w_var, w_c, w_bin, w_cmp, w_chain, w_and, w_or, w_ite, w_not, w_nil, w_cons, w_tup, w_lst, w_ix, w_no, w_yes, w_sl, w_call, w_bi, w_val, w_rng1, w_rng2, s_nil, s_cons, s_ret, s_expr, s_set, s_if, s_pass, s_setix, s_app, s_ext, o_addI, o_addS, o_addT, o_addL, o_sub, o_mulI, o_mulS, o_mulL, o_fdiv, o_mod, o_pow, c_ltI, c_ltS, c_le, c_gt, c_ge, c_eq, c_ne, e_ii, e_ss, e_bb, c_inS, c_notS, i_str, i_tup, i_ref, l_str, l_tup, l_rol, l_ref, b_lenS, b_lenT, b_lenR, b_abs, b_tupR, b_tupT, b_listR, b_listT, b_all, b_any, b_intI, b_intB, b_isiN, b_isiB, b_isiI, b_isiS, b_isiT, b_isiR, b_isiL, b_isN, b_notN, b_neg, b_rev, b_join, t_str, is_some, isB_some, byB_true, byB_false, start, wipe, bindT, List.map_cons, List.map_nil, List.cons_append, List.nil_append, List.append_nil, List.getElem?_cons_zero, List.getElem?_cons_succ, List.length_cons, List.length_nil, List.set_cons_zero, List.set_cons_succ, atI_0, atI_1, atI_2, atI_3, List.replicate, Nat.zero_add, Nat.reduceAdd, Nat.reduceSub, seqW_ref, seqW_tup, c_leS, b_iaddI, b_iaddS, b_isub, w_enum, w_zip, w_callv, Bool.not_true, List.length_map]
  refine ⟨by simp only [LIM]; omega, ?_⟩
  have fl : f < S1.length := (List.getElem?_eq_some_iff.mp (rdL_iff.mp R.rd)).1
  have r4 : rdL (S3 ++ [SO.lst (m.map encPc)]) f = some (m.map encPc) := rdL_app (rdL_of (k2.get (rdL_iff.mp R.rd)))
  have r4' : rdL (S3 ++ [SO.lst (m.map encPc)]) S3.length = some (m.map encPc) := rdL_new _ _
  have d4 : Dk 2 1 (n + gd P) (S3 ++ [SO.lst (m.map encPc)]) := (R.dk.kp k2).kp (.app _ _)
  generalize hS4 : S3 ++ [SO.lst (m.map encPc)] = S4 at *
  obtain ⟨dd, hdd⟩ := dats_pcs (S := S4) (n := 58) m (R.gq.low hp)
  rw [eqW_lst r4' r4 hdd]
  try simp only [w_var, w_c, w_bin, w_cmp, w_chain, w_and, w_or, w_ite, w_not, w_nil, w_cons, w_tup, w_lst, w_ix, w_no, w_yes, w_sl, w_call, w_bi, w_val, w_rng1, w_rng2, s_nil, s_cons, s_ret, s_expr, s_set, s_if, s_pass, s_setix, s_app, s_ext, o_addI, o_addS, o_addT, o_addL, o_sub, o_mulI, o_mulS, o_mulL, o_fdiv, o_mod, o_pow, c_ltI, c_ltS, c_le, c_gt, c_ge, c_eq, c_ne, e_ii, e_ss, e_bb, c_inS, c_notS, i_str, i_tup, i_ref, l_str, l_tup, l_rol, l_ref, b_lenS, b_lenT, b_lenR, b_abs, b_tupR, b_tupT, b_listR, b_listT, b_all, b_any, b_intI, b_intB, b_isiN, b_isiB, b_isiI, b_isiS, b_isiT, b_isiR, b_isiL, b_isN, b_notN, b_neg, b_rev, b_join, t_str, is_some, isB_some, byB_true, byB_false, start, wipe, bindT, List.map_cons, List.map_nil, List.cons_append, List.nil_append, List.append_nil, List.getElem?_cons_zero, List.getElem?_cons_succ, List.length_cons, List.length_nil, List.set_cons_zero, List.set_cons_succ, atI_0, atI_1, atI_2, atI_3, List.replicate, Nat.zero_add, Nat.reduceAdd, Nat.reduceSub, seqW_ref, seqW_tup, c_leS, b_iaddI, b_iaddS, b_isub, w_enum, w_zip, w_callv, Bool.not_true]
  clear R r4 r4' hdd
  refine (go_spec go 7 49 p 0 (n + gd P) S4 2 1 pd po (by omega) (by omega) (by omega) d4).imp fun r S5 hr => ?_
  obtain ⟨x2, w2, m2, f2, R⟩ := hr
  obtain rfl := R.eq
  have ml2 := R.ml
  try simp only [w_var, w_c, w_bin, w_cmp, w_chain, w_and, w_or, w_ite, w_not, w_nil, w_cons, w_tup, w_lst, w_ix, w_no, w_yes, w_sl, w_call, w_bi, w_val, w_rng1, w_rng2, s_nil, s_cons, s_ret, s_expr, s_set, s_if, s_pass, s_setix, s_app, s_ext, o_addI, o_addS, o_addT, o_addL, o_sub, o_mulI, o_mulS, o_mulL, o_fdiv, o_mod, o_pow, c_ltI, c_ltS, c_le, c_gt, c_ge, c_eq, c_ne, e_ii, e_ss, e_bb, c_inS, c_notS, i_str, i_tup, i_ref, l_str, l_tup, l_rol, l_ref, b_lenS, b_lenT, b_lenR, b_abs, b_tupR, b_tupT, b_listR, b_listT, b_all, b_any, b_intI, b_intB, b_isiN, b_isiB, b_isiI, b_isiS, b_isiT, b_isiR, b_isiL, b_isN, b_notN, b_neg, b_rev, b_join, t_str, is_some, isB_some, byB_true, byB_false, start, wipe, bindT, List.map_cons, List.map_nil, List.cons_append, List.nil_append, List.append_nil, List.getElem?_cons_zero, List.getElem?_cons_succ, List.length_cons, List.length_nil, List.set_cons_zero, List.set_cons_succ, atI_0, atI_1, atI_2, atI_3, List.replicate, Nat.zero_add, Nat.reduceAdd, Nat.reduceSub, seqW_ref, seqW_tup, c_leS, b_iaddI, b_iaddS, b_isub, w_enum, w_zip, w_callv, bindL]
  refine ⟨by simp [LIM], ?_⟩
  have d6 : Dk 2 1 (n + gd P + gd p) (S5 ++ [SO.lst []]) := R.dk.kp (.app _ _)
  have f6 : rdL (S5 ++ [SO.lst []]) f2 = some (m2.map encPc) := rdL_app R.rd
  have g6 : rdL (S5 ++ [SO.lst []]) S5.length = some [] := rdL_new _ _
  have nf : f2 ≠ S5.length := by have := (List.getElem?_eq_some_iff.mp (rdL_iff.mp R.rd)).1; omega
  generalize hS6 : S5 ++ [SO.lst []] = S6 at *
  generalize hg : S5.length = g at *
  have lS6 : g < S6.length := (List.getElem?_eq_some_iff.mp (rdL_iff.mp g6)).1
  refine w_forX ?_
  try simp only [w_var, w_c, w_bin, w_cmp, w_chain, w_and, w_or, w_ite, w_not, w_nil, w_cons, w_tup, w_lst, w_ix, w_no, w_yes, w_sl, w_call, w_bi, w_val, w_rng1, w_rng2, s_nil, s_cons, s_ret, s_expr, s_set, s_if, s_pass, s_setix, s_app, s_ext, o_addI, o_addS, o_addT, o_addL, o_sub, o_mulI, o_mulS, o_mulL, o_fdiv, o_mod, o_pow, c_ltI, c_ltS, c_le, c_gt, c_ge, c_eq, c_ne, e_ii, e_ss, e_bb, c_inS, c_notS, i_str, i_tup, i_ref, l_str, l_tup, l_rol, l_ref, b_lenS, b_lenT, b_lenR, b_abs, b_tupR, b_tupT, b_listR, b_listT, b_all, b_any, b_intI, b_intB, b_isiN, b_isiB, b_isiI, b_isiS, b_isiT, b_isiR, b_isiL, b_isN, b_notN, b_neg, b_rev, b_join, t_str, is_some, isB_some, byB_true, byB_false, start, wipe, bindT, List.map_cons, List.map_nil, List.cons_append, List.nil_append, List.append_nil, List.getElem?_cons_zero, List.getElem?_cons_succ, List.length_cons, List.length_nil, List.set_cons_zero, List.set_cons_succ, atI_0, atI_1, atI_2, atI_3, List.replicate, Nat.zero_add, Nat.reduceAdd, Nat.reduceSub, seqW_ref, seqW_tup, c_leS, b_iaddI, b_iaddS, b_isub, w_enum, w_zip, w_callv]
  refine (heads13_spec h130 7 51 p S6 pd (by omega)).imp fun r S7 hr => ?_
  obtain ⟨hh, rfl, hhl, r7, k7⟩ := hr
  have ne1 : g ≠ hh := by omega
  have hml := marks_len p
  have hsl := len_sortU (marks p)
  refine ⟨(sortU (marks p)).length, fun j env S' => ∃ (v9 v14 v15 : Option W), env = [a0, some (.ref 2), a2, some (.int (i : Nat)), some (enc P), some (enc p), a6, some (.tup (m.map encPc)), some (.ref g), v9, none, some (.str x2), some (encY w2), some (.ref f2), v14, v15, none] ∧ rdL S' g = some (((sortU (marks p)).take j).map (pOf m2)) ∧ Ko g S7 S', by simp only [Src.len, r7, Option.map_some, List.length_map], ⟨_, _, _, rfl, by simpa using rdL_of (k7.get (rdL_iff.mp g6)), .refl _ _⟩, fun j env S' hj hI => ?_, fun env S' hI => ?_⟩
  · obtain ⟨v9, v14, v15, rfl, g1, k1⟩ := hI
    have r8 : rdL S' hh = some ((sortU (marks p)).map .str) := k1.rd r7 (Ne.symm ne1)
    have f8 : rdL S' f2 = some (m2.map encPc) := k1.rd (rdL_of (k7.get (rdL_iff.mp f6))) nf
    refine ⟨.str (sortU (marks p))[j], _, by simp only [Src.item, r8, Option.bind_some, List.getElem?_map, List.getElem?_eq_getElem hj, Option.map_some], rfl, ?_⟩
    generalize hz : (sortU (marks p))[j] = z
    try simp only [w_var, w_c, w_bin, w_cmp, w_chain, w_and, w_or, w_ite, w_not, w_nil, w_cons, w_tup, w_lst, w_ix, w_no, w_yes, w_sl, w_call, w_bi, w_val, w_rng1, w_rng2, s_nil, s_cons, s_ret, s_expr, s_set, s_if, s_pass, s_setix, s_app, s_ext, o_addI, o_addS, o_addT, o_addL, o_sub, o_mulI, o_mulS, o_mulL, o_fdiv, o_mod, o_pow, c_ltI, c_ltS, c_le, c_gt, c_ge, c_eq, c_ne, e_ii, e_ss, e_bb, c_inS, c_notS, i_str, i_tup, i_ref, l_str, l_tup, l_rol, l_ref, b_lenS, b_lenT, b_lenR, b_abs, b_tupR, b_tupT, b_listR, b_listT, b_all, b_any, b_intI, b_intB, b_isiN, b_isiB, b_isiI, b_isiS, b_isiT, b_isiR, b_isiL, b_isN, b_notN, b_neg, b_rev, b_join, t_str, is_some, isB_some, byB_true, byB_false, start, wipe, bindT, List.map_cons, List.map_nil, List.cons_append, List.nil_append, List.append_nil, List.getElem?_cons_zero, List.getElem?_cons_succ, List.length_cons, List.length_nil, List.set_cons_zero, List.set_cons_succ, atI_0, atI_1, atI_2, atI_3, List.replicate, Nat.zero_add, Nat.reduceAdd, Nat.reduceSub, seqW_ref, seqW_tup, c_leS, b_iaddI, b_iaddS, b_isub, w_enum, w_zip, w_callv]
    refine w_compP (m2.map encPc) (hdN z) tl1 (by rw [List.length_map]; simp only [LIM]; omega) ?_
    try simp only [w_var, w_c, w_bin, w_cmp, w_chain, w_and, w_or, w_ite, w_not, w_nil, w_cons, w_tup, w_lst, w_ix, w_no, w_yes, w_sl, w_call, w_bi, w_val, w_rng1, w_rng2, s_nil, s_cons, s_ret, s_expr, s_set, s_if, s_pass, s_setix, s_app, s_ext, o_addI, o_addS, o_addT, o_addL, o_sub, o_mulI, o_mulS, o_mulL, o_fdiv, o_mod, o_pow, c_ltI, c_ltS, c_le, c_gt, c_ge, c_eq, c_ne, e_ii, e_ss, e_bb, c_inS, c_notS, i_str, i_tup, i_ref, l_str, l_tup, l_rol, l_ref, b_lenS, b_lenT, b_lenR, b_abs, b_tupR, b_tupT, b_listR, b_listT, b_all, b_any, b_intI, b_intB, b_isiN, b_isiB, b_isiI, b_isiS, b_isiT, b_isiR, b_isiL, b_isN, b_notN, b_neg, b_rev, b_join, t_str, is_some, isB_some, byB_true, byB_false, start, wipe, bindT, List.map_cons, List.map_nil, List.cons_append, List.nil_append, List.append_nil, List.getElem?_cons_zero, List.getElem?_cons_succ, List.length_cons, List.length_nil, List.set_cons_zero, List.set_cons_succ, atI_0, atI_1, atI_2, atI_3, List.replicate, Nat.zero_add, Nat.reduceAdd, Nat.reduceSub, seqW_ref, seqW_tup, c_leS, b_iaddI, b_iaddS, b_isub, w_enum, w_zip, w_callv]
    refine ⟨by simp only [Src.items, f8], fun u hu => ?_, ?_⟩
    · obtain ⟨c, hc, rfl⟩ := List.mem_map.mp hu
      refine ⟨_, rfl, ?_⟩
      simp only [encPc, w_var, w_c, w_bin, w_cmp, w_chain, w_and, w_or, w_ite, w_not, w_nil, w_cons, w_tup, w_lst, w_ix, w_no, w_yes, w_sl, w_call, w_bi, w_val, w_rng1, w_rng2, s_nil, s_cons, s_ret, s_expr, s_set, s_if, s_pass, s_setix, s_app, s_ext, o_addI, o_addS, o_addT, o_addL, o_sub, o_mulI, o_mulS, o_mulL, o_fdiv, o_mod, o_pow, c_ltI, c_ltS, c_le, c_gt, c_ge, c_eq, c_ne, e_ii, e_ss, e_bb, c_inS, c_notS, i_str, i_tup, i_ref, l_str, l_tup, l_rol, l_ref, b_lenS, b_lenT, b_lenR, b_abs, b_tupR, b_tupT, b_listR, b_listT, b_all, b_any, b_intI, b_intB, b_isiN, b_isiB, b_isiI, b_isiS, b_isiT, b_isiR, b_isiL, b_isN, b_notN, b_neg, b_rev, b_join, t_str, is_some, isB_some, byB_true, byB_false, start, wipe, bindT, List.map_cons, List.map_nil, List.cons_append, List.nil_append, List.append_nil, List.getElem?_cons_zero, List.getElem?_cons_succ, List.length_cons, List.length_nil, List.set_cons_zero, List.set_cons_succ, atI_0, atI_1, atI_2, atI_3, List.replicate, Nat.zero_add, Nat.reduceAdd, Nat.reduceSub, seqW_ref, seqW_tup, c_leS, b_iaddI, b_iaddS, b_isub, w_enum, w_zip, w_callv, e_ss, hdN, tl1, cut_1]
      exact ⟨by trivial, by trivial, fun _ => ⟨by trivial, by trivial⟩⟩
    · rw [own_eq]
      try simp only [w_var, w_c, w_bin, w_cmp, w_chain, w_and, w_or, w_ite, w_not, w_nil, w_cons, w_tup, w_lst, w_ix, w_no, w_yes, w_sl, w_call, w_bi, w_val, w_rng1, w_rng2, s_nil, s_cons, s_ret, s_expr, s_set, s_if, s_pass, s_setix, s_app, s_ext, o_addI, o_addS, o_addT, o_addL, o_sub, o_mulI, o_mulS, o_mulL, o_fdiv, o_mod, o_pow, c_ltI, c_ltS, c_le, c_gt, c_ge, c_eq, c_ne, e_ii, e_ss, e_bb, c_inS, c_notS, i_str, i_tup, i_ref, l_str, l_tup, l_rol, l_ref, b_lenS, b_lenT, b_lenR, b_abs, b_tupR, b_tupT, b_listR, b_listT, b_all, b_any, b_intI, b_intB, b_isiN, b_isiB, b_isiI, b_isiS, b_isiT, b_isiR, b_isiL, b_isN, b_notN, b_neg, b_rev, b_join, t_str, is_some, isB_some, byB_true, byB_false, start, wipe, bindT, List.map_cons, List.map_nil, List.cons_append, List.nil_append, List.append_nil, List.getElem?_cons_zero, List.getElem?_cons_succ, List.length_cons, List.length_nil, List.set_cons_zero, List.set_cons_succ, atI_0, atI_1, atI_2, atI_3, List.replicate, Nat.zero_add, Nat.reduceAdd, Nat.reduceSub, seqW_ref, seqW_tup, c_leS, b_iaddI, b_iaddS, b_isub, w_enum, w_zip, w_callv]
      have g2 : rdL (S' ++ [SO.lst ((ofN m2 z).map pv)] ++ [SO.lst [W.non]]) g = some (((sortU (marks p)).take j).map (pOf m2)) := rdL_app (rdL_app g1)
      have lofN : (ofN m2 z).length ≤ m2.length := List.length_filter_le _ _
      refine ⟨by simp [LIM], ?_⟩
      rw [rdL_app (rdL_new _ _), rdL_new]
      simp only []
      refine ⟨by rw [List.length_append, List.length_map]; simp only [LIM, List.length_singleton]; omega, ?_⟩
      have g3 := rdL_app (o := SO.lst ((ofN m2 z).map pv ++ [W.non])) g2
      rw [rdL_new]
      simp only [head_eq, g3]
      refine ⟨by rw [List.length_map, List.length_take]; simp only [LIM]; omega, _, _, _, rfl, ?_, ?_⟩
      · have et : (sortU (marks p)).take (j + 1) = (sortU (marks p)).take j ++ [z] := by rw [List.take_add_one, List.getElem?_eq_getElem hj, hz]; rfl
        rw [rdL_set_same g3, et, List.map_append]
        rfl
      · have kk : Kp S' (S' ++ [SO.lst ((ofN m2 z).map pv)] ++ [SO.lst [W.non]] ++ [SO.lst ((ofN m2 z).map pv ++ [W.non])]) := ((Kp.app _ _).snoc _).snoc _
        generalize S' ++ [SO.lst ((ofN m2 z).map pv)] ++ [SO.lst [W.non]] ++ [SO.lst ((ofN m2 z).map pv ++ [W.non])] = T at *
        exact (k1.trans (.of kk)).trans ⟨by rw [List.length_set]; exact Nat.le_refl _, fun j' _ h1 => by rw [List.getElem?_set_ne (Ne.symm h1)]⟩
  · obtain ⟨v9, v14, v15, rfl, g1, k1⟩ := hI
    rw [List.take_length] at g1
    have r8 : rdL S' hh = some ((sortU (marks p)).map .str) := k1.rd r7 (Ne.symm ne1)
    refine ⟨⟨_, Nat.le_refl _, by simp only [Src.len, r8, Option.map_some, List.length_map]⟩, ?_⟩
    try simp only [w_var, w_c, w_bin, w_cmp, w_chain, w_and, w_or, w_ite, w_not, w_nil, w_cons, w_tup, w_lst, w_ix, w_no, w_yes, w_sl, w_call, w_bi, w_val, w_rng1, w_rng2, s_nil, s_cons, s_ret, s_expr, s_set, s_if, s_pass, s_setix, s_app, s_ext, o_addI, o_addS, o_addT, o_addL, o_sub, o_mulI, o_mulS, o_mulL, o_fdiv, o_mod, o_pow, c_ltI, c_ltS, c_le, c_gt, c_ge, c_eq, c_ne, e_ii, e_ss, e_bb, c_inS, c_notS, i_str, i_tup, i_ref, l_str, l_tup, l_rol, l_ref, b_lenS, b_lenT, b_lenR, b_abs, b_tupR, b_tupT, b_listR, b_listT, b_all, b_any, b_intI, b_intB, b_isiN, b_isiB, b_isiI, b_isiS, b_isiT, b_isiR, b_isiL, b_isN, b_notN, b_neg, b_rev, b_join, t_str, is_some, isB_some, byB_true, byB_false, start, wipe, bindT, List.map_cons, List.map_nil, List.cons_append, List.nil_append, List.append_nil, List.getElem?_cons_zero, List.getElem?_cons_succ, List.length_cons, List.length_nil, List.set_cons_zero, List.set_cons_succ, atI_0, atI_1, atI_2, atI_3, List.replicate, Nat.zero_add, Nat.reduceAdd, Nat.reduceSub, seqW_ref, seqW_tup, c_leS, b_iaddI, b_iaddS, b_isub, w_enum, w_zip, w_callv]
    refine (rowof_spec rw_ 7 48 p x2 w2 m2 S' pd (by omega) po pt R.gq (wl_wk R.wl) (by omega)).imp fun r S9 hr => ?_
    obtain ⟨rfl, k9⟩ := hr
    have g9 : rdL S9 g = some ((sortU (marks p)).map (pOf m2)) := rdL_of (k9.get (rdL_iff.mp g1))
    obtain ⟨de, hde⟩ := dats_row (S := S9) (n := 58) m2 (sortU (marks p))
    try simp only [w_var, w_c, w_bin, w_cmp, w_chain, w_and, w_or, w_ite, w_not, w_nil, w_cons, w_tup, w_lst, w_ix, w_no, w_yes, w_sl, w_call, w_bi, w_val, w_rng1, w_rng2, s_nil, s_cons, s_ret, s_expr, s_set, s_if, s_pass, s_setix, s_app, s_ext, o_addI, o_addS, o_addT, o_addL, o_sub, o_mulI, o_mulS, o_mulL, o_fdiv, o_mod, o_pow, c_ltI, c_ltS, c_le, c_gt, c_ge, c_eq, c_ne, e_ii, e_ss, e_bb, c_inS, c_notS, i_str, i_tup, i_ref, l_str, l_tup, l_rol, l_ref, b_lenS, b_lenT, b_lenR, b_abs, b_tupR, b_tupT, b_listR, b_listT, b_all, b_any, b_intI, b_intB, b_isiN, b_isiB, b_isiI, b_isiS, b_isiT, b_isiR, b_isiL, b_isN, b_notN, b_neg, b_rev, b_join, t_str, is_some, isB_some, byB_true, byB_false, start, wipe, bindT, List.map_cons, List.map_nil, List.cons_append, List.nil_append, List.append_nil, List.getElem?_cons_zero, List.getElem?_cons_succ, List.length_cons, List.length_nil, List.set_cons_zero, List.set_cons_succ, atI_0, atI_1, atI_2, atI_3, List.replicate, Nat.zero_add, Nat.reduceAdd, Nat.reduceSub, seqW_ref, seqW_tup, c_leS, b_iaddI, b_iaddS, b_isub, w_enum, w_zip, w_callv, isT_t, Bool.not_true, g9, eqW_tup hde]
    refine w_compP ((sortU (marks p)).map (pOf m2)) (fun _ => false) (fun u => u) (by rw [List.length_map]; simp only [LIM]; omega) ?_
    try simp only [w_var, w_c, w_bin, w_cmp, w_chain, w_and, w_or, w_ite, w_not, w_nil, w_cons, w_tup, w_lst, w_ix, w_no, w_yes, w_sl, w_call, w_bi, w_val, w_rng1, w_rng2, s_nil, s_cons, s_ret, s_expr, s_set, s_if, s_pass, s_setix, s_app, s_ext, o_addI, o_addS, o_addT, o_addL, o_sub, o_mulI, o_mulS, o_mulL, o_fdiv, o_mod, o_pow, c_ltI, c_ltS, c_le, c_gt, c_ge, c_eq, c_ne, e_ii, e_ss, e_bb, c_inS, c_notS, i_str, i_tup, i_ref, l_str, l_tup, l_rol, l_ref, b_lenS, b_lenT, b_lenR, b_abs, b_tupR, b_tupT, b_listR, b_listT, b_all, b_any, b_intI, b_intB, b_isiN, b_isiB, b_isiI, b_isiS, b_isiT, b_isiR, b_isiL, b_isN, b_notN, b_neg, b_rev, b_join, t_str, is_some, isB_some, byB_true, byB_false, start, wipe, bindT, List.map_cons, List.map_nil, List.cons_append, List.nil_append, List.append_nil, List.getElem?_cons_zero, List.getElem?_cons_succ, List.length_cons, List.length_nil, List.set_cons_zero, List.set_cons_succ, atI_0, atI_1, atI_2, atI_3, List.replicate, Nat.zero_add, Nat.reduceAdd, Nat.reduceSub, seqW_ref, seqW_tup, c_leS, b_iaddI, b_iaddS, b_isub, w_enum, w_zip, w_callv]
    refine ⟨by simp only [Src.items], fun u hu => ?_, ?_⟩
    · obtain ⟨z, hz, rfl⟩ := List.mem_map.mp hu
      refine ⟨_, rfl, ?_⟩
      rcases pOf_or m2 z with h | ⟨c, h⟩
      · rw [h]
        try simp only [w_var, w_c, w_bin, w_cmp, w_chain, w_and, w_or, w_ite, w_not, w_nil, w_cons, w_tup, w_lst, w_ix, w_no, w_yes, w_sl, w_call, w_bi, w_val, w_rng1, w_rng2, s_nil, s_cons, s_ret, s_expr, s_set, s_if, s_pass, s_setix, s_app, s_ext, o_addI, o_addS, o_addT, o_addL, o_sub, o_mulI, o_mulS, o_mulL, o_fdiv, o_mod, o_pow, c_ltI, c_ltS, c_le, c_gt, c_ge, c_eq, c_ne, e_ii, e_ss, e_bb, c_inS, c_notS, i_str, i_tup, i_ref, l_str, l_tup, l_rol, l_ref, b_lenS, b_lenT, b_lenR, b_abs, b_tupR, b_tupT, b_listR, b_listT, b_all, b_any, b_intI, b_intB, b_isiN, b_isiB, b_isiI, b_isiS, b_isiT, b_isiR, b_isiL, b_isN, b_notN, b_neg, b_rev, b_join, t_str, is_some, isB_some, byB_true, byB_false, start, wipe, bindT, List.map_cons, List.map_nil, List.cons_append, List.nil_append, List.append_nil, List.getElem?_cons_zero, List.getElem?_cons_succ, List.length_cons, List.length_nil, List.set_cons_zero, List.set_cons_succ, atI_0, atI_1, atI_2, atI_3, List.replicate, Nat.zero_add, Nat.reduceAdd, Nat.reduceSub, seqW_ref, seqW_tup, c_leS, b_iaddI, b_iaddS, b_isub, w_enum, w_zip, w_callv, isNon, Bool.not_true]
        exact ⟨by trivial, by trivial, fun h => by cases h⟩
      · rw [h]
        simp only [pv, w_var, w_c, w_bin, w_cmp, w_chain, w_and, w_or, w_ite, w_not, w_nil, w_cons, w_tup, w_lst, w_ix, w_no, w_yes, w_sl, w_call, w_bi, w_val, w_rng1, w_rng2, s_nil, s_cons, s_ret, s_expr, s_set, s_if, s_pass, s_setix, s_app, s_ext, o_addI, o_addS, o_addT, o_addL, o_sub, o_mulI, o_mulS, o_mulL, o_fdiv, o_mod, o_pow, c_ltI, c_ltS, c_le, c_gt, c_ge, c_eq, c_ne, e_ii, e_ss, e_bb, c_inS, c_notS, i_str, i_tup, i_ref, l_str, l_tup, l_rol, l_ref, b_lenS, b_lenT, b_lenR, b_abs, b_tupR, b_tupT, b_listR, b_listT, b_all, b_any, b_intI, b_intB, b_isiN, b_isiB, b_isiI, b_isiS, b_isiT, b_isiR, b_isiL, b_isN, b_notN, b_neg, b_rev, b_join, t_str, is_some, isB_some, byB_true, byB_false, start, wipe, bindT, List.map_cons, List.map_nil, List.cons_append, List.nil_append, List.append_nil, List.getElem?_cons_zero, List.getElem?_cons_succ, List.length_cons, List.length_nil, List.set_cons_zero, List.set_cons_succ, atI_0, atI_1, atI_2, atI_3, List.replicate, Nat.zero_add, Nat.reduceAdd, Nat.reduceSub, seqW_ref, seqW_tup, c_leS, b_iaddI, b_iaddS, b_isub, w_enum, w_zip, w_callv, isNon, Bool.not_false]
        refine ⟨by simp [LIM], by simp [LIM], by simp [LIM], ?_⟩
        refine (are_spec h120 h131 57 [([97], c.2.1, c.2.2)] S9).imp fun r S10 hr => ?_
        obtain ⟨rfl, rfl⟩ := hr
        try simp only [w_var, w_c, w_bin, w_cmp, w_chain, w_and, w_or, w_ite, w_not, w_nil, w_cons, w_tup, w_lst, w_ix, w_no, w_yes, w_sl, w_call, w_bi, w_val, w_rng1, w_rng2, s_nil, s_cons, s_ret, s_expr, s_set, s_if, s_pass, s_setix, s_app, s_ext, o_addI, o_addS, o_addT, o_addL, o_sub, o_mulI, o_mulS, o_mulL, o_fdiv, o_mod, o_pow, c_ltI, c_ltS, c_le, c_gt, c_ge, c_eq, c_ne, e_ii, e_ss, e_bb, c_inS, c_notS, i_str, i_tup, i_ref, l_str, l_tup, l_rol, l_ref, b_lenS, b_lenT, b_lenR, b_abs, b_tupR, b_tupT, b_listR, b_listT, b_all, b_any, b_intI, b_intB, b_isiN, b_isiB, b_isiI, b_isiS, b_isiT, b_isiR, b_isiL, b_isN, b_notN, b_neg, b_rev, b_join, t_str, is_some, isB_some, byB_true, byB_false, start, wipe, bindT, List.map_cons, List.map_nil, List.cons_append, List.nil_append, List.append_nil, List.getElem?_cons_zero, List.getElem?_cons_succ, List.length_cons, List.length_nil, List.set_cons_zero, List.set_cons_succ, atI_0, atI_1, atI_2, atI_3, List.replicate, Nat.zero_add, Nat.reduceAdd, Nat.reduceSub, seqW_ref, seqW_tup, c_leS, b_iaddI, b_iaddS, b_isub, w_enum, w_zip, w_callv]
        exact ⟨by trivial, by trivial, fun h => by cases h⟩
    · have e0 : (((sortU (marks p)).map (pOf m2)).filter fun _ => false).map (fun u => u) = [] := by simp
      rw [e0]
      refine ⟨by simp [LIM], ?_⟩
      rw [eqW_lst (ws := []) (ds := []) (rdL_app (rdL_new _ _)) (rdL_new _ _) rfl]
      try simp only [w_var, w_c, w_bin, w_cmp, w_chain, w_and, w_or, w_ite, w_not, w_nil, w_cons, w_tup, w_lst, w_ix, w_no, w_yes, w_sl, w_call, w_bi, w_val, w_rng1, w_rng2, s_nil, s_cons, s_ret, s_expr, s_set, s_if, s_pass, s_setix, s_app, s_ext, o_addI, o_addS, o_addT, o_addL, o_sub, o_mulI, o_mulS, o_mulL, o_fdiv, o_mod, o_pow, c_ltI, c_ltS, c_le, c_gt, c_ge, c_eq, c_ne, e_ii, e_ss, e_bb, c_inS, c_notS, i_str, i_tup, i_ref, l_str, l_tup, l_rol, l_ref, b_lenS, b_lenT, b_lenR, b_abs, b_tupR, b_tupT, b_listR, b_listT, b_all, b_any, b_intI, b_intB, b_isiN, b_isiB, b_isiI, b_isiS, b_isiT, b_isiR, b_isiL, b_isN, b_notN, b_neg, b_rev, b_join, t_str, is_some, isB_some, byB_true, byB_false, start, wipe, bindT, List.map_cons, List.map_nil, List.cons_append, List.nil_append, List.append_nil, List.getElem?_cons_zero, List.getElem?_cons_succ, List.length_cons, List.length_nil, List.set_cons_zero, List.set_cons_succ, atI_0, atI_1, atI_2, atI_3, List.replicate, Nat.zero_add, Nat.reduceAdd, Nat.reduceSub, seqW_ref, seqW_tup, c_leS, b_iaddI, b_iaddS, b_isub, w_enum, w_zip, w_callv]
end
theorem lS : LS ds := ⟨rfl, rfl, rfl, rfl, rfl, rfl, rfl⟩
theorem goD : GoD ds := ⟨rfl, rfl, rfl⟩
theorem rwD : RwD ds := ⟨⟨rfl, rfl, rfl⟩, rfl, ⟨rfl, rfl⟩, rfl, rfl⟩
theorem law_is (ns : List Int) (hl : ns.length ≤ 63) : Is (callF ds 60 563 [.rol (ns.map W.int)] []) fun w _ => w = .bl true := by
  refine w_callF (k := 59) (show ds 563 = some ⟨1, 17, b_law_v58⟩ from rfl) rfl ?_
  simp (config := { maxSteps := 10000000 }) only [b_law_v58, w_var, w_c, w_bin, w_cmp, w_chain, w_and, w_or, w_ite, w_not, w_nil, w_cons, w_tup, w_lst, w_ix, w_no, w_yes, w_sl, w_call, w_bi, w_val, w_rng1, w_rng2, s_nil, s_cons, s_ret, s_expr, s_set, s_if, s_pass, s_setix, s_app, s_ext, o_addI, o_addS, o_addT, o_addL, o_sub, o_mulI, o_mulS, o_mulL, o_fdiv, o_mod, o_pow, c_ltI, c_ltS, c_le, c_gt, c_ge, c_eq, c_ne, e_ii, e_ss, e_bb, c_inS, c_notS, i_str, i_tup, i_ref, l_str, l_tup, l_rol, l_ref, b_lenS, b_lenT, b_lenR, b_abs, b_tupR, b_tupT, b_listR, b_listT, b_all, b_any, b_intI, b_intB, b_isiN, b_isiB, b_isiI, b_isiS, b_isiT, b_isiR, b_isiL, b_isN, b_notN, b_neg, b_rev, b_join, t_str, is_some, isB_some, byB_true, byB_false, start, wipe, bindT, List.map_cons, List.map_nil, List.cons_append, List.nil_append, List.append_nil, List.getElem?_cons_zero, List.getElem?_cons_succ, List.length_cons, List.length_nil, List.set_cons_zero, List.set_cons_succ, atI_0, atI_1, atI_2, atI_3, List.replicate, Nat.zero_add, Nat.reduceAdd, Nat.reduceSub, seqW_ref, seqW_tup, c_leS, b_iaddI, b_iaddS, b_isub, w_enum, w_zip, w_callv]
  refine (deck_spec rfl 58 _ ns hl).imp fun w S1 hw => ?_
  obtain ⟨rfl, hD, _⟩ := hw
  have hD : Dk 2 1 0 S1 := hD
  try simp only [w_var, w_c, w_bin, w_cmp, w_chain, w_and, w_or, w_ite, w_not, w_nil, w_cons, w_tup, w_lst, w_ix, w_no, w_yes, w_sl, w_call, w_bi, w_val, w_rng1, w_rng2, s_nil, s_cons, s_ret, s_expr, s_set, s_if, s_pass, s_setix, s_app, s_ext, o_addI, o_addS, o_addT, o_addL, o_sub, o_mulI, o_mulS, o_mulL, o_fdiv, o_mod, o_pow, c_ltI, c_ltS, c_le, c_gt, c_ge, c_eq, c_ne, e_ii, e_ss, e_bb, c_inS, c_notS, i_str, i_tup, i_ref, l_str, l_tup, l_rol, l_ref, b_lenS, b_lenT, b_lenR, b_abs, b_tupR, b_tupT, b_listR, b_listT, b_all, b_any, b_intI, b_intB, b_isiN, b_isiB, b_isiI, b_isiS, b_isiT, b_isiR, b_isiL, b_isN, b_notN, b_neg, b_rev, b_join, t_str, is_some, isB_some, byB_true, byB_false, start, wipe, bindT, List.map_cons, List.map_nil, List.cons_append, List.nil_append, List.append_nil, List.getElem?_cons_zero, List.getElem?_cons_succ, List.length_cons, List.length_nil, List.set_cons_zero, List.set_cons_succ, atI_0, atI_1, atI_2, atI_3, List.replicate, Nat.zero_add, Nat.reduceAdd, Nat.reduceSub, seqW_ref, seqW_tup, c_leS, b_iaddI, b_iaddS, b_isub, w_enum, w_zip, w_callv]
  refine draw_w rfl 58 hD (.refl _ _ _) (by omega) 4 (by omega) (by omega) fun v S2 a1 a2 a3 a4 _ => ?_
  try simp only [w_var, w_c, w_bin, w_cmp, w_chain, w_and, w_or, w_ite, w_not, w_nil, w_cons, w_tup, w_lst, w_ix, w_no, w_yes, w_sl, w_call, w_bi, w_val, w_rng1, w_rng2, s_nil, s_cons, s_ret, s_expr, s_set, s_if, s_pass, s_setix, s_app, s_ext, o_addI, o_addS, o_addT, o_addL, o_sub, o_mulI, o_mulS, o_mulL, o_fdiv, o_mod, o_pow, c_ltI, c_ltS, c_le, c_gt, c_ge, c_eq, c_ne, e_ii, e_ss, e_bb, c_inS, c_notS, i_str, i_tup, i_ref, l_str, l_tup, l_rol, l_ref, b_lenS, b_lenT, b_lenR, b_abs, b_tupR, b_tupT, b_listR, b_listT, b_all, b_any, b_intI, b_intB, b_isiN, b_isiB, b_isiI, b_isiS, b_isiT, b_isiR, b_isiL, b_isN, b_notN, b_neg, b_rev, b_join, t_str, is_some, isB_some, byB_true, byB_false, start, wipe, bindT, List.map_cons, List.map_nil, List.cons_append, List.nil_append, List.append_nil, List.getElem?_cons_zero, List.getElem?_cons_succ, List.length_cons, List.length_nil, List.set_cons_zero, List.set_cons_succ, atI_0, atI_1, atI_2, atI_3, List.replicate, Nat.zero_add, Nat.reduceAdd, Nat.reduceSub, seqW_ref, seqW_tup, c_leS, b_iaddI, b_iaddS, b_isub, w_enum, w_zip, w_callv]
  refine draw_w rfl 58 a3 (.refl _ _ _) (by omega) 2 (by omega) (by omega) fun t1 S3 b1 b2 b3 b4 _ => ?_
  try simp only [w_var, w_c, w_bin, w_cmp, w_chain, w_and, w_or, w_ite, w_not, w_nil, w_cons, w_tup, w_lst, w_ix, w_no, w_yes, w_sl, w_call, w_bi, w_val, w_rng1, w_rng2, s_nil, s_cons, s_ret, s_expr, s_set, s_if, s_pass, s_setix, s_app, s_ext, o_addI, o_addS, o_addT, o_addL, o_sub, o_mulI, o_mulS, o_mulL, o_fdiv, o_mod, o_pow, c_ltI, c_ltS, c_le, c_gt, c_ge, c_eq, c_ne, e_ii, e_ss, e_bb, c_inS, c_notS, i_str, i_tup, i_ref, l_str, l_tup, l_rol, l_ref, b_lenS, b_lenT, b_lenR, b_abs, b_tupR, b_tupT, b_listR, b_listT, b_all, b_any, b_intI, b_intB, b_isiN, b_isiB, b_isiI, b_isiS, b_isiT, b_isiR, b_isiL, b_isN, b_notN, b_neg, b_rev, b_join, t_str, is_some, isB_some, byB_true, byB_false, start, wipe, bindT, List.map_cons, List.map_nil, List.cons_append, List.nil_append, List.append_nil, List.getElem?_cons_zero, List.getElem?_cons_succ, List.length_cons, List.length_nil, List.set_cons_zero, List.set_cons_succ, atI_0, atI_1, atI_2, atI_3, List.replicate, Nat.zero_add, Nat.reduceAdd, Nat.reduceSub, seqW_ref, seqW_tup, c_leS, b_iaddI, b_iaddS, b_isub, w_enum, w_zip, w_callv]
  refine draw_w rfl 58 b3 (.refl _ _ _) (by omega) 100 (by omega) (by omega) fun t2 S4 c1 c2 c3 c4 _ => ?_
  try simp only [w_var, w_c, w_bin, w_cmp, w_chain, w_and, w_or, w_ite, w_not, w_nil, w_cons, w_tup, w_lst, w_ix, w_no, w_yes, w_sl, w_call, w_bi, w_val, w_rng1, w_rng2, s_nil, s_cons, s_ret, s_expr, s_set, s_if, s_pass, s_setix, s_app, s_ext, o_addI, o_addS, o_addT, o_addL, o_sub, o_mulI, o_mulS, o_mulL, o_fdiv, o_mod, o_pow, c_ltI, c_ltS, c_le, c_gt, c_ge, c_eq, c_ne, e_ii, e_ss, e_bb, c_inS, c_notS, i_str, i_tup, i_ref, l_str, l_tup, l_rol, l_ref, b_lenS, b_lenT, b_lenR, b_abs, b_tupR, b_tupT, b_listR, b_listT, b_all, b_any, b_intI, b_intB, b_isiN, b_isiB, b_isiI, b_isiS, b_isiT, b_isiR, b_isiL, b_isN, b_notN, b_neg, b_rev, b_join, t_str, is_some, isB_some, byB_true, byB_false, start, wipe, bindT, List.map_cons, List.map_nil, List.cons_append, List.nil_append, List.append_nil, List.getElem?_cons_zero, List.getElem?_cons_succ, List.length_cons, List.length_nil, List.set_cons_zero, List.set_cons_succ, atI_0, atI_1, atI_2, atI_3, List.replicate, Nat.zero_add, Nat.reduceAdd, Nat.reduceSub, seqW_ref, seqW_tup, c_leS, b_iaddI, b_iaddS, b_isub, w_enum, w_zip, w_callv]
  refine ⟨.inl ⟨by omega, by omega⟩, ?_⟩
  obtain ⟨i, hi⟩ : ∃ i : Nat, t1 * t2 = (i : Int) := ⟨(t1 * t2).toNat, by have := Int.mul_nonneg b1 c1; omega⟩
  rw [hi]
  refine (sound_spec lS rfl 51 3 S4 c3 (by omega) 4 (by omega)).imp fun w S5 hw => ?_
  obtain ⟨p, D, xs, ys, rfl, hDD, p1, p2, p3, p4, p5, p6⟩ := hw
  obtain ⟨q1, q2, q3, q4⟩ := p1.bnd hDD
  have pok := p1.ok
  try simp only [w_var, w_c, w_bin, w_cmp, w_chain, w_and, w_or, w_ite, w_not, w_nil, w_cons, w_tup, w_lst, w_ix, w_no, w_yes, w_sl, w_call, w_bi, w_val, w_rng1, w_rng2, s_nil, s_cons, s_ret, s_expr, s_set, s_if, s_pass, s_setix, s_app, s_ext, o_addI, o_addS, o_addT, o_addL, o_sub, o_mulI, o_mulS, o_mulL, o_fdiv, o_mod, o_pow, c_ltI, c_ltS, c_le, c_gt, c_ge, c_eq, c_ne, e_ii, e_ss, e_bb, c_inS, c_notS, i_str, i_tup, i_ref, l_str, l_tup, l_rol, l_ref, b_lenS, b_lenT, b_lenR, b_abs, b_tupR, b_tupT, b_listR, b_listT, b_all, b_any, b_intI, b_intB, b_isiN, b_isiB, b_isiI, b_isiS, b_isiT, b_isiR, b_isiL, b_isN, b_notN, b_neg, b_rev, b_join, t_str, is_some, isB_some, byB_true, byB_false, start, wipe, bindT, List.map_cons, List.map_nil, List.cons_append, List.nil_append, List.append_nil, List.getElem?_cons_zero, List.getElem?_cons_succ, List.length_cons, List.length_nil, List.set_cons_zero, List.set_cons_succ, atI_0, atI_1, atI_2, atI_3, List.replicate, Nat.zero_add, Nat.reduceAdd, Nat.reduceSub, seqW_ref, seqW_tup, c_leS, b_iaddI, b_iaddS, b_isub, w_enum, w_zip, w_callv]
  have F := formK lS 2 (by omega) 53 57 (3 + 1010) 3 (by omega) S5 p5 (by omega)
  refine F.imp fun w S6 hw => hw.imp fun w S7 hw => ?_
  obtain ⟨sm, xs', ys', rfl, s1, s2, s3, s4, s5, s6⟩ := hw
  have ssz : size sm ≤ 25 := s1.sz
  have sdp : deep sm ≤ 5 := s1.dp
  have sok := s1.ok
  have gl5 := gl_le sm
  have gd5 := gd_le sm
  have e5 : 3 ^ deep sm * size sm ≤ 3 ^ 5 * 25 := Nat.mul_le_mul (pw_le (by omega) (by omega)) (by omega)
  have e6 : 4 ^ deep sm * size sm ≤ 4 ^ 5 * 25 := Nat.mul_le_mul (pw_le (by omega) (by omega)) (by omega)
  have e7 : (3 : Nat) ^ 5 * 25 = 6075 := by decide
  have e8 : (4 : Nat) ^ 5 * 25 = 25600 := by decide
  try simp only [w_var, w_c, w_bin, w_cmp, w_chain, w_and, w_or, w_ite, w_not, w_nil, w_cons, w_tup, w_lst, w_ix, w_no, w_yes, w_sl, w_call, w_bi, w_val, w_rng1, w_rng2, s_nil, s_cons, s_ret, s_expr, s_set, s_if, s_pass, s_setix, s_app, s_ext, o_addI, o_addS, o_addT, o_addL, o_sub, o_mulI, o_mulS, o_mulL, o_fdiv, o_mod, o_pow, c_ltI, c_ltS, c_le, c_gt, c_ge, c_eq, c_ne, e_ii, e_ss, e_bb, c_inS, c_notS, i_str, i_tup, i_ref, l_str, l_tup, l_rol, l_ref, b_lenS, b_lenT, b_lenR, b_abs, b_tupR, b_tupT, b_listR, b_listT, b_all, b_any, b_intI, b_intB, b_isiN, b_isiB, b_isiI, b_isiS, b_isiT, b_isiR, b_isiL, b_isN, b_notN, b_neg, b_rev, b_join, t_str, is_some, isB_some, byB_true, byB_false, start, wipe, bindT, List.map_cons, List.map_nil, List.cons_append, List.nil_append, List.append_nil, List.getElem?_cons_zero, List.getElem?_cons_succ, List.length_cons, List.length_nil, List.set_cons_zero, List.set_cons_succ, atI_0, atI_1, atI_2, atI_3, List.replicate, Nat.zero_add, Nat.reduceAdd, Nat.reduceSub, seqW_ref, seqW_tup, c_leS, b_iaddI, b_iaddS, b_isub, w_enum, w_zip, w_callv, e_ii]
  refine byB_dec _ _ _ (fun hv => ?_) (fun hv => ?_)
  · have hv0 : v = 0 := of_decide_eq_true hv
    refine ⟨by simp [LIM], by simp [LIM], by simp [LIM], by simp [LIM], by simp [LIM], ?_⟩
    rw [show decide (v = 1) = false from decide_eq_false (by omega)]
    try simp only [w_var, w_c, w_bin, w_cmp, w_chain, w_and, w_or, w_ite, w_not, w_nil, w_cons, w_tup, w_lst, w_ix, w_no, w_yes, w_sl, w_call, w_bi, w_val, w_rng1, w_rng2, s_nil, s_cons, s_ret, s_expr, s_set, s_if, s_pass, s_setix, s_app, s_ext, o_addI, o_addS, o_addT, o_addL, o_sub, o_mulI, o_mulS, o_mulL, o_fdiv, o_mod, o_pow, c_ltI, c_ltS, c_le, c_gt, c_ge, c_eq, c_ne, e_ii, e_ss, e_bb, c_inS, c_notS, i_str, i_tup, i_ref, l_str, l_tup, l_rol, l_ref, b_lenS, b_lenT, b_lenR, b_abs, b_tupR, b_tupT, b_listR, b_listT, b_all, b_any, b_intI, b_intB, b_isiN, b_isiB, b_isiI, b_isiS, b_isiT, b_isiR, b_isiL, b_isN, b_notN, b_neg, b_rev, b_join, t_str, is_some, isB_some, byB_true, byB_false, start, wipe, bindT, List.map_cons, List.map_nil, List.cons_append, List.nil_append, List.append_nil, List.getElem?_cons_zero, List.getElem?_cons_succ, List.length_cons, List.length_nil, List.set_cons_zero, List.set_cons_succ, atI_0, atI_1, atI_2, atI_3, List.replicate, Nat.zero_add, Nat.reduceAdd, Nat.reduceSub, seqW_ref, seqW_tup, c_leS, b_iaddI, b_iaddS, b_isub, w_enum, w_zip, w_callv]
    have tt := tail13 goD rwD rfl rfl rfl (.some 0 .non (.row [.some 0 (.int 1) p, .sign [97, 98]])) p i (3 + 1010 + 1000) (by simp only [deep, deeps]; omega) (by simp [okG, okGs, okT, okS, pok]) (by simp only [size, sizes]; omega) (by simp only [gl, gls]; omega) (by simp only [gd, gds]; omega) q2 pok q1 q3 q4 p1.tm1 (by omega) S7 s5 (some (.rol (ns.map W.int))) (some (.int v)) (some (enc sm))
    try simp only [w_var, w_c, w_bin, w_cmp, w_chain, w_and, w_or, w_ite, w_not, w_nil, w_cons, w_tup, w_lst, w_ix, w_no, w_yes, w_sl, w_call, w_bi, w_val, w_rng1, w_rng2, s_nil, s_cons, s_ret, s_expr, s_set, s_if, s_pass, s_setix, s_app, s_ext, o_addI, o_addS, o_addT, o_addL, o_sub, o_mulI, o_mulS, o_mulL, o_fdiv, o_mod, o_pow, c_ltI, c_ltS, c_le, c_gt, c_ge, c_eq, c_ne, e_ii, e_ss, e_bb, c_inS, c_notS, i_str, i_tup, i_ref, l_str, l_tup, l_rol, l_ref, b_lenS, b_lenT, b_lenR, b_abs, b_tupR, b_tupT, b_listR, b_listT, b_all, b_any, b_intI, b_intB, b_isiN, b_isiB, b_isiI, b_isiS, b_isiT, b_isiR, b_isiL, b_isN, b_notN, b_neg, b_rev, b_join, t_str, is_some, isB_some, byB_true, byB_false, start, wipe, bindT, List.map_cons, List.map_nil, List.cons_append, List.nil_append, List.append_nil, List.getElem?_cons_zero, List.getElem?_cons_succ, List.length_cons, List.length_nil, List.set_cons_zero, List.set_cons_succ, atI_0, atI_1, atI_2, atI_3, List.replicate, Nat.zero_add, Nat.reduceAdd, Nat.reduceSub, seqW_ref, seqW_tup, c_leS, b_iaddI, b_iaddS, b_isub, w_enum, w_zip, w_callv, enc, encs] at tt
    exact tt
  · by_cases hv1 : v = 1
    · rw [decide_eq_true hv1]
      try simp only [w_var, w_c, w_bin, w_cmp, w_chain, w_and, w_or, w_ite, w_not, w_nil, w_cons, w_tup, w_lst, w_ix, w_no, w_yes, w_sl, w_call, w_bi, w_val, w_rng1, w_rng2, s_nil, s_cons, s_ret, s_expr, s_set, s_if, s_pass, s_setix, s_app, s_ext, o_addI, o_addS, o_addT, o_addL, o_sub, o_mulI, o_mulS, o_mulL, o_fdiv, o_mod, o_pow, c_ltI, c_ltS, c_le, c_gt, c_ge, c_eq, c_ne, e_ii, e_ss, e_bb, c_inS, c_notS, i_str, i_tup, i_ref, l_str, l_tup, l_rol, l_ref, b_lenS, b_lenT, b_lenR, b_abs, b_tupR, b_tupT, b_listR, b_listT, b_all, b_any, b_intI, b_intB, b_isiN, b_isiB, b_isiI, b_isiS, b_isiT, b_isiR, b_isiL, b_isN, b_notN, b_neg, b_rev, b_join, t_str, is_some, isB_some, byB_true, byB_false, start, wipe, bindT, List.map_cons, List.map_nil, List.cons_append, List.nil_append, List.append_nil, List.getElem?_cons_zero, List.getElem?_cons_succ, List.length_cons, List.length_nil, List.set_cons_zero, List.set_cons_succ, atI_0, atI_1, atI_2, atI_3, List.replicate, Nat.zero_add, Nat.reduceAdd, Nat.reduceSub, seqW_ref, seqW_tup, c_leS, b_iaddI, b_iaddS, b_isub, w_enum, w_zip, w_callv]
      refine ⟨by simp [LIM], by simp [LIM], ?_⟩
      have rr : rdL (S7 ++ [SO.lst [enc sm, .tup [.str kSign, .str [99]], enc sm]]) S7.length = some (encs [sm, .sign [99], sm]) := by rw [rdL_new]; simp [encs, enc]
      have dk := s5.kp (Kp.app S7 [SO.lst [enc sm, .tup [.str kSign, .str [99]], enc sm]])
      generalize S7 ++ [SO.lst [enc sm, .tup [.str kSign, .str [99]], enc sm]] = S8 at *
      refine (lrow_spec rfl 58 rr (by simp)).imp fun w S9 hw => ?_
      obtain ⟨rfl, k9⟩ := hw
      have hwr : ∀ q : Pt, okG q = true → okG (wrap kRow q) = true ∧ deep (wrap kRow q) ≤ deep q + 1 ∧ size (wrap kRow q) ≤ size q + 1 ∧ gl (wrap kRow q) ≤ 3 * gl q ∧ gd (wrap kRow q) ≤ 1 + 3 * gd q := fun q hq => by
        unfold wrap
        split
        · exact ⟨by simp [okG, okT, hq], by simp only [deep]; omega, by simp only [size]; omega, by simp only [gl]; omega, by simp only [gd]; omega⟩
        · exact ⟨hq, by omega, by omega, by omega, by omega⟩
      obtain ⟨w1, w2, w3, w4, w5⟩ := hwr sm sok
      obtain ⟨u1, u2, u3, u4, u5⟩ := hwr (.sign [99]) (by simp [okG, okS])
      generalize hP : Pt.row (List.map (wrap kRow) [sm, .sign [99], sm]) = P
      have tt := tail13 goD rwD rfl rfl rfl P p i (3 + 1010 + 1000) (by rw [← hP]; simp only [List.map_cons, List.map_nil, deep, deeps] at *; omega) (by rw [← hP]; simp only [List.map_cons, List.map_nil, okG, okGs, w1, u1]; rfl) (by rw [← hP]; simp only [List.map_cons, List.map_nil, size, sizes] at *; omega) (by rw [← hP]; simp only [List.map_cons, List.map_nil, gl, gls] at *; omega) (by rw [← hP]; simp only [List.map_cons, List.map_nil, gd, gds] at *; omega) q2 pok q1 q3 q4 p1.tm1 (by omega) S9 (dk.kp k9) (some (.rol (ns.map W.int))) (some (.int v)) (some (enc sm))
      try simp only [w_var, w_c, w_bin, w_cmp, w_chain, w_and, w_or, w_ite, w_not, w_nil, w_cons, w_tup, w_lst, w_ix, w_no, w_yes, w_sl, w_call, w_bi, w_val, w_rng1, w_rng2, s_nil, s_cons, s_ret, s_expr, s_set, s_if, s_pass, s_setix, s_app, s_ext, o_addI, o_addS, o_addT, o_addL, o_sub, o_mulI, o_mulS, o_mulL, o_fdiv, o_mod, o_pow, c_ltI, c_ltS, c_le, c_gt, c_ge, c_eq, c_ne, e_ii, e_ss, e_bb, c_inS, c_notS, i_str, i_tup, i_ref, l_str, l_tup, l_rol, l_ref, b_lenS, b_lenT, b_lenR, b_abs, b_tupR, b_tupT, b_listR, b_listT, b_all, b_any, b_intI, b_intB, b_isiN, b_isiB, b_isiI, b_isiS, b_isiT, b_isiR, b_isiL, b_isN, b_notN, b_neg, b_rev, b_join, t_str, is_some, isB_some, byB_true, byB_false, start, wipe, bindT, List.map_cons, List.map_nil, List.cons_append, List.nil_append, List.append_nil, List.getElem?_cons_zero, List.getElem?_cons_succ, List.length_cons, List.length_nil, List.set_cons_zero, List.set_cons_succ, atI_0, atI_1, atI_2, atI_3, List.replicate, Nat.zero_add, Nat.reduceAdd, Nat.reduceSub, seqW_ref, seqW_tup, c_leS, b_iaddI, b_iaddS, b_isub, w_enum, w_zip, w_callv] at tt
      exact tt
    · rw [decide_eq_false hv1]
      try simp only [w_var, w_c, w_bin, w_cmp, w_chain, w_and, w_or, w_ite, w_not, w_nil, w_cons, w_tup, w_lst, w_ix, w_no, w_yes, w_sl, w_call, w_bi, w_val, w_rng1, w_rng2, s_nil, s_cons, s_ret, s_expr, s_set, s_if, s_pass, s_setix, s_app, s_ext, o_addI, o_addS, o_addT, o_addL, o_sub, o_mulI, o_mulS, o_mulL, o_fdiv, o_mod, o_pow, c_ltI, c_ltS, c_le, c_gt, c_ge, c_eq, c_ne, e_ii, e_ss, e_bb, c_inS, c_notS, i_str, i_tup, i_ref, l_str, l_tup, l_rol, l_ref, b_lenS, b_lenT, b_lenR, b_abs, b_tupR, b_tupT, b_listR, b_listT, b_all, b_any, b_intI, b_intB, b_isiN, b_isiB, b_isiI, b_isiS, b_isiT, b_isiR, b_isiL, b_isN, b_notN, b_neg, b_rev, b_join, t_str, is_some, isB_some, byB_true, byB_false, start, wipe, bindT, List.map_cons, List.map_nil, List.cons_append, List.nil_append, List.append_nil, List.getElem?_cons_zero, List.getElem?_cons_succ, List.length_cons, List.length_nil, List.set_cons_zero, List.set_cons_succ, atI_0, atI_1, atI_2, atI_3, List.replicate, Nat.zero_add, Nat.reduceAdd, Nat.reduceSub, seqW_ref, seqW_tup, c_leS, b_iaddI, b_iaddS, b_isub, w_enum, w_zip, w_callv]
      have tt := tail13 goD rwD rfl rfl rfl p p i (3 + 1010 + 1000) (by omega) pok (by omega) (by omega) (by omega) q2 pok q1 q3 q4 p1.tm1 (by omega) S7 s5 (some (.rol (ns.map W.int))) (some (.int v)) (some (enc sm))
      try simp only [w_var, w_c, w_bin, w_cmp, w_chain, w_and, w_or, w_ite, w_not, w_nil, w_cons, w_tup, w_lst, w_ix, w_no, w_yes, w_sl, w_call, w_bi, w_val, w_rng1, w_rng2, s_nil, s_cons, s_ret, s_expr, s_set, s_if, s_pass, s_setix, s_app, s_ext, o_addI, o_addS, o_addT, o_addL, o_sub, o_mulI, o_mulS, o_mulL, o_fdiv, o_mod, o_pow, c_ltI, c_ltS, c_le, c_gt, c_ge, c_eq, c_ne, e_ii, e_ss, e_bb, c_inS, c_notS, i_str, i_tup, i_ref, l_str, l_tup, l_rol, l_ref, b_lenS, b_lenT, b_lenR, b_abs, b_tupR, b_tupT, b_listR, b_listT, b_all, b_any, b_intI, b_intB, b_isiN, b_isiB, b_isiI, b_isiS, b_isiT, b_isiR, b_isiL, b_isN, b_notN, b_neg, b_rev, b_join, t_str, is_some, isB_some, byB_true, byB_false, start, wipe, bindT, List.map_cons, List.map_nil, List.cons_append, List.nil_append, List.append_nil, List.getElem?_cons_zero, List.getElem?_cons_succ, List.length_cons, List.length_nil, List.set_cons_zero, List.set_cons_succ, atI_0, atI_1, atI_2, atI_3, List.replicate, Nat.zero_add, Nat.reduceAdd, Nat.reduceSub, seqW_ref, seqW_tup, c_leS, b_iaddI, b_iaddS, b_isub, w_enum, w_zip, w_callv] at tt
      exact tt
theorem law_true (ns : List Int) (hl : ns.length ≤ 63) : ∃ S', callF ds 60 563 [.rol (ns.map .int)] [] = some (.bl true, S') := by
  obtain ⟨w, S', h1, h2⟩ := (law_is ns hl).ex
  subst h2
  exact ⟨S', h1⟩
end Pg
namespace Pg
open PySem PySem.Spec PyProof.Rows L2 MP
def topS (i : Nat) : Stmt := PySem.Challenge.pw_markpieces_k13_pieces_and_rows.main.body.getD i (.Pass ⟨0, 0, 0, 0⟩)
abbrev s_forms_within : Stmt := topS 1
abbrev s_parts_of : Stmt := topS 3
abbrev s_forms_of : Stmt := topS 4
abbrev s_names_of : Stmt := topS 5
abbrev s_stretches : Stmt := topS 7
abbrev s_pieces_of : Stmt := topS 8
abbrev s_gather : Stmt := topS 9
abbrev s_row_of_v3 : Stmt := topS 10
abbrev s_law_deck : Stmt := topS 12
abbrev s_law_draw : Stmt := topS 13
abbrev s_law_names_v2 : Stmt := topS 14
abbrev s_law_sign_v3 : Stmt := topS 15
abbrev s_law_solid : Stmt := topS 16
abbrev s_law_row : Stmt := topS 17
abbrev s_law_any : Stmt := topS 18
abbrev s_law_form_v2 : Stmt := topS 19
abbrev s_law_sound : Stmt := topS 20
abbrev s_law_times : Stmt := topS 21
abbrev s_law_go : Stmt := topS 22
abbrev s_law_whole_v4 : Stmt := topS 23
abbrev s_law_heads : Stmt := topS 24
abbrev s_law_are_pieces : Stmt := topS 25
abbrev s_law_v58 : Stmt := topS 26
theorem sc_forms_within : FnScope ["form", "parts", "forms", "part"] ["form", "parts"] (defScope s_forms_within) := ⟨rfl, rfl, rfl, by decide +kernel, rfl, by decide +kernel, by decide +kernel⟩
theorem sc_parts_of : FnScope ["form", "kind"] ["form"] (defScope s_parts_of) := ⟨rfl, rfl, rfl, by decide +kernel, rfl, by decide +kernel, by decide +kernel⟩
theorem sc_forms_of : FnScope ["pattern"] ["pattern"] (defScope s_forms_of) := ⟨rfl, rfl, rfl, by decide +kernel, rfl, by decide +kernel, by decide +kernel⟩
theorem sc_names_of : FnScope ["pattern", "form"] ["pattern"] (defScope s_names_of) := ⟨rfl, rfl, rfl, by decide +kernel, rfl, by decide +kernel, by decide +kernel⟩
theorem sc_stretches : FnScope ["pattern", "way", "kind", "inner"] ["pattern", "way"] (defScope s_stretches) := ⟨rfl, rfl, rfl, by decide +kernel, rfl, by decide +kernel, by decide +kernel⟩
theorem sc_pieces_of : FnScope ["pattern", "way", "at", "found"] ["pattern", "way", "at"] (defScope s_pieces_of) := ⟨rfl, rfl, rfl, by decide +kernel, rfl, by decide +kernel, by decide +kernel⟩
theorem sc_gather : FnScope ["pattern", "way", "at", "found", "end", "part", "inner"] ["pattern", "way", "at", "found"] (defScope s_gather) := ⟨rfl, rfl, rfl, by decide +kernel, rfl, by decide +kernel, by decide +kernel⟩
theorem sc_row_of_v3 : FnScope ["pattern", "way", "marked", "name", "begin", "end"] ["pattern", "way"] (defScope s_row_of_v3) := ⟨rfl, rfl, rfl, by decide +kernel, rfl, by decide +kernel, by decide +kernel⟩
theorem sc_law_deck : FnScope ["_law_script", "_law_cell"] ["_law_script"] (defScope s_law_deck) := ⟨rfl, rfl, rfl, by decide +kernel, rfl, by decide +kernel, by decide +kernel⟩
theorem sc_law_draw : FnScope ["_law_deck_here", "_law_many", "_law_cell", "_law_place"] ["_law_deck_here", "_law_many"] (defScope s_law_draw) := ⟨rfl, rfl, rfl, by decide +kernel, rfl, by decide +kernel, by decide +kernel⟩
theorem sc_law_names_v2 : FnScope ["_law_deck_here", "_law_many", "_law_letters", "_law_stem", "_law_at", "_law_first", "_law_k"] ["_law_deck_here", "_law_many"] (defScope s_law_names_v2) := ⟨rfl, rfl, rfl, by decide +kernel, rfl, by decide +kernel, by decide +kernel⟩
theorem sc_law_sign_v3 : FnScope ["_law_deck_here"] ["_law_deck_here"] (defScope s_law_sign_v3) := ⟨rfl, rfl, rfl, by decide +kernel, rfl, by decide +kernel, by decide +kernel⟩
theorem sc_law_solid : FnScope ["_law_deck_here", "_law_deep", "_law_way", "_law_one", "_law_other", "_law_word", "_law_parts"] ["_law_deck_here", "_law_deep"] (defScope s_law_solid) := ⟨rfl, rfl, rfl, by decide +kernel, rfl, by decide +kernel, by decide +kernel⟩
theorem sc_law_row : FnScope ["_law_parts", "_law_part"] ["_law_parts"] (defScope s_law_row) := ⟨rfl, rfl, rfl, by decide +kernel, rfl, by decide +kernel, by decide +kernel⟩
theorem sc_law_any : FnScope ["_law_parts", "_law_part"] ["_law_parts"] (defScope s_law_any) := ⟨rfl, rfl, rfl, by decide +kernel, rfl, by decide +kernel, by decide +kernel⟩
theorem sc_law_form_v2 : FnScope ["_law_deck_here", "_law_deep", "_law_left", "_law_way", "_law_own", "_law_other", "_law_parts", "_law_name", "_law_k"] ["_law_deck_here", "_law_deep", "_law_left"] (defScope s_law_form_v2) := ⟨rfl, rfl, rfl, by decide +kernel, rfl, by decide +kernel, by decide +kernel⟩
theorem sc_law_sound : FnScope ["_law_deck_here", "_law_most"] ["_law_deck_here", "_law_most"] (defScope s_law_sound) := ⟨rfl, rfl, rfl, by decide +kernel, rfl, by decide +kernel, by decide +kernel⟩
theorem sc_law_times : FnScope ["_law_deck_here", "_law_pattern", "_law_most"] ["_law_deck_here", "_law_pattern", "_law_most"] (defScope s_law_times) := ⟨rfl, rfl, rfl, by decide +kernel, rfl, by decide +kernel, by decide +kernel⟩
theorem sc_law_go : FnScope ["_law_deck_here", "_law_pattern", "_law_at", "_law_most", "_law_parts", "_law_text", "_law_ways", "_law_pieces", "_law_part", "_law_k", "_law_way", "_law_more", "_law_found"] ["_law_deck_here", "_law_pattern", "_law_at", "_law_most"] (defScope s_law_go) := ⟨rfl, rfl, rfl, by decide +kernel, rfl, by decide +kernel, by decide +kernel⟩
theorem sc_law_whole_v4 : FnScope ["_law_thing"] ["_law_thing"] (defScope s_law_whole_v4) := ⟨rfl, rfl, rfl, by decide +kernel, rfl, by decide +kernel, by decide +kernel⟩
theorem sc_law_heads : FnScope ["_law_pattern", "_law_parts", "_law_found", "_law_part"] ["_law_pattern"] (defScope s_law_heads) := ⟨rfl, rfl, rfl, by decide +kernel, rfl, by decide +kernel, by decide +kernel⟩
theorem sc_law_are_pieces : FnScope ["_law_found", "_law_cut"] ["_law_found"] (defScope s_law_are_pieces) := ⟨rfl, rfl, rfl, by decide +kernel, rfl, by decide +kernel, by decide +kernel⟩
theorem sc_law_v58 : FnScope ["_law_script", "_law_deck_here", "_law_around", "_law_at", "_law_pattern", "_law_sound_here", "_law_small", "_law_found", "_law_due", "_law_head", "_law_row_here", "_law_text", "_law_way", "_law_pieces", "_law_own", "_law_cut", "_law_part"] ["_law_script"] (defScope s_law_v58) := ⟨rfl, rfl, rfl, by decide +kernel, rfl, by decide +kernel, by decide +kernel⟩
/-- what the top has left -/
structure Top (w : World) (K : Fg) (mg : Str → Option Value) : Prop where
  z_abs : mg "abs" = none
  z_bool : mg "bool" = none
  z_int : mg "int" = none
  z_isinstance : mg "isinstance" = none
  z_len : mg "len" = none
  z_list : mg "list" = none
  z_range : mg "range" = none
  z_set : mg "set" = none
  z_sorted : mg "sorted" = none
  z_str : mg "str" = none
  z_tuple : mg "tuple" = none
  z_zip : mg "zip" = none
  v_parts_of : ∃ v u, mg "parts_of" = some u ∧ RelV v u ∧ ∀ μ H, VW K μ H v (.fn [112, 97, 114, 116, 115, 95, 111, 102])
  w_parts_of : ∃ u, PySem.W.nsIn K mainGlobals "parts_of" = some (some u) ∧ mg "parts_of" = some u
def tab : Nat → Option (Str × Nat)
  | 560 => some ("forms_within", 2)
  | 20 => some ("parts_of", 1)
  | 35 => some ("forms_of", 1)
  | 36 => some ("names_of", 1)
  | 110 => some ("stretches", 2)
  | 127 => some ("pieces_of", 3)
  | 128 => some ("gather", 4)
  | 562 => some ("row_of", 2)
  | 3 => some ("_law_deck", 1)
  | 4 => some ("_law_draw", 2)
  | 111 => some ("_law_names", 2)
  | 112 => some ("_law_sign", 1)
  | 113 => some ("_law_solid", 2)
  | 114 => some ("_law_row", 1)
  | 115 => some ("_law_any", 1)
  | 116 => some ("_law_form", 3)
  | 117 => some ("_law_sound", 2)
  | 118 => some ("_law_times", 3)
  | 119 => some ("_law_go", 4)
  | 120 => some ("_law_whole", 1)
  | 130 => some ("_law_heads", 1)
  | 131 => some ("_law_are_pieces", 1)
  | 563 => some ("law", 1)
  | _ => none
def Al (P : Program) (w : World) (K : Fg) (mg : Str → Option Value) (base : Heap) (k : Nat) : Prop := ∀ (i : Nat) (x : Str) (n : Nat), tab i = some (x, n) → Cal P w K mg base k (callF ds k) x i n
section
variable {P : Program} {w : World} {K : Fg} {mg : Str → Option Value} {base : Heap} {k : Nat} {f : Addr} {fd : FuncData}
theorem ok_forms_within (T : Top w K mg) (al : Al P w K mg base k) (F : Fun K "forms_within" "forms_within" s_forms_within f fd) : FnOk P w K mg base CX0 (k + 1) f fd ["form", "parts"] (spD K (callF ds (k + 1)) 560 2) :=
  fn_ok (n := 2) (body := b_forms_within) F sc_forms_within rfl rfl fun cdv A outer s H E hr => by
    have nd := sc_forms_within.nd
    exact (dss_cons (ds_set (dg_name 2 nd) (de_lst (da_cons (de_var 0) da_nil))) (dss_cons (ds_for (dg_name 3 nd) (di_val (de_callv (al 20 "parts_of" 1 rfl) T.w_parts_of hr (j := 1) rfl rfl (da_cons (de_var 0) da_nil))) (dss_cons (ds_ext (de_var 2) (de_call (al 560 "forms_within" 2 rfl) hr (da_cons (de_var 3) (da_cons (de_var 1) da_nil)))) dss_nil) PassesOwn.never) (dss_cons (ds_ret (de_var 2)) dss_nil)))
theorem ok_parts_of (T : Top w K mg) (al : Al P w K mg base k) (F : Fun K "parts_of" "parts_of" s_parts_of f fd) : FnOk P w K mg base CX0 (k + 1) f fd ["form"] (spD K (callF ds (k + 1)) 20 1) :=
  fn_ok (n := 1) (body := b_parts_of) F sc_parts_of rfl rfl fun cdv A outer s H E hr => by
    have nd := sc_parts_of.nd
    exact (dss_cons (ds_set (dg_name 1 nd) (de_ix (de_var 0) de_int)) (dss_cons (ds_if (dt_cmp (ck_eq hr) (de_var 1) de_str) (dss_cons (ds_ret (de_tup da_nil)) dss_nil) dss_nil) (dss_cons (ds_if (dt_cmp (ck_eq hr) (de_var 1) de_str) (dss_cons (ds_ret (de_tup (da_cons (de_ix (de_var 0) de_int) da_nil))) dss_nil) dss_nil) (dss_cons (ds_if (dt_cmp (ck_eq hr) (de_var 1) de_str) (dss_cons (ds_ret (de_tup (da_cons (de_ix (de_var 0) de_int) da_nil))) dss_nil) dss_nil) (dss_cons (ds_ret (de_ix (de_var 0) de_int)) dss_nil)))))
theorem ok_forms_of (T : Top w K mg) (al : Al P w K mg base k) (F : Fun K "forms_of" "forms_of" s_forms_of f fd) : FnOk P w K mg base CX0 (k + 1) f fd ["pattern"] (spD K (callF ds (k + 1)) 35 1) :=
  fn_ok (n := 1) (body := b_forms_of) F sc_forms_of rfl rfl fun cdv A outer s H E hr => by
    have nd := sc_forms_of.nd
    exact (dss_cons (ds_ret (de_call (al 560 "forms_within" 2 rfl) hr (da_cons (de_var 0) (da_cons (de_gval T.v_parts_of) da_nil)))) dss_nil)
theorem ok_names_of (T : Top w K mg) (al : Al P w K mg base k) (F : Fun K "names_of" "names_of" s_names_of f fd) : FnOk P w K mg base CX0 (k + 1) f fd ["pattern"] (spD K (callF ds (k + 1)) 36 1) :=
  fn_ok (n := 1) (body := b_names_of) F sc_names_of rfl rfl fun cdv A outer s H E hr => by
    have nd := sc_names_of.nd
    exact (dss_cons (ds_ret (de_callTy call_tuple_of cs_tuple T.z_tuple (by decide +kernel) (da_cons (de_sset T.z_sorted T.z_set (de_comp (own := [("form", 1)]) (go_name _ 1) nd (di_val (de_call (al 35 "forms_of" 1 rfl) hr (da_cons (de_var 0) da_nil))) (blkOk_by (N := ["pattern", "form"]) (sc := defScope s_names_of) (by decide +kernel)) (fun _ _ _ _ _ => pg_name (i := 1) nd rfl (Or.inl rfl)) (fun _ _ _ _ _ => dts_one (dt_cmp (ck_eq hr) (de_ix (de_var 1) de_int) de_str)) (fun _ _ _ _ _ => (de_ix (de_var 1) de_int)))) da_nil))) dss_nil)
theorem ok_stretches (T : Top w K mg) (al : Al P w K mg base k) (F : Fun K "stretches" "stretches" s_stretches f fd) : FnOk P w K mg base CX0 (k + 1) f fd ["pattern", "way"] (spD K (callF ds (k + 1)) 110 2) :=
  fn_ok (n := 2) (body := b_stretches) F sc_stretches rfl rfl fun cdv A outer s H E hr => by
    have nd := sc_stretches.nd
    exact (dss_cons (ds_set (dg_name 2 nd) (de_ix (de_var 0) de_int)) (dss_cons (ds_if (dt_cmp (ck_eq hr) (de_var 2) de_str) (dss_cons (ds_ret (de_lzip T.z_list T.z_zip (de_ix (de_var 0) de_int) (de_var 1))) dss_nil) dss_nil) (dss_cons (ds_if (dt_cmp (ck_eq hr) (de_var 2) de_str) (dss_cons (ds_ret (de_lst (da_cons (de_tup (da_cons (de_ix (de_ix (de_var 0) de_int) (de_ix (de_var 1) de_int)) (da_cons (de_ix (de_var 1) de_int) da_nil))) da_nil))) dss_nil) dss_nil) (dss_cons (ds_if (dt_cmp (ck_eq hr) (de_var 2) de_str) (dss_cons (ds_ret (de_comp (own := [("inner", 3)]) (go_name _ 3) nd (di_val (de_var 1)) (blkOk_by (N := ["pattern", "way", "kind", "inner"]) (sc := defScope s_stretches) (by decide +kernel)) (fun _ _ _ _ _ => pg_name (i := 3) nd rfl (Or.inl rfl)) (fun _ _ _ _ _ => dts_nil) (fun _ _ _ _ _ => (de_tup (da_cons (de_ix (de_var 0) de_int) (da_cons (de_var 3) da_nil)))))) dss_nil) dss_nil) (dss_cons (ds_ret (de_lst (da_cons (de_tup (da_cons (de_ix (de_var 0) de_int) (da_cons (de_var 1) da_nil))) da_nil))) dss_nil)))))
theorem ok_pieces_of (T : Top w K mg) (al : Al P w K mg base k) (F : Fun K "pieces_of" "pieces_of" s_pieces_of f fd) : FnOk P w K mg base CX0 (k + 1) f fd ["pattern", "way", "at"] (spD K (callF ds (k + 1)) 127 3) :=
  fn_ok (n := 3) (body := b_pieces_of) F sc_pieces_of rfl rfl fun cdv A outer s H E hr => by
    have nd := sc_pieces_of.nd
    exact (dss_cons (ds_set (dg_name 3 nd) (de_lst da_nil)) (dss_cons (ds_expr (de_call (al 128 "gather" 4 rfl) hr (da_cons (de_var 0) (da_cons (de_var 1) (da_cons (de_var 2) (da_cons (de_var 3) da_nil)))))) (dss_cons (ds_ret (de_callTy call_tuple_of cs_tuple T.z_tuple (by decide +kernel) (da_cons (de_var 3) da_nil))) dss_nil)))
theorem ok_gather (T : Top w K mg) (al : Al P w K mg base k) (F : Fun K "gather" "gather" s_gather f fd) : FnOk P w K mg base CX0 (k + 1) f fd ["pattern", "way", "at", "found"] (spD K (callF ds (k + 1)) 128 4) :=
  fn_ok (n := 4) (body := b_gather) F sc_gather rfl rfl fun cdv A outer s H E hr => by
    have nd := sc_gather.nd
    exact (dss_cons (ds_if (dt_cmp (ck_eq hr) (de_ix (de_var 0) de_int) de_str) (dss_cons (ds_ret (de_add (de_var 2) de_int)) dss_nil) dss_nil) (dss_cons (ds_set (dg_name 4 nd) (de_var 2)) (dss_cons (ds_for (dg_seq 5 6 [] (pgs_cons (pg_name (i := 5) nd rfl (by first | exact .inl rfl | exact .inr rfl)) (pgs_cons (pg_name (i := 6) nd rfl (by first | exact .inl rfl | exact .inr rfl)) pgs_nil))) (di_val (de_call (al 110 "stretches" 2 rfl) hr (da_cons (de_var 0) (da_cons (de_var 1) da_nil)))) (dss_cons (ds_set (dg_name 4 nd) (de_call (al 128 "gather" 4 rfl) hr (da_cons (de_var 5) (da_cons (de_var 6) (da_cons (de_var 4) (da_cons (de_var 3) da_nil)))))) dss_nil) PassesOwn.never) (dss_cons (ds_if (dt_cmp (ck_eq hr) (de_ix (de_var 0) de_int) de_str) (dss_cons (ds_app (de_var 3) (de_tup (da_cons (de_ix (de_var 0) de_int) (da_cons (de_var 2) (da_cons (de_var 4) da_nil))))) dss_nil) dss_nil) (dss_cons (ds_ret (de_var 4)) dss_nil)))))
theorem ok_row_of_v3 (T : Top w K mg) (al : Al P w K mg base k) (F : Fun K "row_of" "row_of" s_row_of_v3 f fd) : FnOk P w K mg base CX0 (k + 1) f fd ["pattern", "way"] (spD K (callF ds (k + 1)) 562 2) :=
  fn_ok (n := 2) (body := b_row_of_v3) F sc_row_of_v3 rfl rfl fun cdv A outer s H E hr => by
    have nd := sc_row_of_v3.nd
    exact (dss_cons (ds_set (dg_name 2 nd) (de_dcomp (own := [("name", 3), ("begin", 4), ("end", 5)]) (go_seq _ 3 4 [5]) nd (di_val (de_call (al 127 "pieces_of" 3 rfl) hr (da_cons (de_var 0) (da_cons (de_var 1) (da_cons de_int da_nil))))) (blkOk_by (N := ["pattern", "way", "marked", "name", "begin", "end"]) (sc := defScope s_row_of_v3) (by decide +kernel)) (fun _ _ _ _ _ => pg_seq rfl (pgs_cons (pg_name (i := 3) nd rfl (Or.inl rfl)) (pgs_cons (pg_name (i := 4) nd rfl (Or.inl rfl)) (pgs_cons (pg_name (i := 5) nd rfl (Or.inl rfl)) pgs_nil)))) (fun _ _ _ _ _ => dts_nil) (fun _ _ _ _ _ => (de_var 3)) (fun _ _ _ _ _ => (de_tup (da_cons (de_var 4) (da_cons (de_var 5) da_nil)))))) (dss_cons (ds_ret (de_callTy call_tuple_of cs_tuple T.z_tuple (by decide +kernel) (da_cons (de_comp (own := [("name", 3)]) (go_name _ 3) nd (di_val (de_call (al 36 "names_of" 1 rfl) hr (da_cons (de_var 0) da_nil))) (blkOk_by (N := ["pattern", "way", "marked", "name", "begin", "end"]) (sc := defScope s_row_of_v3) (by decide +kernel)) (fun _ _ _ _ _ => pg_name (i := 3) nd rfl (Or.inl rfl)) (fun _ _ _ _ _ => dts_nil) (fun _ _ _ _ _ => (de_dgt hr (de_var 2) (de_var 3)))) da_nil))) dss_nil))
theorem ok_law_deck (T : Top w K mg) (al : Al P w K mg base k) (F : Fun K "_law_deck" "_law_deck" s_law_deck f fd) : FnOk P w K mg base CX0 (k + 1) f fd ["_law_script"] (spD K (callF ds (k + 1)) 3 1) :=
  fn_ok (n := 1) (body := b_law_deck) F sc_law_deck rfl rfl fun cdv A outer s H E hr => by
    have nd := sc_law_deck.nd
    exact (dss_cons (ds_ret (de_lst (da_cons (de_comp (own := [("_law_cell", 1)]) (go_name _ 1) nd (di_val (de_sl (de_var 0) do_none (do_some de_int))) (blkOk_by (N := ["_law_script", "_law_cell"]) (sc := defScope s_law_deck) (by decide +kernel)) (fun _ _ _ _ _ => pg_name (i := 1) nd rfl (Or.inl rfl)) (fun _ _ _ _ _ => dts_nil) (fun _ _ _ _ _ => (de_callB call_abs cs_abs T.z_abs (by decide +kernel) (da_cons (de_var 1) da_nil)))) (da_cons de_int da_nil)))) dss_nil)
theorem ok_law_draw (T : Top w K mg) (al : Al P w K mg base k) (F : Fun K "_law_draw" "_law_draw" s_law_draw f fd) : FnOk P w K mg base CX0 (k + 1) f fd ["_law_deck_here", "_law_many"] (spD K (callF ds (k + 1)) 4 2) :=
  fn_ok (n := 2) (body := b_law_draw) F sc_law_draw rfl rfl fun cdv A outer s H E hr => by
    have nd := sc_law_draw.nd
    exact (dss_cons (ds_setix (de_var 0) de_int (de_add (de_ix (de_var 0) de_int) de_int) (pg_sub (de_var 0) de_int set_list)) (dss_cons (ds_set (dg_name 2 nd) de_int) (dss_cons (ds_set (dg_name 3 nd) (de_neg de_int)) (dss_cons (ds_if (dt_cmp ck_gt (de_callB call_len cs_len T.z_len (by decide +kernel) (da_cons (de_ix (de_var 0) de_int) da_nil)) de_int) (dss_cons (ds_set (dg_name 3 nd) (de_mod (de_ix (de_var 0) de_int) (de_callB call_len cs_len T.z_len (by decide +kernel) (da_cons (de_ix (de_var 0) de_int) da_nil)))) (dss_cons (ds_set (dg_name 2 nd) (de_ix (de_ix (de_var 0) de_int) (de_var 3))) dss_nil)) dss_nil) (dss_cons (ds_if (dt_cmp ck_ge (de_var 2) (de_pow de_int de_int)) (dss_cons (ds_setix (de_ix (de_var 0) de_int) (de_var 3) (de_fdiv (de_var 2) (de_var 1)) (pg_sub (de_ix (de_var 0) de_int) (de_var 3) set_list)) (dss_cons (ds_ret (de_mod (de_var 2) (de_var 1))) dss_nil)) dss_nil) (dss_cons (ds_ret (de_mod (de_mod (de_pow (de_add (de_add (de_mod (de_var 2) de_int) (de_mul de_int (de_ix (de_var 0) de_int))) de_int) de_int) de_int) (de_var 1))) dss_nil))))))
theorem ok_law_names_v2 (T : Top w K mg) (al : Al P w K mg base k) (F : Fun K "_law_names" "_law_names" s_law_names_v2 f fd) : FnOk P w K mg base CX0 (k + 1) f fd ["_law_deck_here", "_law_many"] (spD K (callF ds (k + 1)) 111 2) :=
  fn_ok (n := 2) (body := b_law_names_v2) F sc_law_names_v2 rfl rfl fun cdv A outer s H E hr => by
    have nd := sc_law_names_v2.nd
    exact (dss_cons (ds_set (dg_name 2 nd) de_str) (dss_cons (ds_set (dg_name 3 nd) (de_join de_str (de_comp (own := [("_law_k", 6)]) (go_name _ 6) nd (di_rng1 T.z_range (de_call (al 4 "_law_draw" 2 rfl) hr (da_cons (de_var 0) (da_cons de_int da_nil)))) (blkOk_by (N := ["_law_deck_here", "_law_many", "_law_letters", "_law_stem", "_law_at", "_law_first", "_law_k"]) (sc := defScope s_law_names_v2) (by decide +kernel)) (fun _ _ _ _ _ => pg_name (i := 6) nd rfl (Or.inl rfl)) (fun _ _ _ _ _ => dts_nil) (fun _ _ _ _ _ => (de_ix (de_var 2) (de_call (al 4 "_law_draw" 2 rfl) hr (da_cons (de_var 0) (da_cons de_int da_nil)))))))) (dss_cons (ds_set (dg_name 4 nd) (de_call (al 4 "_law_draw" 2 rfl) hr (da_cons (de_var 0) (da_cons (de_add (de_callB call_len cs_len T.z_len (by decide +kernel) (da_cons (de_var 3) da_nil)) de_int) da_nil)))) (dss_cons (ds_set (dg_name 5 nd) (de_call (al 4 "_law_draw" 2 rfl) hr (da_cons (de_var 0) (da_cons de_int da_nil)))) (dss_cons (ds_ret (de_comp (own := [("_law_k", 6)]) (go_name _ 6) nd (di_rng1 T.z_range (de_var 1)) (blkOk_by (N := ["_law_deck_here", "_law_many", "_law_letters", "_law_stem", "_law_at", "_law_first", "_law_k"]) (sc := defScope s_law_names_v2) (by decide +kernel)) (fun _ _ _ _ _ => pg_name (i := 6) nd rfl (Or.inl rfl)) (fun _ _ _ _ _ => dts_nil) (fun _ _ _ _ _ => (de_add (de_add (de_sl (de_var 3) do_none (do_some (de_var 4))) (de_ix (de_var 2) (de_mod (de_add (de_var 5) (de_mul de_int (de_var 6))) de_int))) (de_sl (de_var 3) (do_some (de_var 4)) do_none))))) dss_nil)))))
theorem ok_law_sign_v3 (T : Top w K mg) (al : Al P w K mg base k) (F : Fun K "_law_sign" "_law_sign" s_law_sign_v3 f fd) : FnOk P w K mg base CX0 (k + 1) f fd ["_law_deck_here"] (spD K (callF ds (k + 1)) 112 1) :=
  fn_ok (n := 1) (body := b_law_sign_v3) F sc_law_sign_v3 rfl rfl fun cdv A outer s H E hr => by
    have nd := sc_law_sign_v3.nd
    exact (dss_cons (ds_ret (de_tup (da_cons de_str (da_cons (de_ix (de_lst (da_cons de_str (da_cons de_str (da_cons de_str (da_cons de_str (da_cons de_str (da_cons de_str (da_cons de_str (da_cons de_str da_nil))))))))) (de_call (al 4 "_law_draw" 2 rfl) hr (da_cons (de_var 0) (da_cons de_int da_nil)))) da_nil)))) dss_nil)
theorem ok_law_solid (T : Top w K mg) (al : Al P w K mg base k) (F : Fun K "_law_solid" "_law_solid" s_law_solid f fd) : FnOk P w K mg base CX0 (k + 1) f fd ["_law_deck_here", "_law_deep"] (spD K (callF ds (k + 1)) 113 2) :=
  fn_ok (n := 2) (body := b_law_solid) F sc_law_solid rfl rfl fun cdv A outer s H E hr => by
    have nd := sc_law_solid.nd
    exact (dss_cons (ds_set (dg_name 2 nd) (de_call (al 4 "_law_draw" 2 rfl) hr (da_cons (de_var 0) (da_cons de_int da_nil)))) (dss_cons (ds_if (dt_w (dw_or (dt_cmp (ck_eq hr) (de_var 1) de_int) (dw_or1 (dt_cmp ck_lt (de_var 2) de_int)))) (dss_cons (ds_ret (de_call (al 112 "_law_sign" 1 rfl) hr (da_cons (de_var 0) da_nil))) dss_nil) dss_nil) (dss_cons (ds_set (dg_name 3 nd) (de_call (al 113 "_law_solid" 2 rfl) hr (da_cons (de_var 0) (da_cons (de_sub (de_var 1) de_int) da_nil)))) (dss_cons (ds_set (dg_name 4 nd) (de_call (al 113 "_law_solid" 2 rfl) hr (da_cons (de_var 0) (da_cons (de_sub (de_var 1) de_int) da_nil)))) (dss_cons (ds_if (dt_cmp (ck_eq hr) (de_var 2) de_int) (dss_cons (ds_ret (de_tup (da_cons de_str (da_cons de_int (da_cons de_non (da_cons (de_var 3) da_nil)))))) dss_nil) dss_nil) (dss_cons (ds_set (dg_name 5 nd) (de_ix (de_lst (da_cons de_str (da_cons de_str da_nil))) (de_sub (de_var 2) de_int))) (dss_cons (ds_set (dg_name 6 nd) (de_lst (da_cons (de_var 3) da_nil))) (dss_cons (ds_if (dt_cmp (ck_eq hr) (de_ix (de_var 3) de_int) (de_var 5)) (dss_cons (ds_set (dg_name 6 nd) (de_callTy call_list_of cs_list T.z_list (by decide +kernel) (da_cons (de_ix (de_var 3) de_int) da_nil))) dss_nil) dss_nil) (dss_cons (ds_if (dt_cmp (ck_eq hr) (de_var 2) de_int) (dss_cons (ds_ret (de_tup (da_cons de_str (da_cons (de_callTy call_tuple_of cs_tuple T.z_tuple (by decide +kernel) (da_cons (de_add (de_var 6) (de_lst (da_cons (de_tup (da_cons de_str (da_cons de_int (da_cons de_int (da_cons (de_var 4) da_nil))))) da_nil))) da_nil)) da_nil)))) dss_nil) dss_nil) (dss_cons (ds_if (dt_cmp (ck_eq hr) (de_ix (de_var 4) de_int) (de_var 5)) (dss_cons (ds_ret (de_tup (da_cons de_str (da_cons (de_add (de_callTy call_tuple_of cs_tuple T.z_tuple (by decide +kernel) (da_cons (de_var 6) da_nil)) (de_ix (de_var 4) de_int)) da_nil)))) dss_nil) dss_nil) (dss_cons (ds_ret (de_tup (da_cons de_str (da_cons (de_add (de_callTy call_tuple_of cs_tuple T.z_tuple (by decide +kernel) (da_cons (de_var 6) da_nil)) (de_tup (da_cons (de_var 4) da_nil))) da_nil)))) dss_nil)))))))))))
theorem ok_law_row (T : Top w K mg) (al : Al P w K mg base k) (F : Fun K "_law_row" "_law_row" s_law_row f fd) : FnOk P w K mg base CX0 (k + 1) f fd ["_law_parts"] (spD K (callF ds (k + 1)) 114 1) :=
  fn_ok (n := 1) (body := b_law_row) F sc_law_row rfl rfl fun cdv A outer s H E hr => by
    have nd := sc_law_row.nd
    exact (dss_cons (ds_ret (de_tup (da_cons de_str (da_cons (de_callTy call_tuple_of cs_tuple T.z_tuple (by decide +kernel) (da_cons (de_comp (own := [("_law_part", 1)]) (go_name _ 1) nd (di_val (de_var 0)) (blkOk_by (N := ["_law_parts", "_law_part"]) (sc := defScope s_law_row) (by decide +kernel)) (fun _ _ _ _ _ => pg_name (i := 1) nd rfl (Or.inl rfl)) (fun _ _ _ _ _ => dts_nil) (fun _ _ _ _ _ => (de_ix (de_lst (da_cons (de_var 1) (da_cons (de_tup (da_cons de_str (da_cons de_int (da_cons de_int (da_cons (de_var 1) da_nil))))) da_nil))) (de_callTy call_int1 cs_int T.z_int (by decide +kernel) (da_cons (de_cmp (ck_eq hr) (de_ix (de_var 1) de_int) de_str) da_nil))))) da_nil)) da_nil)))) dss_nil)
theorem ok_law_any (T : Top w K mg) (al : Al P w K mg base k) (F : Fun K "_law_any" "_law_any" s_law_any f fd) : FnOk P w K mg base CX0 (k + 1) f fd ["_law_parts"] (spD K (callF ds (k + 1)) 115 1) :=
  fn_ok (n := 1) (body := b_law_any) F sc_law_any rfl rfl fun cdv A outer s H E hr => by
    have nd := sc_law_any.nd
    exact (dss_cons (ds_ret (de_tup (da_cons de_str (da_cons (de_callTy call_tuple_of cs_tuple T.z_tuple (by decide +kernel) (da_cons (de_comp (own := [("_law_part", 1)]) (go_name _ 1) nd (di_val (de_var 0)) (blkOk_by (N := ["_law_parts", "_law_part"]) (sc := defScope s_law_any) (by decide +kernel)) (fun _ _ _ _ _ => pg_name (i := 1) nd rfl (Or.inl rfl)) (fun _ _ _ _ _ => dts_nil) (fun _ _ _ _ _ => (de_ix (de_lst (da_cons (de_var 1) (da_cons (de_tup (da_cons de_str (da_cons de_int (da_cons de_int (da_cons (de_var 1) da_nil))))) da_nil))) (de_callTy call_int1 cs_int T.z_int (by decide +kernel) (da_cons (de_cmp (ck_eq hr) (de_ix (de_var 1) de_int) de_str) da_nil))))) da_nil)) da_nil)))) dss_nil)
theorem ok_law_form_v2 (T : Top w K mg) (al : Al P w K mg base k) (F : Fun K "_law_form" "_law_form" s_law_form_v2 f fd) : FnOk P w K mg base CX0 (k + 1) f fd ["_law_deck_here", "_law_deep", "_law_left"] (spD K (callF ds (k + 1)) 116 3) :=
  fn_ok (n := 3) (body := b_law_form_v2) F sc_law_form_v2 rfl rfl fun cdv A outer s H E hr => by
    have nd := sc_law_form_v2.nd
    exact (dss_cons (ds_set (dg_name 3 nd) (de_call (al 4 "_law_draw" 2 rfl) hr (da_cons (de_var 0) (da_cons de_int da_nil)))) (dss_cons (ds_if (dt_w (dw_or (dt_cmp (ck_eq hr) (de_var 1) de_int) (dw_or1 (dt_cmp ck_lt (de_var 3) de_int)))) (dss_cons (ds_ret (de_call (al 112 "_law_sign" 1 rfl) hr (da_cons (de_var 0) da_nil))) dss_nil) dss_nil) (dss_cons (ds_if (dt_w (dw_and (dt_cmp ck_lt (de_var 3) de_int) (dw_and1 (dt_cmp (ck_ne hr) (de_var 2) (de_lst da_nil))))) (dss_cons (ds_set (dg_name 7 nd) (de_popi (de_var 2) (de_call (al 4 "_law_draw" 2 rfl) hr (da_cons (de_var 0) (da_cons (de_callB call_len cs_len T.z_len (by decide +kernel) (da_cons (de_var 2) da_nil)) da_nil))))) (dss_cons (ds_ret (de_tup (da_cons de_str (da_cons (de_var 7) (da_cons (de_call (al 116 "_law_form" 3 rfl) hr (da_cons (de_var 0) (da_cons (de_sub (de_var 1) de_int) (da_cons (de_var 2) da_nil)))) da_nil))))) dss_nil)) dss_nil) (dss_cons (ds_if (dt_cmp ck_lt (de_var 3) de_int) (dss_cons (ds_if (dt_cmp (ck_eq hr) (de_call (al 4 "_law_draw" 2 rfl) hr (da_cons (de_var 0) (da_cons de_int da_nil))) de_int) (dss_cons (ds_ret (de_tup (da_cons de_str (da_cons (de_tup da_nil) da_nil)))) dss_nil) dss_nil) (dss_cons (ds_ret (de_call (al 114 "_law_row" 1 rfl) hr (da_cons (de_comp (own := [("_law_k", 8)]) (go_name _ 8) nd (di_rng1 T.z_range (de_add de_int (de_mul (de_callTy call_int1 cs_int T.z_int (by decide +kernel) (da_cons (de_cmp ck_lt (de_var 1) de_int) da_nil)) (de_call (al 4 "_law_draw" 2 rfl) hr (da_cons (de_var 0) (da_cons de_int da_nil)))))) (blkOk_by (N := ["_law_deck_here", "_law_deep", "_law_left", "_law_way", "_law_own", "_law_other", "_law_parts", "_law_name", "_law_k"]) (sc := defScope s_law_form_v2) (by decide +kernel)) (fun _ _ _ _ _ => pg_name (i := 8) nd rfl (Or.inl rfl)) (fun _ _ _ _ _ => dts_nil) (fun _ _ _ _ _ => (de_call (al 116 "_law_form" 3 rfl) hr (da_cons (de_var 0) (da_cons (de_sub (de_var 1) de_int) (da_cons (de_var 2) da_nil)))))) da_nil))) dss_nil)) dss_nil) (dss_cons (ds_if (dt_cmp (ck_eq hr) (de_var 3) de_int) (dss_cons (ds_ret (de_tup (da_cons de_str (da_cons de_int (da_cons de_int (da_cons (de_call (al 116 "_law_form" 3 rfl) hr (da_cons (de_var 0) (da_cons (de_sub (de_var 1) de_int) (da_cons (de_var 2) da_nil)))) da_nil)))))) dss_nil) dss_nil) (dss_cons (ds_if (dt_cmp (ck_eq hr) (de_var 3) de_int) (dss_cons (ds_ret (de_tup (da_cons de_str (da_cons (de_call (al 4 "_law_draw" 2 rfl) hr (da_cons (de_var 0) (da_cons de_int da_nil))) (da_cons de_non (da_cons (de_call (al 113 "_law_solid" 2 rfl) hr (da_cons (de_var 0) (da_cons (de_sub (de_var 1) de_int) da_nil))) da_nil)))))) dss_nil) dss_nil) (dss_cons (ds_set (dg_name 4 nd) (de_callTy call_list_of cs_list T.z_list (by decide +kernel) (da_cons (de_var 2) da_nil))) (dss_cons (ds_set (dg_name 5 nd) (de_callTy call_list_of cs_list T.z_list (by decide +kernel) (da_cons (de_var 2) da_nil))) (dss_cons (ds_set (dg_name 6 nd) (de_lst (da_cons (de_call (al 116 "_law_form" 3 rfl) hr (da_cons (de_var 0) (da_cons (de_sub (de_var 1) de_int) (da_cons (de_var 4) da_nil)))) (da_cons (de_call (al 116 "_law_form" 3 rfl) hr (da_cons (de_var 0) (da_cons (de_sub (de_var 1) de_int) (da_cons (de_var 5) da_nil)))) da_nil)))) (dss_cons (ds_for (dg_name 7 nd) (di_val (de_callTy call_list_of cs_list T.z_list (by decide +kernel) (da_cons (de_var 2) da_nil))) (dss_cons (ds_if (dt_w (dw_or (dt_cmp (ck_notIn hr) (de_var 7) (de_var 4)) (dw_or1 (dt_cmp (ck_notIn hr) (de_var 7) (de_var 5))))) (dss_cons (ds_expr (de_rem (de_var 2) (de_var 7))) dss_nil) dss_nil) dss_nil) PassesOwn.never) (dss_cons (ds_ret (de_call (al 115 "_law_any" 1 rfl) hr (da_cons (de_var 6) da_nil))) dss_nil)))))))))))
theorem ok_law_sound (T : Top w K mg) (al : Al P w K mg base k) (F : Fun K "_law_sound" "_law_sound" s_law_sound f fd) : FnOk P w K mg base CX0 (k + 1) f fd ["_law_deck_here", "_law_most"] (spD K (callF ds (k + 1)) 117 2) :=
  fn_ok (n := 2) (body := b_law_sound) F sc_law_sound rfl rfl fun cdv A outer s H E hr => by
    have nd := sc_law_sound.nd
    exact (dss_cons (ds_ret (de_call (al 116 "_law_form" 3 rfl) hr (da_cons (de_var 0) (da_cons (de_add de_int (de_call (al 4 "_law_draw" 2 rfl) hr (da_cons (de_var 0) (da_cons de_int da_nil)))) (da_cons (de_call (al 111 "_law_names" 2 rfl) hr (da_cons (de_var 0) (da_cons (de_call (al 4 "_law_draw" 2 rfl) hr (da_cons (de_var 0) (da_cons (de_add (de_var 1) de_int) da_nil))) da_nil))) da_nil))))) dss_nil)
theorem ok_law_times (T : Top w K mg) (al : Al P w K mg base k) (F : Fun K "_law_times" "_law_times" s_law_times f fd) : FnOk P w K mg base CX0 (k + 1) f fd ["_law_deck_here", "_law_pattern", "_law_most"] (spD K (callF ds (k + 1)) 118 3) :=
  fn_ok (n := 3) (body := b_law_times) F sc_law_times rfl rfl fun cdv A outer s H E hr => by
    have nd := sc_law_times.nd
    exact (dss_cons (ds_if (dt_cmp (ck_eq hr) (de_ix (de_var 1) de_int) de_int) (dss_cons (ds_ret (de_call (al 4 "_law_draw" 2 rfl) hr (da_cons (de_var 0) (da_cons de_int da_nil)))) dss_nil) dss_nil) (dss_cons (ds_ret (de_add (de_ix (de_var 1) de_int) (de_call (al 4 "_law_draw" 2 rfl) hr (da_cons (de_var 0) (da_cons (de_var 2) da_nil))))) dss_nil))
theorem ok_law_go (T : Top w K mg) (al : Al P w K mg base k) (F : Fun K "_law_go" "_law_go" s_law_go f fd) : FnOk P w K mg base CX0 (k + 1) f fd ["_law_deck_here", "_law_pattern", "_law_at", "_law_most"] (spD K (callF ds (k + 1)) 119 4) :=
  fn_ok (n := 4) (body := b_law_go) F sc_law_go rfl rfl fun cdv A outer s H E hr => by
    have nd := sc_law_go.nd
    exact (dss_cons (ds_if (dt_cmp (ck_eq hr) (de_ix (de_var 1) de_int) de_str) (dss_cons (ds_ret (de_tup (da_cons (de_ix (de_ix (de_var 1) de_int) (de_call (al 4 "_law_draw" 2 rfl) hr (da_cons (de_var 0) (da_cons (de_callB call_len cs_len T.z_len (by decide +kernel) (da_cons (de_ix (de_var 1) de_int) da_nil)) da_nil)))) (da_cons (de_var 2) (da_cons (de_lst da_nil) da_nil))))) dss_nil) dss_nil) (dss_cons (ds_if (dt_cmp (ck_eq hr) (de_ix (de_var 1) de_int) de_str) (dss_cons (ds_set (dg_name 9 nd) (de_call (al 4 "_law_draw" 2 rfl) hr (da_cons (de_var 0) (da_cons (de_callB call_len cs_len T.z_len (by decide +kernel) (da_cons (de_ix (de_var 1) de_int) da_nil)) da_nil)))) (dss_cons (ds_set (dg_seq 5 10 [7] (pgs_cons (pg_name (i := 5) nd rfl (by first | exact .inl rfl | exact .inr rfl)) (pgs_cons (pg_name (i := 10) nd rfl (by first | exact .inl rfl | exact .inr rfl)) (pgs_cons (pg_name (i := 7) nd rfl (by first | exact .inl rfl | exact .inr rfl)) pgs_nil)))) (de_call (al 119 "_law_go" 4 rfl) hr (da_cons (de_var 0) (da_cons (de_ix (de_ix (de_var 1) de_int) (de_var 9)) (da_cons (de_var 2) (da_cons (de_var 3) da_nil)))))) (dss_cons (ds_ret (de_tup (da_cons (de_var 5) (da_cons (de_tup (da_cons (de_var 9) (da_cons (de_var 10) da_nil))) (da_cons (de_var 7) da_nil))))) dss_nil))) dss_nil) (dss_cons (ds_if (dt_cmp (ck_eq hr) (de_ix (de_var 1) de_int) de_str) (dss_cons (ds_set (dg_seq 5 10 [7] (pgs_cons (pg_name (i := 5) nd rfl (by first | exact .inl rfl | exact .inr rfl)) (pgs_cons (pg_name (i := 10) nd rfl (by first | exact .inl rfl | exact .inr rfl)) (pgs_cons (pg_name (i := 7) nd rfl (by first | exact .inl rfl | exact .inr rfl)) pgs_nil)))) (de_call (al 119 "_law_go" 4 rfl) hr (da_cons (de_var 0) (da_cons (de_ix (de_var 1) de_int) (da_cons (de_var 2) (da_cons (de_var 3) da_nil)))))) (dss_cons (ds_ret (de_tup (da_cons (de_var 5) (da_cons (de_var 10) (da_cons (de_add (de_var 7) (de_lst (da_cons (de_tup (da_cons (de_ix (de_var 1) de_int) (da_cons (de_var 2) (da_cons (de_add (de_var 2) (de_callB call_len cs_len T.z_len (by decide +kernel) (da_cons (de_var 5) da_nil))) da_nil)))) da_nil))) da_nil))))) dss_nil)) dss_nil) (dss_cons (ds_set (dg_name 4 nd) (de_ix (de_var 1) de_int)) (dss_cons (ds_if (dt_cmp (ck_eq hr) (de_ix (de_var 1) de_int) de_str) (dss_cons (ds_setLc (i := 4) (own := [("_law_k", 9)]) (go_name _ 9) nd (di_rng1 T.z_range (de_call (al 118 "_law_times" 3 rfl) hr (da_cons (de_var 0) (da_cons (de_var 1) (da_cons (de_var 3) da_nil))))) (blkOk_by (N := ["_law_deck_here", "_law_pattern", "_law_at", "_law_most", "_law_parts", "_law_text", "_law_ways", "_law_pieces", "_law_part", "_law_k", "_law_way", "_law_more", "_law_found"]) (sc := defScope s_law_go) (by decide +kernel)) (fun _ _ _ _ _ => pg_name (i := 9) nd rfl (Or.inl rfl)) (fun _ _ _ _ _ => dts_nil) (fun _ _ _ _ _ => (de_ix (de_var 1) de_int)) (sw_true rfl rfl rfl (by decide +kernel))) dss_nil) dss_nil) (dss_cons (ds_set (dg_name 5 nd) de_str) (dss_cons (ds_set (dg_name 6 nd) (de_lst da_nil)) (dss_cons (ds_set (dg_name 7 nd) (de_lst da_nil)) (dss_cons (ds_for (dg_name 8 nd) (di_val (de_var 4)) (dss_cons (ds_set (dg_seq 11 10 [12] (pgs_cons (pg_name (i := 11) nd rfl (by first | exact .inl rfl | exact .inr rfl)) (pgs_cons (pg_name (i := 10) nd rfl (by first | exact .inl rfl | exact .inr rfl)) (pgs_cons (pg_name (i := 12) nd rfl (by first | exact .inl rfl | exact .inr rfl)) pgs_nil)))) (de_call (al 119 "_law_go" 4 rfl) hr (da_cons (de_var 0) (da_cons (de_var 8) (da_cons (de_add (de_var 2) (de_callB call_len cs_len T.z_len (by decide +kernel) (da_cons (de_var 5) da_nil))) (da_cons (de_var 3) da_nil)))))) (dss_cons (ds_set (dg_name 5 nd) (de_add (de_var 5) (de_var 11))) (dss_cons (ds_app (de_var 6) (de_var 10)) (dss_cons (ds_set (dg_name 7 nd) (de_add (de_var 7) (de_var 12))) dss_nil)))) PassesOwn.never) (dss_cons (ds_ret (de_tup (da_cons (de_var 5) (da_cons (de_callTy call_tuple_of cs_tuple T.z_tuple (by decide +kernel) (da_cons (de_var 6) da_nil)) (da_cons (de_var 7) da_nil))))) dss_nil))))))))))
theorem ok_law_whole_v4 (T : Top w K mg) (al : Al P w K mg base k) (F : Fun K "_law_whole" "_law_whole" s_law_whole_v4 f fd) : FnOk P w K mg base CX0 (k + 1) f fd ["_law_thing"] (spD K (callF ds (k + 1)) 120 1) :=
  fn_ok (n := 1) (body := b_law_whole_v4) F sc_law_whole_v4 rfl rfl fun cdv A outer s H E hr => by
    have nd := sc_law_whole_v4.nd
    exact (dss_cons (ds_ret (de_and (de_isi (t := 1) (T := "int") (by decide) (by decide +kernel) T.z_isinstance T.z_int (de_var 0)) (de_one (de_not (de_isi (t := 2) (T := "bool") (by decide) (by decide +kernel) T.z_isinstance T.z_bool (de_var 0)))))) dss_nil)
theorem ok_law_heads (T : Top w K mg) (al : Al P w K mg base k) (F : Fun K "_law_heads" "_law_heads" s_law_heads f fd) : FnOk P w K mg base CX0 (k + 1) f fd ["_law_pattern"] (spD K (callF ds (k + 1)) 130 1) :=
  fn_ok (n := 1) (body := b_law_heads) F sc_law_heads rfl rfl fun cdv A outer s H E hr => by
    have nd := sc_law_heads.nd
    exact (dss_cons (ds_if (dt_cmp (ck_eq hr) (de_ix (de_var 0) de_int) de_str) (dss_cons (ds_ret (de_lst da_nil)) dss_nil) dss_nil) (dss_cons (ds_set (dg_name 1 nd) (de_ix (de_var 0) de_int)) (dss_cons (ds_set (dg_name 2 nd) (de_lst da_nil)) (dss_cons (ds_if (dt_w (dw_or (dt_cmp (ck_eq hr) (de_ix (de_var 0) de_int) de_str) (dw_or1 (dt_cmp (ck_eq hr) (de_ix (de_var 0) de_int) de_str)))) (dss_cons (ds_set (dg_name 1 nd) (de_lst (da_cons (de_ix (de_var 0) (de_neg de_int)) da_nil))) dss_nil) dss_nil) (dss_cons (ds_if (dt_cmp (ck_eq hr) (de_ix (de_var 0) de_int) de_str) (dss_cons (ds_set (dg_name 2 nd) (de_lst (da_cons (de_ix (de_var 0) de_int) da_nil))) dss_nil) dss_nil) (dss_cons (ds_for (dg_name 3 nd) (di_val (de_var 1)) (dss_cons (ds_set (dg_name 2 nd) (de_add (de_var 2) (de_call (al 130 "_law_heads" 1 rfl) hr (da_cons (de_var 3) da_nil)))) dss_nil) PassesOwn.never) (dss_cons (ds_ret (de_sset T.z_sorted T.z_set (de_var 2))) dss_nil)))))))
theorem ok_law_are_pieces (T : Top w K mg) (al : Al P w K mg base k) (F : Fun K "_law_are_pieces" "_law_are_pieces" s_law_are_pieces f fd) : FnOk P w K mg base CX0 (k + 1) f fd ["_law_found"] (spD K (callF ds (k + 1)) 131 1) :=
  fn_ok (n := 1) (body := b_law_are_pieces) F sc_law_are_pieces rfl rfl fun cdv A outer s H E hr => by
    have nd := sc_law_are_pieces.nd
    exact (dss_cons (ds_if (dt_not (dt_val (de_isi (t := 3) (T := "tuple") (by decide) (by decide +kernel) T.z_isinstance T.z_tuple (de_var 0)))) (dss_cons (ds_ret de_bl) dss_nil) dss_nil) (dss_cons (ds_for (dg_name 1 nd) (di_val (de_var 0)) (dss_cons (ds_if (dt_w (dw_or (dt_not (dt_val (de_isi (t := 3) (T := "tuple") (by decide) (by decide +kernel) T.z_isinstance T.z_tuple (de_var 1)))) (dw_or (dt_cmp (ck_ne hr) (de_callB call_len cs_len T.z_len (by decide +kernel) (da_cons (de_var 1) da_nil)) de_int) (dw_or1 (dt_not (dt_val (de_isi (t := 0) (T := "str") (by decide) (by decide +kernel) T.z_isinstance T.z_str (de_ix (de_var 1) de_int)))))))) (dss_cons (ds_ret de_bl) dss_nil) dss_nil) (dss_cons (ds_if (dt_w (dw_or (dt_not (dt_val (de_call (al 120 "_law_whole" 1 rfl) hr (da_cons (de_ix (de_var 1) de_int) da_nil)))) (dw_or1 (dt_not (dt_val (de_call (al 120 "_law_whole" 1 rfl) hr (da_cons (de_ix (de_var 1) de_int) da_nil))))))) (dss_cons (ds_ret de_bl) dss_nil) dss_nil) dss_nil)) PassesOwn.never) (dss_cons (ds_ret de_bl) dss_nil)))
theorem ok_law_v58 (T : Top w K mg) (al : Al P w K mg base k) (F : Fun K "law" "law" s_law_v58 f fd) : FnOk P w K mg base CX0 (k + 1) f fd ["_law_script"] (spD K (callF ds (k + 1)) 563 1) :=
  fn_ok (n := 1) (body := b_law_v58) F sc_law_v58 rfl rfl fun cdv A outer s H E hr => by
    have nd := sc_law_v58.nd
    exact (dss_cons (ds_set (dg_name 1 nd) (de_call (al 3 "_law_deck" 1 rfl) hr (da_cons (de_var 0) da_nil))) (dss_cons (ds_set (dg_name 2 nd) (de_call (al 4 "_law_draw" 2 rfl) hr (da_cons (de_var 1) (da_cons de_int da_nil)))) (dss_cons (ds_set (dg_name 3 nd) (de_mul (de_call (al 4 "_law_draw" 2 rfl) hr (da_cons (de_var 1) (da_cons de_int da_nil))) (de_call (al 4 "_law_draw" 2 rfl) hr (da_cons (de_var 1) (da_cons de_int da_nil))))) (dss_cons (ds_set (dg_name 4 nd) (de_call (al 117 "_law_sound" 2 rfl) hr (da_cons (de_var 1) (da_cons de_int da_nil)))) (dss_cons (ds_set (dg_name 5 nd) (de_var 4)) (dss_cons (ds_set (dg_name 6 nd) (de_call (al 116 "_law_form" 3 rfl) hr (da_cons (de_var 1) (da_cons de_int (da_cons (de_call (al 111 "_law_names" 2 rfl) hr (da_cons (de_var 1) (da_cons de_int da_nil))) da_nil))))) (dss_cons (ds_if (dt_cmp (ck_eq hr) (de_var 2) de_int) (dss_cons (ds_set (dg_name 4 nd) (de_tup (da_cons de_str (da_cons de_int (da_cons de_non (da_cons (de_tup (da_cons de_str (da_cons (de_tup (da_cons (de_tup (da_cons de_str (da_cons de_int (da_cons de_int (da_cons (de_var 4) da_nil))))) (da_cons (de_tup (da_cons de_str (da_cons de_str da_nil))) da_nil))) da_nil))) da_nil)))))) dss_nil) dss_nil) (dss_cons (ds_if (dt_cmp (ck_eq hr) (de_var 2) de_int) (dss_cons (ds_set (dg_name 4 nd) (de_call (al 114 "_law_row" 1 rfl) hr (da_cons (de_lst (da_cons (de_var 6) (da_cons (de_tup (da_cons de_str (da_cons de_str da_nil))) (da_cons (de_var 6) da_nil)))) da_nil))) dss_nil) dss_nil) (dss_cons (ds_set (dg_seq 11 12 [13] (pgs_cons (pg_name (i := 11) nd rfl (by first | exact .inl rfl | exact .inr rfl)) (pgs_cons (pg_name (i := 12) nd rfl (by first | exact .inl rfl | exact .inr rfl)) (pgs_cons (pg_name (i := 13) nd rfl (by first | exact .inl rfl | exact .inr rfl)) pgs_nil)))) (de_call (al 119 "_law_go" 4 rfl) hr (da_cons (de_var 1) (da_cons (de_var 4) (da_cons (de_var 3) (da_cons de_int da_nil)))))) (dss_cons (ds_set (dg_name 7 nd) (de_call (al 127 "pieces_of" 3 rfl) hr (da_cons (de_var 4) (da_cons (de_var 12) (da_cons (de_var 3) da_nil))))) (dss_cons (ds_if (dt_w (dw_or (dt_not (dt_val (de_call (al 131 "_law_are_pieces" 1 rfl) hr (da_cons (de_var 7) da_nil)))) (dw_or1 (dt_cmp (ck_ne hr) (de_callTy call_list_of cs_list T.z_list (by decide +kernel) (da_cons (de_var 7) da_nil)) (de_var 13))))) (dss_cons (ds_ret de_bl) dss_nil) dss_nil) (dss_cons (ds_set (dg_seq 11 12 [13] (pgs_cons (pg_name (i := 11) nd rfl (by first | exact .inl rfl | exact .inr rfl)) (pgs_cons (pg_name (i := 12) nd rfl (by first | exact .inl rfl | exact .inr rfl)) (pgs_cons (pg_name (i := 13) nd rfl (by first | exact .inl rfl | exact .inr rfl)) pgs_nil)))) (de_call (al 119 "_law_go" 4 rfl) hr (da_cons (de_var 1) (da_cons (de_var 5) (da_cons de_int (da_cons de_int da_nil)))))) (dss_cons (ds_set (dg_name 8 nd) (de_lst da_nil)) (dss_cons (ds_for (dg_name 9 nd) (di_val (de_call (al 130 "_law_heads" 1 rfl) hr (da_cons (de_var 5) da_nil))) (dss_cons (ds_setLc (i := 14) (own := [("_law_cut", 15)]) (go_name _ 15) nd (di_val (de_var 13)) (blkOk_by (N := ["_law_script", "_law_deck_here", "_law_around", "_law_at", "_law_pattern", "_law_sound_here", "_law_small", "_law_found", "_law_due", "_law_head", "_law_row_here", "_law_text", "_law_way", "_law_pieces", "_law_own", "_law_cut", "_law_part"]) (sc := defScope s_law_v58) (by decide +kernel)) (fun _ _ _ _ _ => pg_name (i := 15) nd rfl (Or.inl rfl)) (fun _ _ _ _ _ => dts_one (dt_cmp (ck_eq hr) (de_ix (de_var 15) de_int) (de_var 9))) (fun _ _ _ _ _ => (de_sl (de_var 15) (do_some de_int) do_none)) (sw_true rfl rfl rfl (by decide +kernel))) (dss_cons (ds_app (de_var 8) (de_ix (de_add (de_var 14) (de_lst (da_cons de_non da_nil))) de_int)) dss_nil)) PassesOwn.never) (dss_cons (ds_set (dg_name 10 nd) (de_call (al 562 "row_of" 2 rfl) hr (da_cons (de_var 5) (da_cons (de_var 12) da_nil)))) (dss_cons (ds_if (dt_w (dw_or (dt_not (dt_val (de_isi (t := 3) (T := "tuple") (by decide) (by decide +kernel) T.z_isinstance T.z_tuple (de_var 10)))) (dw_or1 (dt_cmp (ck_ne hr) (de_var 10) (de_callTy call_tuple_of cs_tuple T.z_tuple (by decide +kernel) (da_cons (de_var 8) da_nil)))))) (dss_cons (ds_ret de_bl) dss_nil) dss_nil) (dss_cons (ds_ret (de_cmp (ck_eq hr) (de_comp (own := [("_law_part", 16)]) (go_name _ 16) nd (di_val (de_var 10)) (blkOk_by (N := ["_law_script", "_law_deck_here", "_law_around", "_law_at", "_law_pattern", "_law_sound_here", "_law_small", "_law_found", "_law_due", "_law_head", "_law_row_here", "_law_text", "_law_way", "_law_pieces", "_law_own", "_law_cut", "_law_part"]) (sc := defScope s_law_v58) (by decide +kernel)) (fun _ _ _ _ _ => pg_name (i := 16) nd rfl (Or.inl rfl)) (fun _ _ _ _ _ => dts_one (dt_w (dw_and (dt_notN (de_var 16)) (dw_and1 (dt_not (dt_val (de_call (al 131 "_law_are_pieces" 1 rfl) hr (da_cons (de_tup (da_cons (de_add (de_tup (da_cons de_str da_nil)) (de_var 16)) da_nil)) da_nil)))))))) (fun _ _ _ _ _ => (de_var 16))) (de_lst da_nil))) dss_nil)))))))))))))))))
end
/-- where the defs stand -/
structure Fs (K : Fg) (mg : Str → Option Value) : Prop where
  f_forms_within : ∃ f fd, Fun K "forms_within" "forms_within" s_forms_within f fd ∧ mg "forms_within" = some (.ref f)
  f_parts_of : ∃ f fd, Fun K "parts_of" "parts_of" s_parts_of f fd ∧ mg "parts_of" = some (.ref f)
  f_forms_of : ∃ f fd, Fun K "forms_of" "forms_of" s_forms_of f fd ∧ mg "forms_of" = some (.ref f)
  f_names_of : ∃ f fd, Fun K "names_of" "names_of" s_names_of f fd ∧ mg "names_of" = some (.ref f)
  f_stretches : ∃ f fd, Fun K "stretches" "stretches" s_stretches f fd ∧ mg "stretches" = some (.ref f)
  f_pieces_of : ∃ f fd, Fun K "pieces_of" "pieces_of" s_pieces_of f fd ∧ mg "pieces_of" = some (.ref f)
  f_gather : ∃ f fd, Fun K "gather" "gather" s_gather f fd ∧ mg "gather" = some (.ref f)
  f_row_of_v3 : ∃ f fd, Fun K "row_of" "row_of" s_row_of_v3 f fd ∧ mg "row_of" = some (.ref f)
  f_law_deck : ∃ f fd, Fun K "_law_deck" "_law_deck" s_law_deck f fd ∧ mg "_law_deck" = some (.ref f)
  f_law_draw : ∃ f fd, Fun K "_law_draw" "_law_draw" s_law_draw f fd ∧ mg "_law_draw" = some (.ref f)
  f_law_names_v2 : ∃ f fd, Fun K "_law_names" "_law_names" s_law_names_v2 f fd ∧ mg "_law_names" = some (.ref f)
  f_law_sign_v3 : ∃ f fd, Fun K "_law_sign" "_law_sign" s_law_sign_v3 f fd ∧ mg "_law_sign" = some (.ref f)
  f_law_solid : ∃ f fd, Fun K "_law_solid" "_law_solid" s_law_solid f fd ∧ mg "_law_solid" = some (.ref f)
  f_law_row : ∃ f fd, Fun K "_law_row" "_law_row" s_law_row f fd ∧ mg "_law_row" = some (.ref f)
  f_law_any : ∃ f fd, Fun K "_law_any" "_law_any" s_law_any f fd ∧ mg "_law_any" = some (.ref f)
  f_law_form_v2 : ∃ f fd, Fun K "_law_form" "_law_form" s_law_form_v2 f fd ∧ mg "_law_form" = some (.ref f)
  f_law_sound : ∃ f fd, Fun K "_law_sound" "_law_sound" s_law_sound f fd ∧ mg "_law_sound" = some (.ref f)
  f_law_times : ∃ f fd, Fun K "_law_times" "_law_times" s_law_times f fd ∧ mg "_law_times" = some (.ref f)
  f_law_go : ∃ f fd, Fun K "_law_go" "_law_go" s_law_go f fd ∧ mg "_law_go" = some (.ref f)
  f_law_whole_v4 : ∃ f fd, Fun K "_law_whole" "_law_whole" s_law_whole_v4 f fd ∧ mg "_law_whole" = some (.ref f)
  f_law_heads : ∃ f fd, Fun K "_law_heads" "_law_heads" s_law_heads f fd ∧ mg "_law_heads" = some (.ref f)
  f_law_are_pieces : ∃ f fd, Fun K "_law_are_pieces" "_law_are_pieces" s_law_are_pieces f fd ∧ mg "_law_are_pieces" = some (.ref f)
  f_law_v58 : ∃ f fd, Fun K "law" "law" s_law_v58 f fd ∧ mg "law" = some (.ref f)
theorem al_all {P : Program} {w : World} {K : Fg} {mg : Str → Option Value} {base : Heap} (T : Top w K mg) (F : Fs K mg) : ∀ k, Al P w K mg base k
  | k, i, x, n, h => by
    unfold tab at h
    split at h
    · cases h
      obtain ⟨f, fd, F0, hm⟩ := F.f_forms_within
      have b := F0.binds (ps := ["form", "parts"]) fun _ _ _ _ _ _ us hl => match us, hl with | [_, _], _ => rfl
      exact ⟨f, fd, _, match k with | 0 => fn_zero (by rfl) | k + 1 => ok_forms_within T (al_all T F k) F0, hm, F0.kp, b⟩
    · cases h
      obtain ⟨f, fd, F0, hm⟩ := F.f_parts_of
      have b := F0.binds (ps := ["form"]) fun _ _ _ _ _ _ us hl => match us, hl with | [_], _ => rfl
      exact ⟨f, fd, _, match k with | 0 => fn_zero (by rfl) | k + 1 => ok_parts_of T (al_all T F k) F0, hm, F0.kp, b⟩
    · cases h
      obtain ⟨f, fd, F0, hm⟩ := F.f_forms_of
      have b := F0.binds (ps := ["pattern"]) fun _ _ _ _ _ _ us hl => match us, hl with | [_], _ => rfl
      exact ⟨f, fd, _, match k with | 0 => fn_zero (by rfl) | k + 1 => ok_forms_of T (al_all T F k) F0, hm, F0.kp, b⟩
    · cases h
      obtain ⟨f, fd, F0, hm⟩ := F.f_names_of
      have b := F0.binds (ps := ["pattern"]) fun _ _ _ _ _ _ us hl => match us, hl with | [_], _ => rfl
      exact ⟨f, fd, _, match k with | 0 => fn_zero (by rfl) | k + 1 => ok_names_of T (al_all T F k) F0, hm, F0.kp, b⟩
    · cases h
      obtain ⟨f, fd, F0, hm⟩ := F.f_stretches
      have b := F0.binds (ps := ["pattern", "way"]) fun _ _ _ _ _ _ us hl => match us, hl with | [_, _], _ => rfl
      exact ⟨f, fd, _, match k with | 0 => fn_zero (by rfl) | k + 1 => ok_stretches T (al_all T F k) F0, hm, F0.kp, b⟩
    · cases h
      obtain ⟨f, fd, F0, hm⟩ := F.f_pieces_of
      have b := F0.binds (ps := ["pattern", "way", "at"]) fun _ _ _ _ _ _ us hl => match us, hl with | [_, _, _], _ => rfl
      exact ⟨f, fd, _, match k with | 0 => fn_zero (by rfl) | k + 1 => ok_pieces_of T (al_all T F k) F0, hm, F0.kp, b⟩
    · cases h
      obtain ⟨f, fd, F0, hm⟩ := F.f_gather
      have b := F0.binds (ps := ["pattern", "way", "at", "found"]) fun _ _ _ _ _ _ us hl => match us, hl with | [_, _, _, _], _ => rfl
      exact ⟨f, fd, _, match k with | 0 => fn_zero (by rfl) | k + 1 => ok_gather T (al_all T F k) F0, hm, F0.kp, b⟩
    · cases h
      obtain ⟨f, fd, F0, hm⟩ := F.f_row_of_v3
      have b := F0.binds (ps := ["pattern", "way"]) fun _ _ _ _ _ _ us hl => match us, hl with | [_, _], _ => rfl
      exact ⟨f, fd, _, match k with | 0 => fn_zero (by rfl) | k + 1 => ok_row_of_v3 T (al_all T F k) F0, hm, F0.kp, b⟩
    · cases h
      obtain ⟨f, fd, F0, hm⟩ := F.f_law_deck
      have b := F0.binds (ps := ["_law_script"]) fun _ _ _ _ _ _ us hl => match us, hl with | [_], _ => rfl
      exact ⟨f, fd, _, match k with | 0 => fn_zero (by rfl) | k + 1 => ok_law_deck T (al_all T F k) F0, hm, F0.kp, b⟩
    · cases h
      obtain ⟨f, fd, F0, hm⟩ := F.f_law_draw
      have b := F0.binds (ps := ["_law_deck_here", "_law_many"]) fun _ _ _ _ _ _ us hl => match us, hl with | [_, _], _ => rfl
      exact ⟨f, fd, _, match k with | 0 => fn_zero (by rfl) | k + 1 => ok_law_draw T (al_all T F k) F0, hm, F0.kp, b⟩
    · cases h
      obtain ⟨f, fd, F0, hm⟩ := F.f_law_names_v2
      have b := F0.binds (ps := ["_law_deck_here", "_law_many"]) fun _ _ _ _ _ _ us hl => match us, hl with | [_, _], _ => rfl
      exact ⟨f, fd, _, match k with | 0 => fn_zero (by rfl) | k + 1 => ok_law_names_v2 T (al_all T F k) F0, hm, F0.kp, b⟩
    · cases h
      obtain ⟨f, fd, F0, hm⟩ := F.f_law_sign_v3
      have b := F0.binds (ps := ["_law_deck_here"]) fun _ _ _ _ _ _ us hl => match us, hl with | [_], _ => rfl
      exact ⟨f, fd, _, match k with | 0 => fn_zero (by rfl) | k + 1 => ok_law_sign_v3 T (al_all T F k) F0, hm, F0.kp, b⟩
    · cases h
      obtain ⟨f, fd, F0, hm⟩ := F.f_law_solid
      have b := F0.binds (ps := ["_law_deck_here", "_law_deep"]) fun _ _ _ _ _ _ us hl => match us, hl with | [_, _], _ => rfl
      exact ⟨f, fd, _, match k with | 0 => fn_zero (by rfl) | k + 1 => ok_law_solid T (al_all T F k) F0, hm, F0.kp, b⟩
    · cases h
      obtain ⟨f, fd, F0, hm⟩ := F.f_law_row
      have b := F0.binds (ps := ["_law_parts"]) fun _ _ _ _ _ _ us hl => match us, hl with | [_], _ => rfl
      exact ⟨f, fd, _, match k with | 0 => fn_zero (by rfl) | k + 1 => ok_law_row T (al_all T F k) F0, hm, F0.kp, b⟩
    · cases h
      obtain ⟨f, fd, F0, hm⟩ := F.f_law_any
      have b := F0.binds (ps := ["_law_parts"]) fun _ _ _ _ _ _ us hl => match us, hl with | [_], _ => rfl
      exact ⟨f, fd, _, match k with | 0 => fn_zero (by rfl) | k + 1 => ok_law_any T (al_all T F k) F0, hm, F0.kp, b⟩
    · cases h
      obtain ⟨f, fd, F0, hm⟩ := F.f_law_form_v2
      have b := F0.binds (ps := ["_law_deck_here", "_law_deep", "_law_left"]) fun _ _ _ _ _ _ us hl => match us, hl with | [_, _, _], _ => rfl
      exact ⟨f, fd, _, match k with | 0 => fn_zero (by rfl) | k + 1 => ok_law_form_v2 T (al_all T F k) F0, hm, F0.kp, b⟩
    · cases h
      obtain ⟨f, fd, F0, hm⟩ := F.f_law_sound
      have b := F0.binds (ps := ["_law_deck_here", "_law_most"]) fun _ _ _ _ _ _ us hl => match us, hl with | [_, _], _ => rfl
      exact ⟨f, fd, _, match k with | 0 => fn_zero (by rfl) | k + 1 => ok_law_sound T (al_all T F k) F0, hm, F0.kp, b⟩
    · cases h
      obtain ⟨f, fd, F0, hm⟩ := F.f_law_times
      have b := F0.binds (ps := ["_law_deck_here", "_law_pattern", "_law_most"]) fun _ _ _ _ _ _ us hl => match us, hl with | [_, _, _], _ => rfl
      exact ⟨f, fd, _, match k with | 0 => fn_zero (by rfl) | k + 1 => ok_law_times T (al_all T F k) F0, hm, F0.kp, b⟩
    · cases h
      obtain ⟨f, fd, F0, hm⟩ := F.f_law_go
      have b := F0.binds (ps := ["_law_deck_here", "_law_pattern", "_law_at", "_law_most"]) fun _ _ _ _ _ _ us hl => match us, hl with | [_, _, _, _], _ => rfl
      exact ⟨f, fd, _, match k with | 0 => fn_zero (by rfl) | k + 1 => ok_law_go T (al_all T F k) F0, hm, F0.kp, b⟩
    · cases h
      obtain ⟨f, fd, F0, hm⟩ := F.f_law_whole_v4
      have b := F0.binds (ps := ["_law_thing"]) fun _ _ _ _ _ _ us hl => match us, hl with | [_], _ => rfl
      exact ⟨f, fd, _, match k with | 0 => fn_zero (by rfl) | k + 1 => ok_law_whole_v4 T (al_all T F k) F0, hm, F0.kp, b⟩
    · cases h
      obtain ⟨f, fd, F0, hm⟩ := F.f_law_heads
      have b := F0.binds (ps := ["_law_pattern"]) fun _ _ _ _ _ _ us hl => match us, hl with | [_], _ => rfl
      exact ⟨f, fd, _, match k with | 0 => fn_zero (by rfl) | k + 1 => ok_law_heads T (al_all T F k) F0, hm, F0.kp, b⟩
    · cases h
      obtain ⟨f, fd, F0, hm⟩ := F.f_law_are_pieces
      have b := F0.binds (ps := ["_law_found"]) fun _ _ _ _ _ _ us hl => match us, hl with | [_], _ => rfl
      exact ⟨f, fd, _, match k with | 0 => fn_zero (by rfl) | k + 1 => ok_law_are_pieces T (al_all T F k) F0, hm, F0.kp, b⟩
    · cases h
      obtain ⟨f, fd, F0, hm⟩ := F.f_law_v58
      have b := F0.binds (ps := ["_law_script"]) fun _ _ _ _ _ _ us hl => match us, hl with | [_], _ => rfl
      exact ⟨f, fd, _, match k with | 0 => fn_zero (by rfl) | k + 1 => ok_law_v58 T (al_all T F k) F0, hm, F0.kp, b⟩
    · cases h
end Pg
namespace Pg
open PySem PySem.Spec PyProof.Rows L2 MP
theorem fs_mk {w : World} {K : Fg} {h : Heap} {mg : Str → Option Value} (X : K.In h) (G : h.Ns mainGlobals mg) {f0 : Addr} {od0 an0 : Option Addr} {sl0 : Array (Option Value)} {oc0 kV0 dc0 pm0 cd0 ct0 : Value}
  {f1 : Addr} {od1 an1 : Option Addr} {sl1 : Array (Option Value)} {oc1 kV1 dc1 pm1 cd1 ct1 : Value}
  {f2 : Addr} {od2 an2 : Option Addr} {sl2 : Array (Option Value)} {oc2 kV2 dc2 pm2 cd2 ct2 : Value}
  {f3 : Addr} {od3 an3 : Option Addr} {sl3 : Array (Option Value)} {oc3 kV3 dc3 pm3 cd3 ct3 : Value}
  {f4 : Addr} {od4 an4 : Option Addr} {sl4 : Array (Option Value)} {oc4 kV4 dc4 pm4 cd4 ct4 : Value}
  {f5 : Addr} {od5 an5 : Option Addr} {sl5 : Array (Option Value)} {oc5 kV5 dc5 pm5 cd5 ct5 : Value}
  {f6 : Addr} {od6 an6 : Option Addr} {sl6 : Array (Option Value)} {oc6 kV6 dc6 pm6 cd6 ct6 : Value}
  {f7 : Addr} {od7 an7 : Option Addr} {sl7 : Array (Option Value)} {oc7 kV7 dc7 pm7 cd7 ct7 : Value}
  {f8 : Addr} {od8 an8 : Option Addr} {sl8 : Array (Option Value)} {oc8 kV8 dc8 pm8 cd8 ct8 : Value}
  {f9 : Addr} {od9 an9 : Option Addr} {sl9 : Array (Option Value)} {oc9 kV9 dc9 pm9 cd9 ct9 : Value}
  {f10 : Addr} {od10 an10 : Option Addr} {sl10 : Array (Option Value)} {oc10 kV10 dc10 pm10 cd10 ct10 : Value}
  {f11 : Addr} {od11 an11 : Option Addr} {sl11 : Array (Option Value)} {oc11 kV11 dc11 pm11 cd11 ct11 : Value}
  {f12 : Addr} {od12 an12 : Option Addr} {sl12 : Array (Option Value)} {oc12 kV12 dc12 pm12 cd12 ct12 : Value}
  {f13 : Addr} {od13 an13 : Option Addr} {sl13 : Array (Option Value)} {oc13 kV13 dc13 pm13 cd13 ct13 : Value}
  {f14 : Addr} {od14 an14 : Option Addr} {sl14 : Array (Option Value)} {oc14 kV14 dc14 pm14 cd14 ct14 : Value}
  {f15 : Addr} {od15 an15 : Option Addr} {sl15 : Array (Option Value)} {oc15 kV15 dc15 pm15 cd15 ct15 : Value}
  {f16 : Addr} {od16 an16 : Option Addr} {sl16 : Array (Option Value)} {oc16 kV16 dc16 pm16 cd16 ct16 : Value}
  {f17 : Addr} {od17 an17 : Option Addr} {sl17 : Array (Option Value)} {oc17 kV17 dc17 pm17 cd17 ct17 : Value}
  {f18 : Addr} {od18 an18 : Option Addr} {sl18 : Array (Option Value)} {oc18 kV18 dc18 pm18 cd18 ct18 : Value}
  {f19 : Addr} {od19 an19 : Option Addr} {sl19 : Array (Option Value)} {oc19 kV19 dc19 pm19 cd19 ct19 : Value}
  {f20 : Addr} {od20 an20 : Option Addr} {sl20 : Array (Option Value)} {oc20 kV20 dc20 pm20 cd20 ct20 : Value}
  {f21 : Addr} {od21 an21 : Option Addr} {sl21 : Array (Option Value)} {oc21 kV21 dc21 pm21 cd21 ct21 : Value}
  {f22 : Addr} {od22 an22 : Option Addr} {sl22 : Array (Option Value)} {oc22 kV22 dc22 pm22 cd22 ct22 : Value}
  (a0 : PySem.W.nsIn K mainGlobals "forms_within" = some (some (.ref f0))) (l0 : K.lookup f0 = some ⟨oc0, od0, .func (PySem.W.fnOf "forms_within" "forms_within" (defArgs s_forms_within) (defBody s_forms_within) (defScope s_forms_within) .none kV0 dc0 pm0 an0 cd0 ct0), sl0⟩) (c0 : PySem.W.codeIn K cd0 "forms_within" = true) (k0 : PySem.W.keepIn K (.ref f0) = true)
  (a1 : PySem.W.nsIn K mainGlobals "parts_of" = some (some (.ref f1))) (l1 : K.lookup f1 = some ⟨oc1, od1, .func (PySem.W.fnOf "parts_of" "parts_of" (defArgs s_parts_of) (defBody s_parts_of) (defScope s_parts_of) .none kV1 dc1 pm1 an1 cd1 ct1), sl1⟩) (c1 : PySem.W.codeIn K cd1 "parts_of" = true) (k1 : PySem.W.keepIn K (.ref f1) = true)
  (a2 : PySem.W.nsIn K mainGlobals "forms_of" = some (some (.ref f2))) (l2 : K.lookup f2 = some ⟨oc2, od2, .func (PySem.W.fnOf "forms_of" "forms_of" (defArgs s_forms_of) (defBody s_forms_of) (defScope s_forms_of) .none kV2 dc2 pm2 an2 cd2 ct2), sl2⟩) (c2 : PySem.W.codeIn K cd2 "forms_of" = true) (k2 : PySem.W.keepIn K (.ref f2) = true)
  (a3 : PySem.W.nsIn K mainGlobals "names_of" = some (some (.ref f3))) (l3 : K.lookup f3 = some ⟨oc3, od3, .func (PySem.W.fnOf "names_of" "names_of" (defArgs s_names_of) (defBody s_names_of) (defScope s_names_of) .none kV3 dc3 pm3 an3 cd3 ct3), sl3⟩) (c3 : PySem.W.codeIn K cd3 "names_of" = true) (k3 : PySem.W.keepIn K (.ref f3) = true)
  (a4 : PySem.W.nsIn K mainGlobals "stretches" = some (some (.ref f4))) (l4 : K.lookup f4 = some ⟨oc4, od4, .func (PySem.W.fnOf "stretches" "stretches" (defArgs s_stretches) (defBody s_stretches) (defScope s_stretches) .none kV4 dc4 pm4 an4 cd4 ct4), sl4⟩) (c4 : PySem.W.codeIn K cd4 "stretches" = true) (k4 : PySem.W.keepIn K (.ref f4) = true)
  (a5 : PySem.W.nsIn K mainGlobals "pieces_of" = some (some (.ref f5))) (l5 : K.lookup f5 = some ⟨oc5, od5, .func (PySem.W.fnOf "pieces_of" "pieces_of" (defArgs s_pieces_of) (defBody s_pieces_of) (defScope s_pieces_of) .none kV5 dc5 pm5 an5 cd5 ct5), sl5⟩) (c5 : PySem.W.codeIn K cd5 "pieces_of" = true) (k5 : PySem.W.keepIn K (.ref f5) = true)
  (a6 : PySem.W.nsIn K mainGlobals "gather" = some (some (.ref f6))) (l6 : K.lookup f6 = some ⟨oc6, od6, .func (PySem.W.fnOf "gather" "gather" (defArgs s_gather) (defBody s_gather) (defScope s_gather) .none kV6 dc6 pm6 an6 cd6 ct6), sl6⟩) (c6 : PySem.W.codeIn K cd6 "gather" = true) (k6 : PySem.W.keepIn K (.ref f6) = true)
  (a7 : PySem.W.nsIn K mainGlobals "row_of" = some (some (.ref f7))) (l7 : K.lookup f7 = some ⟨oc7, od7, .func (PySem.W.fnOf "row_of" "row_of" (defArgs s_row_of_v3) (defBody s_row_of_v3) (defScope s_row_of_v3) .none kV7 dc7 pm7 an7 cd7 ct7), sl7⟩) (c7 : PySem.W.codeIn K cd7 "row_of" = true) (k7 : PySem.W.keepIn K (.ref f7) = true)
  (a8 : PySem.W.nsIn K mainGlobals "_law_deck" = some (some (.ref f8))) (l8 : K.lookup f8 = some ⟨oc8, od8, .func (PySem.W.fnOf "_law_deck" "_law_deck" (defArgs s_law_deck) (defBody s_law_deck) (defScope s_law_deck) .none kV8 dc8 pm8 an8 cd8 ct8), sl8⟩) (c8 : PySem.W.codeIn K cd8 "_law_deck" = true) (k8 : PySem.W.keepIn K (.ref f8) = true)
  (a9 : PySem.W.nsIn K mainGlobals "_law_draw" = some (some (.ref f9))) (l9 : K.lookup f9 = some ⟨oc9, od9, .func (PySem.W.fnOf "_law_draw" "_law_draw" (defArgs s_law_draw) (defBody s_law_draw) (defScope s_law_draw) .none kV9 dc9 pm9 an9 cd9 ct9), sl9⟩) (c9 : PySem.W.codeIn K cd9 "_law_draw" = true) (k9 : PySem.W.keepIn K (.ref f9) = true)
  (a10 : PySem.W.nsIn K mainGlobals "_law_names" = some (some (.ref f10))) (l10 : K.lookup f10 = some ⟨oc10, od10, .func (PySem.W.fnOf "_law_names" "_law_names" (defArgs s_law_names_v2) (defBody s_law_names_v2) (defScope s_law_names_v2) .none kV10 dc10 pm10 an10 cd10 ct10), sl10⟩) (c10 : PySem.W.codeIn K cd10 "_law_names" = true) (k10 : PySem.W.keepIn K (.ref f10) = true)
  (a11 : PySem.W.nsIn K mainGlobals "_law_sign" = some (some (.ref f11))) (l11 : K.lookup f11 = some ⟨oc11, od11, .func (PySem.W.fnOf "_law_sign" "_law_sign" (defArgs s_law_sign_v3) (defBody s_law_sign_v3) (defScope s_law_sign_v3) .none kV11 dc11 pm11 an11 cd11 ct11), sl11⟩) (c11 : PySem.W.codeIn K cd11 "_law_sign" = true) (k11 : PySem.W.keepIn K (.ref f11) = true)
  (a12 : PySem.W.nsIn K mainGlobals "_law_solid" = some (some (.ref f12))) (l12 : K.lookup f12 = some ⟨oc12, od12, .func (PySem.W.fnOf "_law_solid" "_law_solid" (defArgs s_law_solid) (defBody s_law_solid) (defScope s_law_solid) .none kV12 dc12 pm12 an12 cd12 ct12), sl12⟩) (c12 : PySem.W.codeIn K cd12 "_law_solid" = true) (k12 : PySem.W.keepIn K (.ref f12) = true)
  (a13 : PySem.W.nsIn K mainGlobals "_law_row" = some (some (.ref f13))) (l13 : K.lookup f13 = some ⟨oc13, od13, .func (PySem.W.fnOf "_law_row" "_law_row" (defArgs s_law_row) (defBody s_law_row) (defScope s_law_row) .none kV13 dc13 pm13 an13 cd13 ct13), sl13⟩) (c13 : PySem.W.codeIn K cd13 "_law_row" = true) (k13 : PySem.W.keepIn K (.ref f13) = true)
  (a14 : PySem.W.nsIn K mainGlobals "_law_any" = some (some (.ref f14))) (l14 : K.lookup f14 = some ⟨oc14, od14, .func (PySem.W.fnOf "_law_any" "_law_any" (defArgs s_law_any) (defBody s_law_any) (defScope s_law_any) .none kV14 dc14 pm14 an14 cd14 ct14), sl14⟩) (c14 : PySem.W.codeIn K cd14 "_law_any" = true) (k14 : PySem.W.keepIn K (.ref f14) = true)
  (a15 : PySem.W.nsIn K mainGlobals "_law_form" = some (some (.ref f15))) (l15 : K.lookup f15 = some ⟨oc15, od15, .func (PySem.W.fnOf "_law_form" "_law_form" (defArgs s_law_form_v2) (defBody s_law_form_v2) (defScope s_law_form_v2) .none kV15 dc15 pm15 an15 cd15 ct15), sl15⟩) (c15 : PySem.W.codeIn K cd15 "_law_form" = true) (k15 : PySem.W.keepIn K (.ref f15) = true)
  (a16 : PySem.W.nsIn K mainGlobals "_law_sound" = some (some (.ref f16))) (l16 : K.lookup f16 = some ⟨oc16, od16, .func (PySem.W.fnOf "_law_sound" "_law_sound" (defArgs s_law_sound) (defBody s_law_sound) (defScope s_law_sound) .none kV16 dc16 pm16 an16 cd16 ct16), sl16⟩) (c16 : PySem.W.codeIn K cd16 "_law_sound" = true) (k16 : PySem.W.keepIn K (.ref f16) = true)
  (a17 : PySem.W.nsIn K mainGlobals "_law_times" = some (some (.ref f17))) (l17 : K.lookup f17 = some ⟨oc17, od17, .func (PySem.W.fnOf "_law_times" "_law_times" (defArgs s_law_times) (defBody s_law_times) (defScope s_law_times) .none kV17 dc17 pm17 an17 cd17 ct17), sl17⟩) (c17 : PySem.W.codeIn K cd17 "_law_times" = true) (k17 : PySem.W.keepIn K (.ref f17) = true)
  (a18 : PySem.W.nsIn K mainGlobals "_law_go" = some (some (.ref f18))) (l18 : K.lookup f18 = some ⟨oc18, od18, .func (PySem.W.fnOf "_law_go" "_law_go" (defArgs s_law_go) (defBody s_law_go) (defScope s_law_go) .none kV18 dc18 pm18 an18 cd18 ct18), sl18⟩) (c18 : PySem.W.codeIn K cd18 "_law_go" = true) (k18 : PySem.W.keepIn K (.ref f18) = true)
  (a19 : PySem.W.nsIn K mainGlobals "_law_whole" = some (some (.ref f19))) (l19 : K.lookup f19 = some ⟨oc19, od19, .func (PySem.W.fnOf "_law_whole" "_law_whole" (defArgs s_law_whole_v4) (defBody s_law_whole_v4) (defScope s_law_whole_v4) .none kV19 dc19 pm19 an19 cd19 ct19), sl19⟩) (c19 : PySem.W.codeIn K cd19 "_law_whole" = true) (k19 : PySem.W.keepIn K (.ref f19) = true)
  (a20 : PySem.W.nsIn K mainGlobals "_law_heads" = some (some (.ref f20))) (l20 : K.lookup f20 = some ⟨oc20, od20, .func (PySem.W.fnOf "_law_heads" "_law_heads" (defArgs s_law_heads) (defBody s_law_heads) (defScope s_law_heads) .none kV20 dc20 pm20 an20 cd20 ct20), sl20⟩) (c20 : PySem.W.codeIn K cd20 "_law_heads" = true) (k20 : PySem.W.keepIn K (.ref f20) = true)
  (a21 : PySem.W.nsIn K mainGlobals "_law_are_pieces" = some (some (.ref f21))) (l21 : K.lookup f21 = some ⟨oc21, od21, .func (PySem.W.fnOf "_law_are_pieces" "_law_are_pieces" (defArgs s_law_are_pieces) (defBody s_law_are_pieces) (defScope s_law_are_pieces) .none kV21 dc21 pm21 an21 cd21 ct21), sl21⟩) (c21 : PySem.W.codeIn K cd21 "_law_are_pieces" = true) (k21 : PySem.W.keepIn K (.ref f21) = true)
  (a22 : PySem.W.nsIn K mainGlobals "law" = some (some (.ref f22))) (l22 : K.lookup f22 = some ⟨oc22, od22, .func (PySem.W.fnOf "law" "law" (defArgs s_law_v58) (defBody s_law_v58) (defScope s_law_v58) .none kV22 dc22 pm22 an22 cd22 ct22), sl22⟩) (c22 : PySem.W.codeIn K cd22 "law" = true) (k22 : PySem.W.keepIn K (.ref f22) = true)
  (z0 : PySem.W.nsIn K mainGlobals "abs" = some none)
  (z1 : PySem.W.nsIn K mainGlobals "bool" = some none)
  (z2 : PySem.W.nsIn K mainGlobals "int" = some none)
  (z3 : PySem.W.nsIn K mainGlobals "isinstance" = some none)
  (z4 : PySem.W.nsIn K mainGlobals "len" = some none)
  (z5 : PySem.W.nsIn K mainGlobals "list" = some none)
  (z6 : PySem.W.nsIn K mainGlobals "range" = some none)
  (z7 : PySem.W.nsIn K mainGlobals "set" = some none)
  (z8 : PySem.W.nsIn K mainGlobals "sorted" = some none)
  (z9 : PySem.W.nsIn K mainGlobals "str" = some none)
  (z10 : PySem.W.nsIn K mainGlobals "tuple" = some none)
  (z11 : PySem.W.nsIn K mainGlobals "zip" = some none) : Fs K mg ∧ Top w K mg := by
  exact ⟨⟨⟨_, _, fun_mk (st := s_forms_within) l0 c0 k0, PySem.W.mg_of X G a0⟩, ⟨_, _, fun_mk (st := s_parts_of) l1 c1 k1, PySem.W.mg_of X G a1⟩, ⟨_, _, fun_mk (st := s_forms_of) l2 c2 k2, PySem.W.mg_of X G a2⟩, ⟨_, _, fun_mk (st := s_names_of) l3 c3 k3, PySem.W.mg_of X G a3⟩, ⟨_, _, fun_mk (st := s_stretches) l4 c4 k4, PySem.W.mg_of X G a4⟩, ⟨_, _, fun_mk (st := s_pieces_of) l5 c5 k5, PySem.W.mg_of X G a5⟩, ⟨_, _, fun_mk (st := s_gather) l6 c6 k6, PySem.W.mg_of X G a6⟩, ⟨_, _, fun_mk (st := s_row_of_v3) l7 c7 k7, PySem.W.mg_of X G a7⟩, ⟨_, _, fun_mk (st := s_law_deck) l8 c8 k8, PySem.W.mg_of X G a8⟩, ⟨_, _, fun_mk (st := s_law_draw) l9 c9 k9, PySem.W.mg_of X G a9⟩, ⟨_, _, fun_mk (st := s_law_names_v2) l10 c10 k10, PySem.W.mg_of X G a10⟩, ⟨_, _, fun_mk (st := s_law_sign_v3) l11 c11 k11, PySem.W.mg_of X G a11⟩, ⟨_, _, fun_mk (st := s_law_solid) l12 c12 k12, PySem.W.mg_of X G a12⟩, ⟨_, _, fun_mk (st := s_law_row) l13 c13 k13, PySem.W.mg_of X G a13⟩, ⟨_, _, fun_mk (st := s_law_any) l14 c14 k14, PySem.W.mg_of X G a14⟩, ⟨_, _, fun_mk (st := s_law_form_v2) l15 c15 k15, PySem.W.mg_of X G a15⟩, ⟨_, _, fun_mk (st := s_law_sound) l16 c16 k16, PySem.W.mg_of X G a16⟩, ⟨_, _, fun_mk (st := s_law_times) l17 c17 k17, PySem.W.mg_of X G a17⟩, ⟨_, _, fun_mk (st := s_law_go) l18 c18 k18, PySem.W.mg_of X G a18⟩, ⟨_, _, fun_mk (st := s_law_whole_v4) l19 c19 k19, PySem.W.mg_of X G a19⟩, ⟨_, _, fun_mk (st := s_law_heads) l20 c20 k20, PySem.W.mg_of X G a20⟩, ⟨_, _, fun_mk (st := s_law_are_pieces) l21 c21 k21, PySem.W.mg_of X G a21⟩, ⟨_, _, fun_mk (st := s_law_v58) l22 c22 k22, PySem.W.mg_of X G a22⟩⟩, ⟨PySem.W.mg_none_of X G z0, PySem.W.mg_none_of X G z1, PySem.W.mg_none_of X G z2, PySem.W.mg_none_of X G z3, PySem.W.mg_none_of X G z4, PySem.W.mg_none_of X G z5, PySem.W.mg_none_of X G z6, PySem.W.mg_none_of X G z7, PySem.W.mg_none_of X G z8, PySem.W.mg_none_of X G z9, PySem.W.mg_none_of X G z10, PySem.W.mg_none_of X G z11, ⟨.ref f1, _, PySem.W.mg_of X G a1, rfl, fun _ _ => .fn _ _ rfl a1⟩, ⟨_, a1, PySem.W.mg_of X G a1⟩⟩⟩
end Pg
open PySem PySem.W PyProof.Rows
set_option maxHeartbeats 0 in
theorem PySem.Challenge.cw_markpieces_k13_pieces_and_rows_holds : PySem.Challenge.rw_markpieces_k13_pieces_and_rows.Holds := by
  w_on; o_law; k_head; (case hw => w_witness2)
  k_fill
  refine L2.walk_ofK (l := PySem.Challenge.rw_markpieces_k13_pieces_and_rows) (n := 63) (k := 60) (x := "_law_script") (CX := L2.CX0) (sp := fun K => MP.spD K (MP.callF Pg.ds 60) 563 1) rfl (by decide) rfl ⟨rfl, by decide, by decide⟩ (fun w h Y => PySem.W.kIn_of Y) ?F (fun K H a ns hl hO hS => ?G) (fun _ _ _ _ h => h)
  case G => exact MP.law_in hO hS (Pg.law_true ns hl)
  case F =>
    intro w mg fa h KX G hmg
    obtain ⟨hF, hT⟩ : Pg.Fs _ mg ∧ Pg.Top w _ mg := by
      refine' Pg.fs_mk KX G ?mp_a0 ?mp_l0 ?mp_c0 ?mp_k0 ?mp_a1 ?mp_l1 ?mp_c1 ?mp_k1 ?mp_a2 ?mp_l2 ?mp_c2 ?mp_k2 ?mp_a3 ?mp_l3 ?mp_c3 ?mp_k3 ?mp_a4 ?mp_l4 ?mp_c4 ?mp_k4 ?mp_a5 ?mp_l5 ?mp_c5 ?mp_k5 ?mp_a6 ?mp_l6 ?mp_c6 ?mp_k6 ?mp_a7 ?mp_l7 ?mp_c7 ?mp_k7 ?mp_a8 ?mp_l8 ?mp_c8 ?mp_k8 ?mp_a9 ?mp_l9 ?mp_c9 ?mp_k9 ?mp_a10 ?mp_l10 ?mp_c10 ?mp_k10 ?mp_a11 ?mp_l11 ?mp_c11 ?mp_k11 ?mp_a12 ?mp_l12 ?mp_c12 ?mp_k12 ?mp_a13 ?mp_l13 ?mp_c13 ?mp_k13 ?mp_a14 ?mp_l14 ?mp_c14 ?mp_k14 ?mp_a15 ?mp_l15 ?mp_c15 ?mp_k15 ?mp_a16 ?mp_l16 ?mp_c16 ?mp_k16 ?mp_a17 ?mp_l17 ?mp_c17 ?mp_k17 ?mp_a18 ?mp_l18 ?mp_c18 ?mp_k18 ?mp_a19 ?mp_l19 ?mp_c19 ?mp_k19 ?mp_a20 ?mp_l20 ?mp_c20 ?mp_k20 ?mp_a21 ?mp_l21 ?mp_c21 ?mp_k21 ?mp_a22 ?mp_l22 ?mp_c22 ?mp_k22 ?mp_z0 ?mp_z1 ?mp_z2 ?mp_z3 ?mp_z4 ?mp_z5 ?mp_z6 ?mp_z7 ?mp_z8 ?mp_z9 ?mp_z10 ?mp_z11
      (case mp_a0 => k_is)
      (case mp_l0 => k_is)
      (case mp_c0 => k_is)
      (case mp_k0 => k_is)
      (case mp_a1 => k_is)
      (case mp_l1 => k_is)
      (case mp_c1 => k_is)
      (case mp_k1 => k_is)
      (case mp_a2 => k_is)
      (case mp_l2 => k_is)
      (case mp_c2 => k_is)
      (case mp_k2 => k_is)
      (case mp_a3 => k_is)
      (case mp_l3 => k_is)
      (case mp_c3 => k_is)
      (case mp_k3 => k_is)
      (case mp_a4 => k_is)
      (case mp_l4 => k_is)
      (case mp_c4 => k_is)
      (case mp_k4 => k_is)
      (case mp_a5 => k_is)
      (case mp_l5 => k_is)
      (case mp_c5 => k_is)
      (case mp_k5 => k_is)
      (case mp_a6 => k_is)
      (case mp_l6 => k_is)
      (case mp_c6 => k_is)
      (case mp_k6 => k_is)
      (case mp_a7 => k_is)
      (case mp_l7 => k_is)
      (case mp_c7 => k_is)
      (case mp_k7 => k_is)
      (case mp_a8 => k_is)
      (case mp_l8 => k_is)
      (case mp_c8 => k_is)
      (case mp_k8 => k_is)
      (case mp_a9 => k_is)
      (case mp_l9 => k_is)
      (case mp_c9 => k_is)
      (case mp_k9 => k_is)
      (case mp_a10 => k_is)
      (case mp_l10 => k_is)
      (case mp_c10 => k_is)
      (case mp_k10 => k_is)
      (case mp_a11 => k_is)
      (case mp_l11 => k_is)
      (case mp_c11 => k_is)
      (case mp_k11 => k_is)
      (case mp_a12 => k_is)
      (case mp_l12 => k_is)
      (case mp_c12 => k_is)
      (case mp_k12 => k_is)
      (case mp_a13 => k_is)
      (case mp_l13 => k_is)
      (case mp_c13 => k_is)
      (case mp_k13 => k_is)
      (case mp_a14 => k_is)
      (case mp_l14 => k_is)
      (case mp_c14 => k_is)
      (case mp_k14 => k_is)
      (case mp_a15 => k_is)
      (case mp_l15 => k_is)
      (case mp_c15 => k_is)
      (case mp_k15 => k_is)
      (case mp_a16 => k_is)
      (case mp_l16 => k_is)
      (case mp_c16 => k_is)
      (case mp_k16 => k_is)
      (case mp_a17 => k_is)
      (case mp_l17 => k_is)
      (case mp_c17 => k_is)
      (case mp_k17 => k_is)
      (case mp_a18 => k_is)
      (case mp_l18 => k_is)
      (case mp_c18 => k_is)
      (case mp_k18 => k_is)
      (case mp_a19 => k_is)
      (case mp_l19 => k_is)
      (case mp_c19 => k_is)
      (case mp_k19 => k_is)
      (case mp_a20 => k_is)
      (case mp_l20 => k_is)
      (case mp_c20 => k_is)
      (case mp_k20 => k_is)
      (case mp_a21 => k_is)
      (case mp_l21 => k_is)
      (case mp_c21 => k_is)
      (case mp_k21 => k_is)
      (case mp_a22 => k_is)
      (case mp_l22 => k_is)
      (case mp_c22 => k_is)
      (case mp_k22 => k_is)
      (case mp_z0 => k_is)
      (case mp_z1 => k_is)
      (case mp_z2 => k_is)
      (case mp_z3 => k_is)
      (case mp_z4 => k_is)
      (case mp_z5 => k_is)
      (case mp_z6 => k_is)
      (case mp_z7 => k_is)
      (case mp_z8 => k_is)
      (case mp_z9 => k_is)
      (case mp_z10 => k_is)
      (case mp_z11 => k_is)
    obtain ⟨f, fd, F0, hm⟩ := hF.f_law_v58
    have e := hmg.symm.trans hm
    cases e
    exact ⟨fd, MP.bind_one F0 (fun _ _ _ _ _ _ _ => rfl), fun base _ _ => Pg.ok_law_v58 hT (Pg.al_all hT hF 59) F0⟩
