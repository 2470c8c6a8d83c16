import PyProof.Rows.All
import Wide.All
import OpenK.AllK
import Wide.FinOn
import KE.KStateDown
import Lean
import HandS.ForMost
import HandS.IsInst
import HandS.Deep
import HandS.Style
import HandS.TupAny
import HandS.TupMul
import HandS.Lambda
import KE.KeyNested
import PyProof.ReprReads
import PyProof.DictMoreH
import KE.SortData
import KE.DataCmp
import HandS.IterVal
import HandS.TryOnly
import HandS.SetFor
import HandS.Strs
import HandS.TupSets
import KE.KMinKey
import HandS.SortKw
import HandS.Steps
import HandS.Zip
import KE.GoesEnum
import KE.GoesMore
import KE.GoesZip
import KE.KDictZip
import HandS.OwnIter
import HandS.Star
import HandS.ReCall
import HandS.Conv
import KE.DataMinMax
import HandS.Keys
import KE.SortKeyHeap
import KE.KCallOwn
import HandS.More
import HandS.OwnEq
import HandS.Words
import HandS.WordsExc
import HandS.Defaults
import HandS.Head0
import HandS.Head1
import HandS.Head2
import HandS.HeadEnd
import HandS.HeadHook1
import HandS.HeadHook2
import HandS.HeadHook3
import HandS.HeadHook4
import HandS.HeadWalk
import HandS.FStr
import HandS.List
import HandS.RaiseMore
import HandS.Nested
import KE.KExcSuper
import HandS.ExcInit
import HandS.ExcField
import HandS.ExcIs
import HandS.CallSlots
import KE.KExcIs
import HandS.HotCalls
import PyProof.Rows.StrFirst
import KE.KStar
import HandS.DictComp
import PyProof.DictRoadsH
import PyProof.ReprHeadsTuple
import PyProof.ReprLen
import PyProof.ForAny
import PyProof.StrLawsRepr
import HandS.FStrTup
import KE.KExcInit
import KE.KExcLine
import PyProof.Rows.TupDisplay
import PySem.Challenge.RW_markpieces_k57_walks_whose_edges_raise
set_option Elab.async false
set_option linter.all false
set_option autoImplicit false
set_option maxRecDepth 100000
set_option maxHeartbeats 4000000
/-! A small reader of the programs at hand: expressions and statements by slots, over a store of lists. -/
namespace MP

/-- a value: lists stand in the store; rol: a list that is only read, not in the store -/
inductive W where
  | non | bl (b : Bool) | int (i : Int) | str (x : List Nat) | tup (xs : List W) | ref (k : Nat) | rol (xs : List W) | fn (x : List Nat) | dic (kvs : List (List Nat × W)) | dref (k : Nat) | exc (c : List Nat) (fs : List (List Nat × W)) | oref (k : Nat) | gref (k : Nat) | ntup (xs : List W) | lref (k : Nat)
  deriving Inhabited

/-! ### keys: what may stand as a key of a dict -/
inductive HK where
  | non | int (i : Int) | str (x : List Nat) | tup (xs : List HK)
mutual
def HK.beq : HK → HK → Bool
  | .non, .non => true
  | .int i, .int j => decide (i = j)
  | .str x, .str y => decide (x = y)
  | .tup xs, .tup ys => HK.beqs xs ys
  | .non, .int _ | .non, .str _ | .non, .tup _ => false
  | .int _, .non | .int _, .str _ | .int _, .tup _ => false
  | .str _, .non | .str _, .int _ | .str _, .tup _ => false
  | .tup _, .non | .tup _, .int _ | .tup _, .str _ => false
def HK.beqs : List HK → List HK → Bool
  | [], [] => true
  | x :: xs, y :: ys => HK.beq x y && HK.beqs xs ys
  | [], _ :: _ => false
  | _ :: _, [] => false
end
mutual
theorem HK.beq_rf : ∀ a : HK, HK.beq a a = true
  | .non => rfl
  | .int _ => by simp [HK.beq]
  | .str _ => by simp [HK.beq]
  | .tup xs => by rw [HK.beq]; exact HK.beqs_rf xs
theorem HK.beqs_rf : ∀ a : List HK, HK.beqs a a = true
  | [] => rfl
  | x :: xs => by rw [HK.beqs, HK.beq_rf x, HK.beqs_rf xs]; rfl
end
mutual
theorem HK.beq_eq : ∀ a b : HK, HK.beq a b = true → a = b
  | .non, .non, _ => rfl
  | .int _, .int _, h => by simp only [HK.beq, decide_eq_true_eq] at h; rw [h]
  | .str _, .str _, h => by simp only [HK.beq, decide_eq_true_eq] at h; rw [h]
  | .tup xs, .tup ys, h => by rw [HK.beq] at h; rw [HK.beqs_eq xs ys h]
  | .non, .int _, h | .non, .str _, h | .non, .tup _, h => by simp [HK.beq] at h
  | .int _, .non, h | .int _, .str _, h | .int _, .tup _, h => by simp [HK.beq] at h
  | .str _, .non, h | .str _, .int _, h | .str _, .tup _, h => by simp [HK.beq] at h
  | .tup _, .non, h | .tup _, .int _, h | .tup _, .str _, h => by simp [HK.beq] at h
theorem HK.beqs_eq : ∀ a b : List HK, HK.beqs a b = true → a = b
  | [], [], _ => rfl
  | x :: xs, y :: ys, h => by
    rw [HK.beqs, Bool.and_eq_true] at h
    rw [HK.beq_eq x y h.1, HK.beqs_eq xs ys h.2]
  | [], _ :: _, h => by simp [HK.beqs] at h
  | _ :: _, [], h => by simp [HK.beqs] at h
end
instance : DecidableEq HK := fun a b => if h : HK.beq a b = true then .isTrue (HK.beq_eq a b h) else .isFalse fun e => h (e ▸ HK.beq_rf a)
mutual
/-- the value that the key is -/
def HK.w : HK → W
  | .non => .non
  | .int i => .int i
  | .str x => .str x
  | .tup xs => .tup (HK.ws xs)
def HK.ws : List HK → List W
  | [] => []
  | x :: xs => HK.w x :: HK.ws xs
end
mutual
def HK.dep : HK → Nat
  | .non => 0
  | .int _ => 0
  | .str _ => 0
  | .tup xs => HK.deps xs + 1
def HK.deps : List HK → Nat
  | [] => 0
  | x :: xs => max (HK.dep x) (HK.deps xs)
end
def hks (f : W → Option HK) : List W → Option (List HK)
  | [] => some []
  | x :: r => match f x, hks f r with
    | some d, some ds => some (d :: ds)
    | _, _ => none
/-- the key that the value is -/
def hkOf : Nat → W → Option HK
  | _, .non => some .non
  | _, .int i => some (.int i)
  | _, .str x => some (.str x)
  | n + 1, .tup xs => (hks (hkOf n) xs).map .tup
  | _, _ => none

/-- what stands in the store: a list, a dict keyed by texts, an instance of a class (its fields), a dict keyed by what may be a key -/
inductive SO where
  | lst (xs : List W) | dct (kvs : List (List Nat × W)) | obj (c : List Nat) (fs : List (List Nat × W)) | dd (kvs : List (HK × W)) | clo (l : Nat) (zs : List W)
abbrev Sto := List SO
abbrev Env := List (Option W)
abbrev R := Option (W × Sto)

def LIM : Nat := 1000000
/-- the digits of a number -/
def istrL (i : Int) : List Nat := ((toString i : String) : PySem.Str).cps.toList

def rdL (S : Sto) (k : Nat) : Option (List W) :=
  match S[k]? with
  | some (.lst xs) => some xs
  | _ => none
def rdD (S : Sto) (k : Nat) : Option (List (List Nat × W)) :=
  match S[k]? with
  | some (.dct xs) => some xs
  | _ => none
def rdO (S : Sto) (k : Nat) : Option (List Nat × List (List Nat × W)) :=
  match S[k]? with
  | some (.obj c fs) => some (c, fs)
  | _ => none
def rdG (S : Sto) (k : Nat) : Option (List (HK × W)) :=
  match S[k]? with
  | some (.dd kvs) => some kvs
  | _ => none
/-- a closure: its def, the values of what it captures -/
def rdC (S : Sto) (k : Nat) : Option (Nat × List W) :=
  match S[k]? with
  | some (.clo l zs) => some (l, zs)
  | _ => none
def relock1 (zs : List W) : SO → SO
  | .clo l _ => .clo l zs
  | .lst xs => .lst xs
  | .dct kvs => .dct kvs
  | .obj c fs => .obj c fs
  | .dd kvs => .dd kvs
/-- all closures see these values -/
def relock (zs : List W) (S : Sto) : Sto := S.map (relock1 zs)
def slotsOf (env : Env) : List Nat → Option (List W)
  | [] => some []
  | i :: r => match env[i]? with
    | some (some w) => (slotsOf env r).map (w :: ·)
    | _ => none
abbrev rdM (S : Sto) (k : Nat) : Option (List W) := rdL S k
def new (S : Sto) (xs : List W) : R := if xs.length ≤ LIM then some (.ref S.length, S ++ [.lst xs]) else none

/-! ### data, for == -/
inductive D where
  | non | bl (b : Bool) | int (i : Int) | str (x : List Nat) | lst (xs : List D) | tup (xs : List D)
mutual
def D.py : D → PySem.PyData
  | .non => .none
  | .bl b => .bool b
  | .int i => .int i
  | .str x => .str ⟨x.toArray⟩
  | .lst xs => .list (D.pys xs)
  | .tup xs => .tuple (D.pys xs)
def D.pys : List D → List PySem.PyData
  | [] => []
  | d :: ds => D.py d :: D.pys ds
end
/-- what repr tells of data -/
def repL (d : D) : List Nat := d.py.shown.cps.toList
mutual
def repOk : D → Bool
  | .non => true
  | .bl _ => true
  | .int i => decide (i.natAbs.log2 < 1920)
  | .str x => x.all fun c => decide (c < 1114112)
  | .lst xs => repOks xs
  | .tup xs => repOks xs
def repOks : List D → Bool
  | [] => true
  | d :: ds => repOk d && repOks ds
end
mutual
/-- no longer than that -/
def repN : D → Nat
  | .non => 5
  | .bl _ => 5
  | .int i => i.natAbs.log2 + 2
  | .str x => 10 * x.length + 2
  | .lst xs => 3 + repNs xs
  | .tup xs => 3 + repNs xs
def repNs : List D → Nat
  | [] => 0
  | d :: ds => repN d + 2 + repNs ds
end
def dats (f : W → Option D) : List W → Option (List D)
  | [] => some []
  | x :: r => match f x, dats f r with
    | some d, some ds => some (d :: ds)
    | _, _ => none
def dat (S : Sto) : Nat → W → Option D
  | _, .non => some .non
  | _, .bl b => some (.bl b)
  | _, .int i => some (.int i)
  | _, .str x => if x.all (fun c => decide (c < 1114112)) then some (.str x) else none
  | 0, _ => none
  | n + 1, .tup xs => (dats (dat S n) xs).map .tup
  | n + 1, .ref k => match rdL S k with
    | some xs => (dats (dat S n) xs).map .lst
    | none => none
  | _ + 1, .rol _ => none
  | _ + 1, .fn _ => none
  | _ + 1, .dic _ => none
  | _ + 1, .dref _ => none
  | _ + 1, .exc _ _ => none
  | _ + 1, .oref _ => none
  | _ + 1, .gref _ => none
  | _ + 1, .ntup _ => none
  | _ + 1, .lref _ => none
mutual
def D.eqv : D → D → Bool
  | .non, .non => true
  | .bl a, .bl b => a == b
  | .bl a, .int j => (if a then 1 else 0) == j
  | .int i, .bl b => i == (if b then 1 else 0)
  | .int i, .int j => i == j
  | .str x, .str y => x == y
  | .lst xs, .lst ys => D.eqvs xs ys
  | .tup xs, .tup ys => D.eqvs xs ys
  | _, _ => false
def D.eqvs : List D → List D → Bool
  | [], [] => true
  | x :: xs, y :: ys => D.eqv x y && D.eqvs xs ys
  | _, _ => false
end
mutual
/-- can be put in order, place by place -/
def D.alk : D → D → Bool
  | .non, .non => true
  | .bl _, .bl _ => true
  | .int _, .int _ => true
  | .str _, .str _ => true
  | .lst xs, .lst ys => D.alks xs ys
  | .tup xs, .tup ys => D.alks xs ys
  | _, _ => false
def D.alks : List D → List D → Bool
  | x :: xs, y :: ys => D.alk x y && D.alks xs ys
  | [], _ => true
  | _ :: _, [] => true
end
mutual
/-- less, for what can be put in order -/
def D.lt : D → D → Bool
  | .bl a, .bl b => !a && b
  | .int i, .int j => decide (i < j)
  | .str x, .str y => decide (x < y)
  | .lst xs, .lst ys => D.lts xs ys
  | .tup xs, .tup ys => D.lts xs ys
  | _, _ => false
def D.lts : List D → List D → Bool
  | [], [] => false
  | [], _ :: _ => true
  | _ :: _, [] => false
  | x :: xs, y :: ys => if D.eqv x y = true then D.lts xs ys else D.lt x y
end
/-- each with each -/
def alkAll (ds : List D) : Bool := ds.all fun a => ds.all fun b => D.alk a b
def srtA : D → Bool
  | .tup (_ :: _) => true
  | _ => false
def srtB : D → Bool
  | .non => false
  | .tup _ => false
  | _ => true
def srtOk (ds : List D) : Bool := ds.all srtA || ds.all srtB
def eqW (S : Sto) : W → W → Option Bool
  | .int i, .int j => some (decide (i = j))
  | .str x, .str y => some (decide (x = y))
  | .bl x, .bl y => some (decide (x = y))
  | .non, .non => some true
  | .non, .int _ => some false
  | .non, .bl _ => some false
  | .non, .str _ => some false
  | .int _, .non => some false
  | .bl _, .non => some false
  | .str _, .non => some false
  | .int _, .str _ => some false
  | .str _, .int _ => some false
  | .bl _, .str _ => some false
  | .str _, .bl _ => some false
  | x, y => match dat S 60 x, dat S 60 y with
    | some d, some e => some (D.eqv d e)
    | _, _ => none

/-! ### operators -/
inductive BO where | add | sub | mul | fdiv | mod | pow | shl | shr | bor | band | bxor
def opB : BO → W → W → Sto → R
  | .add, .int i, .int j, S => some (.int (i + j), S)
  | .add, .str x, .str y, S => if x.length + y.length ≤ LIM then some (.str (x ++ y), S) else none
  | .add, .tup x, .tup y, S => if x.length + y.length ≤ LIM then some (.tup (x ++ y), S) else none
  | .add, .ref a, .ref b, S => match rdM S a, rdM S b with
    | some x, some y => new S (x ++ y)
    | _, _ => none
  | .sub, .int i, .int j, S => some (.int (i - j), S)
  | .mul, .int i, .int j, S => if (-(2 ^ 64) < i ∧ i < 2 ^ 64) ∨ (-(2 ^ 64) < j ∧ j < 2 ^ 64) then some (.int (i * j), S) else none
  | .mul, .str x, .int j, S => if j ≤ 1000000 ∧ -1000000 ≤ j ∧ x.length * j.toNat ≤ LIM then some (.str (List.replicate j.toNat x).flatten, S) else none
  | .mul, .ref a, .int j, S => match rdM S a with
    | some x => if j ≤ 1000000 ∧ -1000000 ≤ j ∧ x.length * j.toNat ≤ LIM then new S (List.replicate j.toNat x).flatten else none
    | none => none
  | .mul, .tup x, .int j, S => if x.isEmpty = false ∧ -1000 ≤ j ∧ x.length * j.toNat ≤ LIM then some (.tup (List.replicate j.toNat x).flatten, S) else none
  | .fdiv, .int i, .int j, S => if 0 < j ∧ j < 1073741824 then some (.int (i / j), S) else none
  | .mod, .int i, .int j, S => if 0 < j then some (.int (i % j), S) else none
  | .pow, .int i, .int j, S => if 0 ≤ j ∧ j ≤ 1000000 ∧ i.natAbs < 2 ^ 64 then some (.int (i ^ j.toNat), S) else none
  | .shl, .int i, .int j, S => if 0 ≤ j ∧ j ≤ 1000000 ∧ i.natAbs < 2 ^ 64 then some (.int (i * 2 ^ j.toNat), S) else none
  | .shr, .int i, .int j, S => if 0 ≤ j then some (.int (i / 2 ^ j.toNat), S) else none
  | .bor, .int i, .int j, S => if 0 ≤ i ∧ 0 ≤ j then some (.int (i.toNat ||| j.toNat : Nat), S) else none
  | .band, .int i, .int j, S => if 0 ≤ i then (if 0 ≤ j then some (.int (i.toNat &&& j.toNat : Nat), S) else some (.int (i - (i.toNat &&& (-j - 1).toNat : Nat)), S)) else none
  | .bxor, .int i, .int j, S => if 0 ≤ i ∧ 0 ≤ j then some (.int ((i.toNat ||| j.toNat : Nat) - (i.toNat &&& j.toNat : Nat)), S) else none
  | _, _, _, _ => none

inductive CO where | eq | ne | lt | le | gt | ge | isIn | notIn
def inW (S : Sto) (x : W) : W → Option Bool
  | .str z => match x with
    | .str [c] => some (decide (c ∈ z))
    | _ => none
  | .ref k => match dat S 60 x, rdL S k with
    | some d, some ys => match dats (dat S 59) ys with
      | some ds => some (ds.any fun z => D.eqv z d)
      | none => none
    | _, _ => none
  | .tup ys => match dat S 60 x, dats (dat S 59) ys with
    | some d, some ds => some (ds.any fun z => D.eqv z d)
    | _, _ => none
  | _ => none
def opC (o : CO) (x y : W) (S : Sto) : Option Bool :=
  match o with
  | .eq => eqW S x y
  | .ne => (eqW S x y).map (!·)
  | .isIn => inW S x y
  | .notIn => (inW S x y).map (!·)
  | .lt => match x, y with
    | .int i, .int j => some (decide (i < j))
    | .str i, .str j => some (decide (i < j))
    | .tup i, .tup j => match dat S 60 (.tup i), dat S 60 (.tup j) with
      | some d, some e => if D.alk d e = true then some (D.lt d e) else none
      | _, _ => none
    | _, _ => none
  | .le => match x, y with
    | .int i, .int j => some (decide (i ≤ j))
    | .str i, .str j => some (!decide (j < i))
    | _, _ => none
  | .gt => match x, y with
    | .int i, .int j => some (decide (j < i))
    | _, _ => none
  | .ge => match x, y with
    | .int i, .int j => some (decide (j ≤ i))
    | _, _ => none

/-- the place that an index of any sign means -/
def ixN (n : Nat) (i : Int) : Option Nat := if 0 ≤ i then (if i < n then some i.toNat else none) else if -(n : Int) ≤ i then some (i + n).toNat else none
def atI {α : Type} (xs : List α) (i : Int) : Option α := (ixN xs.length i).bind fun j => xs[j]?
def opIx (x y : W) (S : Sto) : R :=
  match x, y with
  | .str z, .int i => if z.length ≤ LIM then (atI z i).map fun c => (.str [c], S) else none
  | .tup z, .int i => (atI z i).map fun c => (c, S)
  | .ref k, .int i => match rdL S k with
    | some z => (atI z i).map fun c => (c, S)
    | none => none
  | _, _ => none
/-- a slice's bound as a place among n (d where it is left out) -/
def sIx (n d : Nat) : Option Int → Nat
  | none => d
  | some v => if v < 0 then (v + (n : Int)).toNat else min v.toNat n
def cut {α : Type} (xs : List α) (lo hi : Option Int) : List α := (xs.drop (sIx xs.length 0 lo)).take (sIx xs.length xs.length hi - sIx xs.length 0 lo)
def opSl (x : W) (lo hi : Option Int) (S : Sto) : R :=
  match x with
  | .str z => if z.length ≤ LIM then some (.str (cut z lo hi), S) else none
  | .tup z => some (.tup (cut z lo hi), S)
  | .ref k => match rdL S k with
    | some z => new S (cut z lo hi)
    | none => none
  | .rol z => new S (cut z lo hi)
  | _ => none

/-! ### texts rising, each once -/
def insU (x : List Nat) : List (List Nat) → List (List Nat)
  | [] => [x]
  | y :: r => if x < y then x :: y :: r else if y < x then y :: insU x r else y :: r
def sortU (ys : List (List Nat)) : List (List Nat) := ys.foldr insU []
/-! ### built-in functions of values -/
/-- more built-in functions -/
inductive BJ where
  | sxor | smallT | smallS | ssetT | tidx | ntuple | forget | istr | jnt | isc (t u : List (List Nat)) | ulen | ustr | dzip | lidx | clr | gnew | gget | gget2 | gix | gin | gsetd | glist | glen | gset | small | sure | dmk (ks : List (List Nat)) | dgt2 | isis (ts : List Nat) | sub | idx | sortd | maxt | dg2 (t : List ((Int × Int) × W)) | zip3 | ins | starE | sseti | starL | gnew1 | bitlen | gvals | ssetD | lsetn
inductive BI where
  | len | abs | tuple | list | all | any | int | isi (t : Nat) | isN | notN | neg | rev | join | tru | sset | maxd | max2 | min2 | sum | maxl | minl | fcat | dget (t : List (List Nat × W)) | popl | popi | zip | iadd | isub | rem | isTr (b : Bool) | enum | revt | dgt | dnew | dlen | repr | find | sunion | sortl | starT | lset | dlit (t : List (List (Option Int) × List Nat)) | dsetd | dix | din | iix (t : List (Int × W)) | iin (t : List (Int × W)) | star1 | star3 | x (o : BJ)
def bls : List W → Option (List Bool)
  | [] => some []
  | .bl b :: r => (bls r).map (b :: ·)
  | _ => none
def keyW : List W → Option (List (Option Int))
  | [] => some []
  | .int i :: r => (keyW r).map (some i :: ·)
  | .non :: r => (keyW r).map (none :: ·)
  | _ => none
def txts : List W → Option (List (List Nat))
  | [] => some []
  | .str b :: r => (txts r).map (b :: ·)
  | _ => none
def intsW : List W → Option (List Int)
  | [] => some []
  | .int b :: r => (intsW r).map (b :: ·)
  | _ => none
def maxI : List Int → Int
  | [] => 0
  | [x] => x
  | x :: y :: r => if maxI (y :: r) ≤ x then x else maxI (y :: r)
def minI : List Int → Int
  | [] => 0
  | [x] => x
  | x :: y :: r => if x ≤ minI (y :: r) then x else minI (y :: r)
def zipT : List W → List W → List W
  | x :: a, y :: b => .tup [x, y] :: zipT a b
  | _, _ => []
def sgns (x : List Nat) : List W := x.map fun c => .str [c]
def enumT : Nat → List W → List W
  | _, [] => []
  | n, x :: a => .tup [.int n, x] :: enumT (n + 1) a
def isTrW (b : Bool) : W → Bool
  | .bl c => b == c
  | _ => false
def seqW (S : Sto) : W → Option (List W)
  | .ref k => rdL S k
  | .tup z => some z
  | _ => none
def atT (t : List (List Nat × W)) (x : List Nat) : W :=
  match t with
  | [] => .non
  | (y, w) :: r => if x = y then w else atT r x
/-- the types by numbers: str 0, int 1, bool 2, tuple 3, list 4 -/
def isT (t : Nat) : W → Bool
  | .non => false
  | .bl _ => t == 2 || t == 1
  | .int _ => t == 1
  | .str _ => t == 0
  | .tup _ => t == 3
  | .ref _ => t == 4
  | .rol _ => t == 4
  | .fn _ => false
  | .dic _ => false
  | .dref _ => false
  | .exc _ _ => false
  | .oref _ => false
  | .gref _ => false
  | .ntup _ => false
  | .lref _ => false
def isFn : W → Bool
  | .fn _ => true
  | .non => false
  | .bl _ => false
  | .int _ => false
  | .str _ => false
  | .tup _ => false
  | .ref _ => false
  | .rol _ => false
  | .dic _ => false
  | .dref _ => true
  | .exc _ _ => false
  | .oref _ => true
  | .gref _ => true
  | .ntup _ => true
  | .lref _ => true
def joinL (sep : List Nat) : List (List Nat) → List Nat
  | [] => []
  | [x] => x
  | x :: r => x ++ sep ++ joinL sep r
def lens : List (List Nat) → Nat
  | [] => 0
  | x :: r => x.length + lens r
def isNon : W → Bool
  | .non => true
  | _ => false
/-- where a sign stands first, -1 where it doesn't -/
def posC (x : List Nat) (c : Nat) : Int := if c ∈ x then (x.idxOf c : Nat) else -1
/-- in its place, or at the end -/
def putG (kvs : List (HK × W)) (x : HK) (w : W) : List (HK × W) :=
  if (kvs.any fun p => decide (p.1 = x)) = true then kvs.map (fun p => if p.1 = x then (p.1, w) else p) else kvs ++ [(x, w)]
/-- in its place, or at the end -/
def putD (kvs : List (List Nat × W)) (x : List Nat) (w : W) : List (List Nat × W) :=
  if (kvs.any fun p => decide (p.1 = x)) = true then kvs.map (fun p => if p.1 = x then (p.1, w) else p) else kvs ++ [(x, w)]
/-- a field: in its place, or at the end -/
def putO (x : List Nat) (w : W) : List (List Nat × W) → List (List Nat × W)
  | [] => [(x, w)]
  | (y, v) :: r => if y = x then (y, w) :: r else (y, v) :: putO x w r
/-- whether x stands anywhere in a text -/
def subL (x : List Nat) : List Nat → Bool
  | [] => x.isEmpty
  | c :: r => x.isPrefixOf (c :: r) || subL x r
def zip3T : List W → List W → List W → List W
  | x :: a, y :: b, z :: c => .tup [x, y, z] :: zip3T a b c
  | _, _, _ => []
/-- the values in the order of their data -/
def srtD (ds : List D) (ws : List W) : List W := ((ds.zip ws).mergeSort fun a b => !D.lt b.1 a.1).map (·.2)
def insZ (x : Int) : List Int → List Int
  | [] => [x]
  | y :: r => if x < y then x :: y :: r else if y < x then y :: insZ x r else y :: r
def sortZ (ys : List Int) : List Int := ys.foldr insZ []
def sortdW (S : Sto) (z : List W) : R := match dats (dat S 59) z with
  | some ds => if alkAll ds = true ∧ srtOk ds = true ∧ ds.length ≤ 1000 then new S (srtD ds z) else none
  | none => none
def opG : BJ → List W → Sto → R
  | .gnew, [], S => some (.gref S.length, S ++ [.dd []])
  | .gget, [.gref k, x], S => match rdG S k, hkOf 8 x with
    | some kvs, some h => some ((kvs.lookup h).getD .non, S)
    | _, _ => none
  | .gget2, [.gref k, x, w], S => match rdG S k, hkOf 8 x with
    | some kvs, some h => some ((kvs.lookup h).getD w, S)
    | _, _ => none
  | .gix, [.gref k, x], S => match rdG S k, hkOf 8 x with
    | some kvs, some h => (kvs.lookup h).map fun v => (v, S)
    | _, _ => none
  | .gin, [x, .gref k], S => match rdG S k, hkOf 8 x with
    | some kvs, some h => some (.bl (kvs.lookup h).isSome, S)
    | _, _ => none
  | .gsetd, [.gref k, x, w], S => match rdG S k, hkOf 8 x with
    | some kvs, some h => if kvs.length < LIM then (match kvs.lookup h with
      | some v => some (v, S)
      | none => some (w, S.set k (.dd (putG kvs h w)))) else none
    | _, _ => none
  | .glist, [.gref k], S => match rdG S k with
    | some kvs => new S (kvs.map fun p => p.1.w)
    | none => none
  | .glen, [.gref k], S => (rdG S k).map fun kvs => (.int kvs.length, S)
  | .gset, [w, .gref k, x], S => match rdG S k, hkOf 8 x with
    | some kvs, some h => if kvs.length < LIM then some (.non, S.set k (.dd (putG kvs h w))) else none
    | _, _ => none
  | _, _, _ => none
def opJ : BJ → List W → Sto → R
  | .gnew, ws, S => opG .gnew ws S
  | .gget, ws, S => opG .gget ws S
  | .gget2, ws, S => opG .gget2 ws S
  | .gix, ws, S => opG .gix ws S
  | .gin, ws, S => opG .gin ws S
  | .gsetd, ws, S => opG .gsetd ws S
  | .glist, ws, S => opG .glist ws S
  | .glen, ws, S => opG .glen ws S
  | .gset, ws, S => opG .gset ws S
  | .small, [.int i], S => if i.natAbs.log2 < 1920 then some (.int i, S) else none
  | .small, [.str x], S => if x.length ≤ 1000 then some (.str x, S) else none
  | .isis _, [.fn _], _ => none
  | .isis _, [.dref _], _ => none
  | .isis _, [.oref _], _ => none
  | .isis _, [.gref _], _ => none
  | .isis _, [.ntup _], _ => none
  | .isis _, [.lref _], _ => none
  | .isis ts, [x], S => some (.bl (ts.any fun t => isT t x), S)
  | .dmk ks, ws, S => if ks.length = ws.length ∧ ks ≠ [] ∧ ks.length ≤ 15 then some (.dref S.length, S ++ [.dct ((ks.zip ws).foldl (fun a kv => putD a kv.1 kv.2) [])]) else none
  | .dgt2, [.dref k, .str x, w], S => match rdD S k with
    | some kvs => some ((kvs.lookup x).getD w, S)
    | none => none
  | .sure, [.exc _ _], _ => none
  | .sure, [w], S => some (w, S)
  | .sub, [.str x, .str z], S => some (.bl (subL x z), S)
  | .idx, [.str x, .str [c]], S => if c ∈ x then some (.int (x.idxOf c : Nat), S) else none
  | .sortd, [.ref k], S => match rdL S k with
    | some z => sortdW S z
    | none => none
  | .sortd, [.tup z], S => sortdW S z
  | .maxt, [.tup z], S => match intsW z with
    | some ns => if ns.isEmpty then none else some (.int (maxI ns), S)
    | none => none
  | .dg2 t, [.tup [.int i, .int j]], S => some ((t.lookup (i, j)).getD .non, S)
  | .zip3, [.tup x, .tup y, .tup z], S => some (.tup (zip3T x y z), S)
  | .isc t u, [.oref k], S => match rdO S k with
    | some (c, _) => if c ∈ t then some (.bl true, S) else if c ∈ u then some (.bl false, S) else none
    | none => none
  | .isc _ _, [.non], S => some (.bl false, S)
  | .isc _ _, [.bl _], S => some (.bl false, S)
  | .isc _ _, [.int _], S => some (.bl false, S)
  | .isc _ _, [.str _], S => some (.bl false, S)
  | .isc _ _, [.tup _], S => some (.bl false, S)
  | .isc _ _, [.ref _], S => some (.bl false, S)
  | .ulen, [.int i], S => if 0 ≤ i ∧ i ≤ 1000000 then some (.int i, S) else none
  | .ustr, [.str x], S => some (.str x, S)
  | .jnt, [.str sep, .tup z], S => match txts z with
    | some ys => if lens ys + ys.length * sep.length ≤ LIM then some (.str (joinL sep ys), S) else none
    | none => none
  | .istr, [.int i], S => if i.natAbs < 10 ^ 18 then some (.str (istrL i), S) else none
  | .istr, [.str x], S => if x.length ≤ LIM then some (.str x, S) else none
  | .clr, [.ref k], S => match rdL S k with
    | some _ => some (.non, S.set k (.lst []))
    | none => none
  | .lidx, [.ref k, .str x], S => match rdL S k with
    | some z => match txts z with
      | some ys => if x ∈ ys then some (.int (ys.idxOf x : Nat), S) else none
      | none => none
    | none => none
  | .sxor, [.tup x, .tup y], S => match txts x, txts y with
    | some xs, some ys => if xs.length ≤ 4 ∧ ys.length ≤ 4 then new S ((sortU (xs.filter (fun z => decide (z ∉ ys)) ++ ys.filter (fun z => decide (z ∉ xs)))).map .str) else none
    | _, _ => none
  | .smallS, [.str x], S => if x.length ≤ 1000 ∧ ∀ c ∈ x, c < 1114112 then some (.str x, S) else none
  | .smallT, [.tup z], S => match txts z with
    | some ys => if ys.length ≤ 8 ∧ ∀ y ∈ ys, y.length ≤ 20 ∧ ∀ c ∈ y, c < 1114112 then some (.tup z, S) else none
    | none => none
  | .ssetT, [.tup z], S => match txts z with
    | some ys => if ys.length ≤ 60 then new S ((sortU ys).map .str) else none
    | none => none
  | .ntuple, [.ref k], S => match rdL S k with
    | some z => some (.ntup z, S)
    | none => none
  | .forget, [.ntup z], S => some (.tup z, S)
  | .tidx, [.ntup z, .str x], S => match txts z with
    | some ys => if x ∈ ys then some (.int (ys.idxOf x : Nat), S) else none
    | none => none
  | .dzip, [x, y], S => match seqW S x, seqW S y with
    | some ks, some vs => match hks (hkOf 8) ks with
      | some hs => if hs.length ≤ 1000 then some (.gref S.length, S ++ [.dd ((hs.zip vs).foldl (fun a p => putG a p.1 p.2) [])]) else none
      | none => none
    | _, _ => none
  | .ins, [.ref k, .int i, w], S => match rdL S k with
    | some z => if 0 ≤ i ∧ i ≤ z.length ∧ z.length < LIM then some (.non, S.set k (.lst (z.take i.toNat ++ w :: z.drop i.toNat))) else none
    | none => none
  | .starL, [.ref k, x], S => match rdL S k with
    | some z => new S (z ++ [x])
    | none => none
  | .gnew1, [k, x], S => match hkOf 8 k with
    | some h => if h.dep ≤ 8 then some (.gref S.length, S ++ [.dd [(h, x)]]) else none
    | none => none
  | .starE, [.ref k, x], S => match rdL S k with
    | some z => if z.length < LIM then some (.tup (z ++ [x]), S) else none
    | none => none
  | .sseti, [.ref k], S => match rdL S k with
    | some z => match intsW z with
      | some ns => if ns.length ≤ 60 then new S ((sortZ ns).map .int) else none
      | none => none
    | none => none
  | _, _, _ => none
def opI : BI → List W → Sto → R
  | .len, [.str z], S => if z.length ≤ LIM then some (.int z.length, S) else none
  | .len, [.tup z], S => some (.int z.length, S)
  | .len, [.rol z], S => some (.int z.length, S)
  | .len, [.ref k], S => (rdL S k).map fun z => (.int z.length, S)
  | .abs, [.int i], S => some (.int (if i < 0 then -i else i), S)
  | .tuple, [.ref k], S => (rdL S k).map fun z => (.tup z, S)
  | .tuple, [.tup z], S => some (.tup z, S)
  | .list, [.ref k], S => match rdL S k with
    | some z => new S z
    | none => none
  | .list, [.tup z], S => new S z
  | .all, [.ref k], S => match rdL S k with
    | some z => (bls z).map fun bs => (.bl (bs.all id), S)
    | none => none
  | .any, [.ref k], S => match rdL S k with
    | some z => (bls z).map fun bs => (.bl (bs.any id), S)
    | none => none
  | .int, [.int i], S => some (.int i, S)
  | .int, [.bl b], S => some (.int (if b then 1 else 0), S)
  | .isi _, [.fn _], _ => none
  | .isi _, [.dref _], _ => none
  | .isi _, [.oref _], _ => none
  | .isi _, [.gref _], _ => none
  | .isi _, [.ntup _], _ => none
  | .isi _, [.lref _], _ => none
  | .isi t, [x], S => some (.bl (isT t x), S)
  | .isN, [x], S => some (.bl (isNon x), S)
  | .notN, [x], S => some (.bl (!isNon x), S)
  | .neg, [.int i], S => some (.int (-i), S)
  | .rev, [.ref k], S => match rdL S k with
    | some z => new S z.reverse
    | none => none
  | .tru, [.non], S => some (.bl false, S)
  | .tru, [.bl b], S => some (.bl b, S)
  | .tru, [.int i], S => some (.bl (i != 0), S)
  | .tru, [.str z], S => if z.length ≤ LIM then some (.bl (!z.isEmpty), S) else none
  | .tru, [.tup z], S => some (.bl (!z.isEmpty), S)
  | .tru, [.ref k], S => (rdL S k).map fun z => (.bl (!z.isEmpty), S)
  | .sset, [.ref k], S => match rdL S k with
    | some z => match txts z with
      | some ys => if ys.length ≤ 60 then new S ((sortU ys).map .str) else none
      | none => none
    | none => none
  | .maxd, [.ref k, .int d], S => match rdL S k with
    | some z => (intsW z).map fun ns => (.int (if ns.isEmpty then d else maxI ns), S)
    | none => none
  | .max2, [.int i, .int j], S => some (.int (if j > i then j else i), S)
  | .min2, [.int i, .int j], S => some (.int (if j < i then j else i), S)
  | .sum, [.ref k], S => match rdL S k with
    | some z => (intsW z).map fun ns => (.int ns.sum, S)
    | none => none
  | .maxl, [.ref k], S => match rdL S k with
    | some z => match intsW z with
      | some ns => if ns.isEmpty then none else some (.int (maxI ns), S)
      | none => none
    | none => none
  | .minl, [.ref k], S => match rdL S k with
    | some z => match intsW z with
      | some ns => if ns.isEmpty then none else some (.int (minI ns), S)
      | none => none
    | none => none
  | .fcat, ws, S => match txts ws with
    | some ys => if lens ys ≤ LIM then some (.str ys.flatten, S) else none
    | none => none
  | .dget t, [.str x], S => some (atT t x, S)
  | .popl, [.ref k], S => match rdL S k with
    | some z => match z.getLast? with
      | some y => some (y, S.set k (.lst z.dropLast))
      | none => none
    | none => none
  | .popi, [.ref k, .int i], S => match rdL S k with
    | some z => match ixN z.length i with
      | some n => match z[n]? with
        | some y => if z.length ≤ LIM then some (y, S.set k (.lst (z.eraseIdx n))) else none
        | none => none
      | none => none
    | none => none
  | .rem, [.ref k, .str x], S => match rdL S k with
    | some z => match txts z with
      | some ys => if x ∈ ys then some (.non, S.set k (.lst ((ys.erase x).map .str))) else none
      | none => none
    | none => none
  | .isTr b, [x], S => some (.bl (isTrW b x), S)
  | .revt, [.tup z], S => some (.tup z.reverse, S)
  | .dgt, [.dic kvs, .str x], S => some (atT kvs x, S)
  | .dlit t, [.tup ws], S => match keyW ws with
    | some k => match t.find? fun p => decide (p.1 = k) with
      | some p => some (.str p.2, S)
      | none => none
    | none => none
  | .repr, [x], S => match dat S 60 x with
    | some d => if repOk d = true ∧ repN d ≤ LIM then some (.str (repL d), S) else none
    | none => none
  | .starT, [x, .tup y], S => if y.length + 1 ≤ LIM then some (.tup (x :: y), S) else none
  | .lset, [.ref k], S => match rdL S k with
    | some z => match txts z with
      | some ys => if ys.length ≤ 60 then some (.int (sortU ys).length, S) else none
      | none => none
    | none => none
  | .sunion, [.tup x, .tup y], S => match txts x, txts y with
    | some xs, some ys => if xs.length ≤ 4 ∧ ys.length ≤ 4 then new S ((sortU (xs ++ ys)).map .str) else none
    | _, _ => none
  | .sortl, [.ref k], S => match rdL S k with
    | some z => match txts z with
      | some ys => if ys.Nodup ∧ ys.length ≤ 60 then new S ((sortU ys).map .str) else none
      | none => none
    | none => none
  | .sortl, [.tup z], S => match txts z with
    | some ys => if ys.Nodup ∧ ys.length ≤ 60 then new S ((sortU ys).map .str) else none
    | none => none
  | .find, [.str x, .str [c]], S => some (.int (posC x c), S)
  | .x o, ws, S => opJ o ws S
  | .dnew, [], S => some (.dref S.length, S ++ [.dct []])
  | .dlen, [.dref k], S => (rdD S k).map fun z => (.int z.length, S)
  | .enum, [a], S => match seqW S a with
    | some x => new S (enumT 0 x)
    | _ => none
  | .iadd, [.int i, .int j], S => some (.int (i + j), S)
  | .iadd, [.str x, .str y], S => if x.length + y.length ≤ LIM then some (.str (x ++ y), S) else none
  | .isub, [.int i, .int j], S => some (.int (i - j), S)
  | .zip, [.tup x, .tup y], S => new S (zipT x y)
  | .dsetd, [.dref k, .str x, w], S => match rdD S k with
    | some kvs => if kvs.length < LIM then (match kvs.lookup x with
      | some v => some (v, S)
      | none => some (w, S.set k (.dct (putD kvs x w)))) else none
    | none => none
  | .dix, [.dref k, .str x], S => match rdD S k with
    | some kvs => (kvs.lookup x).map fun v => (v, S)
    | none => none
  | .dix, [.dic kvs, .str x], S => (kvs.lookup x).map fun v => (v, S)
  | .din, [.str x, .dref k], S => match rdD S k with
    | some kvs => some (.bl (kvs.lookup x).isSome, S)
    | none => none
  | .din, [.str x, .dic kvs], S => some (.bl (kvs.lookup x).isSome, S)
  | .iix t, [.int i], S => (t.lookup i).map fun v => (v, S)
  | .iin t, [.int i], S => some (.bl (t.lookup i).isSome, S)
  | .star1, [x, .ref k], S => match rdL S k with
    | some z => if z.length < LIM then some (.tup (x :: z), S) else none
    | none => none
  | .star3, [.tup a, x, .tup b], S => if a.length + b.length < LIM then some (.tup (a ++ x :: b), S) else none
  | .join, [.str sep, .ref k], S => match rdL S k with
    | some z => match txts z with
      | some ys => if lens ys + ys.length * sep.length ≤ LIM then some (.str (joinL sep ys), S) else none
      | none => none
    | none => none
  | _, _, _ => none

/-! ### what is walked -/
inductive Src where
  | seq (w : W) | rng (lo : Int) (n : Nat) | zipL (k l : Nat) | rngd (hi : Int) (n : Nat)
def Src.len (S : Sto) : Src → Option Nat
  | .rng _ n => some n
  | .rngd _ n => some n
  | .seq (.tup xs) => some xs.length
  | .seq (.str xs) => some xs.length
  | .seq (.ref k) => (rdL S k).map List.length
  | .seq _ => none
  | .zipL k l => match rdL S k, rdL S l with
    | some x, some y => some (zipT x y).length
    | _, _ => none
def Src.item (S : Sto) (i : Nat) : Src → Option W
  | .rng lo n => if i < n then some (.int (lo + i)) else none
  | .rngd hi n => if i < n then some (.int (hi - i)) else none
  | .seq (.tup xs) => xs[i]?
  | .seq (.str xs) => xs[i]?.map fun c => .str [c]
  | .seq (.ref k) => (rdL S k).bind (·[i]?)
  | .seq _ => none
  | .zipL k l => match rdL S k, rdL S l with
    | some x, some y => (zipT x y)[i]?
    | _, _ => none

/-! ### expressions -/
mutual
inductive CE where
  | var (i : Nat)
  | c (w : W)
  | bin (o : BO) (a b : CE)
  | cmp (o : CO) (a b : CE)
  | chain (o o' : CO) (a b d : CE)
  | and (a b : CE)
  | or (a b : CE)
  | not (a : CE)
  | ite (t a b : CE)
  | tup (es : CEs)
  | lst (es : CEs)
  | ix (a b : CE)
  | sl (a : CE) (l h : CP)
  | call (f : Nat) (es : CEs)
  | callv (f : Nat) (x : List Nat) (j : Nat) (es : CEs)
  | callvs (t : List (List Nat × Nat)) (j : Nat) (es : CEs)
  | bi (f : BI) (es : CEs)
  | comp (vs : List Nat) (tg : List Nat) (s : CI) (t : CE) (e : CE)
  | dcomp (vs : List Nat) (tg : List Nat) (s : CI) (t : CE) (k e : CE)
  | comp2 (vs vs1 : List Nat) (tg tg1 : List Nat) (s s1 : CI) (t t1 e : CE)
  | gcomp (vs : List Nat) (tg : List Nat) (s : CI) (t : CE) (k e : CE)
  | mk (c : List Nat) (f : Nat) (es : CEs)
  | fld (t : List (List Nat)) (e : CE) (f : List Nat)
  | meth (t : List (List Nat × Nat)) (m : List Nat) (o : CE) (es : CEs)
  | sortk (i : Nat) (e b : CE)
  | oeq (t : List (List Nat × Nat)) (neg : Bool) (a b : CE)
  | lam (l : Nat)
  | callc (j : Nat) (es : CEs)
  | fz (zs : List Nat) (e : CE)
inductive CEs where
  | nil | cons (e : CE) (es : CEs)
inductive CP where
  | no | yes (e : CE)
inductive CI where
  | val (e : CE) | rng1 (e : CE) | rng2 (a b : CE) | enum (e : CE) | zip (a b : CE) | rngd (e : CE)
end

def wipe (env : Env) : List Nat → Env
  | [] => env
  | i :: r => (wipe env r).set i none
def bindL (env : Env) : List Nat → List W → Option Env
  | [], [] => some env
  | i :: is, x :: xs => bindL (env.set i (some x)) is xs
  | _, _ => none
def bindT (S : Sto) (env : Env) : List Nat → W → Option Env
  | [i], w => some (env.set i (some w))
  | i :: j :: r, .tup xs => bindL env (i :: j :: r) xs
  | i :: j :: r, .ref k => match rdL S k with
    | some xs => bindL env (i :: j :: r) xs
    | none => none
  | _, _ => none
/-- the turns of a comprehension: the turn's own answer is none (left out) or a value -/
def compGo (turn : Nat → Sto → Option (Option W × Sto)) : Nat → Nat → List W → Sto → Option (List W × Sto)
  | _, 0, acc, S => some (acc, S)
  | i, m + 1, acc, S => match turn i S with
    | some (some w, S') => if acc.length < LIM then compGo turn (i + 1) m (acc ++ [w]) S' else none
    | some (none, S') => compGo turn (i + 1) m acc S'
    | none => none

/-- the turns of the outer for of two: what a turn makes of the list so far -/
def foldGo (turn : Nat → List W → Sto → Option (List W × Sto)) : Nat → Nat → List W → Sto → Option (List W × Sto)
  | _, 0, acc, S => some (acc, S)
  | i, m + 1, acc, S => match turn i acc S with
    | some (acc', S') => foldGo turn (i + 1) m acc' S'
    | none => none
/-- the turns of a dict's comprehension -/
def dictGo (turn : Nat → Sto → Option (Option (W × W) × Sto)) : Nat → Nat → List (List Nat × W) → Sto → Option (List (List Nat × W) × Sto)
  | _, 0, acc, S => some (acc, S)
  | i, m + 1, acc, S => match turn i S with
    | some (some (.str x, w), S') => if acc.length < LIM then dictGo turn (i + 1) m (putD acc x w) S' else none
    | some (none, S') => dictGo turn (i + 1) m acc S'
    | _ => none

/-- the turns of a dict's comprehension, keyed by what may be a key -/
def gictGo (turn : Nat → Sto → Option (Option (W × W) × Sto)) : Nat → Nat → List (HK × W) → Sto → Option (List (HK × W) × Sto)
  | _, 0, acc, S => some (acc, S)
  | i, m + 1, acc, S => match turn i S with
    | some (some (x, w), S') => match hkOf 8 x with
      | some h => if acc.length < LIM then gictGo turn (i + 1) m (putG acc h w) S' else none
      | none => none
    | some (none, S') => gictGo turn (i + 1) m acc S'
    | _ => none
/-- the keys of the items, one behind another -/
def keysGo (turn : W → Sto → R) : List W → Sto → Option (List W × Sto)
  | [], S => some ([], S)
  | x :: xs, S => match turn x S with
    | some (w, S') => match keysGo turn xs S' with
      | some (ws, S2) => some (w :: ws, S2)
      | none => none
    | none => none
/-- sorted by the keys -/
def sortkW (S : Sto) (z ks : List W) : R := match dats (dat S 59) ks with
  | some ds => if alkAll ds = true ∧ srtOk ds = true ∧ ds.length ≤ 1000 then new S (srtD ds z) else none
  | none => none
def mkO (c : List Nat) (S : Sto) : Sto := S ++ [.obj c []]
/-- what an instance of that class may be held against -/
def othW (S : Sto) (c : List Nat) : W → Bool
  | .int _ => true
  | .tup _ => true
  | .oref j => match rdO S j with
    | some (c', _) => decide (c' = c)
    | none => false
  | _ => false
/-- whose own == is asked, of what -/
def oeqW (S : Sto) (t : List (List Nat × Nat)) : W → W → Option (Nat × List W)
  | .oref k, y => match rdO S k with
    | some (c, _) => if othW S c y = true then (t.lookup c).map fun f => (f, [.oref k, y]) else none
    | none => none
  | .tup x, .oref k => match rdO S k with
    | some (c, _) => (t.lookup c).map fun f => (f, [.oref k, .tup x])
    | none => none
  | _, _ => none
abbrev Fns := Nat → List W → Sto → R
def rngOk (j : Int) : Bool := decide (-(2 ^ 62) ≤ j ∧ j < 2 ^ 62)
mutual
def ev (Φ : Fns) : CE → Env → Sto → R
  | .var i, env, S => match env[i]? with
    | some (some w) => some (w, S)
    | _ => none
  | .c w, _, S => some (w, S)
  | .bin o a b, env, S => match ev Φ a env S with
    | some (x, S1) => match ev Φ b env S1 with
      | some (y, S2) => opB o x y S2
      | none => none
    | none => none
  | .cmp o a b, env, S => match ev Φ a env S with
    | some (x, S1) => match ev Φ b env S1 with
      | some (y, S2) => (opC o x y S2).map fun k => (.bl k, S2)
      | none => none
    | none => none
  | .chain o o' a b d, env, S => match ev Φ a env S with
    | some (x, S1) => match ev Φ b env S1 with
      | some (y, S2) => match opC o x y S2 with
        | some true => match ev Φ d env S2 with
          | some (z, S3) => (opC o' y z S3).map fun k => (.bl k, S3)
          | none => none
        | some false => some (.bl false, S2)
        | none => none
      | none => none
    | none => none
  | .and a b, env, S => match ev Φ a env S with
    | some (.bl true, S1) => ev Φ b env S1
    | some (.bl false, S1) => some (.bl false, S1)
    | _ => none
  | .or a b, env, S => match ev Φ a env S with
    | some (.bl true, S1) => some (.bl true, S1)
    | some (.bl false, S1) => ev Φ b env S1
    | _ => none
  | .not a, env, S => match ev Φ a env S with
    | some (.bl k, S1) => some (.bl (!k), S1)
    | _ => none
  | .ite t a b, env, S => match ev Φ t env S with
    | some (.bl true, S1) => ev Φ a env S1
    | some (.bl false, S1) => ev Φ b env S1
    | _ => none
  | .tup es, env, S => match evs Φ es env S with
    | some (xs, S1) => if xs.length ≤ LIM then some (.tup xs, S1) else none
    | none => none
  | .lst es, env, S => match evs Φ es env S with
    | some (xs, S1) => new S1 xs
    | none => none
  | .ix a b, env, S => match ev Φ a env S with
    | some (x, S1) => match ev Φ b env S1 with
      | some (y, S2) => opIx x y S2
      | none => none
    | none => none
  | .sl a l h, env, S => match ev Φ a env S with
    | some (x, S1) => match evp Φ l env S1 with
      | some (y, S2) => match evp Φ h env S2 with
        | some (z, S3) => opSl x y z S3
        | none => none
      | none => none
    | none => none
  | .call f es, env, S => match evs Φ es env S with
    | some (xs, S1) => Φ f xs S1
    | none => none
  | .callv f x j es, env, S => match env[j]? with
    | some (some (.fn y)) => if y = x then (match evs Φ es env S with
      | some (xs, S1) => Φ f xs S1
      | none => none) else none
    | _ => none
  | .callvs t j es, env, S => match env[j]? with
    | some (some (.fn y)) => match t.lookup y with
      | some f => (match evs Φ es env S with
        | some (xs, S1) => Φ f xs S1
        | none => none)
      | none => none
    | _ => none
  | .bi f es, env, S => match evs Φ es env S with
    | some (xs, S1) => opI f xs S1
    | none => none
  | .comp vs tg s t e, env, S => match evi Φ s env S with
    | some (J, S1) => match J.len S1 with
      | some n => match compGo (fun i S' => match J.item S' i with
          | some x => match bindT S' (wipe env vs) tg x with
            | some env' => match ev Φ t env' S' with
              | some (.bl true, S2) => match ev Φ e env' S2 with
                | some (w, S3) => some (some w, S3)
                | none => none
              | some (.bl false, S2) => some (none, S2)
              | _ => none
            | none => none
          | none => none) 0 n [] S1 with
        | some (acc, S4) => match J.len S4 with
          | some n' => if n' ≤ n then new S4 acc else none
          | none => none
        | none => none
      | none => none
    | none => none
  | .comp2 vs vs1 tg tg1 s s1 t t1 e, env, S => match evi Φ s env S with
    | some (J, S1) => match J.len S1 with
      | some n => match foldGo (fun i acc S' => match J.item S' i with
          | some x => match bindT S' (wipe env vs) tg x with
            | some env' => match ev Φ t env' S' with
              | some (.bl true, S2) => match evi Φ s1 env' S2 with
                | some (J1, S3) => match J1.len S3 with
                  | some n1 => match compGo (fun j S' => match J1.item S' j with
                      | some y => match bindT S' (wipe env' vs1) tg1 y with
                        | some env2 => match ev Φ t1 env2 S' with
                          | some (.bl true, S2) => match ev Φ e env2 S2 with
                            | some (w, S3) => some (some w, S3)
                            | none => none
                          | some (.bl false, S2) => some (none, S2)
                          | _ => none
                        | none => none
                      | none => none) 0 n1 acc S3 with
                    | some (acc', S4) => match J1.len S4 with
                      | some n1' => if n1' ≤ n1 then some (acc', S4) else none
                      | none => none
                    | none => none
                  | none => none
                | none => none
              | some (.bl false, S2) => some (acc, S2)
              | _ => none
            | none => none
          | none => none) 0 n [] S1 with
        | some (acc, S4) => match J.len S4 with
          | some n' => if n' ≤ n then new S4 acc else none
          | none => none
        | none => none
      | none => none
    | none => none
  | .dcomp vs tg s t k e, env, S => match evi Φ s env S with
    | some (J, S1) => match J.len S1 with
      | some n => match dictGo (fun i S' => match J.item S' i with
          | some x => match bindT S' (wipe env vs) tg x with
            | some env' => match ev Φ t env' S' with
              | some (.bl true, S2) => match ev Φ k env' S2 with
                | some (u, S3) => match ev Φ e env' S3 with
                  | some (w, S4) => some (some (u, w), S4)
                  | none => none
                | none => none
              | some (.bl false, S2) => some (none, S2)
              | _ => none
            | none => none
          | none => none) 0 n [] S1 with
        | some (acc, S4) => match J.len S4 with
          | some n' => if n' ≤ n then some (.dic acc, S4) else none
          | none => none
        | none => none
      | none => none
    | none => none
  | .gcomp vs tg s t k e, env, S => match evi Φ s env S with
    | some (J, S1) => match J.len S1 with
      | some n => match gictGo (fun i S' => match J.item S' i with
          | some x => match bindT S' (wipe env vs) tg x with
            | some env' => match ev Φ t env' S' with
              | some (.bl true, S2) => match ev Φ k env' S2 with
                | some (u, S3) => match ev Φ e env' S3 with
                  | some (w, S4) => some (some (u, w), S4)
                  | none => none
                | none => none
              | some (.bl false, S2) => some (none, S2)
              | _ => none
            | none => none
          | none => none) 0 n [] S1 with
        | some (acc, S4) => match J.len S4 with
          | some n' => if n' ≤ n then some (.gref S4.length, S4 ++ [.dd acc]) else none
          | none => none
        | none => none
      | none => none
    | none => none
  | .mk c f es, env, S => match evs Φ es env S with
    | some (xs, S1) => match Φ f (.oref S1.length :: xs) (mkO c S1) with
      | some (.non, S2) => some (.oref S1.length, S2)
      | _ => none
    | none => none
  | .fld t e f, env, S => match ev Φ e env S with
    | some (.oref k, S1) => match rdO S1 k with
      | some (c, fs) => if c ∈ t then (fs.lookup f).map fun w => (w, S1) else none
      | none => none
    | _ => none
  | .meth t m o es, env, S => match ev Φ o env S with
    | some (.oref k, S1) => match rdO S1 k with
      | some (c, fs) => match t.lookup c with
        | some f => if fs.lookup m = none then (match evs Φ es env S1 with
          | some (xs, S2) => Φ f (.oref k :: xs) S2
          | none => none) else none
        | none => none
      | none => none
    | _ => none
  | .oeq t neg a b, env, S => match ev Φ a env S with
    | some (x, S1) => match ev Φ b env S1 with
      | some (y, S2) => match oeqW S2 t x y with
        | some (f, ws) => match Φ f ws S2 with
          | some (.bl r, S3) => some (.bl (r != neg), S3)
          | _ => none
        | none => none
      | none => none
    | none => none
  | .sortk i e b, env, S => match ev Φ e env S with
    | some (.ref k, S1) => match rdL S1 k with
      | some z => match keysGo (fun x S' => ev Φ b (env.set i (some x)) S') z S1 with
        | some (ks, S2) => sortkW S2 z ks
        | none => none
      | none => none
    | _ => none
  | .lam l, _, S => some (.lref S.length, S ++ [.clo l []])
  | .callc j es, env, S => match env[j]? with
    | some (some (.lref k)) => match evs Φ es env S with
      | some (xs, S1) => match rdC S1 k with
        | some (l, zs) => if zs.isEmpty then none else (match Φ l (zs ++ xs) (relock [] S1) with
          | some (w, S2) => some (w, relock zs S2)
          | none => none)
        | none => none
      | none => none
    | _ => none
  | .fz zs e, env, S => match slotsOf env zs with
    | some ws => match ev Φ e env (relock ws S) with
      | some (w, S') => some (w, relock [] S')
      | none => none
    | none => none
def evs (Φ : Fns) : CEs → Env → Sto → Option (List W × Sto)
  | .nil, _, S => some ([], S)
  | .cons e es, env, S => match ev Φ e env S with
    | some (x, S1) => match evs Φ es env S1 with
      | some (xs, S2) => some (x :: xs, S2)
      | none => none
    | none => none
def evp (Φ : Fns) : CP → Env → Sto → Option (Option Int × Sto)
  | .no, _, S => some (none, S)
  | .yes e, env, S => match ev Φ e env S with
    | some (.int i, S1) => some (some i, S1)
    | _ => none
def evi (Φ : Fns) : CI → Env → Sto → Option (Src × Sto)
  | .val e, env, S => match ev Φ e env S with
    | some (x, S1) => some (.seq x, S1)
    | none => none
  | .rng1 e, env, S => match ev Φ e env S with
    | some (.int j, S1) => if rngOk j then some (.rng 0 j.toNat, S1) else none
    | _ => none
  | .rng2 a b, env, S => match ev Φ a env S with
    | some (.int i, S1) => match ev Φ b env S1 with
      | some (.int j, S2) => if rngOk i && rngOk j then some (.rng i (j - i).toNat, S2) else none
      | _ => none
    | _ => none
  | .rngd e, env, S => match ev Φ e env S with
    | some (.int j, S1) => if rngOk j then some (.rngd j (j + 1).toNat, S1) else none
    | _ => none
  | .enum e, env, S => match ev Φ e env S with
    | some (.tup z, S1) => some (.seq (.tup (enumT 0 z)), S1)
    | some (.str z, S1) => some (.seq (.tup (enumT 0 (sgns z))), S1)
    | _ => none
  | .zip a b, env, S => match ev Φ a env S with
    | some (.tup x, S1) => match ev Φ b env S1 with
      | some (.tup y, S2) => some (.seq (.tup (zipT x y)), S2)
      | _ => none
    | some (.str x, S1) => match ev Φ b env S1 with
      | some (.str y, S2) => some (.seq (.tup (zipT (sgns x) (sgns y))), S2)
      | _ => none
    | some (.ref x, S1) => match ev Φ b env S1 with
      | some (.ref y, S2) => some (.zipL x y, S2)
      | _ => none
    | _ => none
end

/-! ### expressions that may raise: what is raised is an answer of its own kind -/
mutual
inductive CX where
  | call (f : Nat) (es : CEXs)
  | tup (es : CEXs)
  | callc (j : Nat) (es : CEs)
  | ite (c : CE) (e : CE) (x : CX)
  | meth (t : List (List Nat × Nat)) (m : List Nat) (o : CE)
inductive CEXs where
  | nil | ok (e : CE) (es : CEXs) | may (x : CX) (es : CEXs)
end
mutual
def evx (Φ : Fns) : CX → Env → Sto → R
  | .call f es, env, S => match evsx Φ es env S with
    | some (.tup xs, S1) => Φ f xs S1
    | some (.exc c fs, S1) => some (.exc c fs, S1)
    | _ => none
  | .tup es, env, S => match evsx Φ es env S with
    | some (.tup xs, S1) => if xs.length ≤ LIM then some (.tup xs, S1) else none
    | some (.exc c fs, S1) => some (.exc c fs, S1)
    | _ => none
  | .callc j es, env, S => match env[j]? with
    | some (some (.lref k)) => match evs Φ es env S with
      | some (xs, S1) => match rdC S1 k with
        | some (l, zs) => if zs.isEmpty then none else (match Φ l (zs ++ xs) (relock [] S1) with
          | some (w, S2) => some (w, relock zs S2)
          | none => none)
        | none => none
      | none => none
    | _ => none
  | .ite c e x, env, S => match ev Φ c env S with
    | some (.bl true, S1) => match ev Φ e env S1 with
      | some (.exc _ _, _) => none
      | r => r
    | some (.bl false, S1) => evx Φ x env S1
    | _ => none
  | .meth t m o, env, S => match ev Φ o env S with
    | some (.oref k, S1) => match rdO S1 k with
      | some (c, fs) => match t.lookup c with
        | some f => if fs.lookup m = none then Φ f [.oref k] S1 else none
        | none => none
      | none => none
    | _ => none
/-- a tuple of the values, or what was raised -/
def evsx (Φ : Fns) : CEXs → Env → Sto → R
  | .nil, _, S => some (.tup [], S)
  | .ok e es, env, S => match ev Φ e env S with
    | some (x, S1) => match evsx Φ es env S1 with
      | some (.tup xs, S2) => some (.tup (x :: xs), S2)
      | some (.exc c fs, S2) => some (.exc c fs, S2)
      | _ => none
    | none => none
  | .may e es, env, S => match evx Φ e env S with
    | some (.exc c fs, S1) => some (.exc c fs, S1)
    | some (x, S1) => match evsx Φ es env S1 with
      | some (.tup xs, S2) => some (.tup (x :: xs), S2)
      | some (.exc c fs, S2) => some (.exc c fs, S2)
      | _ => none
    | none => none
end
/-- what a suite can ask of the error that it holds: 99998 whether its class is one of these, 99999 its field -/
def withX (Φ : Fns) (c : List Nat) (fs : List (List Nat × W)) : Fns := fun f ws S =>
  if f = 99998 then (match ws with
    | [.tup ns] => (txts ns).map fun ys => (.bl (decide (c ∈ ys)), S)
    | _ => none)
  else if f = 99999 then (match ws with
    | [.str n] => (fs.lookup n).map fun w => (w, S)
    | _ => none)
  else Φ f ws S
/-! ### statements -/
inductive Fl where
  | nx (env : Env) (S : Sto) | rt (w : W) (S : Sto) | bk (env : Env) (S : Sto) | ct (env : Env) (S : Sto)
mutual
inductive CS where
  | set (tg : List Nat) (e : CE)
  | ret (e : CE)
  | expr (e : CE)
  | ifs (t : CE) (a b : CSs)
  | for_ (tg : List Nat) (s : CI) (b : CSs)
  | whl (n : Nat) (t : CE) (b : CSs)
  | setix (o i e : CE)
  | app (o e : CE)
  | ext (o e : CE)
  | ins (o i e : CE)
  | dset (o i e : CE)
  | fset (t : List (List Nat)) (o : CE) (f : List Nat) (e : CE)
  | pass | brk | cont | never
  | raise_ (c : List Nat) (ns : List (List Nat)) (es : CEs)
  | setX (tg : List Nat) (x : CX)
  | retX (x : CX)
  | exprX (x : CX)
  | tryX (tg : List Nat) (x : CX) (hs : CHs)
inductive CSs where
  | nil | cons (s : CS) (ss : CSs)
/-- the clauses: the classes that are caught, the slot of the name, the suite -/
inductive CHs where
  | nil | out | cons (cat : List (List Nat)) (i : Nat) (b : CSs) (hs : CHs)
end
/-- behind a suite the name is gone -/
def gone (i : Nat) : Option Fl → Option Fl
  | some (.nx env S) => some (.nx (env.set i none) S)
  | some (.bk env S) => some (.bk (env.set i none) S)
  | some (.ct env S) => some (.ct (env.set i none) S)
  | r => r
def landX (tg : List Nat) (env : Env) (w : W) (S : Sto) : Option Fl := if tg.isEmpty then some (.nx env S) else (bindT S env tg w).map fun env' => .nx env' S
def forGo (turn : Nat → Env → Sto → Option Fl) : Nat → Nat → Env → Sto → Option Fl
  | _, 0, env, S => some (.nx env S)
  | i, m + 1, env, S => match turn i env S with
    | some (.nx env' S') => forGo turn (i + 1) m env' S'
    | some (.ct env' S') => forGo turn (i + 1) m env' S'
    | some (.bk env' S') => some (.bk env' S')
    | some (.rt w S') => some (.rt w S')
    | none => none
def whlGo (test : Env → Sto → R) (turn : Env → Sto → Option Fl) : Nat → Env → Sto → Option Fl
  | 0, _, _ => none
  | m + 1, env, S => match test env S with
    | some (.bl true, S1) => match turn env S1 with
      | some (.nx env' S') => whlGo test turn m env' S'
      | some (.ct env' S') => whlGo test turn m env' S'
      | some (.bk env' S') => some (.nx env' S')
      | some (.rt w S') => some (.rt w S')
      | none => none
    | some (.bl false, S1) => some (.nx env S1)
    | _ => none
mutual
def ex (Φ : Fns) : CS → Env → Sto → Option Fl
  | .set tg e, env, S => match ev Φ e env S with
    | some (w, S1) => (bindT S1 env tg w).map fun env' => .nx env' S1
    | none => none
  | .ret e, env, S => match ev Φ e env S with
    | some (w, S1) => some (.rt w S1)
    | none => none
  | .expr e, env, S => match ev Φ e env S with
    | some (_, S1) => some (.nx env S1)
    | none => none
  | .ifs t a b, env, S => match ev Φ t env S with
    | some (.bl true, S1) => exs Φ a env S1
    | some (.bl false, S1) => exs Φ b env S1
    | _ => none
  | .for_ tg s b, env, S => match evi Φ s env S with
    | some (J, S1) => match J.len S1 with
      | some n => match forGo (fun i env' S' => match J.item S' i with
          | some x => match bindT S' env' tg x with
            | some env2 => exs Φ b env2 S'
            | none => none
          | none => none) 0 n env S1 with
        | some (.nx env' S4) => match J.len S4 with
          | some n' => if n' ≤ n then some (.nx env' S4) else none
          | none => none
        | some (.bk env' S4) => some (.nx env' S4)
        | r => r
      | none => none
    | none => none
  | .whl n t b, env, S => whlGo (ev Φ t) (exs Φ b) n env S
  | .setix o i e, env, S => match ev Φ e env S with
    | some (w, S1) => match ev Φ o env S1 with
      | some (.ref k, S2) => match ev Φ i env S2 with
        | some (.int j, S3) => match rdM S3 k with
          | some xs => match ixN xs.length j with
            | some n => some (.nx env (S3.set k (.lst (xs.set n w))))
            | none => none
          | none => none
        | _ => none
      | _ => none
    | none => none
  | .app o e, env, S => match ev Φ o env S with
    | some (.ref k, S1) => match ev Φ e env S1 with
      | some (w, S2) => match rdM S2 k with
        | some xs => if xs.length < LIM then some (.nx env (S2.set k (.lst (xs ++ [w])))) else none
        | none => none
      | none => none
    | _ => none
  | .ext o e, env, S => match ev Φ o env S with
    | some (.ref k, S1) => match ev Φ e env S1 with
      | some (y, S2) => match rdM S2 k, seqW S2 y with
        | some xs, some ys => if xs.length + ys.length ≤ LIM then some (.nx env (S2.set k (.lst (xs ++ ys)))) else none
        | _, _ => none
      | _ => none
    | _ => none
  | .ins _ _ _, _, _ => none
  | .dset o i e, env, S => match ev Φ e env S with
    | some (w, S1) => match ev Φ o env S1 with
      | some (.dref k, S2) => match ev Φ i env S2 with
        | some (.str x, S3) => match rdD S3 k with
          | some kvs => if kvs.length < LIM then some (.nx env (S3.set k (.dct (putD kvs x w)))) else none
          | none => none
        | _ => none
      | _ => none
    | none => none
  | .fset t o f e, env, S => match ev Φ e env S with
    | some (w, S1) => match ev Φ o env S1 with
      | some (.oref k, S2) => match rdO S2 k with
        | some (c, fs) => if c ∈ t ∧ fs.length < 900 then some (.nx env (S2.set k (.obj c (putO f w fs)))) else none
        | none => none
      | _ => none
    | none => none
  | .pass, env, S => some (.nx env S)
  | .brk, env, S => some (.bk env S)
  | .cont, env, S => some (.ct env S)
  | .never, _, _ => none
  | .raise_ c ns es, env, S => match evs Φ es env S with
    | some (ws, S1) => if ns.length = ws.length then some (.rt (.exc c (ns.zip ws)) S1) else none
    | none => none
  | .setX tg x, env, S => match evx Φ x env S with
    | some (.exc c fs, S1) => some (.rt (.exc c fs) S1)
    | some (w, S1) => (bindT S1 env tg w).map fun env' => .nx env' S1
    | none => none
  | .retX x, env, S => match evx Φ x env S with
    | some (w, S1) => some (.rt w S1)
    | none => none
  | .exprX x, env, S => match evx Φ x env S with
    | some (.exc c fs, S1) => some (.rt (.exc c fs) S1)
    | some (_, S1) => some (.nx env S1)
    | none => none
  | .tryX tg x hs, env, S => match evx Φ x env S with
    | some (.exc c fs, S1) => exh Φ c fs hs env S1
    | some (w, S1) => landX tg env w S1
    | none => none
def exh (Φ : Fns) (c : List Nat) (fs : List (List Nat × W)) : CHs → Env → Sto → Option Fl
  | .nil, _, _ => none
  | .out, _, S => some (.rt (.exc c fs) S)
  | .cons cat i b hs, env, S => if c ∈ cat then gone i (exs (withX Φ c fs) b (env.set i none) S) else exh Φ c fs hs env S
def exs (Φ : Fns) : CSs → Env → Sto → Option Fl
  | .nil, env, S => some (.nx env S)
  | .cons s ss, env, S => match ex Φ s env S with
    | some (.nx env' S') => exs Φ ss env' S'
    | r => r
end

/-! ### turns by name -/
def turnC (Φ : Fns) (vs ts : List Nat) (t e : CE) (env : Env) (J : Src) (i : Nat) (S' : Sto) : Option (Option W × Sto) := match J.item S' i with
  | some x => match bindT S' (wipe env vs) ts x with
    | some env' => match ev Φ t env' S' with
      | some (.bl true, S2) => match ev Φ e env' S2 with
        | some (w, S3) => some (some w, S3)
        | none => none
      | some (.bl false, S2) => some (none, S2)
      | _ => none
    | none => none
  | none => none
def turnD (Φ : Fns) (vs ts : List Nat) (t k e : CE) (env : Env) (J : Src) (i : Nat) (S' : Sto) : Option (Option (W × W) × Sto) := match J.item S' i with
  | some x => match bindT S' (wipe env vs) ts x with
    | some env' => match ev Φ t env' S' with
      | some (.bl true, S2) => match ev Φ k env' S2 with
        | some (u, S3) => match ev Φ e env' S3 with
          | some (w, S4) => some (some (u, w), S4)
          | none => none
        | none => none
      | some (.bl false, S2) => some (none, S2)
      | _ => none
    | none => none
  | none => none
def turnF (Φ : Fns) (ts : List Nat) (b : CSs) (J : Src) (i : Nat) (env' : Env) (S' : Sto) : Option Fl := match J.item S' i with
  | some x => match bindT S' env' ts x with
    | some env2 => exs Φ b env2 S'
    | none => none
  | none => none
theorem ev_comp_eq (Φ : Fns) (vs ts : List Nat) (s : CI) (t e : CE) (env : Env) (S : Sto) : ev Φ (.comp vs ts s t e) env S = (match evi Φ s env S with
    | some (J, S1) => match J.len S1 with
      | some n => match compGo (turnC Φ vs ts t e env J) 0 n [] S1 with
        | some (acc, S4) => match J.len S4 with
          | some n' => if n' ≤ n then new S4 acc else none
          | none => none
        | none => none
      | none => none
    | none => none) := by
  simp only [ev]
  rfl
/-- a turn of the outer for of two -/
def turn2 (Φ : Fns) (vs vs1 tg tg1 : List Nat) (s1 : CI) (t t1 e : CE) (env : Env) (J : Src) (i : Nat) (acc : List W) (S' : Sto) : Option (List W × Sto) := match J.item S' i with
  | some x => match bindT S' (wipe env vs) tg x with
    | some env' => match ev Φ t env' S' with
      | some (.bl true, S2) => match evi Φ s1 env' S2 with
        | some (J1, S3) => match J1.len S3 with
          | some n1 => match compGo (turnC Φ vs1 tg1 t1 e env' J1) 0 n1 acc S3 with
            | some (acc', S4) => match J1.len S4 with
              | some n1' => if n1' ≤ n1 then some (acc', S4) else none
              | none => none
            | none => none
          | none => none
        | none => none
      | some (.bl false, S2) => some (acc, S2)
      | _ => none
    | none => none
  | none => none
theorem ex_for_eq (Φ : Fns) (ts : List Nat) (s : CI) (b : CSs) (env : Env) (S : Sto) : ex Φ (.for_ ts s b) env S = (match evi Φ s env S with
    | some (J, S1) => match J.len S1 with
      | some n => match forGo (turnF Φ ts b J) 0 n env S1 with
        | some (.nx env' S4) => match J.len S4 with
          | some n' => if n' ≤ n then some (.nx env' S4) else none
          | none => none
        | some (.bk env' S4) => some (.nx env' S4)
        | r => r
      | none => none
    | none => none) := by
  simp only [ex]
  rfl
/-! ### a program: defs by numbers: how many parameters, how many slots, the body -/
structure Def where
  ar : Nat
  sl : Nat
  body : CSs
def start (n : Nat) (ws : List W) : Env := ws.map some ++ List.replicate (n - ws.length) none
def fin : Option Fl → R
  | some (.rt w S) => some (w, S)
  | some (.nx _ S) => some (.non, S)
  | _ => none
def callF (ds : Nat → Option Def) : Nat → Fns
  | 0 => fun _ _ _ => none
  | k + 1 => fun f ws S => match ds f with
    | some d => if ws.length = d.ar then fin (exs (callF ds k) d.body (start d.sl ws) S) else none
    | none => none
end MP
namespace MP
open PySem PySem.Spec PyProof.Rows L2
/-! ### dicts keyed by numbers, texts, None and tuples of these, as objects of the abstract heap -/
mutual
def HK.nk : HK → NestedKey
  | .non => .none
  | .int i => .num i
  | .str x => .text ⟨x.toArray⟩
  | .tup xs => .tup (HK.nks xs)
def HK.nks : List HK → List NestedKey
  | [] => []
  | x :: xs => HK.nk x :: HK.nks xs
end
mutual
theorem HK.nk_inj : ∀ a b : HK, a.nk = b.nk → a = b
  | .non, b, h => by cases b <;> simp [HK.nk] at h ⊢
  | .int i, b, h => by cases b <;> simp [HK.nk] at h ⊢; exact h
  | .str x, b, h => by cases b <;> simp [HK.nk] at h ⊢; exact h
  | .tup xs, b, h => by
    cases b <;> simp [HK.nk] at h ⊢
    exact HK.nks_inj xs _ h
theorem HK.nks_inj : ∀ a b : List HK, HK.nks a = HK.nks b → a = b
  | [], b, h => by cases b <;> simp [HK.nks] at h ⊢
  | x :: xs, b, h => by
    cases b <;> simp [HK.nks] at h ⊢
    exact ⟨HK.nk_inj x _ h.1, HK.nks_inj xs _ h.2⟩
end
mutual
theorem HK.nk_dep : ∀ a : HK, a.nk.depth = a.dep
  | .non => rfl
  | .int i => rfl
  | .str x => rfl
  | .tup xs => by
    simp only [HK.nk, HK.dep, NestedKey.depth]
    rw [HK.nks_dep xs]
theorem HK.nks_dep : ∀ a : List HK, NestedKey.depthAll (HK.nks a) = HK.deps a
  | [] => rfl
  | x :: xs => by
    simp only [HK.nks, HK.deps, NestedKey.depthAll]
    rw [HK.nk_dep x, HK.nks_dep xs]
end
/-- an entry -/
structure GE where
  k : NestedKey
  kv : V
  v : V
/-- an entry's raw look -/
structure RE where
  k : NestedKey
  ku : Value
  u : Value
inductive GRs : List GE → List RE → Prop
  | nil : GRs [] []
  | cons {g : GE} {r : RE} {gs : List GE} {rs : List RE} : g.k = r.k → RelV g.kv r.ku → RelV g.v r.u → GRs gs rs → GRs (g :: gs) (r :: rs)
def RE.entry (w : World) (r : RE) : DictEntry := ⟨r.k.hash w, r.ku, r.u⟩
/-- what is so of the dict's one object -/
def DDφ (w : World) (a : Addr) (gs : List GE) : Heap → Prop := fun h => (a == sysModules) = false ∧ ∃ (o : Obj) (es : Array DictEntry) (ep : Nat) (rs : List RE), h.get? a = some o ∧ o.ExactDict ∧ o.data = .dict es ep ∧ GRs gs rs ∧ es.toList = rs.map (RE.entry w)
def DD (w : World) (a : Addr) (gs : List GE) : HO := .ext (DDφ w a gs)
theorem ddφ_stay {w : World} {a : Addr} {gs : List GE} {h1 h2 : Heap} (x : DDφ w a gs h1) (k : ∀ o, h1.get? a = some o → h2.get? a = some o) : DDφ w a gs h2 := by
  obtain ⟨n, o, es, ep, rs, e, r⟩ := x
  exact ⟨n, o, es, ep, rs, k o e, r⟩
theorem dd_ok {P : Program} {w w' : World} {H : Hp} {h : Heap} {a : Addr} {gs : List GE} (x : DDφ w a gs h) : ObjOk P w' H h a (DD w a gs) := by
  have ⟨_, o, es, ep, rs, e, _⟩ := x
  exact ⟨x, ⟨o, e⟩, fun _ _ y k => ddφ_stay y k⟩
theorem dd_at {P : Program} {w w' : World} {H : Hp} {h : Heap} {a : Addr} {gs : List GE} (x : HOk P w' H h) (e : H a = some (DD w a gs)) : DDφ w a gs h := (x a _ e).1
theorem GRs.len : ∀ {gs : List GE} {rs : List RE}, GRs gs rs → gs.length = rs.length
  | _, _, .nil => rfl
  | _, _, .cons _ _ _ t => congrArg (· + 1) t.len
/-! ### it is no code object -/
def oneAt (c : Addr) (o : Obj) : Heap := ⟨(List.replicate (c + 1) o).toArray, default⟩
theorem oneAt_get {c : Addr} {o : Obj} (hf : ∀ q, o.data ≠ q ∨ True) (hd : (match some o with
    | some ⟨_, _, .freed, _⟩ => none
    | o => o) = some o) : (oneAt c o).get? c = some o := by
  unfold Heap.get?
  have e : (oneAt c o).objs[c]? = some o := by
    show (List.replicate (c + 1) o).toArray[c]? = some o
    simp
  rw [e]
  exact hd
theorem dd_ne_code {w : World} {a c : Addr} {gs : List GE} {q : Str} : DD w a gs ≠ LamX.CodeO c q := by
  intro e
  unfold DD LamX.CodeO at e
  have e2 : DDφ w a gs = fun h => ∃ (oc : Obj) (vs : Array Value) (t : Tok), h.get? c = some oc ∧ oc.data = .fields vs ∧ vs[1]? = some (.str q t) := by
    injection e
  by_cases hac : a = c
  · have h1 : DDφ w a gs (oneAt c { cls := .none, data := .fields #[.none, .str q 0] }) := by
      rw [e2]
      exact ⟨_, _, 0, oneAt_get (fun _ => .inr trivial) rfl, rfl, rfl⟩
    obtain ⟨_, o, es, ep, rs, g, _, d, _⟩ := h1
    rw [hac, oneAt_get (fun _ => .inr trivial) rfl] at g
    cases g
    cases d
  · have h1 : DDφ w a gs (⟨((List.replicate (a + c + 1) ({ cls := .none, data := .fields #[.none, .str q 0] } : Obj)).toArray), default⟩ : Heap) := by
      rw [e2]
      refine ⟨{ cls := .none, data := .fields #[.none, .str q 0] }, _, 0, ?_, rfl, rfl⟩
      unfold Heap.get?
      have e3 : (List.replicate (a + c + 1) ({ cls := .none, data := .fields #[.none, .str q 0] } : Obj)).toArray[c]? = some { cls := .none, data := .fields #[.none, .str q 0] } := by
        rw [List.getElem?_toArray, List.getElem?_replicate, if_pos (by omega)]
      rw [e3]
    obtain ⟨_, o, es, ep, rs, g, _, d, _⟩ := h1
    unfold Heap.get? at g
    have e3 : (List.replicate (a + c + 1) ({ cls := .none, data := .fields #[.none, .str q 0] } : Obj)).toArray[a]? = some { cls := .none, data := .fields #[.none, .str q 0] } := by
      rw [List.getElem?_toArray, List.getElem?_replicate, if_pos (by omega)]
    rw [e3] at g
    cases g
    cases d
theorem code_ne_lst {c : Addr} {q : Str} {vs : List V} : LamX.CodeO c q ≠ .lst vs := fun z => by
  unfold LamX.CodeO at z
  cases z
theorem code_ne_dK {c : Addr} {q : Str} {vs : List (Key × V)} : LamX.CodeO c q ≠ .dK vs := fun z => by
  unfold LamX.CodeO at z
  cases z
theorem code_ne_ins {c : Addr} {q : Str} {C dx : Addr} {fs : List (Str × V)} : LamX.CodeO c q ≠ .ins C dx fs := fun z => by
  unfold LamX.CodeO at z
  cases z
/-- a function's object, as it was made -/
def FnO (a : Addr) (fd : FuncData) : HO := .ext fun h => h.get? a = some { cls := .type "function", data := .func fd }
def allAt (n : Nat) (o : Obj) : Heap := ⟨(List.replicate n o).toArray, default⟩
theorem allAt_get {n c : Nat} {o : Obj} (hc : c < n) (hd : (match some o with
    | some ⟨_, _, .freed, _⟩ => none
    | o => o) = some o) : (allAt n o).get? c = some o := by
  unfold Heap.get? allAt
  have e3 : (List.replicate n o).toArray[c]? = some o := by
    rw [List.getElem?_toArray, List.getElem?_replicate, if_pos hc]
  rw [e3]
  exact hd
theorem fn_ne_code {a c : Addr} {fd : FuncData} {q : Str} : FnO a fd ≠ LamX.CodeO c q := by
  intro e
  unfold FnO LamX.CodeO at e
  have e2 : (fun h : Heap => h.get? a = some { cls := .type "function", data := .func fd }) = fun h => ∃ (oc : Obj) (vs : Array Value) (t : Tok), h.get? c = some oc ∧ oc.data = .fields vs ∧ vs[1]? = some (.str q t) := by
    injection e
  have h1 : (fun h : Heap => h.get? a = some { cls := .type "function", data := .func fd }) (allAt (a + c + 1) { cls := .none, data := .fields #[.none, .str q 0] }) := by
    rw [e2]
    exact ⟨_, _, 0, allAt_get (by omega) rfl, rfl, rfl⟩
  have h2 : (allAt (a + c + 1) { cls := .none, data := .fields #[.none, .str q 0] }).get? a = some { cls := .none, data := .fields #[.none, .str q 0] } := allAt_get (by omega) rfl
  have h3 := h1
  simp only at h3
  rw [h2] at h3
  cases h3
theorem dd_ne_fn {w : World} {a b : Addr} {gs : List GE} {fd : FuncData} : DD w a gs ≠ FnO b fd := by
  intro e
  unfold DD FnO at e
  have e2 : DDφ w a gs = fun h => h.get? b = some { cls := .type "function", data := .func fd } := by
    injection e
  have h1 : DDφ w a gs (allAt (a + b + 1) { cls := .type "function", data := .func fd }) := by
    rw [e2]
    exact allAt_get (by omega) rfl
  obtain ⟨_, o, es, ep, rs, g, _, d, _⟩ := h1
  rw [allAt_get (by omega) rfl] at g
  cases g
  cases d
theorem fn_ok_ext {P : Program} {w : World} {H : Hp} {h : Heap} {a : Addr} {fd : FuncData} (x : h.get? a = some { cls := .type "function", data := .func fd }) : ObjOk P w H h a (FnO a fd) := ⟨x, ⟨_, x⟩, fun _ _ y k => k _ y⟩
end MP
namespace MP
open PySem PySem.Spec PyProof.Rows L2
/-- the written part, the world, the tables of code objects (each with the name that stands in it) -/
structure LamD where
  q : Str
  params : Arguments
  body : Expr
  scope : Scope
/-- the tables; the cells that closures capture, by name; the lambdas by number; the captured names in their order -/
structure TZ where
  T : List (Addr × Str)
  C : List (Str × Addr) := []
  lam : Nat → Option LamD := fun _ => none
  nm : List Str := []
structure KW where
  k : PySem.W.Frag
  w : World
  tz : TZ
abbrev KW.T (K : KW) : List (Addr × Str) := K.tz.T
abbrev Fg := KW
instance : Coe KW PySem.W.Frag := ⟨KW.k⟩
abbrev kwOf (T : TZ) (X : Cx) : KW := ⟨X.K, X.w, T⟩

/-- a list that is only read: frozen, or the module's -/
def FzL (K : PySem.W.Frag) (H : Hp) (a : Addr) (xs : List V) : Prop := (∃ o, H a = some (.frz o (.lst xs))) ∨ ∃ (o : Obj) (its : Array Value) (n : Nat), K.lookup a = some o ∧ o.cls = .type "list" ∧ o.dict = none ∧ o.data = .seq its n ∧ its.size ≤ sizeLine ∧ Vals xs its.toList
theorem FzL.sq {K : PySem.W.Frag} {H : Hp} {a : Addr} {xs : List V} (h : FzL K H a xs) : SqL K H a xs := by
  rcases h with ⟨o, h⟩ | h
  · exact .inl (.inr ⟨o, h⟩)
  · exact .inr h
/-! ### values and what stands for them -/
mutual
inductive VW (K : Fg) (μ : List Addr) (H : Hp) : V → W → Prop
  | non : VW K μ H .non .non
  | bl (b : Bool) : VW K μ H (.bl b) (.bl b)
  | int (i : Int) : VW K μ H (.int i) (.int i)
  | str (x : Str) (l : List Nat) (e : x.cps.toList = l) : VW K μ H (.str x) (.str l)
  | tup {a : Addr} {xs : List V} {ws : List W} : SqT K H a xs → VWs K μ H xs ws → VW K μ H (.ref a) (.tup ws)
  | ref {a : Addr} {k : Nat} : μ[k]? = some a → (∃ vs, H a = some (.lst vs)) → VW K μ H (.ref a) (.ref k)
  | dref {a : Addr} {k : Nat} : μ[k]? = some a → (∃ ks, H a = some (.dK ks)) → VW K μ H (.ref a) (.dref k)
  | rol {a : Addr} {xs : List V} {ws : List W} : FzL K H a xs → VWs K μ H xs ws → VW K μ H (.ref a) (.rol ws)
  | fn {a : Addr} (x : Str) (l : List Nat) (e : x.cps.toList = l) : PySem.W.nsIn K mainGlobals x = some (some (.ref a)) → VW K μ H (.ref a) (.fn l)
  | dic {a : Addr} {o : Obj} {ks : List (Key × V)} {ws : List (List Nat × W)} : H a = some (.frz o (.dK ks)) → VWd K μ H ks ws → VW K μ H (.ref a) (.dic ws)
  | oref {a : Addr} {k : Nat} : μ[k]? = some a → (∃ C dx fs, H a = some (.ins C dx fs)) → VW K μ H (.ref a) (.oref k)
  | gref {a : Addr} {k : Nat} : μ[k]? = some a → (∃ gs, H a = some (DD K.w a gs)) → VW K μ H (.ref a) (.gref k)
  | ntup {a : Addr} {o : Obj} {xs : List V} {ws : List W} : H a = some (.frz o (.tup xs)) → o.cls = .type "tuple" → o.dict = none → VWs K μ H xs ws → VW K μ H (.ref a) (.ntup ws)
  | lref {a : Addr} {k : Nat} : μ[k]? = some a → (∃ fd, H a = some (FnO a fd)) → VW K μ H (.ref a) (.lref k)
inductive VWs (K : Fg) (μ : List Addr) (H : Hp) : List V → List W → Prop
  | nil : VWs K μ H [] []
  | cons {v : V} {vs : List V} {w : W} {ws : List W} : VW K μ H v w → VWs K μ H vs ws → VWs K μ H (v :: vs) (w :: ws)
inductive VWd (K : Fg) (μ : List Addr) (H : Hp) : List (Key × V) → List (List Nat × W) → Prop
  | nil : VWd K μ H [] []
  | cons {x : Str} {l : List Nat} {v : V} {ks : List (Key × V)} {w : W} {ws : List (List Nat × W)} : x.cps.toList = l → VW K μ H v w → VWd K μ H ks ws → VWd K μ H ((.inr x, v) :: ks) ((l, w) :: ws)
end
/-- fields -/
inductive VWf (K : Fg) (μ : List Addr) (H : Hp) : List (Str × V) → List (List Nat × W) → Prop
  | nil : VWf K μ H [] []
  | cons {x : Str} {l : List Nat} {v : V} {ks : List (Str × V)} {w : W} {ws : List (List Nat × W)} : x.cps.toList = l → VW K μ H v w → VWf K μ H ks ws → VWf K μ H ((x, v) :: ks) ((l, w) :: ws)
/-- entries -/
inductive VWg (K : Fg) (μ : List Addr) (H : Hp) : List GE → List (HK × W) → Prop
  | nil : VWg K μ H [] []
  | cons {kv v : V} {k : HK} {gs : List GE} {w : W} {ws : List (HK × W)} : VW K μ H kv k.w → VW K μ H v w → VWg K μ H gs ws → VWg K μ H (⟨k.nk, kv, v⟩ :: gs) ((k, w) :: ws)
/-- what comes later: the store's places and the tuples stay; and all that is tracked outside the store -/
structure Ey (K : Fg) (μ : List Addr) (H : Hp) (μ' : List Addr) (H' : Hp) : Prop where
  pre : ∀ (k : Nat) (a : Addr), μ[k]? = some a → μ'[k]? = some a
  tup : ∀ a xs, SqT K H a xs → SqT K H' a xs
  fz : ∀ a xs, FzL K H a xs → FzL K H' a xs
  dk : ∀ a o ks, H a = some (.frz o (.dK ks)) → H' a = some (.frz o (.dK ks))
  nt : ∀ a o xs, H a = some (.frz o (.tup xs)) → H' a = some (.frz o (.tup xs))
  kl : ∀ (k : Nat) (a : Addr), μ[k]? = some a → (∃ vs, H a = some (.lst vs)) → ∃ vs, H' a = some (.lst vs)
  kd : ∀ (k : Nat) (a : Addr), μ[k]? = some a → (∃ ks, H a = some (.dK ks)) → ∃ ks, H' a = some (.dK ks)
  ko : ∀ (k : Nat) (a : Addr), μ[k]? = some a → (∃ C dx fs, H a = some (.ins C dx fs)) → ∃ C dx fs, H' a = some (.ins C dx fs)
  kg : ∀ (k : Nat) (a : Addr), μ[k]? = some a → (∃ gs, H a = some (DD K.w a gs)) → ∃ gs, H' a = some (DD K.w a gs)
  kc : ∀ (k : Nat) (a : Addr), μ[k]? = some a → (∃ fd, H a = some (FnO a fd)) → ∃ fd, H' a = some (FnO a fd)
  co : ∀ c q, H c = some (LamX.CodeO c q) → H' c = some (LamX.CodeO c q)
  fe : ∀ c o φ, H c = some (.frz o (.ext φ)) → H' c = some (.frz o (.ext φ))
structure Ex (K : Fg) (μ : List Addr) (H : Hp) (μ' : List Addr) (H' : Hp) : Prop extends Ey K μ H μ' H' where
  fr0 : ∀ a o, H a = some o → (∀ ps, o ≠ .tbl ps) → (∀ k : Nat, μ[k]? ≠ some a) → H' a = some o ∧ ∀ k : Nat, μ'[k]? ≠ some a
section
variable {K : Fg} {μ μ1 μ2 : List Addr} {H H1 H2 : Hp}
theorem Ex.fr (x : Ex K μ H μ1 H1) (a : Addr) (o : HO) (h : H a = some o) (q : ∀ k : Nat, μ[k]? ≠ some a) (n : ∀ ps, o ≠ .tbl ps := by intro ps z; cases z) : H1 a = some o ∧ ∀ k : Nat, μ1[k]? ≠ some a := x.fr0 a o h n q
theorem Ey.refl : Ey K μ H μ H := ⟨fun _ _ h => h, fun _ _ h => h, fun _ _ h => h, fun _ _ _ h => h, fun _ _ _ h => h, fun _ _ _ h => h, fun _ _ _ h => h, fun _ _ _ h => h, fun _ _ _ h => h, fun _ _ _ h => h, fun _ _ h => h, fun _ _ _ h => h⟩
theorem Ey.trans (a : Ey K μ H μ1 H1) (b : Ey K μ1 H1 μ2 H2) : Ey K μ H μ2 H2 := ⟨fun k x h => b.pre k x (a.pre k x h), fun k x h => b.tup k x (a.tup k x h), fun k x h => b.fz k x (a.fz k x h), fun k o x h => b.dk k o x (a.dk k o x h), fun k o x h => b.nt k o x (a.nt k o x h), fun k x h q => b.kl k x (a.pre k x h) (a.kl k x h q), fun k x h q => b.kd k x (a.pre k x h) (a.kd k x h q), fun k x h q => b.ko k x (a.pre k x h) (a.ko k x h q), fun k x h q => b.kg k x (a.pre k x h) (a.kg k x h q), fun k x h q => b.kc k x (a.pre k x h) (a.kc k x h q), fun c q h => b.co c q (a.co c q h), fun c o φ h => b.fe c o φ (a.fe c o φ h)⟩
theorem Ex.refl : Ex K μ H μ H := ⟨Ey.refl, fun _ _ h _ q => ⟨h, q⟩⟩
theorem Ex.trans (a : Ex K μ H μ1 H1) (b : Ex K μ1 H1 μ2 H2) : Ex K μ H μ2 H2 := ⟨a.toEy.trans b.toEy, fun c o h n q => b.fr0 c o (a.fr0 c o h n q).1 n (a.fr0 c o h n q).2⟩
mutual
theorem VW.monoY (e : Ey K μ H μ1 H1) : ∀ {v : V} {w : W}, VW K μ H v w → VW K μ1 H1 v w
  | _, _, .non => .non
  | _, _, .bl b => .bl b
  | _, _, .int i => .int i
  | _, _, .str x l q => .str x l q
  | _, _, .tup s h => .tup (e.tup _ _ s) (VWs.monoY e h)
  | _, _, .ref h q => .ref (e.pre _ _ h) (e.kl _ _ h q)
  | _, _, .dref h q => .dref (e.pre _ _ h) (e.kd _ _ h q)
  | _, _, .rol s h => .rol (e.fz _ _ s) (VWs.monoY e h)
  | _, _, .fn x l q h => .fn x l q h
  | _, _, .dic s h => .dic (e.dk _ _ _ s) (VWd.monoY e h)
  | _, _, .oref h q => .oref (e.pre _ _ h) (e.ko _ _ h q)
  | _, _, .gref h q => .gref (e.pre _ _ h) (e.kg _ _ h q)
  | _, _, .ntup s c d h => .ntup (e.nt _ _ _ s) c d (VWs.monoY e h)
  | _, _, .lref h q => .lref (e.pre _ _ h) (e.kc _ _ h q)
theorem VWs.monoY (e : Ey K μ H μ1 H1) : ∀ {v : List V} {w : List W}, VWs K μ H v w → VWs K μ1 H1 v w
  | _, _, .nil => .nil
  | _, _, .cons h t => .cons (VW.monoY e h) (VWs.monoY e t)
theorem VWd.monoY (e : Ey K μ H μ1 H1) : ∀ {v : List (Key × V)} {w : List (List Nat × W)}, VWd K μ H v w → VWd K μ1 H1 v w
  | _, _, .nil => .nil
  | _, _, .cons q h t => .cons q (VW.monoY e h) (VWd.monoY e t)
end
theorem VWf.monoY (e : Ey K μ H μ1 H1) : ∀ {v : List (Str × V)} {w : List (List Nat × W)}, VWf K μ H v w → VWf K μ1 H1 v w
  | _, _, .nil => .nil
  | _, _, .cons q h t => .cons q (VW.monoY e h) (VWf.monoY e t)
theorem VWg.monoY (e : Ey K μ H μ1 H1) : ∀ {v : List GE} {w : List (HK × W)}, VWg K μ H v w → VWg K μ1 H1 v w
  | _, _, .nil => .nil
  | _, _, .cons q h t => .cons (q.monoY e) (VW.monoY e h) (VWg.monoY e t)
theorem VWf.mono (e : Ex K μ H μ1 H1) {v : List (Str × V)} {w : List (List Nat × W)} (h : VWf K μ H v w) : VWf K μ1 H1 v w := h.monoY e.toEy
theorem VWg.mono (e : Ex K μ H μ1 H1) {v : List GE} {w : List (HK × W)} (h : VWg K μ H v w) : VWg K μ1 H1 v w := h.monoY e.toEy
theorem VWd.mono (e : Ex K μ H μ1 H1) {v : List (Key × V)} {w : List (List Nat × W)} (h : VWd K μ H v w) : VWd K μ1 H1 v w := h.monoY e.toEy
theorem VW.mono (e : Ex K μ H μ1 H1) {v : V} {w : W} (h : VW K μ H v w) : VW K μ1 H1 v w := h.monoY e.toEy
theorem VWs.mono (e : Ex K μ H μ1 H1) {v : List V} {w : List W} (h : VWs K μ H v w) : VWs K μ1 H1 v w := h.monoY e.toEy
theorem VWs.length : ∀ {v : List V} {w : List W}, VWs K μ H v w → v.length = w.length
  | _, _, .nil => rfl
  | _, _, .cons _ t => congrArg (· + 1) (VWs.length t)
theorem VWs.get : ∀ {v : List V} {w : List W} {i : Nat} {x : W}, VWs K μ H v w → w[i]? = some x → ∃ y, v[i]? = some y ∧ VW K μ H y x
  | _, _, _, _, .nil, e => by simp at e
  | _, _, 0, _, .cons h _, e => by simp at e; subst e; exact ⟨_, rfl, h⟩
  | _, _, i + 1, x, .cons _ t, e => by
    obtain ⟨y, h1, h2⟩ := VWs.get (i := i) (x := x) t (by simpa using e)
    exact ⟨y, by simpa using h1, h2⟩
theorem VWs.get' : ∀ {v : List V} {w : List W} {i : Nat} {y : V}, VWs K μ H v w → v[i]? = some y → ∃ x, w[i]? = some x ∧ VW K μ H y x
  | _, _, _, _, .nil, e => by simp at e
  | _, _, 0, _, .cons h _, e => by simp at e; subst e; exact ⟨_, rfl, h⟩
  | _, _, i + 1, x, .cons _ t, e => by
    obtain ⟨y, h1, h2⟩ := VWs.get' (i := i) (y := x) t (by simpa using e)
    exact ⟨y, by simpa using h1, h2⟩
theorem VWs.append : ∀ {v v' : List V} {w w' : List W}, VWs K μ H v w → VWs K μ H v' w' → VWs K μ H (v ++ v') (w ++ w')
  | _, _, _, _, .nil, s => s
  | _, _, _, _, .cons r t, s => .cons r (VWs.append t s)
theorem VWs.drop : ∀ {v : List V} {w : List W} (n : Nat), VWs K μ H v w → VWs K μ H (v.drop n) (w.drop n)
  | _, _, 0, r => r
  | _, _, _ + 1, .nil => .nil
  | _, _, n + 1, .cons _ t => VWs.drop n t
theorem VWs.take : ∀ {v : List V} {w : List W} (n : Nat), VWs K μ H v w → VWs K μ H (v.take n) (w.take n)
  | _, _, 0, _ => .nil
  | _, _, _ + 1, .nil => .nil
  | _, _, n + 1, .cons r t => .cons r (VWs.take n t)
theorem VWs.set {x : V} {y : W} (r : VW K μ H x y) : ∀ {v : List V} {w : List W} (n : Nat), VWs K μ H v w → VWs K μ H (v.set n x) (w.set n y)
  | _, _, _, .nil => .nil
  | _, _, 0, .cons _ t => .cons r t
  | _, _, n + 1, .cons q t => .cons q (VWs.set r n t)
theorem VWs.erase : ∀ {v : List V} {w : List W} (n : Nat), VWs K μ H v w → VWs K μ H (v.eraseIdx n) (w.eraseIdx n)
  | _, _, _, .nil => .nil
  | _, _, 0, .cons _ t => t
  | _, _, n + 1, .cons q t => .cons q (VWs.erase n t)
theorem VWs.reverse : ∀ {v : List V} {w : List W}, VWs K μ H v w → VWs K μ H v.reverse w.reverse
  | _, _, .nil => .nil
  | _, _, .cons r t => by
    rw [List.reverse_cons, List.reverse_cons]
    exact VWs.append (VWs.reverse t) (.cons r .nil)
theorem VWs.rep {v : List V} {w : List W} (h : VWs K μ H v w) : ∀ k : Nat, VWs K μ H (List.replicate k v).flatten (List.replicate k w).flatten
  | 0 => .nil
  | k + 1 => by
    rw [List.replicate_succ, List.replicate_succ, List.flatten_cons, List.flatten_cons]
    exact VWs.append h (VWs.rep h k)
theorem VWs.snoc {v : List V} {w : List W} {x : V} {y : W} (h : VWs K μ H v w) (r : VW K μ H x y) : VWs K μ H (v ++ [x]) (w ++ [y]) := VWs.append h (.cons r .nil)
end

/-! ### the store -/
/-- the class of that name stands at C -/
def ClN (K : Fg) (c : List Nat) (C : Addr) : Prop := ∃ x : Str, x.cps.toList = c ∧ PySem.W.nsIn K mainGlobals x = some (some (.ref C))
structure DDk (kvs : List (HK × W)) : Prop where
  nd : (kvs.map (·.1)).Nodup
  dp : ∀ p ∈ kvs, p.1.dep ≤ 8
  sz : kvs.length ≤ sizeLine
/-- the captured names' cells stand still and hold what belongs to these values -/
inductive Fz (K : Fg) (μ : List Addr) (H : Hp) : List Str → List W → Prop
  | nil : Fz K μ H [] []
  | cons {y : Str} {ys : List Str} {w : W} {ws : List W} {c : Addr} {o : Obj} {φ : Heap → Prop} {u : Value} {v : V} : K.tz.C.lookup y = some c → H c = some (.frz o (.ext φ)) → o.data = .cell (some u) → RelV v u → VW K μ H v w → Fz K μ H ys ws → Fz K μ H (y :: ys) (w :: ws)
theorem Fz.monoY {K : Fg} {μ μ' : List Addr} {H H' : Hp} (e : Ey K μ H μ' H') {ys : List Str} {ws : List W} (h : Fz K μ H ys ws) : Fz K μ' H' ys ws := by
  induction h with
  | nil => exact .nil
  | cons a b c d f _ ih => exact .cons a (e.fe _ _ _ b) c d (f.monoY e) ih
def SOk (K : Fg) (μ : List Addr) (H : Hp) (a : Addr) : SO → Prop
  | .clo l zs => ∃ d c' pm ctv, K.tz.lam l = some d ∧ H a = some (FnO a (PySem.W.kla_fn "<lambda>" d.q d.params d.body d.scope (cloFrom K.tz.C d.scope.names []) pm (.ref c') ctv)) ∧ H c' = some (LamX.CodeO c' d.q) ∧ (∀ y z c, K.tz.C.lookup y = some c → K.tz.C.lookup z = some c → y = z) ∧ (zs ≠ [] → Fz K μ H K.tz.nm zs)
  | .lst ws => ∃ vs, H a = some (.lst vs) ∧ VWs K μ H vs ws
  | .dct ws => ∃ ks, H a = some (.dK ks) ∧ VWd K μ H ks ws
  | .obj c fs => ∃ C dx vs, H a = some (.ins C dx vs) ∧ ClN K c C ∧ VWf K μ H vs fs
  | .dd kvs => ∃ gs, H a = some (DD K.w a gs) ∧ VWg K μ H gs kvs ∧ DDk kvs
structure SR (K : Fg) (μ : List Addr) (H : Hp) (S : Sto) : Prop where
  len : μ.length = S.length
  nd : ∀ (i j : Nat) (a : Addr), μ[i]? = some a → μ[j]? = some a → i = j
  at_ : ∀ (k : Nat) (a : Addr) (o : SO), μ[k]? = some a → S[k]? = some o → SOk K μ H a o
  tb : LamX.Tabs K.T H
/-- what stands in the store's place is of no other kind -/
def SameK (w : World) (a : Addr) (u o : HO) : Prop := ((∃ vs, u = .lst vs) → ∃ vs, o = .lst vs) ∧ ((∃ ks, u = .dK ks) → ∃ ks, o = .dK ks) ∧ ((∃ C dx fs, u = .ins C dx fs) → ∃ C dx fs, o = .ins C dx fs) ∧ ((∃ gs, u = DD w a gs) → ∃ gs, o = DD w a gs) ∧ ((∃ fd, u = FnO a fd) → ∃ fd, o = FnO a fd)
theorem sk_lst {w : World} {a : Addr} {vs us : List V} : SameK w a (.lst vs) (.lst us) := ⟨fun _ => ⟨_, rfl⟩, fun ⟨_, z⟩ => (nomatch z), fun ⟨_, _, _, z⟩ => (nomatch z), fun ⟨_, z⟩ => (nomatch z), fun ⟨_, z⟩ => (nomatch z)⟩
theorem sk_ins {w : World} {a C dx : Addr} {vs us : List (Str × V)} : SameK w a (.ins C dx vs) (.ins C dx us) := ⟨fun ⟨_, z⟩ => (nomatch z), fun ⟨_, z⟩ => (nomatch z), fun _ => ⟨_, _, _, rfl⟩, fun ⟨_, z⟩ => (nomatch z), fun ⟨_, z⟩ => (nomatch z)⟩
theorem sk_dd {w : World} {a : Addr} {vs us : List GE} : SameK w a (DD w a vs) (DD w a us) := ⟨fun ⟨_, z⟩ => (nomatch z), fun ⟨_, z⟩ => (nomatch z), fun ⟨_, _, _, z⟩ => (nomatch z), fun _ => ⟨_, rfl⟩, fun ⟨_, z⟩ => absurd z dd_ne_fn⟩
section
variable {K : Fg} {μ : List Addr} {H : Hp} {S : Sto}
theorem SR.there (s : SR K μ H S) {k : Nat} {o : SO} (h : S[k]? = some o) : ∃ a, μ[k]? = some a := by
  have h1 : k < S.length := (List.getElem?_eq_some_iff.mp h).1
  have h2 : k < μ.length := by rw [s.len]; exact h1
  exact ⟨μ[k], List.getElem?_eq_getElem h2⟩
theorem SR.back (s : SR K μ H S) {k : Nat} {a : Addr} (h : μ[k]? = some a) : ∃ o, S[k]? = some o := by
  have h1 : k < μ.length := (List.getElem?_eq_some_iff.mp h).1
  have h2 : k < S.length := by rw [← s.len]; exact h1
  exact ⟨S[k], List.getElem?_eq_getElem h2⟩
/-- neither a tuple, nor known, nor a table, nor a code object -/
structure StC (o : HO) : Prop where
  nt : ∀ xs, o ≠ .tup xs
  nf : ∀ ob u, o ≠ .frz ob u
  nb : ∀ ps, o ≠ .tbl ps
  nc : ∀ c q, o ≠ LamX.CodeO c q
theorem st_lst {vs : List V} : StC (.lst vs) := ⟨fun _ z => (nomatch z), fun _ _ z => (nomatch z), fun _ z => (nomatch z), fun _ _ z => code_ne_lst z.symm⟩
theorem st_dK {vs : List (Key × V)} : StC (.dK vs) := ⟨fun _ z => (nomatch z), fun _ _ z => (nomatch z), fun _ z => (nomatch z), fun _ _ z => code_ne_dK z.symm⟩
theorem st_ins {C dx : Addr} {vs : List (Str × V)} : StC (.ins C dx vs) := ⟨fun _ z => (nomatch z), fun _ _ z => (nomatch z), fun _ z => (nomatch z), fun _ _ z => code_ne_ins z.symm⟩
theorem st_fn {a : Addr} {fd : FuncData} : StC (FnO a fd) := ⟨fun _ z => (nomatch z), fun _ _ z => (nomatch z), fun _ z => (nomatch z), fun _ _ z => fn_ne_code z⟩
theorem st_dd {w : World} {a : Addr} {gs : List GE} : StC (DD w a gs) := ⟨fun _ z => (nomatch z), fun _ _ z => (nomatch z), fun _ z => (nomatch z), fun _ _ z => dd_ne_code z⟩
theorem SR.trk (s : SR K μ H S) {k : Nat} {a : Addr} (h : μ[k]? = some a) : ∃ o, H a = some o ∧ StC o := by
  obtain ⟨o, h1⟩ := s.back h
  have q := s.at_ k a o h h1
  cases o with
  | lst ws => obtain ⟨vs, e, _⟩ := q; exact ⟨_, e, st_lst⟩
  | dct ws => obtain ⟨vs, e, _⟩ := q; exact ⟨_, e, st_dK⟩
  | obj c fs => obtain ⟨C, dx, vs, e, _⟩ := q; exact ⟨_, e, st_ins⟩
  | dd kvs => obtain ⟨vs, e, _⟩ := q; exact ⟨_, e, st_dd⟩
  | clo l zs => obtain ⟨d, c', pm, ctv, _, e, _⟩ := q; exact ⟨_, e, st_fn⟩
/-- a list that is read -/
theorem SR.rd (s : SR K μ H S) {k : Nat} {a : Addr} {ws : List W} (h : μ[k]? = some a) (r : rdL S k = some ws) : ∃ vs, SqL K H a vs ∧ VWs K μ H vs ws := by
  obtain ⟨o, h1⟩ := s.back h
  have q := s.at_ k a o h h1
  unfold rdL at r
  rw [h1] at r
  cases o with
  | lst ws' =>
    obtain ⟨vs, e, hv⟩ := q
    cases r
    exact ⟨vs, .inl (.inl e), hv⟩
  | _ => cases r
/-- a list that may be written -/
theorem SR.rm (s : SR K μ H S) {k : Nat} {a : Addr} {ws : List W} (h : μ[k]? = some a) (r : rdM S k = some ws) : S[k]? = some (.lst ws) ∧ ∃ vs, H a = some (.lst vs) ∧ VWs K μ H vs ws := by
  obtain ⟨o, h1⟩ := s.back h
  have q := s.at_ k a o h h1
  unfold rdM rdL at r
  rw [h1] at r
  cases o with
  | lst ws' =>
    cases r
    exact ⟨h1, q⟩
  | _ => cases r
/-- an instance -/
theorem SR.rdo (s : SR K μ H S) {k : Nat} {a : Addr} {c : List Nat} {fs : List (List Nat × W)} (h : μ[k]? = some a) (r : rdO S k = some (c, fs)) : S[k]? = some (.obj c fs) ∧ ∃ C dx vs, H a = some (.ins C dx vs) ∧ ClN K c C ∧ VWf K μ H vs fs := by
  obtain ⟨o, h1⟩ := s.back h
  have q := s.at_ k a o h h1
  unfold rdO at r
  rw [h1] at r
  cases o with
  | obj c' fs' =>
    cases r
    exact ⟨h1, q⟩
  | _ => cases r
/-- a dict keyed by what may be a key -/
theorem SR.rdg (s : SR K μ H S) {k : Nat} {a : Addr} {kvs : List (HK × W)} (h : μ[k]? = some a) (r : rdG S k = some kvs) : S[k]? = some (.dd kvs) ∧ ∃ gs, H a = some (DD K.w a gs) ∧ VWg K μ H gs kvs ∧ DDk kvs := by
  obtain ⟨o, h1⟩ := s.back h
  have q := s.at_ k a o h h1
  unfold rdG at r
  rw [h1] at r
  cases o with
  | dd kvs' =>
    cases r
    exact ⟨h1, q⟩
  | _ => cases r
theorem sqT_upd {a p : Addr} {xs : List V} {o : HO} (h : SqT K H a xs) (hp : ∀ u, H p = some u → (∀ xs, u ≠ .tup xs) ∧ ∀ ob z, u ≠ .frz ob z) : SqT K (upd H p o) a xs := by
  rcases h with (h | ⟨ob, h⟩) | h
  · have ne : a ≠ p := fun e => by
      subst e
      exact (hp _ h).1 _ rfl
    exact .inl (.inl (by rw [upd_ne ne]; exact h))
  · have ne : a ≠ p := fun e => by
      subst e
      exact (hp _ h).2 _ _ rfl
    exact .inl (.inr ⟨ob, by rw [upd_ne ne]; exact h⟩)
  · exact .inr h
theorem fz_upd {a p : Addr} {xs : List V} {o : HO} (h : FzL K H a xs) (hp : ∀ u, H p = some u → (∀ xs, u ≠ .tup xs) ∧ ∀ ob z, u ≠ .frz ob z) : FzL K (upd H p o) a xs := by
  rcases h with ⟨ob, h⟩ | h
  · have ne : a ≠ p := fun e => by
      subst e
      exact (hp _ h).2 _ _ rfl
    exact .inl ⟨ob, by rw [upd_ne ne]; exact h⟩
  · exact .inr h
theorem dk_upd {a p : Addr} {ob : Obj} {ks : List (Key × V)} {o : HO} (h : H a = some (.frz ob (.dK ks))) (hp : ∀ u, H p = some u → ∀ ob z, u ≠ .frz ob z) : upd H p o a = some (.frz ob (.dK ks)) := by
  have ne : a ≠ p := fun e => by
    subst e
    exact hp _ h _ _ rfl
  rw [upd_ne ne]; exact h
theorem nt_upd {a p : Addr} {ob : Obj} {ks : List V} {o : HO} (h : H a = some (.frz ob (.tup ks))) (hp : ∀ u, H p = some u → ∀ ob z, u ≠ .frz ob z) : upd H p o a = some (.frz ob (.tup ks)) := by
  have ne : a ≠ p := fun e => by
    subst e
    exact hp _ h _ _ rfl
  rw [upd_ne ne]; exact h
theorem ey_upd {p : Addr} {o : HO} (hp : ∀ u, H p = some u → (∀ xs, u ≠ .tup xs) ∧ (∀ ob z, u ≠ .frz ob z) ∧ ∀ c q, u ≠ LamX.CodeO c q) (hk : ∀ (k : Nat) (u : HO), μ[k]? = some p → H p = some u → SameK K.w p u o) : Ey K μ H μ (upd H p o) := by
  have hp2 : ∀ u, H p = some u → (∀ xs, u ≠ .tup xs) ∧ ∀ ob z, u ≠ .frz ob z := fun u e => ⟨(hp u e).1, (hp u e).2.1⟩
  refine ⟨fun _ _ h => h, fun _ _ h => sqT_upd h hp2, fun _ _ h => fz_upd h hp2, fun _ _ _ h => dk_upd h fun u e => (hp2 u e).2, fun _ _ _ h => nt_upd h fun u e => (hp2 u e).2, fun k a h q => ?_, fun k a h q => ?_, fun k a h q => ?_, fun k a h q => ?_, fun k a h q => ?_, fun c q h => by rw [upd_ne (fun e => (hp _ (e ▸ h)).2.2 _ _ rfl)]; exact h, fun c ob φ h => by rw [upd_ne (fun e => (hp _ (e ▸ h)).2.1 _ _ rfl)]; exact h⟩
  · by_cases e : a = p
    · subst e
      obtain ⟨u, hu⟩ := q
      obtain ⟨vs, rfl⟩ := (hk k _ h hu).1 ⟨_, rfl⟩
      exact ⟨vs, upd_same⟩
    · rw [upd_ne e]; exact q
  · by_cases e : a = p
    · subst e
      obtain ⟨u, hu⟩ := q
      obtain ⟨vs, rfl⟩ := (hk k _ h hu).2.1 ⟨_, rfl⟩
      exact ⟨vs, upd_same⟩
    · rw [upd_ne e]; exact q
  · by_cases e : a = p
    · subst e
      obtain ⟨C, dx, fs, hu⟩ := q
      obtain ⟨C, dx, vs, rfl⟩ := (hk k _ h hu).2.2.1 ⟨_, _, _, rfl⟩
      exact ⟨C, dx, vs, upd_same⟩
    · rw [upd_ne e]; exact q
  · by_cases e : a = p
    · subst e
      obtain ⟨u, hu⟩ := q
      obtain ⟨vs, rfl⟩ := (hk k _ h hu).2.2.2.1 ⟨_, rfl⟩
      exact ⟨vs, upd_same⟩
    · rw [upd_ne e]; exact q
  · by_cases e : a = p
    · subst e
      obtain ⟨u, hu⟩ := q
      obtain ⟨vs, rfl⟩ := (hk k _ h hu).2.2.2.2 ⟨_, rfl⟩
      exact ⟨vs, upd_same⟩
    · rw [upd_ne e]; exact q
theorem ey_fresh {p : Addr} {o : HO} (hp : H p = none) : Ey K μ H μ (upd H p o) := ey_upd (fun u e => by rw [hp] at e; cases e) (fun _ u _ e => by rw [hp] at e; cases e)
theorem ex_fresh {p : Addr} {o : HO} (hp : H p = none) : Ex K μ H μ (upd H p o) := ⟨ey_fresh hp, fun a u h _ q => ⟨by rw [upd_ne (ne_of_none h hp)]; exact h, q⟩⟩
/-- the tables stay where nothing but p is changed, and p is no table and no code object -/
theorem tb_upd {T : List (Addr × Str)} {p : Addr} {o : HO} (t : LamX.Tabs T H) (hp : ∀ u, H p = some u → (∀ ps, u ≠ .tbl ps) ∧ ∀ c q, u ≠ LamX.CodeO c q) : LamX.Tabs T (upd H p o) := by
  intro z hz
  obtain ⟨ps, h1, h2, h3⟩ := t z hz
  refine ⟨ps, ?_, h2, fun pos cv hc => ?_⟩
  · rw [upd_ne (fun e => (hp _ (e ▸ h1)).1 _ rfl)]
    exact h1
  · obtain ⟨c, e1, e2⟩ := h3 pos cv hc
    exact ⟨c, e1, by rw [upd_ne (fun e => (hp _ (e ▸ e2)).2 _ _ rfl)]; exact e2⟩
theorem tb_fresh {T : List (Addr × Str)} {p : Addr} {o : HO} (t : LamX.Tabs T H) (hp : H p = none) : LamX.Tabs T (upd H p o) := tb_upd t fun u e => by rw [hp] at e; cases e
/-- what stands at a stays: so what is said of it -/
theorem SOk.stay {μ' : List Addr} {H' : Hp} {a : Addr} {so : SO} (q : SOk K μ H a so) (e : Ey K μ H μ' H') (h : ∀ o, H a = some o → H' a = some o) : SOk K μ' H' a so := by
  cases so with
  | lst ws => obtain ⟨vs, q1, q2⟩ := q; exact ⟨vs, h _ q1, q2.monoY e⟩
  | dct ws => obtain ⟨vs, q1, q2⟩ := q; exact ⟨vs, h _ q1, q2.monoY e⟩
  | obj c fs => obtain ⟨C, dx, vs, q1, q2, q3⟩ := q; exact ⟨C, dx, vs, h _ q1, q2, q3.monoY e⟩
  | dd kvs => obtain ⟨vs, q1, q2, q3⟩ := q; exact ⟨vs, h _ q1, q2.monoY e, q3⟩
  | clo l zs => obtain ⟨d, c', pm, ctv, q1, q2, q3, q4⟩ := q; exact ⟨d, c', pm, ctv, q1, h _ q2, e.co _ _ q3, q4.1, fun z => (q4.2 z).monoY e⟩
/-- something new that the store does not hold -/
theorem SR.fresh (s : SR K μ H S) {p : Addr} {o : HO} (hp : H p = none) : SR K μ (upd H p o) S := by
  refine ⟨s.len, s.nd, fun k a so h1 h2 => ?_, tb_fresh s.tb hp⟩
  exact (s.at_ k a so h1 h2).stay (ey_fresh hp) fun u e => by rw [upd_ne (ne_of_none e hp)]; exact e
theorem ey_snoc {p : Addr} : Ey K μ H (μ ++ [p]) H := ⟨fun k a h => by
    rw [List.getElem?_append_left (List.getElem?_eq_some_iff.mp h).1]
    exact h, fun _ _ h => h, fun _ _ h => h, fun _ _ _ h => h, fun _ _ _ h => h, fun _ _ _ h => h, fun _ _ _ h => h, fun _ _ _ h => h, fun _ _ _ h => h, fun _ _ _ h => h, fun _ _ h => h, fun _ _ _ h => h⟩
theorem snoc_cases {p : Addr} (i : Nat) (a : Addr) (h : (μ ++ [p])[i]? = some a) : (μ[i]? = some a ∧ i < μ.length) ∨ (i = μ.length ∧ a = p) := by
  by_cases hi : i < μ.length
  · rw [List.getElem?_append_left hi] at h
    exact .inl ⟨h, hi⟩
  · have h3 := (List.getElem?_eq_some_iff.mp h).1
    rw [List.length_append, List.length_singleton] at h3
    have e : i = μ.length := by omega
    subst e
    rw [List.getElem?_append_right (Nat.le_refl _), Nat.sub_self] at h
    exact .inr ⟨rfl, (Option.some.inj h).symm⟩
/-- from ahead of p's making: p comes into the store -/
theorem Ex.snoc {μ1 : List Addr} {H1 : Hp} {p : Addr} (e : Ex K μ1 H1 μ H) (hp : H1 p = none) : Ex K μ1 H1 (μ ++ [p]) H := ⟨e.toEy.trans ey_snoc, fun a o h n q => ⟨(e.fr0 a o h n q).1, fun k z => by
  rcases snoc_cases k a z with ⟨z1, _⟩ | ⟨_, z1⟩
  · exact (e.fr0 a o h n q).2 k z1
  · subst z1
    rw [hp] at h
    cases h⟩⟩
/-- from ahead of p's making: p is changed -/
theorem Ex.mut {μ1 : List Addr} {H1 : Hp} {p : Addr} {o : HO} (e : Ex K μ1 H1 μ H) (hp : H1 p = none) : Ex K μ1 H1 μ (upd H p o) := ⟨⟨e.pre, fun a xs h => by
  rcases h with (h | ⟨ob, h⟩) | h
  · have q := e.tup a xs (.inl (.inl h))
    rcases q with (q | ⟨ob, q⟩) | q
    · exact .inl (.inl (by rw [upd_ne (ne_of_none h hp)]; exact q))
    · exact .inl (.inr ⟨ob, by rw [upd_ne (ne_of_none h hp)]; exact q⟩)
    · exact .inr q
  · have q := e.tup a xs (.inl (.inr ⟨ob, h⟩))
    rcases q with (q | ⟨ob, q⟩) | q
    · exact .inl (.inl (by rw [upd_ne (ne_of_none h hp)]; exact q))
    · exact .inl (.inr ⟨ob, by rw [upd_ne (ne_of_none h hp)]; exact q⟩)
    · exact .inr q
  · exact .inr h, fun a xs h => by
  rcases h with ⟨ob, h⟩ | h
  · have q := e.fz a xs (.inl ⟨ob, h⟩)
    rcases q with ⟨ob, q⟩ | q
    · exact .inl ⟨ob, by rw [upd_ne (ne_of_none h hp)]; exact q⟩
    · exact .inr q
  · exact .inr h, fun a o' ks h => by rw [upd_ne (ne_of_none h hp)]; exact e.dk a o' ks h, fun a o' ks h => by rw [upd_ne (ne_of_none h hp)]; exact e.nt a o' ks h, fun k a h q => by
  have ne : a ≠ p := let ⟨_, x⟩ := q; ne_of_none x hp
  rw [upd_ne ne]; exact e.kl k a h q, fun k a h q => by
  have ne : a ≠ p := let ⟨_, x⟩ := q; ne_of_none x hp
  rw [upd_ne ne]; exact e.kd k a h q, fun k a h q => by
  have ne : a ≠ p := let ⟨_, _, _, x⟩ := q; ne_of_none x hp
  rw [upd_ne ne]; exact e.ko k a h q, fun k a h q => by
  have ne : a ≠ p := let ⟨_, x⟩ := q; ne_of_none x hp
  rw [upd_ne ne]; exact e.kg k a h q, fun k a h q => by
  have ne : a ≠ p := let ⟨_, x⟩ := q; ne_of_none x hp
  rw [upd_ne ne]; exact e.kc k a h q, fun c q h => by rw [upd_ne (ne_of_none h hp)]; exact e.co c q h, fun c o' φ h => by rw [upd_ne (ne_of_none h hp)]; exact e.fe c o' φ h⟩, fun a u h n q => ⟨by rw [upd_ne (ne_of_none h hp)]; exact (e.fr0 a u h n q).1, (e.fr0 a u h n q).2⟩⟩
theorem ex_new {p : Addr} {o : HO} (hp : H p = none) : Ex K μ H (μ ++ [p]) (upd H p o) := (ex_fresh hp).snoc hp
/-- what is tracked outside the store comes into it -/
theorem SR.adoptO (s : SR K μ H S) {p : Addr} {so : SO} (hn : ∀ k : Nat, μ[k]? ≠ some p) (hv : SOk K μ H p so) : SR K (μ ++ [p]) H (S ++ [so]) := by
  have e2 : Ey K μ H (μ ++ [p]) H := ey_snoc
  refine ⟨by rw [List.length_append, List.length_append, s.len]; rfl, fun i j a hi hj => ?_, fun k a so' h1 h2 => ?_, s.tb⟩
  · rcases snoc_cases i a hi with ⟨h1, l1⟩ | ⟨h1, l1⟩
    · rcases snoc_cases j a hj with ⟨h2, l2⟩ | ⟨h2, l2⟩
      · exact s.nd i j a h1 h2
      · rw [l2] at h1; exact absurd h1 (hn i)
    · rcases snoc_cases j a hj with ⟨h2, l2⟩ | ⟨h2, l2⟩
      · rw [l1] at h2; exact absurd h2 (hn j)
      · omega
  · rcases snoc_cases k a h1 with ⟨h3, l3⟩ | ⟨h3, l3⟩
    · rw [List.getElem?_append_left (by rw [← s.len]; exact l3)] at h2
      exact (s.at_ k a so' h3 h2).stay e2 fun o e => e
    · subst h3
      subst l3
      rw [s.len, List.getElem?_append_right (Nat.le_refl _), Nat.sub_self] at h2
      cases h2
      exact hv.stay e2 fun o e => e
theorem SR.off (s : SR K μ H S) {p : Addr} (hp : H p = none) : ∀ k : Nat, μ[k]? ≠ some p := fun i h => by
  obtain ⟨u, hu, _⟩ := s.trk h
  rw [hp] at hu
  cases hu
/-- a new list of the store -/
theorem SR.new (s : SR K μ H S) {p : Addr} {vs : List V} {ws : List W} (hp : H p = none) (hv : VWs K μ H vs ws) : SR K (μ ++ [p]) (upd H p (.lst vs)) (S ++ [.lst ws]) :=
  (s.fresh (o := .lst vs) hp).adoptO (so := .lst ws) (s.off hp) ⟨vs, upd_same, hv.mono (ex_fresh hp)⟩
/-- what stands in the store is written -/
theorem SR.writeO (s : SR K μ H S) {k : Nat} {a : Addr} {u o : HO} {so so0 : SO} (hk : μ[k]? = some a) (h0 : S[k]? = some so0) (hu : H a = some u) (sk : SameK K.w a u o) (hv : SOk K μ (upd H a o) a so) : SR K μ (upd H a o) (S.set k so) ∧ Ex K μ H μ (upd H a o) := by
  obtain ⟨u', hu', st⟩ := s.trk hk
  rw [hu] at hu'
  cases hu'
  have ee : Ex K μ H μ (upd H a o) := ⟨ey_upd (fun u1 e => by
    rw [hu] at e
    cases e
    exact ⟨st.nt, st.nf, st.nc⟩) (fun _ u1 _ e => by
    rw [hu] at e
    cases e
    exact sk), fun b u1 h _ q => ⟨by
      have ne : b ≠ a := fun z => by
        subst z
        exact q k hk
      rw [upd_ne ne]
      exact h, q⟩⟩
  refine ⟨⟨by rw [List.length_set]; exact s.len, s.nd, fun j b so' h1 h2 => ?_, tb_upd s.tb fun u1 e => by
    rw [hu] at e
    cases e
    exact ⟨st.nb, st.nc⟩⟩, ee⟩
  by_cases e : j = k
  · subst e
    rw [hk] at h1
    cases h1
    rw [List.getElem?_set_self (List.getElem?_eq_some_iff.mp h0).1] at h2
    cases h2
    exact hv
  · rw [List.getElem?_set_ne (Ne.symm e)] at h2
    have ne : b ≠ a := fun q => by
      subst q
      exact e (s.nd j k b h1 hk)
    exact (s.at_ j b so' h1 h2).stay ee.toEy fun o q => by rw [upd_ne ne]; exact q
/-- a list of the store is written -/
theorem SR.write (s : SR K μ H S) {k : Nat} {a : Addr} {vs : List V} {ws ws0 : List W} (hk : μ[k]? = some a) (h0 : S[k]? = some (.lst ws0)) (hv : VWs K μ H vs ws) : SR K μ (upd H a (.lst vs)) (S.set k (.lst ws)) ∧ Ex K μ H μ (upd H a (.lst vs)) := by
  obtain ⟨us, hu, _⟩ := s.at_ k a _ hk h0
  have ee : Ey K μ H μ (upd H a (.lst vs)) := ey_upd (fun u1 e => by
    rw [hu] at e
    cases e
    exact ⟨st_lst.nt, st_lst.nf, st_lst.nc⟩) (fun _ u1 _ e => by
    rw [hu] at e
    cases e
    exact sk_lst)
  exact s.writeO hk h0 hu sk_lst ⟨vs, upd_same, hv.monoY ee⟩
/-- a list outside the store is changed -/
theorem SR.other (s : SR K μ H S) {p : Addr} {xs ys : List V} (hp : H p = some (.lst xs)) (hn : ∀ k : Nat, μ[k]? ≠ some p) : SR K μ (upd H p (.lst ys)) S ∧ Ey K μ H μ (upd H p (.lst ys)) := by
  have ee : Ey K μ H μ (upd H p (.lst ys)) := ey_upd (fun u e => by
    rw [hp] at e
    cases e
    exact ⟨fun _ z => (nomatch z), fun _ _ z => (nomatch z), fun _ _ z => code_ne_lst z.symm⟩) fun k _ h _ => absurd h (hn k)
  refine ⟨⟨s.len, s.nd, fun k a so h1 h2 => ?_, tb_upd s.tb fun u e => by
    rw [hp] at e
    cases e
    exact ⟨st_lst.nb, st_lst.nc⟩⟩, ee⟩
  have ne : a ≠ p := fun e => by
    subst e
    exact hn k h1
  exact (s.at_ k a so h1 h2).stay ee fun o q => by rw [upd_ne ne]; exact q
/-- a list outside the store comes into it -/
theorem SR.adopt (s : SR K μ H S) {p : Addr} {vs : List V} {ws : List W} (hp : H p = some (.lst vs)) (hn : ∀ k : Nat, μ[k]? ≠ some p) (hv : VWs K μ H vs ws) : SR K (μ ++ [p]) H (S ++ [.lst ws]) := s.adoptO (so := .lst ws) hn ⟨vs, hp, hv⟩
/-- a dict of the store is written -/
theorem SR.writeG (s : SR K μ H S) {k : Nat} {a : Addr} {gs : List GE} {kvs kvs0 : List (HK × W)} (hk : μ[k]? = some a) (h0 : S[k]? = some (.dd kvs0)) (hv : VWg K μ H gs kvs) (g : DDk kvs) : SR K μ (upd H a (DD K.w a gs)) (S.set k (.dd kvs)) ∧ Ex K μ H μ (upd H a (DD K.w a gs)) := by
  obtain ⟨us, hu, _⟩ := s.at_ k a _ hk h0
  have ee : Ey K μ H μ (upd H a (DD K.w a gs)) := ey_upd (fun u1 e => by
    rw [hu] at e
    cases e
    exact ⟨st_dd.nt, st_dd.nf, st_dd.nc⟩) (fun _ u1 _ e => by
    rw [hu] at e
    cases e
    exact sk_dd)
  exact s.writeO hk h0 hu sk_dd ⟨gs, upd_same, hv.monoY ee, g⟩
/-- an instance of the store is written -/
theorem SR.writeF (s : SR K μ H S) {k : Nat} {a C dx : Addr} {us vs : List (Str × V)} {c : List Nat} {fs fs0 : List (List Nat × W)} (hk : μ[k]? = some a) (h0 : S[k]? = some (.obj c fs0)) (hu : H a = some (.ins C dx us)) (hc : ClN K c C) (hv : VWf K μ H vs fs) : SR K μ (upd H a (.ins C dx vs)) (S.set k (.obj c fs)) ∧ Ex K μ H μ (upd H a (.ins C dx vs)) := by
  have ee : Ey K μ H μ (upd H a (.ins C dx vs)) := ey_upd (fun u1 e => by
    rw [hu] at e
    cases e
    exact ⟨st_ins.nt, st_ins.nf, st_ins.nc⟩) (fun _ u1 _ e => by
    rw [hu] at e
    cases e
    exact sk_ins)
  exact s.writeO hk h0 hu sk_ins ⟨C, dx, vs, upd_same, hc, hv.monoY ee⟩
end

/-! ### slots -/
def ER (K : Fg) (μ : List Addr) (H : Hp) (σ : L2.St) (env : Env) : Prop := σ.length = env.length ∧ ∀ (i : Nat) w, env[i]? = some (some w) → ∃ v, σ[i]? = some (some v) ∧ VW K μ H v w
section
variable {K : Fg} {μ μ1 : List Addr} {H H1 : Hp} {σ : L2.St} {env : Env}
theorem ER.monoY (e : Ey K μ H μ1 H1) (h : ER K μ H σ env) : ER K μ1 H1 σ env := ⟨h.1, fun i w q => by
  obtain ⟨v, h1, h2⟩ := h.2 i w q
  exact ⟨v, h1, h2.monoY e⟩⟩
theorem ER.mono (e : Ex K μ H μ1 H1) (h : ER K μ H σ env) : ER K μ1 H1 σ env := h.monoY e.toEy
theorem ER.set (h : ER K μ H σ env) (i : Nat) {v : V} {w : W} (r : VW K μ H v w) : ER K μ H (σ.set i (some v)) (env.set i (some w)) := by
  refine ⟨by rw [List.length_set, List.length_set]; exact h.1, fun j x q => ?_⟩
  by_cases e : i = j
  · subst e
    by_cases hl : i < env.length
    · rw [List.getElem?_set_self hl] at q
      cases q
      rw [List.getElem?_set_self (by rw [h.1]; exact hl)]
      exact ⟨v, rfl, r⟩
    · rw [List.getElem?_eq_none (by rw [List.length_set]; omega)] at q
      cases q
  · rw [List.getElem?_set_ne e] at q
    rw [List.getElem?_set_ne e]
    exact h.2 j x q
theorem ER.clear (h : ER K μ H σ env) (i : Nat) : ER K μ H (σ.set i none) (env.set i none) := by
  refine ⟨by rw [List.length_set, List.length_set]; exact h.1, fun j x q => ?_⟩
  by_cases e : i = j
  · subst e
    by_cases hl : i < env.length
    · rw [List.getElem?_set_self hl] at q
      cases q
    · rw [List.getElem?_eq_none (by rw [List.length_set]; omega)] at q
      cases q
  · rw [List.getElem?_set_ne e] at q
    rw [List.getElem?_set_ne e]
    exact h.2 j x q
theorem ER.wipe (h : ER K μ H σ env) : ∀ vs : List Nat, ER K μ H (L2.wipe σ vs) (MP.wipe env vs)
  | [] => h
  | v :: vs => (ER.wipe h vs).clear v
end
theorem wipe_get (σ : L2.St) : ∀ (vs : List Nat) (j : Nat), (L2.wipe σ vs)[j]? = if j ∈ vs then (σ[j]?).map (fun _ => none) else σ[j]?
  | [], j => by simp [L2.wipe]
  | v :: vs, j => by
    unfold L2.wipe
    by_cases e : v = j
    · subst e
      rw [List.getElem?_set_self', wipe_get σ vs v]
      by_cases h : v ∈ vs
      · simp [h]
        rfl
      · simp [h]
        rfl
    · rw [List.getElem?_set_ne e, wipe_get σ vs j]
      have : j ∈ v :: vs ↔ j ∈ vs := by
        rw [List.mem_cons]
        exact ⟨fun q => q.elim (fun z => absurd z.symm e) id, .inr⟩
      simp only [this]
theorem wipe_same {σ σ' : L2.St} {vs tg : List Nat} (hl : σ'.length = σ.length) (ht : ∀ i ∈ tg, i ∈ vs) (h : ∀ i, i ∉ tg → σ'[i]? = (L2.wipe σ vs)[i]?) : L2.wipe σ' vs = L2.wipe σ vs := by
  apply List.ext_getElem?
  intro j
  rw [wipe_get, wipe_get]
  by_cases e : j ∈ vs
  · rw [if_pos e, if_pos e]
    by_cases q : j < σ.length
    · rw [List.getElem?_eq_getElem q, List.getElem?_eq_getElem (by omega)]
      rfl
    · rw [List.getElem?_eq_none (by omega), List.getElem?_eq_none (by omega)]
  · rw [if_neg e, if_neg e, h j (fun q => e (ht j q)), wipe_get, if_neg e]
end MP
namespace MP
open PySem PySem.Spec PyProof.Rows L2
open SeqAt
/-! ### a dict's entries, looked up by any value that is a key -/
structure VRs (w : World) (h : Heap) (es : Array DictEntry) (rs : List RE) : Prop where
  en : es.toList = rs.map (RE.entry w)
  kis : ∀ r ∈ rs, NestedIs h r.k r.ku ∧ r.k.depth ≤ 8
  nd : (rs.map (·.k)).Nodup
section
variable {prog : Program} {w : World} {A : Around} {E : Value → Shared → Prop} {s : Shared} {es : Array DictEntry} {rs : List RE} {h : Heap} {k : NestedKey} {key : Value}
theorem VRs.sz (x : VRs w h es rs) : es.size = rs.length := by rw [← Array.length_toList, x.en, List.length_map]
theorem VRs.look (x : VRs w h es rs) (j : Nat) : es[j]? = (rs[j]?).map (RE.entry w) := by rw [← Array.getElem?_toList, x.en, List.getElem?_map]
theorem VRs.one (x : VRs w h es rs) {i j : Nat} {r r' : RE} (hi : rs[i]? = some r) (hj : rs[j]? = some r') (e : r.k = r'.k) : i = j := by
  have h1 : (rs.map (·.k))[i]? = some r.k := by rw [List.getElem?_map, hi]; rfl
  have h2 : (rs.map (·.k))[j]? = some r.k := by rw [List.getElem?_map, hj, e]; rfl
  exact (List.getElem?_inj (List.getElem?_eq_some_iff.mp h1).1 x.nd).mp (h1.trans h2.symm)
theorem VRs.mem (x : VRs w h es rs) {e : DictEntry} (he : e ∈ es) : ∃ r ∈ rs, e = r.entry w := by
  have q : e ∈ rs.map (RE.entry w) := x.en ▸ Array.mem_toList_iff.mpr he
  obtain ⟨r, hr, e⟩ := List.mem_map.mp q
  exact ⟨r, hr, e.symm⟩
theorem vd_tell {stored : List Value} {Q : Bool → Shared → Prop} (hk : NestedIs s.heap k key) (hd : k.depth ≤ 8) (hst : ∀ v ∈ stored, ∃ k', NestedIs s.heap k' v ∧ k'.depth ≤ 8) (q : Q false s) : wpAny (model prog w) A (tableMayTell key stored) Q E s := by
  unfold tableMayTell
  split
  · exact wpAny_pure q
  · refine wpAny_bind (quiet_key k key 8 s hk hd A E _ ?_)
    simp only [Bool.not_true, Bool.false_eq_true, if_false]
    refine wpAny_bind ?_
    refine wpAny_forIn_list _ (fun rest r s' => s' = s ∧ r = (none, ()) ∧ ∀ v ∈ rest, ∃ k', NestedIs s.heap k' v ∧ k'.depth ≤ 8) _ ?_ ?_ _ _ ⟨rfl, rfl, hst⟩
    · rintro v rest r s' ⟨rfl, rfl, hr⟩
      obtain ⟨k', h1, h2⟩ := hr v List.mem_cons_self
      refine wpAny_bind (quiet_key k' v 8 s' h1 h2 A E _ ?_)
      simp only [Bool.not_true, Bool.false_eq_true, if_false]
      exact wpAny_pure ⟨rfl, rfl, fun u hu => hr u (List.mem_cons_of_mem _ hu)⟩
    · rintro r s' ⟨rfl, rfl, _⟩
      exact wpAny_pure q
theorem vd_isStr {h : Heap} {k : NestedKey} {v : Value} {x : Str} (hk : NestedIs h k v) (hx : isExactStrKey v = true) : v.isStr x = decide (k = .text x) := by
  cases hk with
  | text y t =>
    show (y == x) = _
    by_cases e : y = x
    · subst e
      simp
    · rw [beq_eq_false_iff_ne.mpr e, decide_eq_false fun z => e (NestedKey.text.inj z)]
  | _ => cases hx
theorem vd_if {α : Type} {M : Model} {c : Prop} [Decidable c] {a b : Sem α} {Q : α → Shared → Prop} (ha : c → wpAny M A a Q E s) (hb : ¬c → wpAny M A b Q E s) : wpAny M A (if c then a else b) Q E s := by
  split
  · rename_i h
    exact ha h
  · rename_i h
    exact hb h
/-- where the key stands, or that it doesn't -/
theorem vd_find {d : Addr} {o : Obj} {ep : Nat} {Q : Option Nat → Shared → Prop} (hu : A.units + 8 < cLine) (hk : NestedIs s.heap k key) (hdp : k.depth ≤ 8) (ho : s.heap.get? d = some o) (hd : o.data = .dict es ep) (x : VRs w s.heap es rs)
    (hnone : (∀ (j : Nat) (r : RE), rs[j]? = some r → r.k ≠ k) → Q none s) (hsome : ∀ (j : Nat) (r : RE), rs[j]? = some r → r.k = k → Q (some j) s) : wpAny (model prog w) A (dictFind d key (k.hash w)) Q E s := by
  have hsz := x.sz
  have eqr : ∀ {r : RE} {Q' : Bool → Shared → Prop}, r ∈ rs → Q' (decide (r.k = k)) s → wpAny (model prog w) A (eqBool r.ku key) Q' E s := fun {r Q'} hr q =>
    eqAt_key r.k k A s r.ku key (x.kis r hr).1 hk (by have := (x.kis r hr).2; omega) _ _ _ _ (by rw [← NestedKey.decide_eq]; exact q)
  -- an entry of the key has its hash
  have hash_at : ∀ (j : Nat) (r : RE), rs[j]? = some r → r.k = k → ((es[j]?.map (·.hash)) == some (k.hash w)) = true := by
    intro j r hj e
    rw [x.look j, hj, ← e]
    simp [RE.entry]
  have nokey : ∀ (j : Nat) (r : RE), rs[j]? = some r → ((es[j]?.map (·.hash)) == some (k.hash w)) = false → r.k ≠ k := fun j r hj e q => by
    rw [hash_at j r hj q] at e
    cases e
  have stored : ∀ v ∈ (placesWithHash es.size (fun i => es[i]?.map (·.hash)) (k.hash w)).filterMap (fun i => es[i]?.map (·.key)), ∃ r ∈ rs, v = r.ku := by
    intro v hv
    obtain ⟨i, _, hi⟩ := List.mem_filterMap.mp hv
    cases hei : es[i]? with
    | none => rw [hei] at hi; cases hi
    | some e =>
      rw [hei] at hi
      obtain rfl : e.key = v := by simpa using hi
      obtain ⟨r, hr, rfl⟩ := x.mem (Array.mem_of_getElem? hei)
      exact ⟨r, hr, rfl⟩
  unfold dictFind
  try with_reducible refine wpAny_holding ?_
  refine wpAny_bind (wpAny_dictEntries ho hd ?_)
  dsimp only
  -- the walk by the hashes
  have plain : ∀ (m : Nat), m = es.size → wpAny (model prog w) A (dictWalkPlain d key (k.hash w) es (placesWithHash es.size (fun i => es[i]?.map (·.hash)) (k.hash w))) Q E s := by
    intro m hm
    unfold dictWalkPlain
    refine wpAny_bind ?_
    refine wpAny_forIn_list _
      (fun rest b s' => s' = s ∧ b = (none, ()) ∧ ∃ i, rest = (List.range' i (es.size - i)).filter (fun i => (es[i]?.map (·.hash)) == some (k.hash w)) ∧ i ≤ es.size ∧ ∀ (j : Nat) (r : RE), rs[j]? = some r → j < i → r.k ≠ k) _ ?_ ?_ _ _
      ⟨rfl, rfl, 0, by rw [placesWithHash, List.range_eq_range', Nat.sub_zero], Nat.zero_le _, fun _ _ _ z => absurd z (Nat.not_lt_zero _)⟩
    · rintro y rest b s' ⟨rfl, rfl, i, hr, hi, hno⟩
      obtain ⟨hiy, hyn, hpy, hskip, hrest⟩ := filter_range'_cons _ _ _ _ _ hr.symm
      have hlt : y < es.size := by omega
      obtain ⟨r, hry⟩ : ∃ r, rs[y]? = some r := ⟨rs[y]'(by rw [← hsz]; exact hlt), List.getElem?_eq_getElem _⟩
      have hey : es[y]? = some (r.entry w) := by rw [x.look y, hry]; rfl
      have hnext : r.k ≠ k → ∃ i, rest = (List.range' i (es.size - i)).filter (fun i => (es[i]?.map (·.hash)) == some (k.hash w)) ∧ i ≤ es.size ∧ ∀ (j : Nat) (r : RE), rs[j]? = some r → j < i → r.k ≠ k := fun hne =>
        ⟨y + 1, by rw [hrest]; congr 2; omega, hlt, fun j r' hj hjy => by
          rcases Nat.lt_or_ge j i with q | q
          · exact hno j r' hj q
          · rcases Nat.lt_or_ge j y with q2 | q2
            · exact nokey j r' hj (hskip j q q2)
            · have e : j = y := by omega
              subst e
              rw [hry] at hj
              cases hj
              exact hne⟩
      simp only [hey]
      by_cases hh : ((r.entry w).hash == k.hash w) = true
      · rw [if_pos hh]
        refine wpAny_bind (wpAny_dictEpoch ho hd (wpAny_bind (eqr (List.mem_of_getElem? hry) (wpAny_bind (wpAny_dictEpoch ho hd ?_)))))
        show wpAny _ _ (if (ep != ep) = true then _ else _) _ E _
        rw [if_neg (by simp)]
        by_cases hkk : r.k = k
        · rw [decide_eq_true hkk]
          exact wpAny_bind (wpAny_rule (wpAny_pure (wpAny_pure (hsome y r hry hkk))))
        · rw [decide_eq_false hkk]
          exact wpAny_bind (wpAny_rule (wpAny_pure ⟨rfl, rfl, hnext hkk⟩))
      · rw [if_neg hh]
        refine wpAny_pure ⟨rfl, rfl, hnext ?_⟩
        intro hkk
        apply hh
        show (r.k.hash w == k.hash w) = true
        rw [hkk]
        simp
    · rintro b s' ⟨rfl, rfl, i, hr, hi, hno⟩
      refine wpAny_pure (hnone fun j r hj => ?_)
      rcases Nat.lt_or_ge j i with q | q
      · exact hno j r hj q
      · have hjl : j < es.size := by
          rw [hsz]
          exact (List.getElem?_eq_some_iff.mp hj).1
        have z := List.filter_eq_nil_iff.mp hr.symm j (List.mem_range'_1.mpr ⟨q, by omega⟩)
        exact nokey j r hj (by simpa using z)
  have hany : ¬ (es.any fun e => e.key == key && e.hash != k.hash w) = true := by
    rw [← Array.any_toList, List.any_eq_true]
    rintro ⟨e, hin, hc⟩
    obtain ⟨r, hr, rfl⟩ := x.mem (Array.mem_toList_iff.mp hin)
    simp only [RE.entry, Bool.and_eq_true, beq_iff_eq, bne_iff_ne, ne_eq] at hc
    obtain ⟨ha, hne⟩ := hc
    have z := (x.kis r hr).1
    rw [ha] at z
    exact hne (by rw [NestedIs.inj _ _ _ z hk])
  have hst : ∀ v ∈ (placesWithHash es.size (fun i => es[i]?.map (·.hash)) (k.hash w)).filterMap (fun i => es[i]?.map (·.key)), ∃ k', NestedIs s.heap k' v ∧ k'.depth ≤ 8 := fun v hv => by
    obtain ⟨r, hr, rfl⟩ := stored v hv
    exact ⟨r.k, x.kis r hr⟩
  -- the turns of the walk that asks ==
  have step : ∀ (y : Nat) (rest : List Nat) (i : Nat) (hit : Option Nat), (List.range' i (es.size - i)).filter (fun i => (es[i]?.map (·.hash)) == some (k.hash w)) = y :: rest → i ≤ es.size → ((hit = none ∧ ∀ (j : Nat) (r : RE), rs[j]? = some r → j < i → r.k ≠ k) ∨ ∃ j r, hit = some j ∧ j < i ∧ rs[j]? = some r ∧ r.k = k) →
      ∃ r, rs[y]? = some r ∧ es[y]? = some (r.entry w) ∧ y < es.size ∧ rest = (List.range' (y + 1) (es.size - (y + 1))).filter (fun i => (es[i]?.map (·.hash)) == some (k.hash w)) ∧
        (r.k ≠ k → ((hit = none ∧ ∀ (j : Nat) (r : RE), rs[j]? = some r → j < y + 1 → r.k ≠ k) ∨ ∃ j r, hit = some j ∧ j < y + 1 ∧ rs[j]? = some r ∧ r.k = k)) ∧ (r.k = k → hit = none) := by
    intro y rest i hit hr hi hH
    obtain ⟨hiy, hyn, hpy, hskip, hrest⟩ := filter_range'_cons _ _ _ _ _ hr
    have hlt : y < es.size := by omega
    obtain ⟨r, hry⟩ : ∃ r, rs[y]? = some r := ⟨rs[y]'(by rw [← hsz]; exact hlt), List.getElem?_eq_getElem _⟩
    have hey : es[y]? = some (r.entry w) := by rw [x.look y, hry]; rfl
    have up : (hit = none ∧ ∀ (j : Nat) (r : RE), rs[j]? = some r → j < y → r.k ≠ k) ∨ ∃ j r, hit = some j ∧ j < y ∧ rs[j]? = some r ∧ r.k = k := by
      rcases hH with ⟨h0, hno⟩ | ⟨j, r', h1, hji, hj, e⟩
      · refine .inl ⟨h0, fun j r' hj hjy => ?_⟩
        rcases Nat.lt_or_ge j i with q | q
        · exact hno j r' hj q
        · exact nokey j r' hj (hskip j q hjy)
      · exact .inr ⟨j, r', h1, by omega, hj, e⟩
    refine ⟨r, hry, hey, hlt, by rw [hrest]; congr 2; omega, fun hne => ?_, fun e => ?_⟩
    · rcases up with ⟨h0, hno⟩ | ⟨j, r', h1, hjy, hj, e⟩
      · refine .inl ⟨h0, fun j r' hj hjy => ?_⟩
        rcases Nat.lt_or_ge j y with q | q
        · exact hno j r' hj q
        · have e : j = y := by omega
          subst e
          rw [hry] at hj
          cases hj
          exact hne
      · exact .inr ⟨j, r', h1, by omega, hj, e⟩
    · rcases up with ⟨h0, _⟩ | ⟨j, r', h1, hjy, hj, e'⟩
      · exact h0
      · exact absurd (x.one hj hry (e'.trans e.symm)) (by omega)
  have done : ∀ (i : Nat) (hit : Option Nat), (List.range' i (es.size - i)).filter (fun i => (es[i]?.map (·.hash)) == some (k.hash w)) = [] → ((hit = none ∧ ∀ (j : Nat) (r : RE), rs[j]? = some r → j < i → r.k ≠ k) ∨ ∃ j r, hit = some j ∧ j < i ∧ rs[j]? = some r ∧ r.k = k) → Q hit s := by
    intro i hit hr hH
    rcases hH with ⟨rfl, hno⟩ | ⟨j, r, rfl, _, hj, e⟩
    · refine hnone fun j r hj => ?_
      rcases Nat.lt_or_ge j i with q | q
      · exact hno j r hj q
      · have hjl : j < es.size := by
          rw [hsz]
          exact (List.getElem?_eq_some_iff.mp hj).1
        have z := List.filter_eq_nil_iff.mp hr j (List.mem_range'_1.mpr ⟨q, by omega⟩)
        exact nokey j r hj (by simpa using z)
    · exact hsome j r hj e
  have byTx : ∀ (y : Str) (t : Tok), key = .str y t → (es.all fun e => isExactStrKey e.key) = true → wpAny (model prog w) A (foundByValue d key es y) Q E s := by
    intro y t ek hss
    subst ek
    have ky : k = .text y := by cases hk; rfl
    have isAt : ∀ (j : Nat) (r : RE), rs[j]? = some r → r.ku.isStr y = decide (r.k = k) := fun j r hj => by
      have z := vd_isStr (x := y) (x.kis r (List.mem_of_getElem? hj)).1 ?_
      · rw [z, ky]
      · have hex : es[j]? = some (r.entry w) := by rw [x.look j, hj]; rfl
        exact Array.all_eq_true_iff_forall_mem.mp hss _ (Array.mem_of_getElem? hex)
    unfold foundByValue
    cases hf : es.findIdx? (fun e => e.key.isStr y) with
    | none =>
      refine wpAny_pure (hnone fun j r hj e => ?_)
      have hex : es[j]? = some (r.entry w) := by rw [x.look j, hj]; rfl
      have z := Array.findIdx?_eq_none_iff.mp hf _ (Array.mem_of_getElem? hex)
      have z2 : r.ku.isStr y = false := z
      rw [isAt j r hj, decide_eq_true e] at z2
      cases z2
    | some i =>
      obtain ⟨hlt, hi, _⟩ := Array.findIdx?_eq_some_iff_getElem.mp hf
      obtain ⟨r, hri⟩ : ∃ r, rs[i]? = some r := ⟨rs[i]'(by rw [← hsz]; exact hlt), List.getElem?_eq_getElem _⟩
      have hex : es[i]? = some (r.entry w) := by rw [x.look i, hri]; rfl
      have hie : es[i] = r.entry w := by
        rw [Array.getElem?_eq_getElem hlt] at hex
        exact Option.some.inj hex
      have hkk : r.k = k := by
        have z : r.ku.isStr y = true := by
          rw [hie] at hi
          exact hi
        rw [isAt i r hri] at z
        exact of_decide_eq_true z
      simp only [hex]
      refine wpAny_bind (wpAny_dictEpoch ho hd (wpAny_bind (eqr (List.mem_of_getElem? hri) (wpAny_bind (wpAny_dictEpoch ho hd ?_)))))
      show wpAny _ _ (if (ep != ep) = true then _ else _) _ E _
      rw [if_neg (by simp), decide_eq_true hkk]
      exact wpAny_bind (wpAny_rule (wpAny_pure (hsome i r hri hkk)))
  split
  · rename_i y t
    refine vd_if (fun hss => byTx y t rfl hss) (fun hss => vd_if (fun _ => plain _ rfl) fun hall => ?_)
    dsimp only
    by_cases hone : (((placesWithHash es.size (fun i => es[i]?.map (·.hash)) (k.hash w)).filterMap (fun i => es[i]?.map (·.key))) == [Value.str y t]) = true <;>
    (first | rw [if_pos hone] | rw [if_neg hone]) <;> (first | refine wpAny_bind (wpAny_pure ?_) | refine wpAny_bind (vd_tell hk hdp hst ?_)) <;> (
      rw [if_neg (by simp)]
      refine wpAny_bind ?_
      refine wpAny_forIn_list _
        (fun rest b s' => s' = s ∧ ∃ i hit, b = (none, hit) ∧ rest = (List.range' i (es.size - i)).filter (fun i => (es[i]?.map (·.hash)) == some (k.hash w)) ∧ i ≤ es.size ∧
          ((hit = none ∧ ∀ (j : Nat) (r : RE), rs[j]? = some r → j < i → r.k ≠ k) ∨ ∃ j r, hit = some j ∧ j < i ∧ rs[j]? = some r ∧ r.k = k)) _ ?_ ?_ _ _
        ⟨rfl, 0, none, rfl, by rw [placesWithHash, List.range_eq_range', Nat.sub_zero], Nat.zero_le _, .inl ⟨rfl, fun _ _ _ h => absurd h (Nat.not_lt_zero _)⟩⟩
      · rintro y2 rest b s' ⟨rfl, i, hit, rfl, hr, hi, hH⟩
        obtain ⟨r, hry, hey, hlt, hrest, hnx, hno⟩ := step y2 rest i hit hr.symm hi hH
        rw [hey]
        dsimp only
        by_cases hh : ((r.entry w).hash == k.hash w) = true
        · rw [if_pos hh]
          refine wpAny_bind (wpAny_dictEpoch ho hd (wpAny_bind (eqr (List.mem_of_getElem? hry) (wpAny_bind (wpAny_dictEpoch ho hd ?_)))))
          show wpAny _ _ (if (ep != ep) = true then _ else _) _ E _
          rw [if_neg (by simp)]
          by_cases hkk : r.k = k
          · rw [decide_eq_true hkk]
            obtain rfl := hno hkk
            first | rw [if_pos rfl] | skip
            simp only [Option.isSome_none, Bool.false_eq_true, if_false]
            first | refine wpAny_bind (wpAny_pure ?_) | skip
            refine wpAny_bind (wpAny_rule ?_)
            split
            · exact wpAny_pure (wpAny_pure (hsome y2 r hry hkk))
            · exact wpAny_pure ⟨rfl, y2 + 1, some y2, rfl, hrest, hlt, .inr ⟨y2, r, rfl, Nat.lt_succ_self y2, hry, hkk⟩⟩
          · rw [decide_eq_false hkk]
            simp only [Bool.false_eq_true, if_false]
            refine wpAny_bind (wpAny_rule ?_)
            first | rw [if_neg (by simp)] | skip
            first
              | exact wpAny_pure ⟨rfl, y2 + 1, hit, rfl, hrest, hlt, hnx hkk⟩
              | exact wpAny_bind (wpAny_pure (wpAny_pure ⟨rfl, y2 + 1, hit, rfl, hrest, hlt, hnx hkk⟩))
        · rw [if_neg hh]
          refine wpAny_pure ⟨rfl, y2 + 1, hit, rfl, hrest, hlt, hnx ?_⟩
          intro hkk
          apply hh
          show (r.k.hash w == k.hash w) = true
          rw [hkk]
          simp
      · rintro b s' ⟨rfl, i, hit, rfl, hr, hi, hH⟩
        exact wpAny_pure (done i hit hr.symm hH))
  · refine vd_if (fun _ => plain _ rfl) fun hall => ?_
    split
    · rw [if_neg hany]
      rename_i a _
      by_cases hone : (((placesWithHash es.size (fun i => es[i]?.map (·.hash)) (k.hash w)).filterMap (fun i => es[i]?.map (·.key))) == [Value.ref a]) = true <;>
      (first | rw [if_pos hone] | rw [if_neg hone]) <;> (first | refine wpAny_bind (wpAny_pure ?_) | refine wpAny_bind (vd_tell hk hdp hst ?_)) <;> (
      rw [if_neg (by simp)]
      refine wpAny_bind ?_
      refine wpAny_forIn_list _
        (fun rest b s' => s' = s ∧ ∃ i hit, b = (none, hit) ∧ rest = (List.range' i (es.size - i)).filter (fun i => (es[i]?.map (·.hash)) == some (k.hash w)) ∧ i ≤ es.size ∧
          ((hit = none ∧ ∀ (j : Nat) (r : RE), rs[j]? = some r → j < i → r.k ≠ k) ∨ ∃ j r, hit = some j ∧ j < i ∧ rs[j]? = some r ∧ r.k = k)) _ ?_ ?_ _ _
        ⟨rfl, 0, none, rfl, by rw [placesWithHash, List.range_eq_range', Nat.sub_zero], Nat.zero_le _, .inl ⟨rfl, fun _ _ _ h => absurd h (Nat.not_lt_zero _)⟩⟩
      · rintro y2 rest b s' ⟨rfl, i, hit, rfl, hr, hi, hH⟩
        obtain ⟨r, hry, hey, hlt, hrest, hnx, hno⟩ := step y2 rest i hit hr.symm hi hH
        rw [hey]
        dsimp only
        by_cases hh : ((r.entry w).hash == k.hash w) = true
        · rw [if_pos hh]
          refine wpAny_bind (wpAny_dictEpoch ho hd (wpAny_bind (eqr (List.mem_of_getElem? hry) (wpAny_bind (wpAny_dictEpoch ho hd ?_)))))
          show wpAny _ _ (if (ep != ep) = true then _ else _) _ E _
          rw [if_neg (by simp)]
          by_cases hkk : r.k = k
          · rw [decide_eq_true hkk]
            obtain rfl := hno hkk
            first | rw [if_pos rfl] | skip
            simp only [Option.isSome_none, Bool.false_eq_true, if_false]
            first | refine wpAny_bind (wpAny_pure ?_) | skip
            refine wpAny_bind (wpAny_rule ?_)
            split
            · exact wpAny_pure (wpAny_pure (hsome y2 r hry hkk))
            · exact wpAny_pure ⟨rfl, y2 + 1, some y2, rfl, hrest, hlt, .inr ⟨y2, r, rfl, Nat.lt_succ_self y2, hry, hkk⟩⟩
          · rw [decide_eq_false hkk]
            simp only [Bool.false_eq_true, if_false]
            refine wpAny_bind (wpAny_rule ?_)
            first | rw [if_neg (by simp)] | skip
            first
              | exact wpAny_pure ⟨rfl, y2 + 1, hit, rfl, hrest, hlt, hnx hkk⟩
              | exact wpAny_bind (wpAny_pure (wpAny_pure ⟨rfl, y2 + 1, hit, rfl, hrest, hlt, hnx hkk⟩))
        · rw [if_neg hh]
          refine wpAny_pure ⟨rfl, y2 + 1, hit, rfl, hrest, hlt, hnx ?_⟩
          intro hkk
          apply hh
          show (r.k.hash w == k.hash w) = true
          rw [hkk]
          simp
      · rintro b s' ⟨rfl, i, hit, rfl, hr, hi, hH⟩
        exact wpAny_pure (done i hit hr.symm hH))
    · by_cases hone : (((placesWithHash es.size (fun i => es[i]?.map (·.hash)) (k.hash w)).filterMap (fun i => es[i]?.map (·.key))) == [key]) = true <;>
      (first | rw [if_pos hone] | rw [if_neg hone]) <;> (first | refine wpAny_bind (wpAny_pure ?_) | refine wpAny_bind (vd_tell hk hdp hst ?_)) <;> (
      rw [if_neg (by simp)]
      refine wpAny_bind ?_
      refine wpAny_forIn_list _
        (fun rest b s' => s' = s ∧ ∃ i hit, b = (none, hit) ∧ rest = (List.range' i (es.size - i)).filter (fun i => (es[i]?.map (·.hash)) == some (k.hash w)) ∧ i ≤ es.size ∧
          ((hit = none ∧ ∀ (j : Nat) (r : RE), rs[j]? = some r → j < i → r.k ≠ k) ∨ ∃ j r, hit = some j ∧ j < i ∧ rs[j]? = some r ∧ r.k = k)) _ ?_ ?_ _ _
        ⟨rfl, 0, none, rfl, by rw [placesWithHash, List.range_eq_range', Nat.sub_zero], Nat.zero_le _, .inl ⟨rfl, fun _ _ _ h => absurd h (Nat.not_lt_zero _)⟩⟩
      · rintro y2 rest b s' ⟨rfl, i, hit, rfl, hr, hi, hH⟩
        obtain ⟨r, hry, hey, hlt, hrest, hnx, hno⟩ := step y2 rest i hit hr.symm hi hH
        rw [hey]
        dsimp only
        by_cases hh : ((r.entry w).hash == k.hash w) = true
        · rw [if_pos hh]
          refine wpAny_bind (wpAny_dictEpoch ho hd (wpAny_bind (eqr (List.mem_of_getElem? hry) (wpAny_bind (wpAny_dictEpoch ho hd ?_)))))
          show wpAny _ _ (if (ep != ep) = true then _ else _) _ E _
          rw [if_neg (by simp)]
          by_cases hkk : r.k = k
          · rw [decide_eq_true hkk]
            obtain rfl := hno hkk
            first | rw [if_pos rfl] | skip
            simp only [Option.isSome_none, Bool.false_eq_true, if_false]
            first | refine wpAny_bind (wpAny_pure ?_) | skip
            refine wpAny_bind (wpAny_rule ?_)
            split
            · exact wpAny_pure (wpAny_pure (hsome y2 r hry hkk))
            · exact wpAny_pure ⟨rfl, y2 + 1, some y2, rfl, hrest, hlt, .inr ⟨y2, r, rfl, Nat.lt_succ_self y2, hry, hkk⟩⟩
          · rw [decide_eq_false hkk]
            simp only [Bool.false_eq_true, if_false]
            refine wpAny_bind (wpAny_rule ?_)
            first | rw [if_neg (by simp)] | skip
            first
              | exact wpAny_pure ⟨rfl, y2 + 1, hit, rfl, hrest, hlt, hnx hkk⟩
              | exact wpAny_bind (wpAny_pure (wpAny_pure ⟨rfl, y2 + 1, hit, rfl, hrest, hlt, hnx hkk⟩))
        · rw [if_neg hh]
          refine wpAny_pure ⟨rfl, y2 + 1, hit, rfl, hrest, hlt, hnx ?_⟩
          intro hkk
          apply hh
          show (r.k.hash w == k.hash w) = true
          rw [hkk]
          simp
      · rintro b s' ⟨rfl, i, hit, rfl, hr, hi, hH⟩
        exact wpAny_pure (done i hit hr.symm hH))
/-- the raw dict has these entries -/
def RawD (w : World) (h : Heap) (d : Addr) (rs : List RE) : Prop := ∃ (o : Obj) (es : Array DictEntry) (ep : Nat), h.get? d = some o ∧ o.ExactDict ∧ o.data = .dict es ep ∧ es.toList = rs.map (RE.entry w)
theorem RawD.typeIs {d : Addr} (x : RawD w s.heap d rs) : s.TypeIs (.ref d) "dict" := let ⟨o, _, _, ho, hc, _⟩ := x; ⟨o, ho, hc.1⟩
structure KRs (h : Heap) (rs : List RE) : Prop where
  kis : ∀ r ∈ rs, NestedIs h r.k r.ku ∧ r.k.depth ≤ 8
  nd : (rs.map (·.k)).Nodup
theorem vd_get {d : Addr} {Q : Option Value → Shared → Prop} (hu : A.units + 8 < cLine) (hk : NestedIs s.heap k key) (hdp : k.depth ≤ 8) (x : RawD w s.heap d rs) (y : KRs s.heap rs)
    (h1 : ∀ (j : Nat) (r : RE), rs[j]? = some r → r.k = k → ∀ tk, Q (some r.u) { s with toks := tk }) (h2 : (∀ (j : Nat) (r : RE), rs[j]? = some r → r.k ≠ k) → ∀ tk, Q none { s with toks := tk }) : wpAny (model prog w) A (dictGet d key) Q E s := by
  obtain ⟨o, es, ep, ho, _, hd, he⟩ := x
  unfold dictGet
  try with_reducible refine wpAny_holding ?_
  refine wpAny_bind (pyHash_key k key A s _ hk (by omega) (wpAny_bind (vd_find (s := { s with toks := s.toks + k.draws }) hu hk hdp ho hd ⟨he, y.kis, y.nd⟩ (fun hno => ?_) fun j r hj e => ?_)))
  · exact wpAny_pure (h2 hno _)
  · refine wpAny_bind (wpAny_dictEntries (s := { s with toks := s.toks + k.draws }) ho hd ?_)
    have z := (VRs.mk he y.kis y.nd).look j
    rw [hj] at z
    rw [z]
    exact wpAny_pure (h1 j r hj e _)
theorem modify_val (f : RE → DictEntry) (v : Value) (hf : ∀ r : RE, f { r with u := v } = { f r with val := v }) : ∀ (rs : List RE) (j : Nat) (r : RE), rs[j]? = some r → (rs.map f).modify j (fun e => { e with val := v }) = (rs.set j { r with u := v }).map f
  | [], _, _, h => by simp at h
  | x :: rs, 0, r, h => by
    simp at h
    subst h
    simp [List.modify, hf]
  | x :: rs, j + 1, r, h => by
    have ih := modify_val f v hf rs j r (by simpa using h)
    rw [List.set_cons_succ, List.map_cons, List.map_cons, ← ih]
    rfl
theorem KRs.keeps {h h' : Heap} {d : Addr} (y : KRs h rs) (x : RawD w h d rs) (hs : Heap.SameBut d h h') : KRs h' rs := by
  obtain ⟨o, es, ep, ho, _, hd, _⟩ := x
  exact ⟨fun r hr => ⟨NestedIs.at (fun b ob vs n hb hc => (hs.2 b fun e => by
    subst e
    rw [ho] at hb
    cases hb
    rw [hd] at hc
    cases hc).trans hb) _ _ (y.kis r hr).1, (y.kis r hr).2⟩, y.nd⟩
theorem vd_setH {d : Addr} {v : Value} {Q : Unit → Shared → Prop} (hu : A.units + 8 < cLine) (hk : NestedIs s.heap k key) (hdp : k.depth ≤ 8) (x : RawD w s.heap d rs) (y : KRs s.heap rs) (hsz : rs.length ≤ sizeLine)
    (h1 : ∀ (j : Nat) (r : RE), rs[j]? = some r → r.k = k → ∀ h' tk, RawD w h' d (rs.set j { r with u := v }) → Heap.SameBut d s.heap h' → Q () { s with heap := h', toks := tk })
    (h2 : (∀ (j : Nat) (r : RE), rs[j]? = some r → r.k ≠ k) → ∀ h' tk, RawD w h' d (rs ++ [⟨k, key, v⟩]) → Heap.SameBut d s.heap h' → Q () { s with heap := h', toks := tk }) : wpAny (model prog w) A (dictSet d key v) Q E s := by
  obtain ⟨o, es, ep, ho, hc, hd, he⟩ := x
  have xx := VRs.mk he y.kis y.nd
  unfold dictSet
  try with_reducible refine wpAny_holding ?_
  refine wpAny_bind (pyHash_key k key A s _ hk (by omega) ?_)
  unfold dictSetHashed
  try with_reducible refine wpAny_holding ?_
  refine wpAny_bind (vd_find (s := { s with toks := s.toks + k.draws }) hu hk hdp ho hd ⟨he, y.kis, y.nd⟩ (fun hno => ?_) fun j r hj e => ?_)
  · refine wpAny_bind (wpAny_rule (wpAny_updateDictKeys (hz := by have e := xx.sz; omega) (s := { s with toks := s.toks + k.draws }) ho hd (h2 hno _ _ ⟨_, _, ep + 1, Heap.get?_update_self _ ho (Obj.isFreed_of_dict (Obj.data_mapDictKeys hd _)), hc.mapDictKeys _, Obj.data_mapDictKeys hd _, ?_⟩ (Heap.SameBut.update ..))))
    simp [he, RE.entry]
  · refine wpAny_bind (wpAny_rule (wpAny_bind (wpAny_updateDict (s := { s with toks := s.toks + k.draws }) ho hd (wpAny_point (h1 j r hj e _ _ ⟨_, _, ep, Heap.get?_update_self _ ho (Obj.isFreed_of_dict (Obj.data_mapDict hd _)), hc.mapDict _, Obj.data_mapDict hd _, ?_⟩ (Heap.SameBut.update ..))))))
    have z := modify_val (RE.entry w) v (fun _ => rfl) rs j r hj
    rw [← he] at z
    obtain ⟨l⟩ := es
    simpa using z
/-! ### k in d, d[k], d[k] = v, d.get, d.setdefault -/
theorem in1u {A : Around} (h : A.units + 9 < cLine) : A.in1.units + 8 < cLine := by
  have e : A.in1.units = A.units + 1 := by simp
  omega
theorem vd_item {d : Addr} {Q : Value → Shared → Prop} (hu : A.units + 9 < cLine) (hk : NestedIs s.heap k key) (hdp : k.depth ≤ 8) (x : RawD w s.heap d rs) (y : KRs s.heap rs)
    (h1 : ∀ (j : Nat) (r : RE), rs[j]? = some r → r.k = k → ∀ tk, Q r.u { s with toks := tk }) (h2 : ∃ (j : Nat) (r : RE), rs[j]? = some r ∧ r.k = k) : wpAny (model prog w) A (getItem (.ref d) key) Q E s := by
  unfold getItem
  try with_reducible refine wpAny_holding ?_
  refine wpAny_bind (wpAny_sequenceKey x.typeIs (by decide) ?_)
  refine wpAny_bind (wpAny_callSpecial?_slot (name := Str.ofString "__getitem__") x.typeIs slot_dict_getitem
    (wpAny_call_entry slot_dict_getitem x.typeIs entry_dict_getitem ?_ (args_dict_getitem _ _)))
  show wpAny _ _ (dictGet d key >>= _) _ _ s
  refine wpAny_bind (vd_get (in1u hu) hk hdp x y (fun j r hj e tk => ?_) fun hno tk => ?_)
  · exact wpAny_pure ⟨r.u, rfl, wpAny_pure (h1 j r hj e tk)⟩
  · obtain ⟨j, r, hj, e⟩ := h2
    exact absurd e (hno j r hj)
theorem vd_put {d : Addr} {v : Value} {Q : Unit → Shared → Prop} (hu : A.units + 9 < cLine) (hk : NestedIs s.heap k key) (hdp : k.depth ≤ 8) (x : RawD w s.heap d rs) (y : KRs s.heap rs) (hsz : rs.length ≤ sizeLine)
    (h1 : ∀ (j : Nat) (r : RE), rs[j]? = some r → r.k = k → ∀ h' tk, RawD w h' d (rs.set j { r with u := v }) → Heap.SameBut d s.heap h' → Q () { s with heap := h', toks := tk })
    (h2 : (∀ (j : Nat) (r : RE), rs[j]? = some r → r.k ≠ k) → ∀ h' tk, RawD w h' d (rs ++ [⟨k, key, v⟩]) → Heap.SameBut d s.heap h' → Q () { s with heap := h', toks := tk }) : wpAny (model prog w) A (setItem (.ref d) key v) Q E s := by
  unfold setItem
  try with_reducible refine wpAny_holding ?_
  refine wpAny_bind (wpAny_sequenceKey x.typeIs (by decide) ?_)
  refine wpAny_bind (wpAny_callSpecial?_slot (name := Str.ofString "__setitem__") x.typeIs slot_dict_setitem
    (wpAny_call_entry slot_dict_setitem x.typeIs entry_dict_setitem ?_ (args_dict_setitem _ _ _)))
  show wpAny _ _ (Builtin.Dict.notOrdered "__setitem__" ⟨[.ref d, key, v], []⟩ >>= _) _ _ s
  refine wpAny_bind (wpAny_notOrdered_dict x.typeIs ?_)
  show wpAny _ _ (dictSet d key v >>= _) _ _ s
  exact wpAny_bind (vd_setH (in1u hu) hk hdp x y hsz (fun j r hj e h' tk x' hs => wpAny_pure ⟨.none, rfl, wpAny_pure (h1 j r hj e h' tk x' hs)⟩) fun hno h' tk x' hs => wpAny_pure ⟨.none, rfl, wpAny_pure (h2 hno h' tk x' hs)⟩)
end
end MP
namespace MP
open PySem PySem.Spec PyProof.Rows L2

theorem lim_ok {n : Nat} (h : n ≤ LIM) : n ≤ sizeLine := Nat.le_trans h (by decide)
theorem lim_lt {n : Nat} (h : n < LIM) : n < sizeLine := Nat.lt_of_lt_of_le h (by decide)
theorem str_len {x : Str} {l : List Nat} (e : x.cps.toList = l) : x.length = l.length := by
  rw [← e]
  show x.cps.size = x.cps.toList.length
  simp

/-- what is wanted behind: any later state that stands for it -/
def Aft (K : Fg) (μ : List Addr) (H : Hp) (S' : Sto) (w : W) (Q : VK) : Prop := ∀ v μ' H', Ex K μ H μ' H' → SR K μ' H' S' → VW K μ' H' v w → Q v H'
theorem Aft.mono {K : Fg} {μ μ1 : List Addr} {H H1 : Hp} {S' : Sto} {w : W} {Q : VK} (e : Ex K μ H μ1 H1) (a : Aft K μ H S' w Q) : Aft K μ1 H1 S' w Q := fun v μ' H' e' s r => a v μ' H' (e.trans e') s r
/-- a two-place operation on values is sound -/
def OpS (K : Fg) (f : W → W → Sto → R) (r : R2) : Prop := ∀ μ H S x y w S' vx vy Q, SR K μ H S → VW K μ H vx x → VW K μ H vy y → f x y S = some (w, S') → Aft K μ H S' w Q → r vx vy H Q
section
variable {K : Fg} {μ : List Addr} {H : Hp} {S S' : Sto} {w : W} {Q : VK}
theorem Aft.now (s : SR K μ H S) {v : V} (r : VW K μ H v w) (a : Aft K μ H S w Q) : Q v H := a v μ H .refl s r
/-- a new list -/
theorem Aft.new {vs : List V} {ws : List W} (s : SR K μ H S) (hv : VWs K μ H vs ws) (e : new S ws = some (w, S')) (a : Aft K μ H S' w Q) : vs.length ≤ sizeLine ∧ ∀ p, H p = none → Q (.ref p) (upd H p (.lst vs)) := by
  unfold MP.new at e
  split at e
  · rename_i hl
    cases e
    refine ⟨by rw [hv.length]; exact lim_ok hl, fun p hp => ?_⟩
    exact a _ (μ ++ [p]) _ (ex_new hp) (s.new hp hv) (.ref (by
      rw [← s.len, List.getElem?_append_right (Nat.le_refl _), Nat.sub_self]
      rfl) ⟨_, upd_same⟩)
  · cases e
/-- a new tuple -/
theorem Aft.tup {vs : List V} {ws : List W} (s : SR K μ H S) (hv : VWs K μ H vs ws) (a : Aft K μ H S (.tup ws) Q) : ∀ p, H p = none → Q (.ref p) (upd H p (.tup vs)) := fun p hp =>
  a _ μ _ (ex_fresh hp) (s.fresh hp) (.tup (.inl (.inl upd_same)) (hv.mono (ex_fresh hp)))
end

/-! ### == -/
theorem str_beq (x y : List Nat) : ((⟨x.toArray⟩ : Str) == (⟨y.toArray⟩ : Str)) = (x == y) := by
  by_cases h : x = y
  · subst h
    simp
  · have h2 : ¬ ((⟨x.toArray⟩ : Str) = (⟨y.toArray⟩ : Str)) := fun q => h (by
      injection q with q
      simpa using congrArg Array.toList q)
    rw [beq_eq_false_iff_ne.mpr h, beq_eq_false_iff_ne.mpr h2]
mutual
theorem eqv_py : ∀ d e : D, PyData.eqv d.py e.py = D.eqv d e
  | .non, e => by cases e <;> simp [D.py, D.eqv, PyData.eqv]
  | .bl b, e => by cases e <;> simp [D.py, D.eqv, PyData.eqv]
  | .int i, e => by cases e <;> simp [D.py, D.eqv, PyData.eqv]
  | .str x, e => by cases e <;> simp [D.py, D.eqv, PyData.eqv, str_beq]
  | .lst xs, e => by
    cases e with
    | lst ys => simp only [D.py, D.eqv, PyData.eqv]; exact eqv_pys xs ys
    | _ => simp [D.py, D.eqv, PyData.eqv]
  | .tup xs, e => by
    cases e with
    | tup ys => simp only [D.py, D.eqv, PyData.eqv]; exact eqv_pys xs ys
    | _ => simp [D.py, D.eqv, PyData.eqv]
theorem eqv_pys : ∀ d e : List D, PyData.eqvAll (D.pys d) (D.pys e) = D.eqvs d e
  | [], e => by cases e <;> simp [D.pys, D.eqvs, PyData.eqvAll]
  | d :: ds, e => by
    cases e with
    | nil => simp [D.pys, D.eqvs, PyData.eqvAll]
    | cons e es => simp only [D.pys, D.eqvs, PyData.eqvAll, eqv_py d e, eqv_pys ds es]
end
theorem any_pys (e : D) : ∀ ds : List D, ((D.pys ds).any fun z => PyData.eqv z e.py) = ds.any fun z => D.eqv z e
  | [] => rfl
  | d :: ds => by
    show (PyData.eqv d.py e.py || (D.pys ds).any _) = (D.eqv d e || ds.any _)
    rw [eqv_py, any_pys e ds]
section
variable {K : Fg} {μ : List Addr} {H : Hp} {S : Sto}
theorem str_eta {x : Str} {l : List Nat} (e : x.cps.toList = l) : x = ⟨l.toArray⟩ := by
  subst e
  cases x
  simp
theorem dats_lay {f : W → Option D} {n : Nat} (hf : ∀ w d, f w = some d → d.py.canLay0 = true ∧ d.py.depth ≤ n) : ∀ {ws : List W} {ds : List D}, dats f ws = some ds → PyData.canLayAll0 (D.pys ds) = true ∧ PyData.depthAll (D.pys ds) ≤ n
  | [], ds, h => by
    cases h
    simp [D.pys, PyData.canLayAll0, PyData.depthAll]
  | w :: ws, ds, h => by
    unfold dats at h
    split at h
    · rename_i d ds' h1 h2
      cases h
      obtain ⟨a1, a2⟩ := hf _ _ h1
      obtain ⟨b1, b2⟩ := dats_lay hf h2
      simp only [D.pys, PyData.canLayAll0, PyData.depthAll, a1, b1, Bool.and_self, true_and]
      omega
    · cases h
theorem dat_lay : ∀ (n : Nat) (w : W) (d : D), dat S n w = some d → d.py.canLay0 = true ∧ d.py.depth ≤ n
  | n, .non, d, h => by
    have e : d = .non := by cases n <;> (simp only [dat] at h; cases h; rfl)
    subst e
    simp [D.py, PyData.canLay0, PyData.depth]
  | n, .bl b, d, h => by
    have e : d = .bl b := by cases n <;> (simp only [dat] at h; cases h; rfl)
    subst e
    simp [D.py, PyData.canLay0, PyData.depth]
  | n, .int i, d, h => by
    have e : d = .int i := by cases n <;> (simp only [dat] at h; cases h; rfl)
    subst e
    simp [D.py, PyData.canLay0, PyData.depth]
  | n, .str x, d, h => by
    have e : (x.all fun c => decide (c < 1114112)) = true ∧ d = .str x := by
      cases n <;>
      · simp only [dat] at h
        split at h
        · rename_i hx
          cases h
          exact ⟨hx, rfl⟩
        · cases h
    obtain ⟨hx, e⟩ := e
    subst e
    refine ⟨?_, by simp [D.py, PyData.depth]⟩
    simp only [D.py, PyData.canLay0, PyData.strOk]
    rw [← Array.all_toList]
    simpa using hx
  | 0, .tup xs, d, h => by simp [dat] at h
  | 0, .ref k, d, h => by simp [dat] at h
  | n, .rol xs, d, h => by cases n <;> simp [dat] at h
  | n, .fn xs, d, h => by cases n <;> simp [dat] at h
  | n, .dic xs, d, h => by cases n <;> simp [dat] at h
  | n, .dref xs, d, h => by cases n <;> simp [dat] at h
  | n, .exc xs ys, d, h => by cases n <;> simp [dat] at h
  | n, .oref xs, d, h => by cases n <;> simp [dat] at h
  | n, .gref xs, d, h => by cases n <;> simp [dat] at h
  | n, .ntup xs, d, h => by cases n <;> simp [dat] at h
  | n, .lref xs, d, h => by cases n <;> simp [dat] at h
  | n + 1, .tup xs, d, h => by
    simp only [dat, Option.map_eq_some_iff] at h
    obtain ⟨ds, h1, h2⟩ := h
    subst h2
    obtain ⟨a1, a2⟩ := dats_lay (n := n) (fun w d q => dat_lay n w d q) h1
    simp only [D.py, PyData.canLay0, PyData.depth]
    exact ⟨a1, by omega⟩
  | n + 1, .ref k, d, h => by
    simp only [dat] at h
    split at h
    · rename_i xs _
      simp only [Option.map_eq_some_iff] at h
      obtain ⟨ds, h1, h2⟩ := h
      subst h2
      obtain ⟨a1, a2⟩ := dats_lay (n := n) (fun w d q => dat_lay n w d q) h1
      simp only [D.py, PyData.canLay0, PyData.depth]
      exact ⟨a1, by omega⟩
    · cases h
theorem dat_shaped {n : Nat} {w : W} {d : D} (hn : n ≤ 60) (h : dat S n w = some d) : SeqAt.shaped d.py = true := by
  obtain ⟨h1, h2⟩ := dat_lay n w d h
  unfold SeqAt.shaped
  rw [h1, decide_eq_true (by omega)]
  rfl
theorem dats_dp {f : W → Option D} (hf : ∀ v w d, f w = some d → VW K μ H v w → Dp K H v d.py) : ∀ {vs : List V} {ws : List W} {ds : List D}, dats f ws = some ds → VWs K μ H vs ws → DpAll K H vs (D.pys ds)
  | _, [], ds, h, hv => by
    cases hv
    cases h
    exact .nil
  | _, w :: ws, ds, h, hv => by
    cases hv with
    | cons r t =>
      unfold dats at h
      split at h
      · rename_i d ds' h1 h2
        cases h
        exact .cons (hf _ _ _ h1 r) (dats_dp hf h2 t)
      · cases h
theorem dat_dp (s : SR K μ H S) : ∀ (n : Nat) (v : V) (w : W) (d : D), dat S n w = some d → VW K μ H v w → Dp K H v d.py
  | n, v, .non, d, h, r => by
    have e : d = .non := by cases n <;> (simp only [dat] at h; cases h; rfl)
    subst e
    cases r
    exact .non
  | n, v, .bl b, d, h, r => by
    have e : d = .bl b := by cases n <;> (simp only [dat] at h; cases h; rfl)
    subst e
    cases r
    exact .bl b
  | n, v, .int i, d, h, r => by
    have e : d = .int i := by cases n <;> (simp only [dat] at h; cases h; rfl)
    subst e
    cases r
    exact .int i
  | n, v, .str x, d, h, r => by
    have e : d = .str x := by
      cases n <;>
      · simp only [dat] at h
        split at h
        · cases h
          rfl
        · cases h
    subst e
    cases r with
    | str z _ q =>
      have e2 := str_eta q
      subst e2
      exact .str _
  | 0, v, .tup xs, d, h, r => by simp [dat] at h
  | 0, v, .ref k, d, h, r => by simp [dat] at h
  | n, v, .rol xs, d, h, r => by cases n <;> simp [dat] at h
  | n, v, .fn xs, d, h, r => by cases n <;> simp [dat] at h
  | n, v, .dic xs, d, h, r => by cases n <;> simp [dat] at h
  | n, v, .dref xs, d, h, r => by cases n <;> simp [dat] at h
  | n, v, .oref xs, d, h, r => by cases n <;> simp [dat] at h
  | n, v, .gref xs, d, h, r => by cases n <;> simp [dat] at h
  | n, v, .ntup xs, d, h, r => by cases n <;> simp [dat] at h
  | n, v, .lref xs, d, h, r => by cases n <;> simp [dat] at h
  | n + 1, v, .tup xs, d, h, r => by
    simp only [dat, Option.map_eq_some_iff] at h
    obtain ⟨ds, h1, h2⟩ := h
    subst h2
    cases r with
    | tup q t => exact .tup q (dats_dp (fun v w d a b => dat_dp s n v w d a b) h1 t)
  | n + 1, v, .ref k, d, h, r => by
    simp only [dat] at h
    split at h
    · rename_i xs hx
      simp only [Option.map_eq_some_iff] at h
      obtain ⟨ds, h1, h2⟩ := h
      subst h2
      cases r with
      | ref hk hkl =>
        obtain ⟨vs, q, t⟩ := s.rd hk hx
        exact .lst q (dats_dp (fun v w d a b => dat_dp s n v w d a b) h1 t)
    · cases h
end
def rEqA (K : Fg) : R2 := fun x y H Q => rEq x y H Q ∨ rEqD K x y H Q
def rNeA (K : Fg) : R2 := fun x y H Q => rNe x y H Q ∨ rNeD K x y H Q
theorem op_eqA {τ : TZ} {X : Cx} (hu : X.A.units + 64 < cLine) : OpR X (compareOp .Eq) (rEqA (kwOf τ X)) := OpR.or op_eq (op_eqD hu)
theorem op_neA {τ : TZ} {X : Cx} (hu : X.A.units + 64 < cLine) : OpR X (compareOp .NotEq) (rNeA (kwOf τ X)) := OpR.or op_ne (op_neD hu)
theorem dec_str2 {x y : Str} {l m : List Nat} (e : x.cps.toList = l) (e' : y.cps.toList = m) : decide (V.str x = V.str y) = decide (l = m) := by
  subst e e'
  by_cases h : x = y
  · subst h
    simp
  · have h1 : ¬ V.str x = V.str y := fun q => h (V.str.inj q)
    have h2 : ¬ x.cps.toList = y.cps.toList := fun q => h (by
      cases x
      cases y
      simp only [Str.mk.injEq]
      exact Array.ext' q)
    rw [decide_eq_false h1, decide_eq_false h2]
/-- what the two rules give -/
theorem eqW_ok {K : Fg} {μ : List Addr} {H : Hp} {S : Sto} {x y : W} {vx vy : V} {k : Bool} (s : SR K μ H S) (rx : VW K μ H vx x) (ry : VW K μ H vy y) (h : eqW S x y = some k) :
    (scal vx vy = true ∧ decide (vx = vy) = k) ∨ ∃ d e, Dp K H vx d ∧ Dp K H vy e ∧ SeqAt.shaped d = true ∧ SeqAt.shaped e = true ∧ PyData.eqv d e = k := by
  have gen : (match dat S 60 x, dat S 60 y with | some d, some e => some (D.eqv d e) | _, _ => none) = some k → ∃ d e, Dp K H vx d ∧ Dp K H vy e ∧ SeqAt.shaped d = true ∧ SeqAt.shaped e = true ∧ PyData.eqv d e = k := by
    intro h
    split at h
    · rename_i d e h1 h2
      cases h
      exact ⟨d.py, e.py, dat_dp s 60 _ _ _ h1 rx, dat_dp s 60 _ _ _ h2 ry, dat_shaped (Nat.le_refl _) h1, dat_shaped (Nat.le_refl _) h2, eqv_py d e⟩
    · cases h
  cases x <;> cases y <;> first
    | (right; exact gen h)
    | (cases rx; cases ry; simp only [eqW] at h; cases h; refine .inl ⟨rfl, ?_⟩; simp; done)
    | (cases rx; cases ry; rename_i a b c d; simp only [eqW] at h; cases h; exact .inl ⟨rfl, dec_str2 (by assumption) (by assumption)⟩)
theorem os_eq {K : Fg} : OpS K (fun x y S => (opC .eq x y S).map fun k => (.bl k, S)) (rEqA K) := by
  intro μ H S x y w S' vx vy Q s rx ry h a
  simp only [opC, Option.map_eq_some_iff] at h
  obtain ⟨k, h1, h2⟩ := h
  cases h2
  rcases eqW_ok s rx ry h1 with ⟨q1, q2⟩ | ⟨d, e, q1, q2, q3, q4, q5⟩
  · subst q2
    exact .inl ⟨q1, a.now s (.bl _)⟩
  · subst q5
    exact .inr ⟨d, e, q1, q2, q3, q4, a.now s (.bl _)⟩
theorem os_ne {K : Fg} : OpS K (fun x y S => (opC .ne x y S).map fun k => (.bl k, S)) (rNeA K) := by
  intro μ H S x y w S' vx vy Q s rx ry h a
  simp only [opC, Option.map_eq_some_iff] at h
  obtain ⟨k, ⟨k0, h1, h3⟩, h2⟩ := h
  cases h2
  subst h3
  rcases eqW_ok s rx ry h1 with ⟨q1, q2⟩ | ⟨d, e, q1, q2, q3, q4, q5⟩
  · subst q2
    exact .inl ⟨q1, a.now s (.bl _)⟩
  · subst q5
    exact .inr ⟨d, e, q1, q2, q3, q4, a.now s (.bl _)⟩

/-! ### order, in -/
mutual
theorem alk_py : ∀ d e : D, PySem.W.alike d.py e.py = D.alk d e
  | .non, e => by cases e <;> simp [D.py, D.alk, PySem.W.alike]
  | .bl b, e => by cases e <;> simp [D.py, D.alk, PySem.W.alike]
  | .int i, e => by cases e <;> simp [D.py, D.alk, PySem.W.alike]
  | .str x, e => by cases e <;> simp [D.py, D.alk, PySem.W.alike]
  | .lst xs, e => by
    cases e with
    | lst ys => simp only [D.py, D.alk, PySem.W.alike]; exact alks_py xs ys
    | _ => simp [D.py, D.alk, PySem.W.alike]
  | .tup xs, e => by
    cases e with
    | tup ys => simp only [D.py, D.alk, PySem.W.alike]; exact alks_py xs ys
    | _ => simp [D.py, D.alk, PySem.W.alike]
theorem alks_py : ∀ d e : List D, PySem.W.alikeAll (D.pys d) (D.pys e) = D.alks d e
  | [], e => by cases e <;> simp [D.pys, D.alks, PySem.W.alikeAll]
  | d :: ds, e => by
    cases e with
    | nil => simp [D.pys, D.alks, PySem.W.alikeAll]
    | cons e es => simp only [D.pys, D.alks, PySem.W.alikeAll, alk_py d e, alks_py ds es]
end
mutual
theorem lt_py : ∀ d e : D, D.alk d e = true → PySem.W.dataLt d.py e.py = D.lt d e
  | .non, e, h => by
    cases e with
    | non => simp only [D.py, D.lt]; rfl
    | _ => simp [D.alk] at h
  | .bl b, e, h => by
    cases e with
    | bl c => simp only [D.py, D.lt, PySem.W.dataLt_bool]; cases b <;> cases c <;> rfl
    | _ => simp [D.alk] at h
  | .int i, e, h => by
    cases e with
    | int j => simp only [D.py, D.lt, PySem.W.dataLt_int]
    | _ => simp [D.alk] at h
  | .str x, e, h => by
    cases e with
    | str y => simp only [D.py, D.lt, PySem.W.dataLt_str]
    | _ => simp [D.alk] at h
  | .lst xs, e, h => by
    cases e with
    | lst ys => simp only [D.py, D.lt, PySem.W.dataLt_list]; exact lts_py xs ys (by simpa [D.alk] using h)
    | _ => simp [D.alk] at h
  | .tup xs, e, h => by
    cases e with
    | tup ys => simp only [D.py, D.lt, PySem.W.dataLt_tuple]; exact lts_py xs ys (by simpa [D.alk] using h)
    | _ => simp [D.alk] at h
theorem lts_py : ∀ d e : List D, D.alks d e = true → PyProof.Rows.lexLt PyProof.Rows.itemOrd (PySem.W.keyToksAll (D.pys d)) (PySem.W.keyToksAll (D.pys e)) = D.lts d e
  | [], [], _ => by simp only [D.pys, D.lts]; rfl
  | [], e :: es, _ => by
    simp only [D.pys, D.lts, PySem.W.keyToksAll]
    rfl
  | d :: ds, [], _ => by
    simp only [D.pys, D.lts, PySem.W.keyToksAll]
    rfl
  | d :: ds, e :: es, h => by
    have h : D.alk d e = true ∧ D.alks ds es = true := by simpa [D.alks] using h
    have h1 : PySem.W.alike d.py e.py = true := by rw [alk_py]; exact h.1
    simp only [D.pys, D.lts]
    rw [PySem.W.dataLt_cons h1, eqv_py, lts_py ds es h.2, lt_py d e h.1]
end
def rLtD (K : Fg) : R2 := fun x y H Q => ∃ d e, Dp K H x d ∧ Dp K H y e ∧ SeqAt.shaped d = true ∧ SeqAt.shaped e = true ∧ PySem.W.alike d e = true ∧ d ≠ .none ∧ Q (.bl (PySem.W.dataLt d e)) H
theorem op_ltD {τ : TZ} {X : Cx} (hu : X.A.units + 64 < cLine) : OpR X (compareOp .Lt) (rLtD (kwOf τ X)) := by
  intro pins s σ H x y v u Q I rx ry h
  obtain ⟨d, e, hd, he, sd, se, ha, hn, q⟩ := h
  obtain ⟨as, r1⟩ := Dp.reads I d x v hd rx
  obtain ⟨bs, r2⟩ := Dp.reads I e y u he ry
  exact PySem.W.lt_data r1 r2 ha hn (SeqAt.room_of_shaped sd hu) ⟨.bl _, H, I, rfl, q⟩
def rLtA (K : Fg) : R2 := fun x y H Q => (rI0 fun i j => .bl (decide (i < j))) x y H Q ∨ (∃ i j, x = .str i ∧ y = .str j ∧ Q (.bl (decide (i.cps.toList < j.cps.toList))) H) ∨ rLtD K x y H Q
theorem op_ltA {τ : TZ} {X : Cx} (hu : X.A.units + 64 < cLine) : OpR X (compareOp .Lt) (rLtA (kwOf τ X)) := OpR.or op_lt (OpR.or op_lt_str (op_ltD hu))
theorem os_lt {K : Fg} : OpS K (fun x y S => (opC .lt x y S).map fun k => (.bl k, S)) (rLtA K) := by
  intro μ H S x y w S' vx vy Q s rx ry h a
  simp only [opC, Option.map_eq_some_iff] at h
  obtain ⟨k, h1, h2⟩ := h
  cases h2
  split at h1
  · cases rx
    cases ry
    cases h1
    exact .inl ⟨_, _, rfl, rfl, a.now s (.bl _)⟩
  · cases rx with
    | str x _ e =>
      cases ry with
      | str y _ e' =>
        subst e e'
        cases h1
        exact .inr (.inl ⟨_, _, rfl, rfl, a.now s (.bl _)⟩)
  · split at h1
    · rename_i d e d1 e1
      split at h1
      · rename_i hal
        cases h1
        refine .inr (.inr ⟨d.py, e.py, dat_dp s 60 _ _ _ d1 rx, dat_dp s 60 _ _ _ e1 ry, dat_shaped (Nat.le_refl _) d1, dat_shaped (Nat.le_refl _) e1, by rw [alk_py]; exact hal, ?_, ?_⟩)
        · simp only [dat, Option.map_eq_some_iff] at d1
          obtain ⟨ds, _, q⟩ := d1
          subst q
          simp [D.py]
        · rw [lt_py d e hal]
          exact a.now s (.bl _)
      · cases h1
    · cases h1
  · cases h1
def rLeA : R2 := fun x y H Q => (rI0 fun i j => .bl (decide (i ≤ j))) x y H Q ∨ ∃ i j, x = .str i ∧ y = .str j ∧ Q (.bl (!decide (j.cps.toList < i.cps.toList))) H
theorem os_gt {K : Fg} : OpS K (fun x y S => (opC .gt x y S).map fun k => (.bl k, S)) (rI0 fun i j => .bl (decide (j < i))) := by
  intro μ H S x y w S' vx vy Q s rx ry h a
  simp only [opC, Option.map_eq_some_iff] at h
  obtain ⟨k, h1, h2⟩ := h
  cases h2
  split at h1
  · cases rx
    cases ry
    cases h1
    exact ⟨_, _, rfl, rfl, a.now s (.bl _)⟩
  · cases h1
theorem os_ge {K : Fg} : OpS K (fun x y S => (opC .ge x y S).map fun k => (.bl k, S)) (rI0 fun i j => .bl (decide (j ≤ i))) := by
  intro μ H S x y w S' vx vy Q s rx ry h a
  simp only [opC, Option.map_eq_some_iff] at h
  obtain ⟨k, h1, h2⟩ := h
  cases h2
  split at h1
  · cases rx
    cases ry
    cases h1
    exact ⟨_, _, rfl, rfl, a.now s (.bl _)⟩
  · cases h1
def rInT (K : Fg) : R2 := fun x y H Q => ∃ d ds, Dp K H x d ∧ Dp K H y (.tuple ds) ∧ SeqAt.shaped d = true ∧ SeqAt.shaped (.tuple ds) = true ∧ Q (.bl (ds.any fun z => PyData.eqv z d)) H
def rNotInT (K : Fg) : R2 := fun x y H Q => ∃ d ds, Dp K H x d ∧ Dp K H y (.tuple ds) ∧ SeqAt.shaped d = true ∧ SeqAt.shaped (.tuple ds) = true ∧ Q (.bl (!ds.any fun z => PyData.eqv z d)) H
theorem op_inT {τ : TZ} {X : Cx} (hu : X.A.units + 65 < cLine) : OpR X (compareOp .In) (rInT (kwOf τ X)) := by
  intro ps st σ J a b v u R I ra rb h
  obtain ⟨d, ds, hd, he, sd, se, q⟩ := h
  obtain ⟨l1, r1⟩ := Dp.reads I d a v hd ra
  obtain ⟨l2, r2⟩ := Dp.reads I (.tuple ds) b u he rb
  exact SeqAt.in_tuple_reads r2 r1 (SeqAt.canLay_of_shaped se) (SeqAt.canLay_of_shaped sd) (room_in_shaped sd hu) ⟨.bl _, J, I, rfl, q⟩
theorem op_notInT {τ : TZ} {X : Cx} (hu : X.A.units + 65 < cLine) : OpR X (compareOp .NotIn) (rNotInT (kwOf τ X)) := by
  intro ps st σ J a b v u R I ra rb h
  obtain ⟨d, ds, hd, he, sd, se, q⟩ := h
  obtain ⟨l1, r1⟩ := Dp.reads I d a v hd ra
  obtain ⟨l2, r2⟩ := Dp.reads I (.tuple ds) b u he rb
  exact SeqAt.notIn_tuple_reads r2 r1 (SeqAt.canLay_of_shaped se) (SeqAt.canLay_of_shaped sd) (room_in_shaped sd hu) ⟨.bl _, J, I, rfl, q⟩
def rInA (K : Fg) : R2 := fun x y H Q => (∃ (c : Nat) (z : Str), x = .str ⟨#[c]⟩ ∧ y = .str z ∧ Q (.bl (decide (c ∈ z.cps.toList))) H) ∨ rInD K x y H Q ∨ rInT K x y H Q
def rNotInA (K : Fg) : R2 := fun x y H Q => (∃ (c : Nat) (z : Str), x = .str ⟨#[c]⟩ ∧ y = .str z ∧ Q (.bl (!decide (c ∈ z.cps.toList))) H) ∨ rNotInD K x y H Q ∨ rNotInT K x y H Q
theorem op_inA {τ : TZ} {X : Cx} (hu : X.A.units + 65 < cLine) : OpR X (compareOp .In) (rInA (kwOf τ X)) := OpR.or op_in_sign (OpR.or (op_inD hu) (op_inT hu))
theorem op_notInA {τ : TZ} {X : Cx} (hu : X.A.units + 65 < cLine) : OpR X (compareOp .NotIn) (rNotInA (kwOf τ X)) := OpR.or op_notIn_sign (OpR.or (op_notInD hu) (op_notInT hu))
theorem inW_ok {K : Fg} {μ : List Addr} {H : Hp} {S : Sto} {x y : W} {vx vy : V} {k : Bool} (s : SR K μ H S) (rx : VW K μ H vx x) (ry : VW K μ H vy y) (h : inW S x y = some k) :
    (∃ (c : Nat) (z : Str), vx = .str ⟨#[c]⟩ ∧ vy = .str z ∧ decide (c ∈ z.cps.toList) = k) ∨
      (∃ d ds, Dp K H vx d ∧ Dp K H vy (.list ds) ∧ SeqAt.shaped d = true ∧ SeqAt.shaped (.list ds) = true ∧ (ds.any fun z => PyData.eqv z d) = k) ∨
      ∃ d ds, Dp K H vx d ∧ Dp K H vy (.tuple ds) ∧ SeqAt.shaped d = true ∧ SeqAt.shaped (.tuple ds) = true ∧ (ds.any fun z => PyData.eqv z d) = k := by
  unfold inW at h
  split at h
  · split at h
    · cases h
      cases ry with
      | str z _ e =>
        cases rx with
        | str q _ e2 =>
          refine .inl ⟨_, z, ?_, rfl, by rw [e]⟩
          rw [str_eta e2]
    · cases h
  · rename_i j
    split at h
    · rename_i d ys h1 h2
      split at h
      · rename_i ds h3
        cases h
        cases ry with
        | ref hk hkl =>
          obtain ⟨vs, q, t⟩ := s.rd hk h2
          have h4 : dat S 60 (.ref j) = some (.lst ds) := by
            simp only [dat, h2, h3]
            rfl
          refine .inr (.inl ⟨d.py, D.pys ds, dat_dp s 60 _ _ _ h1 rx, .lst q (dats_dp (fun v w d a b => dat_dp s 59 v w d a b) h3 t), dat_shaped (Nat.le_refl _) h1, dat_shaped (d := .lst ds) (Nat.le_refl _) h4, any_pys d ds⟩)
      · cases h
    · cases h
  · rename_i ys
    split at h
    · rename_i d ds h1 h3
      cases h
      have h4 : dat S 60 (.tup ys) = some (.tup ds) := by
        simp only [dat, h3]
        rfl
      exact .inr (.inr ⟨d.py, D.pys ds, dat_dp s 60 _ _ _ h1 rx, dat_dp s 60 _ _ _ h4 ry, dat_shaped (Nat.le_refl _) h1, dat_shaped (d := .tup ds) (Nat.le_refl _) h4, any_pys d ds⟩)
    · cases h
  · cases h
theorem os_in {K : Fg} : OpS K (fun x y S => (opC .isIn x y S).map fun k => (.bl k, S)) (rInA K) := by
  intro μ H S x y w S' vx vy Q s rx ry h a
  simp only [opC, Option.map_eq_some_iff] at h
  obtain ⟨k, h1, h2⟩ := h
  cases h2
  rcases inW_ok s rx ry h1 with ⟨c, z, q1, q2, q3⟩ | ⟨d, e, q1, q2, q3, q4, q5⟩ | ⟨d, e, q1, q2, q3, q4, q5⟩
  · subst q3
    exact .inl ⟨c, z, q1, q2, a.now s (.bl _)⟩
  · subst q5
    exact .inr (.inl ⟨d, e, q1, q2, q3, q4, a.now s (.bl _)⟩)
  · subst q5
    exact .inr (.inr ⟨d, e, q1, q2, q3, q4, a.now s (.bl _)⟩)
theorem os_notIn {K : Fg} : OpS K (fun x y S => (opC .notIn x y S).map fun k => (.bl k, S)) (rNotInA K) := by
  intro μ H S x y w S' vx vy Q s rx ry h a
  simp only [opC, Option.map_eq_some_iff] at h
  obtain ⟨k, ⟨k0, h1, h3⟩, h2⟩ := h
  cases h2
  subst h3
  rcases inW_ok s rx ry h1 with ⟨c, z, q1, q2, q3⟩ | ⟨d, e, q1, q2, q3, q4, q5⟩ | ⟨d, e, q1, q2, q3, q4, q5⟩
  · subst q3
    exact .inl ⟨c, z, q1, q2, a.now s (.bl _)⟩
  · subst q5
    exact .inr (.inl ⟨d, e, q1, q2, q3, q4, a.now s (.bl _)⟩)
  · subst q5
    exact .inr (.inr ⟨d, e, q1, q2, q3, q4, a.now s (.bl _)⟩)

/-! ### arithmetic, + and * of sequences -/
def rAddA (K : Fg) : R2 := fun x y H Q => (rI0 fun i j => .int (i + j)) x y H Q ∨ (∃ i j, x = .str i ∧ y = .str j ∧ i.length + j.length ≤ sizeLine ∧ Q (.str (i ++ j)) H) ∨ rCatA K x y H Q ∨ rCat x y H Q
theorem op_addA {τ : TZ} {X : Cx} : OpR X (binaryOp .Add) (rAddA (kwOf τ X)) := OpR.or op_add (OpR.or op_add_str (OpR.or op_catA op_cat))
theorem os_add {K : Fg} : OpS K (opB .add) (rAddA K) := by
  intro μ H S x y w S' vx vy Q s rx ry h a
  cases x <;> cases y <;> simp only [opB] at h <;> try (cases h; done)
  · cases rx
    cases ry
    cases h
    exact .inl ⟨_, _, rfl, rfl, a.now s (.int _)⟩
  · cases rx with
    | str x _ e =>
      cases ry with
      | str y _ e' =>
        split at h
        · rename_i hl
          cases h
          refine .inr (.inl ⟨x, y, rfl, rfl, ?_, a.now s (.str _ _ ?_)⟩)
          · rw [str_len e, str_len e']
            exact lim_ok hl
          · rw [cps_toList_append, e, e']
        · cases h
  · cases rx with
    | tup q t =>
      cases ry with
      | tup q' t' =>
        split at h
        · rename_i hl
          cases h
          refine .inr (.inr (.inl ⟨_, _, _, _, rfl, rfl, q, q', ?_, fun e => ?_, fun _ e => ?_, fun _ _ => ?_⟩))
          · rw [t.length, t'.length]
            exact lim_ok hl
          · subst e
            cases t
            exact a.now s (.tup q' t')
          · subst e
            cases t'
            rw [List.append_nil] at a
            exact a.now s (.tup q t)
          · exact a.tup s (t.append t')
        · cases h
  · split at h
    · rename_i xs ys h1 h2
      cases rx with
      | ref hk hkl =>
        cases ry with
        | ref hj =>
          obtain ⟨_, vs, q1, t1⟩ := s.rm hk h1
          obtain ⟨_, us, q2, t2⟩ := s.rm hj h2
          obtain ⟨b1, b2⟩ := a.new s (t1.append t2) h
          rw [List.length_append] at b1
          exact .inr (.inr (.inr ⟨_, _, _, _, rfl, rfl, q1, q2, b1, b2⟩))
    · cases h
theorem os_sub {K : Fg} : OpS K (opB .sub) (rI0 fun i j => .int (i - j)) := by
  intro μ H S x y w S' vx vy Q s rx ry h a
  cases x <;> cases y <;> simp only [opB] at h <;> try (cases h; done)
  cases rx
  cases ry
  cases h
  exact ⟨_, _, rfl, rfl, a.now s (.int _)⟩
theorem os_fdiv {K : Fg} : OpS K (opB .fdiv) (rI CDiv fun i j => .int (i / j)) := by
  intro μ H S x y w S' vx vy Q s rx ry h a
  cases x <;> cases y <;> simp only [opB] at h <;> try (cases h; done)
  cases rx
  cases ry
  split at h
  · rename_i hc
    cases h
    exact ⟨_, _, rfl, rfl, hc, a.now s (.int _)⟩
  · cases h
theorem os_mod {K : Fg} : OpS K (opB .mod) (rI (fun _ j => 0 < j) fun i j => .int (i % j)) := by
  intro μ H S x y w S' vx vy Q s rx ry h a
  cases x <;> cases y <;> simp only [opB] at h <;> try (cases h; done)
  cases rx
  cases ry
  split at h
  · rename_i hc
    cases h
    exact ⟨_, _, rfl, rfl, hc, a.now s (.int _)⟩
  · cases h
theorem os_pow {K : Fg} : OpS K (opB .pow) (rI CPow fun i j => .int (i ^ j.toNat)) := by
  intro μ H S x y w S' vx vy Q s rx ry h a
  cases x <;> cases y <;> simp only [opB] at h <;> try (cases h; done)
  cases rx
  cases ry
  split at h
  · rename_i hc
    cases h
    exact ⟨_, _, rfl, rfl, hc, a.now s (.int _)⟩
  · cases h
/-- text * int -/
theorem op_mul_str {X : Cx} : OpR X (binaryOp .Mult) (fun x y H Q => ∃ (i : Str) (j : Int), x = .str i ∧ y = .int j ∧ (j ≤ 1000000 ∧ -1000000 ≤ j ∧ i.length * j.toNat ≤ sizeLine) ∧ ∀ z : Str, z.cps.toList = (List.replicate j.toNat i.cps.toList).flatten → Q (.str z) H) := by
  intro pins s σ H x y v u Q I rx ry h
  obtain ⟨i, j, rfl, rfl, ⟨h1, h2, h3⟩, q⟩ := h
  obtain ⟨t, rfl⟩ := rx
  obtain ⟨t', rfl⟩ := ry
  have big : ∀ (l : List Nat) (n : Nat) (acc : Array Nat) (b : Array Nat), b.toList = l → ((List.replicate n b).foldl (· ++ ·) acc).toList = acc.toList ++ (List.replicate n l).flatten := by
    intro l n
    induction n with
    | zero => intro acc b e; simp
    | succ n ih =>
      intro acc b e
      rw [List.replicate_succ, List.replicate_succ, List.foldl_cons, List.flatten_cons, ih (acc ++ b) b e, Array.toList_append, e, List.append_assoc]
  refine SB.mul (n := j) ⟨?_, fun _ _ => ?_, fun _ _ => ?_⟩ fun t' k => ⟨.str (Txt.mul i j), H, I.tok _, ⟨_, rfl⟩, q _ ?_⟩
  · have e1 : ¬ j < -(2 ^ 63 : Int) := by omega
    have e2 : ¬ j ≥ 2 ^ 63 := by omega
    simp [e1, e2]
    omega
  · rename_i c1 c2
    intro c3
    have e1 : (2 ^ 63 - 1 : Int) / 1000000 ≤ (2 ^ 63 - 1) / j := by
      apply Int.le_ediv_of_mul_le (by omega)
      have : (2 ^ 63 - 1 : Int) / 1000000 = 9223372036854 := by decide
      rw [this]
      omega
    have e2 : i.length * 1 ≤ i.length * j.toNat := Nat.mul_le_mul_left _ (by omega)
    have e3 : (2 ^ 63 - 1 : Int) / 1000000 = 9223372036854 := by decide
    rw [e3] at e1
    have e4 := sizeLine_eq
    omega
  · unfold Builtin.Str.tooLong
    simpa using h3
  · unfold Txt.mul
    split
    · rename_i c
      have : j.toNat = 0 := by omega
      rw [this]
      rfl
    · split
      · rename_i c1 c2
        simp only [Bool.or_eq_true, beq_iff_eq] at c2
        rcases c2 with c2 | c2
        · subst c2
          simp
        · have e : i.cps.toList = [] := by
            have : i.cps.size = 0 := c2
            simpa using this
          rw [e]
          simp
      · rw [big i.cps.toList j.toNat #[] i.cps rfl]
        simp
/-! a tuple once, or not at all -/
theorem tuple_mul1 (l : Addr) (items : Array Value) (n : Nat) (dd : Option Addr) (sl : Array (Option Value)) (u : Tok) :
    Meets (Builtin.«tuple.__mul__» ⟨[.ref l, .int 1 u], []⟩) (fun _ R s => s.heap.get? l = some { cls := .type "tuple", dict := dd, data := .seq items n, slots := sl } ∧ R (.ok (.ret (.ref l))) s) :=
  .of_wp fun prog w A R s h => by
    obtain ⟨k1, k3⟩ := h
    have f1 := AutoSeq1.idx_int
    have f2 := AutoSeq1.sub_tuple_tuple
    wp_walk using AutoSeq1.wpAny_loadPart' k1
    exact ⟨_, rfl, k3⟩
theorem tuple_mul0 (l : Addr) (items : Array Value) (n : Nat) (dd : Option Addr) (sl : Array (Option Value)) (x : Int) (u : Tok) (c0 : ¬ (decide (x < -2 ^ 63) || decide (x ≥ 2 ^ 63)) = true) (c1 : ¬ (items.isEmpty || x == 1) = true) (c2 : (decide (x ≤ 0) || items.isEmpty) = true) :
    Meets (Builtin.«tuple.__mul__» ⟨[.ref l, .int x u], []⟩) (fun _ R s => s.heap.get? l = some { cls := .type "tuple", dict := dd, data := .seq items n, slots := sl } ∧ R (.ok (.ret (.ref s.heap.objs.size))) { s with heap := s.heap.push { cls := .type "tuple", data := .seq #[] } }) :=
  .of_wp fun prog w A R s h => by
    obtain ⟨k1, k3⟩ := h
    have f1 := AutoSeq1.idx_int
    have f2 := AutoSeq1.sub_tuple_tuple
    wp_walk using AutoSeq1.wpAny_loadPart' k1
    rw [if_neg c0]
    wp_walk using AutoSeq1.wpAny_loadPart' k1
    try rw [if_neg c1]
    try wp_walk using AutoSeq1.wpAny_loadPart' k1
    try rw [if_pos c2]
    try wp_walk using AutoSeq1.wpAny_loadPart' k1
    exact ⟨_, rfl, k3⟩
def rRep1 (K : Fg) : R2 := fun x y H Q => ∃ (l : Addr) (k : Int) (xs : List V), x = .ref l ∧ y = .int k ∧ SqT K H l xs ∧ xs ≠ [] ∧ (k = 1 ∧ Q (.ref l) H ∨ k ≤ 0 ∧ -1000 ≤ k ∧ ∀ p, H p = none → Q (.ref p) (upd H p (.tup [])))
theorem op_rep1 {τ : TZ} {X : Cx} : OpR X (binaryOp .Mult) (rRep1 (kwOf τ X)) := by
  intro pins s σ H x y v u Q I rx ry h
  obtain ⟨l, k, xs, rfl, rfl, hT, hne, q⟩ := h
  cases rx
  obtain ⟨t, rfl⟩ := ry
  obtain ⟨its, r, ⟨o, ho, hc, n, hd⟩, hs⟩ := I.tuple hT
  obtain ⟨oc, dd, od, sl⟩ := o
  cases hc
  cases hd
  have hie : its.toArray.isEmpty = false := by
    cases its with
    | nil => cases r; exact absurd rfl hne
    | cons a b => rfl
  refine wpAny_binaryOp_repeat_ref (T := "tuple") (U := "int") (by decide) ⟨_, ho, rfl⟩ (fun s' => typeIs_int s' k t) noFill_tuple_mul F.fills_int_mul F.slot_int_rmul repeat_tuple F.slot_int_index.lookup
    (call_meets F.slot_int_rmul (typeIs_int s k t) F.entry_int_rmul (F.args_int_rmul_2 _ _) (int_rmul_tuple k t l its.toArray n dd sl) ⟨ho, ⟨rfl, ⟨_, ho, rfl⟩, ?_⟩⟩)
  rcases q with ⟨rfl, q⟩ | ⟨h1, h2, q⟩
  · exact call_meets F.slot_tuple_mul ⟨_, ho, rfl⟩ F.entry_tuple_mul (F.args_tuple_mul_2 _ _) (tuple_mul1 l its.toArray n dd sl t) ⟨ho, .ref l, H, I, rfl, q⟩
  · refine call_meets F.slot_tuple_mul ⟨_, ho, rfl⟩ F.entry_tuple_mul (F.args_tuple_mul_2 _ _) (tuple_mul0 l its.toArray n dd sl k t ?_ ?_ ?_) ⟨ho, .ref _, _, I.laid (o := .tup []) (fun b ob e => Heap.get?_push_of_some _ e) (Nat.le_refl _) ⟨by simp, [], .nil, IsTup.new s.heap #[]⟩, rfl, q _ (HOk.fresh I.hok (Nat.le_refl _))⟩
    · have e1 : ¬ k < -(2 ^ 63 : Int) := by omega
      have e2 : ¬ k ≥ 2 ^ 63 := by omega
      simp [e1, e2]
      omega
    · rw [hie]
      have : k ≠ 1 := by omega
      simp [this]
    · simp [h1]
/-- a tuple that is repeated twice or more, up to what a line may hold -/
def rRep2 (K : Fg) : R2 := fun x y H Q => ∃ (l : Addr) (k : Int) (xs : List V), x = .ref l ∧ y = .int k ∧ SqT K H l xs ∧ xs ≠ [] ∧ 2 ≤ k ∧ xs.length * k.toNat ≤ sizeLine ∧ ∀ p, H p = none → Q (.ref p) (upd H p (.tup (List.replicate k.toNat xs).flatten))
theorem op_rep2 {τ : TZ} {X : Cx} : OpR X (binaryOp .Mult) (rRep2 (kwOf τ X)) := by
  intro pins s σ H x y v u Q I rx ry h
  obtain ⟨l, k, xs, rfl, rfl, hT, hne, h1, hz, q⟩ := h
  cases rx
  obtain ⟨t, rfl⟩ := ry
  obtain ⟨its, r, ⟨o, ho, hc, n, hd⟩, hs⟩ := I.tuple hT
  obtain ⟨oc, dd, od, sl⟩ := o
  cases hc
  cases hd
  have hle : its.length = xs.length := r.length.symm
  have hpos : 1 ≤ xs.length := List.length_pos_iff.mpr hne
  have hi : its.toArray.isEmpty = false := by
    cases its with
    | nil => rw [← hle] at hpos; simp at hpos
    | cons a b => rfl
  rw [sizeLine_eq] at hz
  obtain ⟨m, rfl⟩ : ∃ m : Nat, k = (m : Int) := ⟨k.toNat, by omega⟩
  rw [Int.toNat_natCast] at hz
  have hm : m ≤ xs.length * m := Nat.le_mul_of_pos_left _ hpos
  have he : ((its.toArray.size : Nat) : Int) * (m : Int) = ((xs.length * m : Nat) : Int) := by
    rw [List.size_toArray, hle, Int.natCast_mul]
  have fl : (List.replicate m its).flatten.length ≤ sizeLine := by
    rw [PyProof.Rows.lm_len_rep_flat, hle, sizeLine_eq, Nat.mul_comm]
    omega
  have fl2 : (List.replicate m xs).flatten.length ≤ sizeLine := by
    rw [PyProof.Rows.lm_len_rep_flat, sizeLine_eq, Nat.mul_comm]
    omega
  have d0 : (decide ((m : Int) < -(2 ^ 63)) || decide ((m : Int) ≥ 2 ^ 63)) = false := by
    rw [decide_eq_false (by omega), decide_eq_false (by omega)] <;> rfl
  have d1 : (its.toArray.isEmpty || (m : Int) == 1) = false := by
    rw [hi, Bool.false_or]
    exact beq_eq_false_iff_ne.mpr (by omega)
  have d2 : (decide ((m : Int) ≤ 0) || its.toArray.isEmpty) = false := by
    rw [hi, Bool.or_false]
    exact decide_eq_false (by omega)
  have d4 : Builtin.Tuple.tupleTooMany (((its.toArray.size : Nat) : Int) * (m : Int)) = false := by
    unfold Builtin.Tuple.tupleTooMany
    rw [sizeLine_eq, he]
    exact decide_eq_false (by omega)
  refine wpAny_binaryOp_repeat_ref (T := "tuple") (U := "int") (by decide) ⟨_, ho, rfl⟩ (fun s' => typeIs_int s' _ t) noFill_tuple_mul F.fills_int_mul F.slot_int_rmul repeat_tuple F.slot_int_index.lookup
    (call_meets F.slot_int_rmul (typeIs_int s _ t) F.entry_int_rmul (F.args_int_rmul_2 _ _) (int_rmul_tuple _ t l its.toArray n dd sl) ⟨ho, ⟨rfl, ⟨_, ho, rfl⟩, ?_⟩⟩)
  refine call_meets F.slot_tuple_mul ⟨_, ho, rfl⟩ F.entry_tuple_mul (F.args_tuple_mul_2 _ _) (tuple_mulW l its.toArray n dd sl _ t d0 d1 d2 (by rw [he]; omega) d4 (by rw [Int.toNat_natCast, size_rep, List.size_toArray]; exact fl)) ⟨ho, ?_⟩
  rw [Int.toNat_natCast, size_rep]
  rw [Int.toNat_natCast] at q
  exact ⟨.ref s.heap.objs.size, _, I.laid (t' := s.toks) (o := .tup (List.replicate m xs).flatten) (fun b ob e => Heap.get?_push_of_some _ e) (Nat.le_refl _) ⟨fl2, _, r.rep m, IsTup.new _ _⟩, rfl, q _ (I.hok.fresh (Nat.le_refl _))⟩
def rMulA (K : Fg) : R2 := fun x y H Q => (rI CMul fun i j => .int (i * j)) x y H Q ∨ (∃ (i : Str) (j : Int), x = .str i ∧ y = .int j ∧ (j ≤ 1000000 ∧ -1000000 ≤ j ∧ i.length * j.toNat ≤ sizeLine) ∧ ∀ z : Str, z.cps.toList = (List.replicate j.toNat i.cps.toList).flatten → Q (.str z) H) ∨ rRep x y H Q ∨ rRep2 K x y H Q ∨ rRep1 K x y H Q
theorem op_mulA {τ : TZ} {X : Cx} : OpR X (binaryOp .Mult) (rMulA (kwOf τ X)) := OpR.or op_mul (OpR.or op_mul_str (OpR.or op_rep (OpR.or op_rep2 op_rep1)))
theorem os_mul {K : Fg} : OpS K (opB .mul) (rMulA K) := by
  intro μ H S x y w S' vx vy Q s rx ry h a
  cases x <;> cases y <;> simp only [opB] at h <;> try (cases h; done)
  · cases rx
    cases ry
    split at h
    · rename_i hc
      cases h
      exact .inl ⟨_, _, rfl, rfl, hc, a.now s (.int _)⟩
    · cases h
  · cases rx with
    | str x _ e =>
      cases ry
      split at h
      · rename_i hc
        cases h
        subst e
        refine .inr (.inl ⟨_, _, rfl, rfl, ⟨hc.1, hc.2.1, ?_⟩, fun z hz => a.now s (.str _ _ hz)⟩)
        rw [str_len rfl]
        exact lim_ok hc.2.2
      · cases h
  · cases rx with
    | tup q t =>
      cases ry
      split at h
      · rename_i hc
        cases h
        rename_i xs j ad vs
        have hne : vs ≠ [] := fun e => by
          subst e
          cases t
          exact absurd hc.1 (by simp)
        by_cases hj : 2 ≤ j
        · refine .inr (.inr (.inr (.inl ⟨_, _, _, rfl, rfl, q, hne, hj, ?_, a.tup s (t.rep _)⟩)))
          have := lim_ok hc.2.2
          rwa [t.length]
        · refine .inr (.inr (.inr (.inr ⟨_, _, _, rfl, rfl, q, hne, ?_⟩)))
          by_cases h1 : j = 1
          · subst h1
            refine .inl ⟨rfl, ?_⟩
            have e : (List.replicate (1 : Int).toNat xs).flatten = xs := by simp
            rw [e] at a
            exact a.now s (.tup q t)
          · refine .inr ⟨by omega, hc.2.1, ?_⟩
            have e : (List.replicate j.toNat xs).flatten = [] := by
              have : j.toNat = 0 := by omega
              rw [this]; rfl
            rw [e] at a
            exact a.tup s .nil
      · cases h
  · cases rx with
    | ref hk hkl =>
      cases ry
      split at h
      · rename_i xs h1
        split at h
        · rename_i hc
          obtain ⟨_, vs, q1, t1⟩ := s.rm hk h1
          obtain ⟨b1, b2⟩ := a.new s (t1.rep _) h
          refine .inr (.inr (.inl ⟨_, _, _, rfl, rfl, q1, by omega, by omega, ?_, b2⟩))
          rw [t1.length]
          exact lim_ok hc.2.2
        · cases h
      · cases h
end MP
namespace MP
open PySem PySem.Spec PyProof.Rows L2
theorem atI_eq {α : Type} (xs : List α) (i : Int) : L2.atI xs i = MP.atI xs i := rfl
theorem sIx_eq (n d : Nat) (o : Option Int) : HT.sIx n d o = MP.sIx n d o := by
  cases o with
  | none => rfl
  | some v => rfl
theorem VWs.cutt {K : Fg} {μ : List Addr} {H : Hp} {vs : List V} {ws : List W} (h : VWs K μ H vs ws) (lo hi : Option Int) : VWs K μ H (cutV vs lo hi) (cut ws lo hi) := by
  unfold cutV MP.cut
  rw [sIx_eq, sIx_eq, h.length]
  exact (h.drop _).take _
/-! ### subscripts, slices -/
theorem os_ix {K : Fg} : OpS K opIx (rIx K) := by
  intro μ H S x y w S' vx vy Q s rx ry h a
  unfold opIx at h
  split at h
  · rename_i z i
    cases rx with
    | str x _ e =>
      cases ry
      split at h
      · rename_i hl
        simp only [Option.map_eq_some_iff] at h
        obtain ⟨c, h1, h2⟩ := h
        cases h2
        refine .inr (.inr ⟨x, i, c, rfl, rfl, ?_, ?_, a.now s (.str _ _ rfl)⟩)
        · rw [str_len e]
          exact lim_ok hl
        · rw [e]
          exact h1
      · cases h
  · rename_i z i
    cases rx with
    | tup q t =>
      cases ry
      simp only [Option.map_eq_some_iff] at h
      obtain ⟨c, h1, h2⟩ := h
      cases h2
      unfold MP.atI at h1
      rw [Option.bind_eq_some_iff] at h1
      obtain ⟨j, h3, h4⟩ := h1
      obtain ⟨v, h5, h6⟩ := t.get h4
      refine .inr (.inl ⟨_, _, i, v, rfl, rfl, q, ?_, a.now s h6⟩)
      rw [atI_eq]
      unfold MP.atI
      rw [t.length, h3]
      exact h5
  · rename_i k i
    split at h
    · rename_i z hz
      cases rx with
      | ref hk hkl =>
        cases ry
        simp only [Option.map_eq_some_iff] at h
        obtain ⟨c, h1, h2⟩ := h
        cases h2
        obtain ⟨vs, q, t⟩ := s.rd hk hz
        unfold MP.atI at h1
        rw [Option.bind_eq_some_iff] at h1
        obtain ⟨j, h3, h4⟩ := h1
        obtain ⟨v, h5, h6⟩ := t.get h4
        refine .inl ⟨_, _, i, v, rfl, rfl, q, ?_, a.now s h6⟩
        rw [atI_eq]
        unfold MP.atI
        rw [t.length, h3]
        exact h5
    · cases h
  · cases h
def rSlAll (K : Fg) : V → Option Int → Option Int → Hp → VK → Prop := fun x lo hi H Q => rSlS x lo hi H Q ∨ rSlA K x lo hi H Q ∨ rSlL K x lo hi H Q
theorem sl_all {τ : TZ} {X : Cx} : SlR X (rSlAll (kwOf τ X)) := SlR.or sl_str (SlR.or sl_tupA sl_list)
theorem cut_all {α : Type} {xs : List α} {lo hi : Option Int} (h1 : MP.sIx xs.length 0 lo = 0) (h2 : MP.sIx xs.length xs.length hi = xs.length) : cut xs lo hi = xs := by
  unfold cut
  rw [h1, h2, List.drop_zero, Nat.sub_zero, List.take_length]
theorem ss_all {K : Fg} {μ : List Addr} {H : Hp} {S S' : Sto} {x w : W} {vx : V} {lo hi : Option Int} {Q : VK} (s : SR K μ H S) (rx : VW K μ H vx x) (e : opSl x lo hi S = some (w, S')) (a : Aft K μ H S' w Q) : rSlAll K vx lo hi H Q := by
  unfold opSl at e
  split at e
  · split at e
    · rename_i z hz
      cases e
      cases rx with
      | str x _ q =>
        refine .inl ⟨x, rfl, ?_, a.now s (.str _ _ ?_)⟩
        · rw [str_len q]
          exact lim_ok hz
        · unfold cutS MP.cut
          rw [sIx_eq, sIx_eq, str_len q, q]
    · cases e
  · rename_i z
    cases e
    cases rx with
    | tup q t =>
      refine .inr (.inl ⟨_, _, rfl, q, fun c => ?_, fun _ => a.tup s (t.cutt lo hi)⟩)
      rw [sIx_eq, sIx_eq, t.length] at c
      rw [cut_all c.1 c.2] at a
      exact a.now s (.tup q t)
  · split at e
    · rename_i k z hz
      cases rx with
      | ref hk hkl =>
        obtain ⟨vs, q, t⟩ := s.rd hk hz
        exact .inr (.inr ⟨_, _, rfl, q, (a.new s (t.cutt lo hi) e).2⟩)
    · cases e
  · cases rx with
    | rol q t => exact .inr (.inr ⟨_, _, rfl, q.sq, (a.new s (t.cutt lo hi) e).2⟩)
  · cases e
/-! ### calls of built-ins -/
def ClS (K : Fg) (f : List W → Sto → R) (r : List V → Hp → VK → Prop) : Prop := ∀ μ H S ws vs w S' Q, SR K μ H S → VWs K μ H vs ws → f ws S = some (w, S') → Aft K μ H S' w Q → r vs H Q
section
variable {K : Fg}
theorem VWs.one {μ : List Addr} {H : Hp} {vs : List V} {w : W} (h : VWs K μ H vs [w]) : ∃ v, vs = [v] ∧ VW K μ H v w := by
  cases h with
  | cons r t => cases t; exact ⟨_, rfl, r⟩
theorem VWs.two {μ : List Addr} {H : Hp} {vs : List V} {w u : W} (h : VWs K μ H vs [w, u]) : ∃ v v', vs = [v, v'] ∧ VW K μ H v w ∧ VW K μ H v' u := by
  cases h with
  | cons r t => cases t with | cons r' t' => cases t'; exact ⟨_, _, rfl, r, r'⟩
theorem cs_len : ClS K (opI .len) (fun xs H Q => ∃ x n, xs = [x] ∧ LenV K x H n ∧ Q (.int n) H) := by
  intro μ H S ws vs w S' Q s hv h a
  unfold opI at h
  split at h <;> try (cases h; done)
  all_goals rename_i hb; cases hb
  all_goals obtain ⟨v, rfl, r⟩ := hv.one
  · split at h
    · rename_i hl
      cases h
      cases r with
      | str x _ e =>
        refine ⟨_, _, rfl, ⟨?_, rfl⟩, ?_⟩
        · rw [str_len e]; exact lim_ok hl
        · rw [str_len e]; exact a.now s (.int _)
    · cases h
  · cases h
    cases r with
    | tup q t =>
      refine ⟨_, _, rfl, .inr ⟨_, q, rfl⟩, ?_⟩
      rw [t.length]; exact a.now s (.int _)
  · cases h
    cases r with
    | rol q t =>
      refine ⟨_, _, rfl, .inl ⟨_, q.sq, rfl⟩, ?_⟩
      rw [t.length]; exact a.now s (.int _)
  · simp only [Option.map_eq_some_iff] at h
    obtain ⟨z, h1, h2⟩ := h
    cases h2
    cases r with
    | ref hk hkl =>
      obtain ⟨vs, q, t⟩ := s.rd hk h1
      refine ⟨_, _, rfl, .inl ⟨_, q, rfl⟩, ?_⟩
      rw [t.length]; exact a.now s (.int _)
theorem cs_abs : ClS K (opI .abs) (fun xs H Q => ∃ i, xs = [.int i] ∧ Q (.int (if i < 0 then -i else i)) H) := by
  intro μ H S ws vs w S' Q s hv h a
  unfold opI at h
  split at h <;> try (cases h; done)
  all_goals rename_i hb; cases hb
  all_goals obtain ⟨v, rfl, r⟩ := hv.one
  cases h
  cases r
  exact ⟨_, rfl, a.now s (.int _)⟩
theorem cs_tuple : ClS K (opI .tuple) (fun xs H Q => ∃ p ys, xs = [.ref p] ∧ ((SqL K H p ys ∧ ∀ l, H l = none → Q (.ref l) (upd H l (.tup ys))) ∨ (SqT K H p ys ∧ Q (.ref p) H))) := by
  intro μ H S ws vs w S' Q s hv h a
  unfold opI at h
  split at h <;> try (cases h; done)
  all_goals rename_i hb; cases hb
  all_goals obtain ⟨v, rfl, r⟩ := hv.one
  · simp only [Option.map_eq_some_iff] at h
    obtain ⟨z, h1, h2⟩ := h
    cases h2
    cases r with
    | ref hk hkl =>
      obtain ⟨vs, q, t⟩ := s.rd hk h1
      exact ⟨_, _, rfl, .inl ⟨q, a.tup s t⟩⟩
  · cases h
    cases r with
    | tup q t => exact ⟨_, _, rfl, .inr ⟨q, a.now s (.tup q t)⟩⟩
theorem cs_list : ClS K (opI .list) (fun xs H Q => ∃ p ys, xs = [.ref p] ∧ (SqL K H p ys ∨ SqT K H p ys) ∧ ∀ l, H l = none → Q (.ref l) (upd H l (.lst ys))) := by
  intro μ H S ws vs w S' Q s hv h a
  unfold opI at h
  split at h <;> try (cases h; done)
  all_goals rename_i hb; cases hb
  all_goals obtain ⟨v, rfl, r⟩ := hv.one
  · split at h
    · rename_i z h1
      cases r with
      | ref hk hkl =>
        obtain ⟨vs, q, t⟩ := s.rd hk h1
        exact ⟨_, _, rfl, .inl q, (a.new s t h).2⟩
    · cases h
  · cases r with
    | tup q t => exact ⟨_, _, rfl, .inr q, (a.new s t h).2⟩
end
/-! ### isinstance -/
def tyN : Nat → String
  | 0 => "str" | 1 => "int" | 2 => "bool" | 3 => "tuple" | _ => "list"
def wTy : W → String
  | .non => "NoneType" | .bl _ => "bool" | .int _ => "int" | .str _ => "str" | .tup _ => "tuple" | .ref _ => "list" | .rol _ => "list" | .fn _ => "function" | .dic _ => "dict" | .exc _ _ => "dict" | .dref _ => "dict" | .oref _ => "dict" | .gref _ => "dict" | .ntup _ => "dict" | .lref _ => "dict"
theorem tyX_ok {K : Fg} {μ : List Addr} {H : Hp} {S : Sto} {v : V} {w : W} (s : SR K μ H S) (r : VW K μ H v w) (hf : isFn w = false) : TyX K H v (.type (wTy w)) := by
  cases r with
  | fn x l e q => cases hf
  | dic q t => exact .fDict q
  | non => exact .base .non
  | bl b => exact .base (.bl b)
  | int i => exact .base (.int i)
  | str x l e => exact .base (.str x)
  | tup q t =>
    rcases q with (q | ⟨o, q⟩) | ⟨o, its, n, h1, h2, _⟩
    · exact .base (.tup q)
    · exact .fTuple q
    · exact .kTuple h1 h2
  | ref hk hkl => obtain ⟨vs, e⟩ := hkl; exact .base (.lst e)
  | dref hk hkl => cases hf
  | oref hk hkl => cases hf
  | gref hk hkl => cases hf
  | lref hk hkl => cases hf
  | ntup _ _ _ _ => cases hf
  | rol q t =>
    rcases q with ⟨o, q⟩ | ⟨o, its, n, h1, h2, _⟩
    · exact .base (.frz q)
    · exact .kList h1 h2
theorem kit_all (w : W) (t : Nat) (ht : t < 5) : kitB (wTy w) (tyN t) = some (isT t w) := by
  have : t = 0 ∨ t = 1 ∨ t = 2 ∨ t = 3 ∨ t = 4 := by omega
  rcases this with h | h | h | h | h <;> subst h <;> cases w <;> (simp only [wTy, tyN, isT]; decide +kernel)
theorem isi_ok {K : Fg} {μ : List Addr} {H : Hp} {S : Sto} {v : V} {w : W} {t : Nat} {Q : VK} (ht : t < 5) (s : SR K μ H S) (r : VW K μ H v w) (hf : isFn w = false) (a : Aft K μ H S (.bl (isT t w)) Q) : rIsi K [v, .ty (tyN t)] H Q :=
  ⟨_, _, _, _, _, rfl, .ty _, tyX_ok s r hf, kit_ty (kit_all w t ht), a.now s (.bl _)⟩
/-! ### join -/
def rJoin (K : Fg) : V → List V → Hp → VK → Prop := fun x xs H Q => ∃ a p, ∃ ys : List Str, x = .str a ∧ xs = [.ref p] ∧ (SqL K H p (ys.map V.str) ∨ SqT K H p (ys.map V.str)) ∧
    (ys.map (·.length)).sum + ys.length * a.length ≤ 16777216 ∧ Q (.str (Txt.join a ys)) H
/-! ### truth -/
end MP
namespace MP
open PySem PySem.Spec PyProof.Rows L2
/-! ### readings -/
def tD (K : Fg) (Φ : Fns) (c : CE) : TE := fun σ H Q => ∃ μ env S w S', SR K μ H S ∧ ER K μ H σ env ∧ ev Φ c env S = some (w, S') ∧ Aft K μ H S' w Q
def AftA (K : Fg) (μ : List Addr) (H : Hp) (S' : Sto) (ws : List W) (Q : List V → Hp → Prop) : Prop := ∀ vs μ' H', Ex K μ H μ' H' → SR K μ' H' S' → VWs K μ' H' vs ws → Q vs H'
def tDA (K : Fg) (Φ : Fns) (c : CEs) : TA := fun σ H Q => ∃ μ env S ws S', SR K μ H S ∧ ER K μ H σ env ∧ evs Φ c env S = some (ws, S') ∧ AftA K μ H S' ws Q
def tDT (K : Fg) (Φ : Fns) (c : CE) : TT := fun σ H Q => ∃ μ env S k S', SR K μ H S ∧ ER K μ H σ env ∧ ev Φ c env S = some (.bl k, S') ∧ ∀ μ' H', Ex K μ H μ' H' → SR K μ' H' S' → Q k H'
abbrev DE (τ : TZ) (X : Cx) (Φ : Fns) (e : Expr) (c : CE) : Prop := PE X e (tD (kwOf τ X) Φ c)
abbrev DA (τ : TZ) (X : Cx) (Φ : Fns) (e : List Expr) (c : CEs) : Prop := PA X e (tDA (kwOf τ X) Φ c)
abbrev DT (τ : TZ) (X : Cx) (Φ : Fns) (e : Expr) (c : CE) : Prop := PT X e (tDT (kwOf τ X) Φ c)
abbrev DW (τ : TZ) (X : Cx) (Φ : Fns) (e : Expr) (c : CE) : Prop := PW X e (tDT (kwOf τ X) Φ c)
section
variable {τ : TZ} {X : Cx}
theorem peW {e : Expr} {t t' : TE} (h : PE X e t) (i : ∀ σ H Q, t' σ H Q → t σ H Q) : PE X e t' := ⟨fun pins s σ H Q I q => h.run pins s σ H Q I (i σ H Q q)⟩
theorem paW {e : List Expr} {t t' : TA} (h : PA X e t) (i : ∀ σ H Q, t' σ H Q → t σ H Q) : PA X e t' := ⟨fun pos pins s σ H Q I q => h.run pos pins s σ H Q I (i σ H Q q)⟩
theorem ptW {e : Expr} {t t' : TT} (h : PT X e t) (i : ∀ σ H Q, t' σ H Q → t σ H Q) : PT X e t' := ⟨fun pins s σ H Q I q => h.run pins s σ H Q I (i σ H Q q)⟩
theorem pwW {e : Expr} {t t' : TT} (h : PW X e t) (i : ∀ σ H Q, t' σ H Q → t σ H Q) : PW X e t' := ⟨fun wh pins s σ H Q I q => h.run wh pins s σ H Q I (i σ H Q q)⟩
variable {Φ : Fns} {a b d e : Expr} {es : List Expr} {ca cb cd ce : CE} {cs : CEs} {pos : Pos}
/-! ### names, constants -/
theorem tVar_of {i : Nat} {σ : L2.St} {H : Hp} {Q : VK} (h : tD (kwOf τ X) Φ (.var i) σ H Q) : tVar i σ H Q := by
  obtain ⟨μ, env, S, w, S', s, er, h1, h2⟩ := h
  simp only [ev] at h1
  split at h1
  · rename_i w' hw
    cases h1
    obtain ⟨v, q1, q2⟩ := er.2 i w hw
    exact ⟨v, q1, h2.now s q2⟩
  · cases h1
theorem de_var (i : Nat) {x : Str} (hN : X.N[i]? = some x := by rfl) (hv : Vis X.env.scope x := by first | exact Or.inl rfl | exact Or.inr (Or.inl rfl) | exact Or.inr (Or.inr rfl)) (hd : (x == ("__debug__" : Str)) = false := by decide) (hcd : (x == ("__classdict__" : Str)) = false := by decide) : DE τ X Φ (.Name x pos) (.var i) :=
  peW (pe_var hN hv hd hcd) fun _ _ _ h => tVar_of h
theorem tC_of {v : V} {w : W} (r : ∀ μ H, VW (kwOf τ X) μ H v w) {σ : L2.St} {H : Hp} {Q : VK} (h : tD (kwOf τ X) Φ (.c w) σ H Q) : tC v σ H Q := by
  obtain ⟨μ, env, S, w', S', s, er, h1, h2⟩ := h
  simp only [ev] at h1
  cases h1
  exact h2.now s (r _ _)
theorem de_int {i j} : DE τ X Φ (.Constant (.int i) j pos) (.c (.int i)) := peW pe_int fun _ _ _ h => tC_of (fun _ _ => .int i) h
theorem de_bl {i j} : DE τ X Φ (.Constant (.bool i) j pos) (.c (.bl i)) := peW pe_bl fun _ _ _ h => tC_of (fun _ _ => .bl i) h
theorem de_non {j} : DE τ X Φ (.Constant .none j pos) (.c .non) := peW pe_non fun _ _ _ h => tC_of (fun _ _ => .non) h
theorem de_str {x : Str} {l : List Nat} {j} (e : x.cps.toList = l := by decide +kernel) : DE τ X Φ (.Constant (.str x) j pos) (.c (.str l)) := peW pe_str fun _ _ _ h => tC_of (fun _ _ => .str x l e) h
/-! ### operators -/
theorem tOp_of {r : R2} {f : W → W → Sto → R} {c : CE} (hs : OpS (kwOf τ X) f r) (he : ∀ env S w S', ev Φ c env S = some (w, S') → ∃ x S1 y S2, ev Φ ca env S = some (x, S1) ∧ ev Φ cb env S1 = some (y, S2) ∧ f x y S2 = some (w, S')) {σ : L2.St} {H : Hp} {Q : VK} (h : tD (kwOf τ X) Φ c σ H Q) :
    tOp r (tD (kwOf τ X) Φ ca) (tD (kwOf τ X) Φ cb) σ H Q := by
  obtain ⟨μ, env, S, w, S', s, er, h1, h2⟩ := h
  obtain ⟨x, S1, y, S2, e1, e2, e3⟩ := he _ _ _ _ h1
  refine ⟨μ, env, S, x, S1, s, er, e1, fun vx μ1 H1 x1 s1 r1 => ⟨μ1, env, S1, y, S2, s1, er.mono x1, e2, fun vy μ2 H2 x2 s2 r2 => ?_⟩⟩
  exact hs μ2 H2 S2 x y w S' vx vy Q s2 (r1.mono x2) r2 e3 (h2.mono (x1.trans x2))
theorem ev_bin {o : BO} {env : Env} {S S' : Sto} {w : W} (h : ev Φ (.bin o ca cb) env S = some (w, S')) : ∃ x S1 y S2, ev Φ ca env S = some (x, S1) ∧ ev Φ cb env S1 = some (y, S2) ∧ opB o x y S2 = some (w, S') := by
  simp only [ev] at h
  split at h
  · rename_i x S1 h1
    split at h
    · rename_i y S2 h2
      exact ⟨x, S1, y, S2, h1, h2, h⟩
    · cases h
  · cases h
theorem ev_cmp {o : CO} {env : Env} {S S' : Sto} {w : W} (h : ev Φ (.cmp o ca cb) env S = some (w, S')) : ∃ x S1 y S2, ev Φ ca env S = some (x, S1) ∧ ev Φ cb env S1 = some (y, S2) ∧ (fun x y S => (opC o x y S).map fun k => ((.bl k : W), S)) x y S2 = some (w, S') := by
  simp only [ev] at h
  split at h
  · rename_i x S1 h1
    split at h
    · rename_i y S2 h2
      exact ⟨x, S1, y, S2, h1, h2, h⟩
    · cases h
  · cases h
theorem ev_ix {env : Env} {S S' : Sto} {w : W} (h : ev Φ (.ix ca cb) env S = some (w, S')) : ∃ x S1 y S2, ev Φ ca env S = some (x, S1) ∧ ev Φ cb env S1 = some (y, S2) ∧ opIx x y S2 = some (w, S') := by
  simp only [ev] at h
  split at h
  · rename_i x S1 h1
    split at h
    · rename_i y S2 h2
      exact ⟨x, S1, y, S2, h1, h2, h⟩
    · cases h
  · cases h
theorem de_bin {op : Operator} {o : BO} {r : R2} (ho : OpR X (binaryOp op) r) (hs : OpS (kwOf τ X) (opB o) r) (ha : DE τ X Φ a ca) (hb : DE τ X Φ b cb) : DE τ X Φ (.BinOp a op b pos) (.bin o ca cb) :=
  peW (pe_op ho ha hb) fun _ _ _ h => tOp_of hs (fun _ _ _ _ q => ev_bin q) h
theorem de_add (ha : DE τ X Φ a ca) (hb : DE τ X Φ b cb) : DE τ X Φ (.BinOp a .Add b pos) (.bin .add ca cb) := de_bin op_addA os_add ha hb
theorem de_sub (ha : DE τ X Φ a ca) (hb : DE τ X Φ b cb) : DE τ X Φ (.BinOp a .Sub b pos) (.bin .sub ca cb) := de_bin op_sub os_sub ha hb
theorem de_mul (ha : DE τ X Φ a ca) (hb : DE τ X Φ b cb) : DE τ X Φ (.BinOp a .Mult b pos) (.bin .mul ca cb) := de_bin op_mulA os_mul ha hb
theorem de_fdiv (ha : DE τ X Φ a ca) (hb : DE τ X Φ b cb) : DE τ X Φ (.BinOp a .FloorDiv b pos) (.bin .fdiv ca cb) := de_bin op_fdiv os_fdiv ha hb
theorem de_mod (ha : DE τ X Φ a ca) (hb : DE τ X Φ b cb) : DE τ X Φ (.BinOp a .Mod b pos) (.bin .mod ca cb) := de_bin op_mod os_mod ha hb
theorem de_pow (ha : DE τ X Φ a ca) (hb : DE τ X Φ b cb) : DE τ X Φ (.BinOp a .Pow b pos) (.bin .pow ca cb) := de_bin op_pow os_pow ha hb
/-- a comparison's operator: its rule and its soundness -/
structure CmpOk (τ : TZ) (X : Cx) (op : CmpOp) (o : CO) : Prop where
  ex : ∃ r, OpR X (compareOp op) r ∧ OpS (kwOf τ X) (fun x y S => (opC o x y S).map fun k => ((.bl k : W), S)) r
theorem ck_eq {k : Nat} (hr : Room k X.A) : CmpOk τ X .Eq .eq := ⟨_, op_eqA hr.units, os_eq⟩
theorem ck_ne {k : Nat} (hr : Room k X.A) : CmpOk τ X .NotEq .ne := ⟨_, op_neA hr.units, os_ne⟩
theorem u65 {k : Nat} {A : Around} (hr : Room k A) : A.units + 65 < cLine := by have := hr.un; omega
theorem ck_in {k : Nat} (hr : Room k X.A) : CmpOk τ X .In .isIn := ⟨_, op_inA (u65 hr), os_in⟩
theorem ck_notIn {k : Nat} (hr : Room k X.A) : CmpOk τ X .NotIn .notIn := ⟨_, op_notInA (u65 hr), os_notIn⟩
theorem ck_lt {k : Nat} (hr : Room k X.A) : CmpOk τ X .Lt .lt := ⟨_, op_ltA hr.units, os_lt⟩
theorem ck_gt : CmpOk τ X .Gt .gt := ⟨_, op_gt, os_gt⟩
theorem ck_ge : CmpOk τ X .GtE .ge := ⟨_, op_ge, os_ge⟩
theorem de_cmp {op : CmpOp} {o : CO} (ho : CmpOk τ X op o) (ha : DE τ X Φ a ca) (hb : DE τ X Φ b cb) (hm : behindInMarks op b = false := by first | exact nomark _ | rfl) : DE τ X Φ (.Compare a [op] [b] pos) (.cmp o ca cb) := by
  obtain ⟨r, h1, h2⟩ := ho.ex
  exact peW (pe_cmpR h1 ha hb hm) fun _ _ _ h => tOp_of h2 (fun _ _ _ _ q => ev_cmp q) h
theorem tTest_of {c : CE} {t : TE} (i : ∀ σ H Q, tD (kwOf τ X) Φ c σ H Q → t σ H Q) {σ : L2.St} {H : Hp} {Q : Bool → Hp → Prop} (h : tDT (kwOf τ X) Φ c σ H Q) : t σ H fun x H' => ∃ k, x = .bl k ∧ Q k H' := by
  obtain ⟨μ, env, S, k, S', s, er, h1, h2⟩ := h
  refine i _ _ _ ⟨μ, env, S, _, S', s, er, h1, fun v μ' H' x s' r => ?_⟩
  cases r
  exact ⟨k, rfl, h2 μ' H' x s'⟩
theorem dt_cmp {op : CmpOp} {o : CO} (ho : CmpOk τ X op o) (ha : DE τ X Φ a ca) (hb : DE τ X Φ b cb) (hm : behindInMarks op b = false := by first | exact nomark _ | rfl) : DT τ X Φ (.Compare a [op] [b] pos) (.cmp o ca cb) := by
  obtain ⟨r, h1, h2⟩ := ho.ex
  exact ptW (pt_cmpR h1 ha hb hm) fun _ _ _ h => tTest_of (fun _ _ _ q => tOp_of h2 (fun _ _ _ _ q => ev_cmp q) q) h
theorem de_ix (ha : DE τ X Φ a ca) (hb : DE τ X Φ b cb) (hs : PlainIx b := by intro _ _; rfl) : DE τ X Φ (.Subscript a b pos) (.ix ca cb) :=
  peW (pe_ix ix_seq ha hb hs) fun _ _ _ h => tOp_of os_ix (fun _ _ _ _ q => ev_ix q) h
/-! ### and, or, not, if else -/
theorem dt_val (h : DE τ X Φ e ce) (he : ∀ whole, isTrue e X.env whole = (do let v ← whole; standAt e.pos; holding [v] (truthy v)) := by intro _; rfl) : DT τ X Φ e ce :=
  ptW (pt_val h he) fun _ _ _ q => tTest_of (fun _ _ _ q => q) q
theorem dw_and1 (ha : DT τ X Φ a ca) : DW τ X Φ (.BoolOp .And [a] pos) ca := pw_and1 ha
theorem dw_or1 (ha : DT τ X Φ a ca) : DW τ X Φ (.BoolOp .Or [a] pos) ca := pw_or1 ha
theorem dw_and {rest : List Expr} (ha : DT τ X Φ a ca) (hb : DW τ X Φ (.BoolOp .And (b :: rest) pos) cb) : DW τ X Φ (.BoolOp .And (a :: b :: rest) pos) (.and ca cb) := by
  refine pwW (pw_and ha hb) fun σ H Q h => ?_
  obtain ⟨μ, env, S, k, S', s, er, h1, h2⟩ := h
  simp only [ev] at h1
  split at h1
  · rename_i S1 e1
    refine ⟨μ, env, S, _, S1, s, er, e1, fun μ1 H1 x1 s1 => ?_⟩
    refine iteT ?_
    exact ⟨μ1, env, S1, k, S', s1, er.mono x1, h1, fun μ2 H2 x2 s2 => h2 μ2 H2 (x1.trans x2) s2⟩
  · rename_i S1 e1
    cases h1
    refine ⟨μ, env, S, _, S', s, er, e1, fun μ1 H1 x1 s1 => ?_⟩
    refine iteF ?_
    exact h2 μ1 H1 x1 s1
  · cases h1
theorem dw_or {rest : List Expr} (ha : DT τ X Φ a ca) (hb : DW τ X Φ (.BoolOp .Or (b :: rest) pos) cb) : DW τ X Φ (.BoolOp .Or (a :: b :: rest) pos) (.or ca cb) := by
  refine pwW (pw_or ha hb) fun σ H Q h => ?_
  obtain ⟨μ, env, S, k, S', s, er, h1, h2⟩ := h
  simp only [ev] at h1
  split at h1
  · rename_i S1 e1
    cases h1
    refine ⟨μ, env, S, _, S', s, er, e1, fun μ1 H1 x1 s1 => ?_⟩
    refine iteT ?_
    exact h2 μ1 H1 x1 s1
  · rename_i S1 e1
    refine ⟨μ, env, S, _, S1, s, er, e1, fun μ1 H1 x1 s1 => ?_⟩
    refine iteF ?_
    exact ⟨μ1, env, S1, k, S', s1, er.mono x1, h1, fun μ2 H2 x2 s2 => h2 μ2 H2 (x1.trans x2) s2⟩
  · cases h1
theorem dt_w (h : DW τ X Φ e ce) : DT τ X Φ e ce := PW.pt h
theorem dt_not (ha : DT τ X Φ a ca) : DT τ X Φ (.UnaryOp .Not a pos) (.not ca) := by
  refine ptW (pt_not ha) fun σ H Q h => ?_
  obtain ⟨μ, env, S, k, S', s, er, h1, h2⟩ := h
  simp only [ev] at h1
  split at h1
  · rename_i k' S1 e1
    cases h1
    exact ⟨μ, env, S, _, S', s, er, e1, fun μ1 H1 x1 s1 => h2 μ1 H1 x1 s1⟩
  · cases h1
theorem de_ite (hd : DT τ X Φ d cd) (ha : DE τ X Φ a ca) (hb : DE τ X Φ b cb) : DE τ X Φ (.IfExp d a b pos) (.ite cd ca cb) := by
  refine peW (pe_ifExp hd ha hb) fun σ H Q h => ?_
  obtain ⟨μ, env, S, w, S', s, er, h1, h2⟩ := h
  simp only [ev] at h1
  split at h1
  · rename_i S1 e1
    refine ⟨μ, env, S, _, S1, s, er, e1, fun μ1 H1 x1 s1 => ?_⟩
    refine iteT ?_
    exact ⟨μ1, env, S1, w, S', s1, er.mono x1, h1, h2.mono x1⟩
  · rename_i S1 e1
    refine ⟨μ, env, S, _, S1, s, er, e1, fun μ1 H1 x1 s1 => ?_⟩
    refine iteF ?_
    exact ⟨μ1, env, S1, w, S', s1, er.mono x1, h1, h2.mono x1⟩
  · cases h1
/-! ### argument lists, displays -/
theorem da_nil : DA τ X Φ [] .nil := by
  refine paW pa_nil fun σ H Q h => ?_
  obtain ⟨μ, env, S, w, S', s, er, h1, h2⟩ := h
  simp only [evs] at h1
  cases h1
  exact h2 _ μ H .refl s .nil
theorem da_cons (ha : DE τ X Φ e ce) (hr : DA τ X Φ es cs) (hs : starEach (e :: es) X.env = (false, eval e X.env) :: starEach es X.env := by rfl) : DA τ X Φ (e :: es) (.cons ce cs) := by
  refine paW (pa_cons ha hr hs) fun σ H Q h => ?_
  obtain ⟨μ, env, S, w, S', s, er, h1, h2⟩ := h
  simp only [evs] at h1
  split at h1
  · rename_i x S1 e1
    split at h1
    · rename_i xs S2 e2
      cases h1
      refine ⟨μ, env, S, x, S1, s, er, e1, fun v μ1 H1 x1 s1 r1 => ⟨μ1, env, S1, xs, _, s1, er.mono x1, e2, fun vs μ2 H2 x2 s2 r2 => ?_⟩⟩
      exact h2 _ μ2 H2 (x1.trans x2) s2 (.cons (r1.mono x2) r2)
    · cases h1
  · cases h1
theorem de_tup {x1} (h : DA τ X Φ es cs) : DE τ X Φ (.Tuple es x1 pos) (.tup cs) := by
  refine peW (pe_tup h) fun σ H Q h => ?_
  obtain ⟨μ, env, S, w, S', s, er, h1, h2⟩ := h
  simp only [ev] at h1
  split at h1
  · rename_i xs S1 e1
    split at h1
    · rename_i hl
      cases h1
      refine ⟨μ, env, S, xs, _, s, er, e1, fun vs μ1 H1 x1 s1 r1 => ⟨?_, ?_⟩⟩
      · rw [r1.length]
        exact lim_ok hl
      · exact (h2.mono x1).tup s1 r1
    · cases h1
  · cases h1
theorem de_lst (h : DA τ X Φ es cs) : DE τ X Φ (.List es pos) (.lst cs) := by
  refine peW (pe_lst h) fun σ H Q h => ?_
  obtain ⟨μ, env, S, w, S', s, er, h1, h2⟩ := h
  simp only [ev] at h1
  split at h1
  · rename_i xs S1 e1
    exact ⟨μ, env, S, xs, _, s, er, e1, fun vs μ1 H1 x1 s1 r1 => (h2.mono x1).new s1 r1 h1⟩
  · cases h1
/-! ### slices -/
def tDO (K : Fg) (Φ : Fns) (c : CP) : TO := fun σ H Q => ∃ μ env S o S', SR K μ H S ∧ ER K μ H σ env ∧ evp Φ c env S = some (o, S') ∧ ∀ μ' H', Ex K μ H μ' H' → SR K μ' H' S' → Q o H'
abbrev DO (τ : TZ) (X : Cx) (Φ : Fns) (e : Option Expr) (c : CP) : Prop := PO X e (tDO (kwOf τ X) Φ c)
theorem poW {e : Option Expr} {t t' : TO} (h : PO X e t) (i : ∀ σ H Q, t' σ H Q → t σ H Q) : PO X e t' := ⟨fun pins s σ H Q I q => h.run pins s σ H Q I (i σ H Q q)⟩
theorem do_none : DO τ X Φ none .no := by
  refine poW po_none fun σ H Q h => ?_
  obtain ⟨μ, env, S, o, S', s, er, h1, h2⟩ := h
  simp only [evp] at h1
  cases h1
  exact h2 μ H .refl s
theorem do_some (h : DE τ X Φ e ce) : DO τ X Φ (some e) (.yes ce) := by
  refine poW (po_some h) fun σ H Q h => ?_
  obtain ⟨μ, env, S, o, S', s, er, h1, h2⟩ := h
  simp only [evp] at h1
  split at h1
  · rename_i i S1 e1
    cases h1
    refine ⟨μ, env, S, _, S', s, er, e1, fun v μ1 H1 x1 s1 r1 => ?_⟩
    cases r1
    exact ⟨i, rfl, h2 μ1 H1 x1 s1⟩
  · cases h1
theorem de_sl {lo hi : Option Expr} {cl ch : CP} {p2 : Pos} (ha : DE τ X Φ a ca) (hl : DO τ X Φ lo cl) (hh : DO τ X Φ hi ch) : DE τ X Φ (.Subscript a (.Slice lo hi none p2) pos) (.sl ca cl ch) := by
  refine peW (pe_slice (sl_all (τ := τ)) ha hl hh) fun σ H Q h => ?_
  obtain ⟨μ, env, S, w, S', s, er, h1, h2⟩ := h
  simp only [ev] at h1
  split at h1
  · rename_i x S1 e1
    split at h1
    · rename_i y S2 e2
      split at h1
      · rename_i z S3 e3
        refine ⟨μ, env, S, x, S1, s, er, e1, fun v μ1 H1 x1 s1 r1 => ⟨μ1, env, S1, y, S2, s1, er.mono x1, e2, fun μ2 H2 x2 s2 => ⟨μ2, env, S2, z, S3, s2, er.mono (x1.trans x2), e3, fun μ3 H3 x3 s3 => ?_⟩⟩⟩
        exact ss_all s3 (r1.mono (x2.trans x3)) h1 (h2.mono ((x1.trans x2).trans x3))
      · cases h1
    · cases h1
  · cases h1
/-! ### calls -/
/-- a def's promise -/
def spD (K : Fg) (Φ : Fns) (f n : Nat) : Sp := fun vs H Q _ => vs.length = n ∧ ∃ μ S ws w S', SR K μ H S ∧ VWs K μ H vs ws ∧ Φ f ws S = some (w, S') ∧ Aft K μ H S' w Q
/-- a def that may be called: its name in the module, its number -/
structure Cal (P : Program) (w : World) (K : Fg) (mg : Str → Option Value) (base : Heap) (k : Nat) (Φ : Fns) (x : Str) (i n : Nat) : Prop where
  ex : ∃ (f : Addr) (fd : FuncData) (ps : List Str), FnOk P w K mg base CX0 k f fd ps (spD K Φ i n) ∧ mg x = some (.ref f) ∧ PySem.W.keepIn K (.ref f) = true ∧ Binds K fd ps []
def CEs.len : CEs → Nat
  | .nil => 0
  | .cons _ r => r.len + 1
theorem evs_len : ∀ (cs : CEs) {env : Env} {S S' : Sto} {ws : List W}, evs Φ cs env S = some (ws, S') → ws.length = cs.len
  | .nil, env, S, S', ws, h => by
    simp only [evs] at h
    cases h
    rfl
  | .cons c cs, env, S, S', ws, h => by
    simp only [evs] at h
    split at h
    · split at h
      · rename_i xs S2 e2
        cases h
        show xs.length + 1 = cs.len + 1
        rw [evs_len cs e2]
      · cases h
    · cases h
theorem de_call {x : Str} {i n k : Nat} {p : Pos} (G : Cal X.prog X.w (kwOf τ X) X.mg X.base k Φ x i n) (hr : Room k X.A) (ha : DA τ X Φ (e :: es) cs) (hn : cs.len = n := by rfl) (hg : Gl X x := by rfl) (hdb : (x == ("__debug__" : Str)) = false := by decide)
    (he : starEach (e :: es) X.env = (false, eval e X.env) :: starEach es X.env := by rfl) (hpl : (backTo pos (starEach es X.env)).any (·.1) = false := by rfl) : DE τ X Φ (.Call (.Name x p) (e :: es) [] pos) (.call i cs) := by
  obtain ⟨f, fd, ps, F, hm, hk, hb⟩ := G.ex
  refine peW (pe_call F hr hg hm hk hb .nil pass0 ha hdb he hpl) fun σ H Q h => ?_
  obtain ⟨μ, env, S, w, S', s, er, h1, h2⟩ := h
  simp only [ev] at h1
  split at h1
  · rename_i xs S1 e1
    refine ⟨μ, env, S, xs, S1, s, er, e1, fun vs μ1 H1 x1 s1 r1 => ?_⟩
    show spD (kwOf τ X) Φ i n (vs ++ []) H1 Q E0
    rw [List.append_nil]
    exact ⟨by rw [r1.length, evs_len cs e1]; exact hn, μ1, S1, xs, w, S', s1, r1, h1, h2.mono x1⟩
  · cases h1
theorem tCB_of {f : BI} {r : List V → Hp → VK → Prop} (hs : ClS (kwOf τ X) (opI f) r) {σ : L2.St} {H : Hp} {Q : VK} (h : tD (kwOf τ X) Φ (.bi f cs) σ H Q) : tCB r (tDA (kwOf τ X) Φ cs) σ H Q := by
  obtain ⟨μ, env, S, w, S', s, er, h1, h2⟩ := h
  simp only [ev] at h1
  split at h1
  · rename_i xs S1 e1
    exact ⟨μ, env, S, xs, S1, s, er, e1, fun vs μ1 H1 x1 s1 r1 => hs μ1 H1 S1 xs vs w S' Q s1 r1 h1 (h2.mono x1)⟩
  · cases h1
theorem de_callB {x : Str} {id : String} {f : BI} {r : List V → Hp → VK → Prop} {p : Pos} (hc : CallR X (.builtin id) r) (hs : ClS (kwOf τ X) (opI f) r) (hm : X.mg x = none) (hv : bootBuiltins x = some (.builtin id)) (ha : DA τ X Φ (e :: es) cs) (hg : Gl X x := by rfl) (hn : x ≠ "__name__" := by decide) (hdb : (x == ("__debug__" : Str)) = false := by decide)
    (he : starEach (e :: es) X.env = (false, eval e X.env) :: starEach es X.env := by rfl) (hpl : (backTo pos (starEach es X.env)).any (·.1) = false := by rfl) : DE τ X Φ (.Call (.Name x p) (e :: es) [] pos) (.bi f cs) :=
  peW (pe_callB hc hg hm hv ha hn hdb he hpl) fun _ _ _ h => tCB_of hs h
theorem de_callTy {x : Str} {T : String} {f : BI} {r : List V → Hp → VK → Prop} {p : Pos} (hc : CallR X (.type T) r) (hs : ClS (kwOf τ X) (opI f) r) (hm : X.mg x = none) (hv : bootBuiltins x = some (.type T)) (ha : DA τ X Φ (e :: es) cs) (hg : Gl X x := by rfl) (hn : x ≠ "__name__" := by decide) (hdb : (x == ("__debug__" : Str)) = false := by decide)
    (he : starEach (e :: es) X.env = (false, eval e X.env) :: starEach es X.env := by rfl) (hpl : (backTo pos (starEach es X.env)).any (·.1) = false := by rfl) : DE τ X Φ (.Call (.Name x p) (e :: es) [] pos) (.bi f cs) :=
  peW (pe_callTy hc hg hm hv ha hn hdb he hpl) fun _ _ _ h => tCB_of hs h
end
end MP
namespace MP
open PySem PySem.Spec PyProof.Rows L2
section
variable {τ : TZ} {X : Cx} {Φ : Fns} {a b d e : Expr} {es : List Expr} {ca cb cd ce : CE} {cs : CEs} {pos : Pos}
/-! ### more built-ins -/
theorem de_isi {t : Nat} {T : Str} {p p1 : Pos} (ht : t < 5) (hT : bootBuiltins T = some (.type (tyN t))) (hm : X.mg "isinstance" = none) (hmT : X.mg T = none) (ha : DE τ X Φ a ca)
    (hg : Gl X "isinstance" := by rfl) (hgT : Gl X T := by rfl) (hnT : T ≠ "__name__" := by decide) (hdT : (T == ("__debug__" : Str)) = false := by decide)
    (hs0 : starEach [(.Name T p1 : Expr)] X.env = (false, eval (.Name T p1) X.env) :: starEach [] X.env := by rfl)
    (he : starEach [a, (.Name T p1 : Expr)] X.env = (false, eval a X.env) :: starEach [(.Name T p1 : Expr)] X.env := by rfl) (hpl : (backTo pos (starEach [(.Name T p1 : Expr)] X.env)).any (·.1) = false := by rfl) :
    DE τ X Φ (.Call (.Name "isinstance" p) [a, .Name T p1] [] pos) (.bi (.isi t) (.cons ca .nil)) := by
  refine peW (pe_callB (x := "isinstance") (id := "isinstance") call_isi hg hm (by decide +kernel) (pa_cons ha (pa_cons (pe_bltn (v := .ty (tyN t)) hgT hmT hT rfl hnT hdT) pa_nil hs0) he) (by decide) (by decide) he hpl) fun σ H Q h => ?_
  obtain ⟨μ, env, S, w, S', s, er, h1, h2⟩ := h
  simp only [ev, evs] at h1
  split at h1
  · rename_i xs S1 e1
    split at e1
    · rename_i x S2 e2
      cases e1
      by_cases hf : isFn x = true
      · cases x <;> first | (cases hf; done) | (simp only [opI] at h1; cases h1)
      · have hq : opI (.isi t) [x] S1 = some (.bl (isT t x), S1) := by cases x <;> first | rfl | exact absurd rfl hf
        rw [hq] at h1
        cases h1
        exact ⟨μ, env, S, x, _, s, er, e2, fun v μ1 H1 x1 s1 r1 => isi_ok ht s1 r1 (by simpa using hf) (h2.mono x1)⟩
    · cases e1
  · cases h1
theorem de_neg (ha : DE τ X Φ a ca) : DE τ X Φ (.UnaryOp .USub a pos) (.bi .neg (.cons ca .nil)) := by
  refine peW (pe_un un_neg ha) fun σ H Q h => ?_
  obtain ⟨μ, env, S, w, S', s, er, h1, h2⟩ := h
  simp only [ev, evs] at h1
  split at h1
  · rename_i xs S1 e1
    split at e1
    · rename_i x S2 e2
      cases e1
      cases x <;> simp only [opI] at h1 <;> try (cases h1; done)
      cases h1
      refine ⟨μ, env, S, _, _, s, er, e2, fun v μ1 H1 x1 s1 r1 => ?_⟩
      cases r1
      exact ⟨_, rfl, h2 _ μ1 H1 x1 s1 (.int _)⟩
    · cases e1
  · cases h1
end
end MP
namespace MP
open PySem PySem.Spec PyProof.Rows L2
/-! ### what is walked -/
def ItOk (K : Fg) (μ : List Addr) (H : Hp) (J : Src) (It : It) : Prop := ∀ μ2 H2 S2, Ey K μ H μ2 H2 → SR K μ2 H2 S2 →
  (∀ (i : Nat) x, J.item S2 i = some x → It.go i H2 ∧ ∀ v H3, It.yld i H2 v H3 → Ex K μ2 H2 μ2 H3 ∧ SR K μ2 H3 S2 ∧ VW K μ2 H3 v x) ∧ ∀ i n, J.len S2 = some n → n ≤ i → It.stop i H2
def tDI (K : Fg) (Φ : Fns) (c : CI) : TI := fun σ H R => ∃ μ env S J S', SR K μ H S ∧ ER K μ H σ env ∧ evi Φ c env S = some (J, S') ∧ ((∃ n, J.len S' = some n) → ∀ μ' H' T, Ex K μ H μ' H' → SR K μ' H' S' → ItOk K μ' H' J T → R T H') ∧ ∃ n, J.len S' = some n
abbrev DI (τ : TZ) (X : Cx) (Φ : Fns) (tg e : Expr) (c : CI) : Prop := PI X tg e (tDI (kwOf τ X) Φ c)
section
variable {τ : TZ} {X : Cx} {Φ : Fns} {a b d e tg : Expr} {es : List Expr} {ca cb cd ce : CE} {cs : CEs} {pos : Pos}
theorem piW {tg e : Expr} {t t' : TI} (h : PI X tg e t) (i : ∀ σ H Q, t' σ H Q → t σ H Q) : PI X tg e t' := ⟨fun pins s σ H Q I q => h.run pins s σ H Q I (i σ H Q q)⟩
theorem piOr {tg e : Expr} {t t' : TI} (h : PI X tg e t) (h' : PI X tg e t') : PI X tg e (fun σ H R => t σ H R ∨ t' σ H R) := ⟨fun pins s σ H Q I q => q.elim (h.run pins s σ H Q I) (h'.run pins s σ H Q I)⟩
theorem it_list {K : Fg} {μ : List Addr} {H : Hp} {k : Nat} {a : Addr} (hk : μ[k]? = some a) : ItOk K μ H (.seq (.ref k)) (Itl K a) := by
  intro μ2 H2 S2 x s
  have hk2 := x.pre k a hk
  refine ⟨fun i w h => ?_, fun i n h hn => ?_⟩
  · simp only [Src.item, Option.bind_eq_some_iff] at h
    obtain ⟨ws, h1, h2⟩ := h
    obtain ⟨vs, q, t⟩ := s.rd hk2 h1
    obtain ⟨v, h3, h4⟩ := t.get h2
    refine ⟨⟨vs, v, q, h3⟩, fun u H3 y => ?_⟩
    obtain ⟨e1, e2⟩ := y
    have e3 := e2 vs q
    rw [h3] at e3
    cases e3
    subst e1
    exact ⟨.refl, s, h4⟩
  · simp only [Src.len, Option.map_eq_some_iff] at h
    obtain ⟨ws, h1, h2⟩ := h
    obtain ⟨vs, q, t⟩ := s.rd hk2 h1
    exact ⟨vs, q, by rw [t.length]; omega⟩
theorem it_tup {K : Fg} {μ : List Addr} {H : Hp} {ws : List W} {vs : List V} {a : Addr} (q0 : SqT K H a vs) (t0 : VWs K μ H vs ws) : ItOk K μ H (.seq (.tup ws)) (Itt K a) := by
  intro μ2 H2 S2 x s
  have q := x.tup _ _ q0
  have t := t0.monoY x
  refine ⟨fun i w h => ?_, fun i n h hn => ?_⟩
  · simp only [Src.item] at h
    obtain ⟨v, h3, h4⟩ := t.get h
    refine ⟨⟨vs, v, q, h3⟩, fun u H3 y => ?_⟩
    obtain ⟨e1, e2⟩ := y
    have e3 := e2 vs q
    rw [h3] at e3
    cases e3
    subst e1
    exact ⟨.refl, s, h4⟩
  · simp only [Src.len] at h
    cases h
    exact ⟨vs, q, by rw [t.length]; omega⟩
theorem it_str {K : Fg} {μ : List Addr} {H : Hp} {l : List Nat} {x : Str} (e : x.cps.toList = l) : ItOk K μ H (.seq (.str l)) (Its x) := by
  intro μ2 H2 S2 _ s
  subst e
  refine ⟨fun i w h => ?_, fun i n h hn => ?_⟩
  · simp only [Src.item, Option.map_eq_some_iff] at h
    obtain ⟨c, h1, h2⟩ := h
    subst h2
    have h3 : x.cps[i]? = some c := by
      rw [← Array.getElem?_toList]
      exact h1
    refine ⟨?_, fun u H3 y => ?_⟩
    · show i < x.cps.size
      have := (List.getElem?_eq_some_iff.mp h1).1
      simpa using this
    · obtain ⟨e1, c', e2, e3⟩ := y
      rw [h3] at e2
      cases e2
      subst e3
      subst e1
      exact ⟨.refl, s, .str _ _ rfl⟩
  · simp only [Src.len] at h
    cases h
    show x.cps.size ≤ i
    simpa using hn
theorem it_rng {K : Fg} {μ : List Addr} {H : Hp} {lo : Int} {n : Nat} : ItOk K μ H (.rng lo n) (Itr lo n) := by
  intro μ2 H2 S2 _ s
  refine ⟨fun i w h => ?_, fun i m h hn => ?_⟩
  · simp only [Src.item] at h
    split at h
    · rename_i hi
      cases h
      refine ⟨hi, fun u H3 y => ?_⟩
      obtain ⟨e1, e2⟩ := y
      subst e2
      subst e1
      exact ⟨.refl, s, .int _⟩
    · cases h
  · simp only [Src.len] at h
    cases h
    exact hn
theorem it_rngd {K : Fg} {μ : List Addr} {H : Hp} {hi : Int} {n : Nat} : ItOk K μ H (.rngd hi n) (Itc hi (-1) n) := by
  intro μ2 H2 S2 _ s
  refine ⟨fun i w h => ?_, fun i m h hn => ?_⟩
  · simp only [Src.item] at h
    split at h
    · rename_i hlt
      cases h
      refine ⟨hlt, fun u H3 y => ?_⟩
      obtain ⟨e1, e2⟩ := y
      subst e2
      subst e1
      have e3 : hi + (i : Nat) * (-1 : Int) = hi - (i : Nat) := by omega
      rw [e3]
      exact ⟨.refl, s, .int _⟩
    · cases h
  · simp only [Src.len] at h
    cases h
    exact hn
theorem di_val (ha : DE τ X Φ a ca) : DI τ X Φ tg a (.val ca) := by
  refine piW (piOr (pi_list ha) (piOr (pi_tup ha) (pi_str ha))) fun σ H R h => ?_
  obtain ⟨μ, env, S, J, S', s, er, h1, h2, n, hn⟩ := h
  simp only [evi] at h1
  split at h1
  · rename_i x S1 e1
    cases h1
    cases x with
    | ref k =>
      refine .inl ⟨μ, env, S, _, _, s, er, e1, fun v μ1 H1 x1 s1 r1 => ?_⟩
      cases r1 with
      | ref hk hkl =>
        simp only [Src.len, Option.map_eq_some_iff] at hn
        obtain ⟨ws, hn1, _⟩ := hn
        obtain ⟨vs, q, t⟩ := s1.rd hk hn1
        exact ⟨_, rfl, ⟨vs, q⟩, h2 ⟨ws.length, by simp only [Src.len, hn1]; rfl⟩ μ1 H1 _ x1 s1 (it_list hk)⟩
    | tup ws =>
      refine .inr (.inl ⟨μ, env, S, _, _, s, er, e1, fun v μ1 H1 x1 s1 r1 => ?_⟩)
      cases r1 with
      | tup q t => exact ⟨_, rfl, ⟨_, q⟩, h2 ⟨n, hn⟩ μ1 H1 _ x1 s1 (it_tup q t)⟩
    | str l =>
      refine .inr (.inr ⟨μ, env, S, _, _, s, er, e1, fun v μ1 H1 x1 s1 r1 => ?_⟩)
      cases r1 with
      | str z _ e => exact ⟨_, rfl, h2 ⟨n, hn⟩ μ1 H1 _ x1 s1 (it_str e)⟩
    | _ => simp [Src.len] at hn
  · cases h1
theorem rng_ok {j : Int} (h : rngOk j = true) : -(2 ^ 62) ≤ j ∧ j < 2 ^ 62 := of_decide_eq_true h
theorem di_rng1 {p : Pos} (hm : X.mg "range" = none) (ha : DE τ X Φ a ca) (hg : Gl X "range" := by rfl) (hs : starEach [a] X.env = [(false, eval a X.env)] := by rfl) : DI τ X Φ tg (.Call (.Name "range" p) [a] [] pos) (.rng1 ca) := by
  refine piW (pi_range1 hg hm (pa_cons ha pa_nil hs) hs) fun σ H R h => ?_
  obtain ⟨μ, env, S, J, S', s, er, h1, h2, n, hn⟩ := h
  simp only [evi] at h1
  split at h1
  · rename_i j S1 e1
    split at h1
    · rename_i hj
      cases h1
      refine ⟨μ, env, S, _, _, s, er, e1, fun v μ1 H1 x1 s1 r1 => ?_⟩
      cases r1
      exact ⟨j, rfl, (rng_ok hj).1, (rng_ok hj).2, h2 ⟨n, hn⟩ μ1 H1 _ x1 s1 it_rng⟩
    · cases h1
  · cases h1
theorem di_rngd {p p1 p2 p3 p4 : Pos} {j1 j2 : Option Str} (hm : X.mg "range" = none) (ha : DE τ X Φ a ca) (hb : DE τ X Φ b (.c (.int (-1)))) (hc : DE τ X Φ d (.c (.int (-1)))) (hg : Gl X "range" := by rfl) (hs : starEach [a, b, d] X.env = (false, eval a X.env) :: starEach [b, d] X.env := by rfl) (hs2 : starEach [b, d] X.env = (false, eval b X.env) :: starEach [d] X.env := by rfl) (hs3 : starEach [d] X.env = (false, eval d X.env) :: starEach [] X.env := by rfl) (hpl : (backTo pos (starEach [b, d] X.env)).any (·.1) = false := by rfl) : DI τ X Φ tg (.Call (.Name "range" p) [a, b, d] [] pos) (.rngd ca) := by
  refine piW (pi_range3 hg hm (pa_cons ha (pa_cons hb (pa_cons hc pa_nil hs3) hs2) hs) hs hpl) fun σ H R h => ?_
  obtain ⟨μ, env, S, J, S', s, er, h1, h2, n, hn⟩ := h
  simp only [evi] at h1
  split at h1
  · rename_i i S1 e1
    split at h1
    · rename_i hj
      cases h1
      refine ⟨μ, env, S, _, _, s, er, e1, fun v μ1 H1 x1 s1 r1 => ⟨μ1, env, _, _, _, s1, er.mono x1, rfl, fun v' μ2 H2 x2 s2 r2 => ⟨μ2, env, _, _, _, s2, (er.mono x1).mono x2, rfl, fun v3 μ3 H3 x3 s3 r3 => ?_⟩⟩⟩
      cases r1
      cases r2
      cases r3
      have q := RgC.neg (i := i) (j := -1) (rng_ok hj).1 (rng_ok hj).2 (by decide) (by decide)
      have e : (i - -1).toNat = (i + 1).toNat := by omega
      rw [e] at q
      exact ⟨i, -1, -1, _, rfl, q, h2 ⟨n, hn⟩ μ3 H3 _ ((x1.trans x2).trans x3) s3 it_rngd⟩
    · cases h1
  · cases h1
/-! ### targets -/
def GOk (K : Fg) (ts : List Nat) (g : TG) : Prop := ∀ (μ : List Addr) (H : Hp) (S : Sto) (σ : L2.St) (env env' : Env) (v : V) (w : W) (Q : L2.St → Hp → Prop), SR K μ H S → ER K μ H σ env → VW K μ H v w → bindT S env ts w = some env' →
  (∀ σ', ER K μ H σ' env' → σ'.length = σ.length → (∀ i, i ∉ ts → σ'[i]? = σ[i]?) → Q σ' H) → g v σ H Q
theorem go_name (K : Fg) (i : Nat) : GOk K [i] (gName i) := by
  intro μ H S σ env env' v w Q sr er r h q
  simp only [bindT] at h
  cases h
  refine q _ (er.set i r) (List.length_set ..) fun j hj => ?_
  rw [List.getElem?_set_ne (fun e => hj (by rw [e]; exact List.mem_singleton.mpr rfl))]
/-- names one behind another -/
def gNames : List Nat → TGs
  | [] => gNil
  | i :: r => gCons (gName i) (gNames r)
theorem go_names {K : Fg} {μ : List Addr} {H : Hp} : ∀ (is : List Nat) (xs : List W) (vs : List V) (σ : L2.St) (env env' : Env) (Q : L2.St → Hp → Prop), ER K μ H σ env → VWs K μ H vs xs → bindL env is xs = some env' →
    (∀ σ', ER K μ H σ' env' → σ'.length = σ.length → (∀ i, i ∉ is → σ'[i]? = σ[i]?) → Q σ' H) → vs.length = is.length ∧ gNames is vs σ H Q
  | [], [], vs, σ, env, env', Q, er, r, h, q => by
    cases r
    simp only [bindL] at h
    cases h
    exact ⟨rfl, rfl, q σ er rfl fun _ _ => rfl⟩
  | [], _ :: _, vs, σ, env, env', Q, er, r, h, q => by simp [bindL] at h
  | _ :: _, [], vs, σ, env, env', Q, er, r, h, q => by simp [bindL] at h
  | i :: is, x :: xs, vs, σ, env, env', Q, er, r, h, q => by
    cases r with
    | cons r1 r2 =>
      simp only [bindL] at h
      rename_i v vs
      have ih := go_names is xs vs (σ.set i (some v)) _ env' Q (er.set i r1) r2 h fun σ' e1 e2 e3 => q σ' e1 (by rw [e2, List.length_set]) fun k hk => by
        rw [e3 k (fun m => hk (List.mem_cons_of_mem _ m)), List.getElem?_set_ne (fun e => hk (by rw [e]; exact List.mem_cons_self ..))]
      exact ⟨by rw [List.length_cons, List.length_cons, ih.1], _, _, rfl, ih.2⟩
/-- a tuple or a list of so many -/
def gSeq (K : PySem.W.Frag) (is : List Nat) : TG := fun v σ H Q => gTup K is.length (gNames is) v σ H Q ∨ gLst K is.length (gNames is) v σ H Q
theorem go_seq (K : Fg) (i j : Nat) (is : List Nat) : GOk K (i :: j :: is) (gSeq K (i :: j :: is)) := by
  intro μ H S σ env env' v w Q sr er r h q
  cases w with
  | tup xs =>
    simp only [bindT] at h
    cases r with
    | tup q0 t =>
      obtain ⟨l, g⟩ := go_names _ xs _ σ env env' Q er t h q
      exact .inl ⟨_, _, rfl, q0, l, g⟩
  | ref k =>
    simp only [bindT] at h
    split at h
    · rename_i xs hx
      cases r with
      | ref hk hkl =>
        obtain ⟨vs, q0, t⟩ := sr.rd hk hx
        obtain ⟨l, g⟩ := go_names _ xs _ σ env env' Q er t h q
        exact .inr ⟨_, _, rfl, q0, l, g⟩
    · cases h
  | _ => simp [bindT] at h
theorem pg_or {X : Cx} {tg : Expr} {g1 g2 : TG} (h1 : PG X tg g1) (h2 : PG X tg g2) : PG X tg (fun v σ H Q => g1 v σ H Q ∨ g2 v σ H Q) :=
  ⟨fun pins s σ H v u Q I r hw => hw.elim (h1.run pins s σ H v u Q I r) (h2.run pins s σ H v u Q I r)⟩
theorem pg_seq {X : Cx} {es : List Expr} {k : Nat} {is : List Nat} {pos : Pos} (hc : X.calm = true) (h : PGs X es (gNames is)) (hn : (assignEach es X.env).length = is.length := by rfl) (hst : (assignEach es X.env).findIdx? (·.1) = none := by rfl) : PG X (.Tuple es k pos) (gSeq X.K is) :=
  pg_or (pg_tup hc h hn hst) (pg_lst hc h hn hst)
/-- a target: its rule -/
structure DG (τ : TZ) (X : Cx) (tg : Expr) (ts : List Nat) : Prop where
  ex : ∃ g, PG X tg g ∧ GOk (kwOf τ X) ts g
theorem dg_name (i : Nat) {x : Str} (hN : X.N.Nodup) (hi : X.N[i]? = some x := by rfl) (hx : Loc X.env.scope x := by first | exact .inl rfl | exact .inr rfl) (hf : X.fn x = true ∨ X.env.scope.names.lookup x = some .local := by first | exact .inl rfl | exact .inr rfl) : DG τ X (.Name x pos) [i] :=
  ⟨_, pg_name (i := i) hN hi hx hf, go_name _ i⟩
theorem dg_seq (i j : Nat) (is : List Nat) {es : List Expr} {k : Nat} (h : PGs X es (gNames (i :: j :: is))) (hc : X.calm = true := by rfl) (hn : (assignEach es X.env).length = (i :: j :: is).length := by rfl) (hst : (assignEach es X.env).findIdx? (·.1) = none := by rfl) : DG τ X (.Tuple es k pos) (i :: j :: is) :=
  ⟨_, pg_seq hc h hn hst, go_seq _ i j is⟩
/-! ### list comprehensions -/
theorem ev_comp {vs ts : List Nat} {s : CI} {t e : CE} {env : Env} {S S' : Sto} {w : W} (h : ev Φ (.comp vs ts s t e) env S = some (w, S')) :
    ∃ J S1 n acc S4 n', evi Φ s env S = some (J, S1) ∧ J.len S1 = some n ∧ compGo (turnC Φ vs ts t e env J) 0 n [] S1 = some (acc, S4) ∧ J.len S4 = some n' ∧ n' ≤ n ∧ new S4 acc = some (w, S') := by
  simp only [ev] at h
  split at h
  · rename_i J S1 e1
    split at h
    · rename_i n e2
      split at h
      · rename_i acc S4 e3
        split at h
        · rename_i n' e4
          split at h
          · rename_i e5
            exact ⟨J, S1, n, acc, S4, n', e1, e2, e3, e4, e5, h⟩
          · cases h
        · cases h
      · cases h
    · cases h
  · cases h
theorem tLc_of {K : Fg} {vs ts : List Nat} {s : CI} {t e : CE} {g : TG} (hg : GOk K ts g) (ht : ∀ i ∈ ts, i ∈ vs) {σ : L2.St} {H : Hp} {Q : VK} (h : tD K Φ (.comp vs ts s t e) σ H Q) : tLc (tDI K Φ s) g (tDT K Φ t) (tD K Φ e) vs σ H Q := by
  obtain ⟨μ, env, S, w, S', sr, er, h1, h2⟩ := h
  obtain ⟨J, S1, n, accF, S4, n', e1, e2, e3, e4, e5, e6⟩ := ev_comp h1
  refine ⟨μ, env, S, J, S1, sr, er, e1, fun _ μ1 H1 T x1 s1 it => ?_, n, e2⟩
  intro D hD
  refine ⟨fun i m H2 => ∃ μ2 S2 acc us, Ex K μ1 H1 μ2 H2 ∧ SR K μ2 H2 S2 ∧ H2 D = some (.lst us) ∧ (∀ k : Nat, μ2[k]? ≠ some D) ∧ VWs K μ2 H2 us acc ∧ compGo (turnC Φ vs ts t e env J) i m acc S2 = some (accF, S4) ∧ i + m = n, ⟨n, μ1, S1, [], [], ?_, s1.fresh hD, upd_same, ?_, .nil, e3, Nat.zero_add n⟩, ?_⟩
  · exact ex_fresh hD
  · intro k hk
    obtain ⟨u, hu, _⟩ := s1.trk hk
    rw [hD] at hu
    cases hu
  rintro i m H2 ⟨μ2, S2, acc, us, x2, s2, hDl, hDn, hv, hgo, him⟩
  have ito := it μ2 H2 S2 x2.toEy s2
  cases m with
  | zero =>
    simp only [compGo] at hgo
    cases hgo
    refine .inl ⟨ito.2 i n' e4 (by omega), ?_⟩
    have hl : us.length ≤ sizeLine := by
      unfold MP.new at e6
      split at e6
      · rename_i hl
        rw [hv.length]
        exact lim_ok hl
      · cases e6
    unfold MP.new at e6
    split at e6
    · cases e6
      exact h2 _ (μ2 ++ [D]) H2 (x1.trans (x2.snoc hD)) (s2.adopt hDl hDn hv) (.ref (by
        rw [← s2.len, List.getElem?_append_right (Nat.le_refl _), Nat.sub_self]
        rfl) ⟨_, hDl⟩)
    · cases e6
  | succ m =>
    simp only [compGo] at hgo
    -- the item
    have key : ∃ x, J.item S2 i = some x := by
      cases hx : J.item S2 i with
      | some x => exact ⟨x, rfl⟩
      | none =>
        simp only [turnC, hx] at hgo
        cases hgo
    obtain ⟨x, hx⟩ := key
    obtain ⟨hgo1, hyl⟩ := ito.1 i x hx
    refine .inr ⟨hgo1, fun H' => ∃ μ3 S3 acc' us', Ex K μ1 H1 μ3 H' ∧ SR K μ3 H' S3 ∧ H' D = some (.lst us') ∧ (∀ k : Nat, μ3[k]? ≠ some D) ∧ VWs K μ3 H' us' acc' ∧ compGo (turnC Φ vs ts t e env J) (i + 1) m acc' S3 = some (accF, S4), fun H' hN => ?_, fun v H' y => ?_⟩
    · obtain ⟨μ3, S3, acc', us', a1, a2, a3, a4, a5, a6⟩ := hN
      exact ⟨m, by omega, μ3, S3, acc', us', a1, a2, a3, a4, a5, a6, by omega⟩
    · obtain ⟨xy, sy, rv⟩ := hyl v H' y
      have x2 := x2.trans xy
      obtain ⟨hDl, hDn⟩ := xy.fr D _ hDl hDn
      have hv := hv.mono xy
      have s2 := sy
      cases hb : bindT S2 (MP.wipe env vs) ts x with
      | none =>
        simp only [turnC, hx, hb] at hgo
        cases hgo
      | some env' =>
        refine hg μ2 H' S2 _ _ env' v x _ s2 (((er.mono x1).mono x2).wipe vs) rv hb fun σ' er' hl hs => ⟨?_, ?_⟩
        · exact wipe_same (by rw [hl, L2.wipe_length]) ht hs
        · have fin3 : ∀ {μa : List Addr} {Ha : Hp}, Ex K μ2 H' μa Ha → Ha D = some (.lst us) ∧ ∀ k : Nat, μa[k]? ≠ some D := fun xa => xa.fr D _ hDl hDn
          cases ht1 : ev Φ t env' S2 with
          | none =>
            simp only [turnC, hx, hb, ht1] at hgo
            cases hgo
          | some p =>
            obtain ⟨wt, S3⟩ := p
            have hbl : ∃ k, wt = .bl k := by
              cases wt with
              | bl k => exact ⟨k, rfl⟩
              | _ => simp only [turnC, hx, hb, ht1] at hgo; cases hgo
            obtain ⟨k, rfl⟩ := hbl
            refine ⟨μ2, env', S2, k, S3, s2, er', ht1, fun μ3 H3 x3 s3 => ?_⟩
            cases k with
            | false =>
              refine iteF ?_
              simp only [turnC, hx, hb, ht1] at hgo
              obtain ⟨d1, d2⟩ := fin3 x3
              exact ⟨μ3, S3, acc, us, x2.trans x3, s3, d1, d2, hv.mono x3, hgo⟩
            | true =>
              refine iteT ?_
              cases he1 : ev Φ e env' S3 with
              | none =>
                simp only [turnC, hx, hb, ht1, he1] at hgo
                cases hgo
              | some p =>
                obtain ⟨w1, S5⟩ := p
                simp only [turnC, hx, hb, ht1, he1] at hgo
                split at hgo
                · rename_i hlim
                  refine ⟨μ3, env', S3, w1, S5, s3, er'.mono x3, he1, fun y μ4 H4 x4 s4 r4 => ?_⟩
                  obtain ⟨d1, d2⟩ := fin3 (x3.trans x4)
                  obtain ⟨s5, y5⟩ := s4.other (ys := us ++ [y]) d1 d2
                  refine ⟨us, d1, ?_, μ4, S5, acc ++ [w1], us ++ [y], ((x2.trans x3).trans x4).mut hD, s5, upd_same, d2, ?_, hgo⟩
                  · rw [hv.length]
                    exact lim_lt hlim
                  · exact ((hv.mono (x3.trans x4)).snoc r4).monoY y5
                · cases hgo
end
end MP
namespace MP
open PySem PySem.Spec PyProof.Rows L2
section
variable {τ : TZ} {X : Cx} {Φ : Fns} {a b d e tg : Expr} {es : List Expr} {ca cb cd ce : CE} {cs : CEs} {pos : Pos}
theorem ptsW {ifs : List Expr} {t t' : TT} (h : PTs X ifs t) (i : ∀ σ H Q, t' σ H Q → t σ H Q) : PTs X ifs t' := ⟨fun pins s σ H Q I q => h.run pins s σ H Q I (i σ H Q q)⟩
abbrev DTs (τ : TZ) (X : Cx) (Φ : Fns) (ifs : List Expr) (c : CE) : Prop := PTs X ifs (tDT (kwOf τ X) Φ c)
theorem dts_nil : DTs τ X Φ [] (.c (.bl true)) := ptsW pts_nil fun σ H Q h => by
  obtain ⟨μ, env, S, k, S', s, er, h1, h2⟩ := h
  simp only [ev] at h1
  cases h1
  exact h2 μ H .refl s
theorem dts_one (h : DT τ X Φ e ce) : DTs τ X Φ [e] ce := pts_one h
theorem de_comp {elt iter : Expr} {ifs : List Expr} {scope : Scope} {own : List (Str × Nat)} {ts : List Nat} {g : TG} {s : CI} {t : CE} (gk : GOk (kwOf τ X) ts g) (hN : X.N.Nodup) (hi : DI τ X Φ tg iter s) (ok : BlkOk X.N X.env.scope scope own)
    (hg : ∀ (s : Shared) (H : Hp) (C : Addr) (cl : List (Str × Addr)) (fp : List Addr), PG (X.blk s H scope (compEnvC scope cl C X.env) fp) tg g)
    (ht : ∀ (s : Shared) (H : Hp) (C : Addr) (cl : List (Str × Addr)) (fp : List Addr), DTs τ (X.blk s H scope (compEnvC scope cl C X.env) fp) Φ ifs t)
    (he : ∀ (s : Shared) (H : Hp) (C : Addr) (cl : List (Str × Addr)) (fp : List Addr), DE τ (X.blk s H scope (compEnvC scope cl C X.env) fp) Φ elt ce) (hsub : ∀ i ∈ ts, i ∈ own.map (·.2) := by decide) (hc : X.calm = true := by rfl) (hs : ∀ x, foldedSetIterable iter X.env x = pure x := by intro _; rfl) :
    DE τ X Φ (.ListComp elt [⟨tg, iter, ifs, 0⟩] scope pos) (.comp (own.map (·.2)) ts s t ce) :=
  peW (pe_lc hc hN hi ok hg ht he hs) fun _ _ _ h => tLc_of gk hsub h
/-! ### statements -/
def FlOk (K : Fg) (μ : List Addr) (H : Hp) (D : Ends) : Fl → Prop
  | .nx env S => ∀ σ' μ' H', Ex K μ H μ' H' → SR K μ' H' S → ER K μ' H' σ' env → D.nx σ' H'
  | .rt w S => Aft K μ H S w D.rt
  | .bk env S => ∀ σ' μ' H', Ex K μ H μ' H' → SR K μ' H' S → ER K μ' H' σ' env → D.bk σ' H'
  | .ct env S => ∀ σ' μ' H', Ex K μ H μ' H' → SR K μ' H' S → ER K μ' H' σ' env → D.ct σ' H'
theorem FlOk.mono {K : Fg} {μ μ1 : List Addr} {H H1 : Hp} {D : Ends} {r : Fl} (x : Ex K μ H μ1 H1) (h : FlOk K μ H D r) : FlOk K μ1 H1 D r := by
  cases r with
  | nx env S => exact fun σ' μ' H' x' s' e' => h σ' μ' H' (x.trans x') s' e'
  | rt w S => exact Aft.mono x h
  | bk env S => exact fun σ' μ' H' x' s' e' => h σ' μ' H' (x.trans x') s' e'
  | ct env S => exact fun σ' μ' H' x' s' e' => h σ' μ' H' (x.trans x') s' e'
def tDS (K : Fg) (Φ : Fns) (c : CS) : TS := fun D σ H => ∃ μ env S r, SR K μ H S ∧ ER K μ H σ env ∧ ex Φ c env S = some r ∧ FlOk K μ H D r
def tDSs (K : Fg) (Φ : Fns) (c : CSs) : TS := fun D σ H => ∃ μ env S r, SR K μ H S ∧ ER K μ H σ env ∧ exs Φ c env S = some r ∧ FlOk K μ H D r
abbrev DS (τ : TZ) (X : Cx) (Φ : Fns) (st : Stmt) (c : CS) : Prop := PS X st (tDS (kwOf τ X) Φ c)
abbrev DSs (τ : TZ) (X : Cx) (Φ : Fns) (st : List Stmt) (c : CSs) : Prop := PSs X st (tDSs (kwOf τ X) Φ c)
theorem psW {st : Stmt} {t t' : TS} (h : PS X st t) (i : ∀ D σ H, t' D σ H → t D σ H) : PS X st t' := ⟨fun pins s σ H Q I q => h.run pins s σ H Q I (i Q σ H q)⟩
theorem pssW {st : List Stmt} {t t' : TS} (h : PSs X st t) (i : ∀ D σ H, t' D σ H → t D σ H) : PSs X st t' := ⟨fun pins s σ H Q I q => h.run pins s σ H Q I (i Q σ H q)⟩
theorem dss_nil : DSs τ X Φ [] .nil := pssW pss_nil fun D σ H h => by
  obtain ⟨μ, env, S, r, s, er, h1, h2⟩ := h
  simp only [exs] at h1
  cases h1
  exact h2 σ μ H .refl s er
theorem dss_cons {st : Stmt} {rest : List Stmt} {c : CS} {cr : CSs} (h1 : DS τ X Φ st c) (h2 : DSs τ X Φ rest cr) : DSs τ X Φ (st :: rest) (.cons c cr) := pssW (pss_cons h1 h2) fun D σ H h => by
  obtain ⟨μ, env, S, r, s, er, e1, f⟩ := h
  simp only [exs] at e1
  split at e1
  · rename_i env' S' e2
    refine ⟨μ, env, S, _, s, er, e2, fun σ' μ' H' x' s' er' => ?_⟩
    exact ⟨μ', env', S', r, s', er', e1, f.mono x'⟩
  · rename_i r' hn
    refine ⟨μ, env, S, r, s, er, e1, ?_⟩
    cases r with
    | nx env' S' => exact absurd e1 (hn env' S')
    | rt w S' => exact f
    | bk env' S' => exact f
    | ct env' S' => exact f
theorem ds_ret (h : DE τ X Φ e ce) : DS τ X Φ (.Return (some e) pos) (.ret ce) := psW (ps_ret h) fun D σ H h => by
  obtain ⟨μ, env, S, r, s, er, e1, f⟩ := h
  simp only [ex] at e1
  split at e1
  · rename_i w S1 e2
    cases e1
    exact ⟨μ, env, S, w, S1, s, er, e2, f⟩
  · cases e1
theorem ds_if {A B : List Stmt} {sa sb : CSs} (hc : DT τ X Φ d cd) (ha : DSs τ X Φ A sa) (hb : DSs τ X Φ B sb) : DS τ X Φ (.If d A B pos) (.ifs cd sa sb) := psW (ps_if hc ha hb) fun D σ H h => by
  obtain ⟨μ, env, S, r, s, er, e1, f⟩ := h
  simp only [ex] at e1
  split at e1
  · rename_i S1 e2
    refine ⟨μ, env, S, _, S1, s, er, e2, fun μ' H' x' s' => iteT ?_⟩
    exact ⟨μ', env, S1, r, s', er.mono x', e1, f.mono x'⟩
  · rename_i S1 e2
    refine ⟨μ, env, S, _, S1, s, er, e2, fun μ' H' x' s' => iteF ?_⟩
    exact ⟨μ', env, S1, r, s', er.mono x', e1, f.mono x'⟩
  · cases e1
theorem tAsg_of {K : Fg} {ts : List Nat} {g : TG} {te : TE} (gk : GOk K ts g) (ht : ∀ σ H Q, tD K Φ ce σ H Q → te σ H Q) {D : Ends} {σ : L2.St} {H : Hp} (h : tDS K Φ (.set ts ce) D σ H) : tAsg te g D σ H := by
  obtain ⟨μ, env, S, r, s, er, e1, f⟩ := h
  simp only [ex] at e1
  split at e1
  · rename_i w S1 e2
    rw [Option.map_eq_some_iff] at e1
    obtain ⟨env', h1, h2⟩ := e1
    subst h2
    refine ht _ _ _ ⟨μ, env, S, w, S1, s, er, e2, fun v μ' H' x' s' r' => ?_⟩
    exact gk μ' H' S1 σ env env' v w _ s' (er.mono x') r' h1 fun σ' er' _ _ => f σ' μ' H' x' s' er'
  · cases e1
theorem ds_set {ts : List Nat} {x : Expr} (hg : DG τ X x ts) (he : DE τ X Φ e ce) (hs : swapsWithSole [x] e pos.line X.env = pure false := by rfl) (hw : swappedStores [x] e X.env = pure none := by rfl) (h3 : List.map (fun x => x.snd) (assignEach [x] X.env) = [assign x X.env] := by rfl) : DS τ X Φ (.Assign [x] e pos) (.set ts ce) := by
  obtain ⟨g, h1, h2⟩ := hg.ex
  exact psW (ps_asg he h1 hs hw h3) fun D σ H h => tAsg_of h2 (fun _ _ _ q => q) h
/-- x = [..] on one line, x a local -/
theorem ds_setLc {i : Nat} {y : Str} {py spos : Pos} {elt iter : Expr} {ifs : List Expr} {scope : Scope} {own : List (Str × Nat)} {ts : List Nat} {g : TG} {s : CI} {t : CE} (gk : GOk (kwOf τ X) ts g) (hN : X.N.Nodup) (hi : DI τ X Φ tg iter s) (ok : BlkOk X.N X.env.scope scope own)
    (hg : ∀ (s : Shared) (H : Hp) (C : Addr) (cl : List (Str × Addr)) (fp : List Addr), PG (X.blk s H scope (compEnvC scope cl C X.env) fp) tg g)
    (ht : ∀ (s : Shared) (H : Hp) (C : Addr) (cl : List (Str × Addr)) (fp : List Addr), DTs τ (X.blk s H scope (compEnvC scope cl C X.env) fp) Φ ifs t)
    (he : ∀ (s : Shared) (H : Hp) (C : Addr) (cl : List (Str × Addr)) (fp : List Addr), DE τ (X.blk s H scope (compEnvC scope cl C X.env) fp) Φ elt ce)
    (hsw : swapsWith (.ListComp elt [⟨tg, iter, ifs, 0⟩] scope pos) (some (.Name y py)) spos.line X.env = pure true) (hsub : ∀ i ∈ ts, i ∈ own.map (·.2) := by decide) (hy : X.N[i]? = some y := by rfl) (hyl : X.env.scope.names.lookup y = some .local := by rfl) (hc : X.calm = true := by rfl) (hs : ∀ x, foldedSetIterable iter X.env x = pure x := by intro _; rfl) :
    DS τ X Φ (.Assign [.Name y py] (.ListComp elt [⟨tg, iter, ifs, 0⟩] scope pos) spos) (.set [i] (.comp (own.map (·.2)) ts s t ce)) :=
  psW (ps_setLc hc hN hy hyl hsw hi ok hg ht he hs) fun D σ H h => tAsg_of (go_name _ i) (fun _ _ _ q => tLc_of gk hsub q) h
def endF (J : Src) (n : Nat) : Option Fl → Option Fl
  | some (.nx env' S4) => match J.len S4 with
    | some n' => if n' ≤ n then some (.nx env' S4) else none
    | none => none
  | some (.bk env' S4) => some (.nx env' S4)
  | r => r
theorem ex_for {ts : List Nat} {s : CI} {b : CSs} {env : Env} {S : Sto} {r : Fl} (h : ex Φ (.for_ ts s b) env S = some r) : ∃ J S1 n, evi Φ s env S = some (J, S1) ∧ J.len S1 = some n ∧ endF J n (forGo (turnF Φ ts b J) 0 n env S1) = some r := by
  simp only [ex] at h
  split at h
  · rename_i J S1 e1
    split at h
    · rename_i n e2
      exact ⟨J, S1, n, e1, e2, h⟩
    · cases h
  · cases h
theorem ds_for {ts : List Nat} {iter : Expr} {body : List Stmt} {s : CI} {b : CSs} (hg : DG τ X tg ts) (hi : DI τ X Φ tg iter s) (hb : DSs τ X Φ body b) (hp : PassesOwn (model X.prog X.w) X.A X.env X.xe) (hc : X.calm = true := by rfl) (hs : ∀ x, foldedSetIterable iter X.env x = pure x := by intro _; rfl) : DS τ X Φ (.For tg iter body [] pos) (.for_ ts s b) := by
  obtain ⟨g, h1, gk⟩ := hg.ex
  refine psW (ps_for hp hc hi h1 hb hs) fun D σ H h => ?_
  obtain ⟨μ, env, S, r, sr, er, e0, f⟩ := h
  obtain ⟨J, S1, n, e1, e2, e3⟩ := ex_for e0
  refine ⟨μ, env, S, J, S1, sr, er, e1, fun _ μ1 H1 T x1 s1 it => ?_, n, e2⟩
  have f1 := f.mono x1
  refine ⟨fun i m σ2 H2 => ∃ μ2 env2 S2, Ex (kwOf τ X) μ1 H1 μ2 H2 ∧ SR (kwOf τ X) μ2 H2 S2 ∧ ER (kwOf τ X) μ2 H2 σ2 env2 ∧ endF J n (forGo (turnF Φ ts b J) i m env2 S2) = some r ∧ i + m = n, ⟨n, μ1, env, S1, .refl, s1, er.mono x1, e3, Nat.zero_add n⟩, ?_⟩
  rintro i m σ2 H2 ⟨μ2, env2, S2, x2, s2, er2, hgo, him⟩
  have ito := it μ2 H2 S2 x2.toEy s2
  cases m with
  | zero =>
    simp only [forGo, endF] at hgo
    split at hgo
    · rename_i n' e4
      split at hgo
      · rename_i e5
        cases hgo
        exact .inl ⟨ito.2 i n' e4 (by omega), f1 σ2 μ2 H2 x2 s2 er2⟩
      · cases hgo
    · cases hgo
  | succ m =>
    simp only [forGo] at hgo
    have key : ∃ x, J.item S2 i = some x := by
      cases hx : J.item S2 i with
      | some x => exact ⟨x, rfl⟩
      | none =>
        simp only [turnF, hx, endF] at hgo
        cases hgo
    obtain ⟨x, hx⟩ := key
    obtain ⟨hgo1, hyl⟩ := ito.1 i x hx
    refine .inr ⟨hgo1, fun σ' H' => ∃ μ3 env3 S3, Ex (kwOf τ X) μ1 H1 μ3 H' ∧ SR (kwOf τ X) μ3 H' S3 ∧ ER (kwOf τ X) μ3 H' σ' env3 ∧ endF J n (forGo (turnF Φ ts b J) (i + 1) m env3 S3) = some r, fun σ' H' hN => ?_, fun v H' y => ?_⟩
    · obtain ⟨μ3, env3, S3, a1, a2, a3, a4⟩ := hN
      exact ⟨m, by omega, μ3, env3, S3, a1, a2, a3, a4, by omega⟩
    · obtain ⟨xy, sy, rv⟩ := hyl v H' y
      have x2 := x2.trans xy
      have s2 := sy
      have er2 := er2.mono xy
      cases hb' : bindT S2 env2 ts x with
      | none =>
        simp only [turnF, hx, hb', endF] at hgo
        cases hgo
      | some env' =>
        refine gk μ2 H' S2 σ2 env2 env' v x _ s2 er2 rv hb' fun σ' er' _ _ => ?_
        simp only [turnF, hx, hb'] at hgo
        cases hr : exs Φ b env' S2 with
        | none =>
          simp only [hr, endF] at hgo
          cases hgo
        | some r2 =>
          refine ⟨μ2, env', S2, r2, s2, er', hr, ?_⟩
          simp only [hr] at hgo
          cases r2 with
          | nx env3 S3 => exact fun σ3 μ3 H3 x3 s3 er3 => ⟨μ3, env3, S3, x2.trans x3, s3, er3, hgo⟩
          | ct env3 S3 => exact fun σ3 μ3 H3 x3 s3 er3 => ⟨μ3, env3, S3, x2.trans x3, s3, er3, hgo⟩
          | bk env3 S3 =>
            simp only [endF] at hgo
            cases hgo
            exact fun σ3 μ3 H3 x3 s3 er3 => f1 σ3 μ3 H3 (x2.trans x3) s3 er3
          | rt w S3 =>
            simp only [endF] at hgo
            cases hgo
            exact Aft.mono x2 f1
/-! ### stores into lists -/
theorem SR.isL {K : Fg} {μ : List Addr} {H : Hp} {S : Sto} {k : Nat} {a : Addr} (s : SR K μ H S) (hk : μ[k]? = some a) (hkl : ∃ vs, H a = some (.lst vs)) : ∃ xs, SqL K H a xs := by
  obtain ⟨o1, ho1⟩ := s.back hk
  have q := s.at_ _ _ o1 hk ho1
  cases o1 with
  | lst ws => obtain ⟨vs, q, _⟩ := q; exact ⟨vs, .inl (.inl q)⟩
  | dct ws => obtain ⟨_, e, _⟩ := q; obtain ⟨_, e'⟩ := hkl; rw [e] at e'; cases e'
  | obj c fs => obtain ⟨_, _, _, e, _⟩ := q; obtain ⟨_, e'⟩ := hkl; rw [e] at e'; cases e'
  | dd kvs => obtain ⟨_, e, _⟩ := q; obtain ⟨_, e'⟩ := hkl; rw [e] at e'; cases e'
  | clo l zs => obtain ⟨_, _, _, _, _, e, _⟩ := q; obtain ⟨_, e'⟩ := hkl; rw [e] at e'; cases e'
theorem ds_setix {o i : Expr} {co ci : CE} {p2 : Pos} (ho : DE τ X Φ o co) (hi : DE τ X Φ i ci) (he : DE τ X Φ e ce) (hg : PG X (.Subscript o i p2) (gSub (tD (kwOf τ X) Φ co) (tD (kwOf τ X) Φ ci) rSetL)) (hs : swapsWithSole [(.Subscript o i p2 : Expr)] e pos.line X.env = pure false := by rfl) (hw : swappedStores [(.Subscript o i p2 : Expr)] e X.env = pure none := by rfl)
    (h3 : List.map (fun x => x.snd) (assignEach [(.Subscript o i p2 : Expr)] X.env) = [assign (.Subscript o i p2) X.env] := by rfl) : DS τ X Φ (.Assign [.Subscript o i p2] e pos) (.setix co ci ce) := by
  refine psW (ps_asg he hg hs hw h3) fun D σ H h => ?_
  obtain ⟨μ, env, S, r, sr, er, e0, f⟩ := h
  simp only [ex] at e0
  split at e0
  · rename_i w S1 e1
    split at e0
    · rename_i k S2 e2
      split at e0
      · rename_i j S3 e3
        split at e0
        · rename_i xs e4
          split at e0
          · rename_i n e5
            cases e0
            refine ⟨μ, env, S, w, S1, sr, er, e1, fun v μ1 H1 x1 s1 r1 => ⟨μ1, env, S1, _, S2, s1, er.mono x1, e2, fun v2 μ2 H2 x2 s2 r2 => ⟨μ2, env, S2, _, S3, s2, er.mono (x1.trans x2), e3, fun v3 μ3 H3 x3 s3 r3 => ?_⟩⟩⟩
            cases r3
            cases r2 with
            | ref hk hkl =>
              have hk3 := x3.pre _ _ hk
              obtain ⟨q0, vs, q1, t1⟩ := s3.rm hk3 e4
              obtain ⟨s4, x4⟩ := s3.write hk3 q0 (t1.set (r1.mono (x2.trans x3)) n)
              refine ⟨_, vs, j, n, rfl, rfl, q1, ?_, ?_⟩
              · rw [t1.length]
                exact e5
              · exact f σ μ3 _ (((x1.trans x2).trans x3).trans x4) s4 (er.mono (((x1.trans x2).trans x3).trans x4))
          · cases e0
        · cases e0
      · cases e0
    · cases e0
  · cases e0
theorem ds_app {o : Expr} {co : CE} {apos cpos : Pos} (ho : DE τ X Φ o co) (he : DE τ X Φ e ce) (hs : swapsWith (.Call (.Attribute o "append" apos) [e] [] cpos) none pos.line X.env = pure false := by rfl) (h1 : attributeBase o "append" X.env (eval o X.env) = eval o X.env := by rfl)
    (h2 : ((((backTo cpos (starEach [e] X.env)).all fun x => !x.fst) && (backToKw cpos (keywordEach [] X.env)).all fun x => x.fst.isSome) && decide (([e].length + ([] : List Keyword).length + if ([] : List Keyword).isEmpty = true then 0 else 1) < 30)) = true := by rfl)
    (h3 : (apos.endLine == cpos.line) = true := by rfl) (h4 : starEach [e] X.env = (false, eval e X.env) :: starEach [] X.env := by rfl) (h5 : ((backTo cpos (starEach [] X.env)).any fun x => x.fst) = false := by rfl) :
    DS τ X Φ (.Expr (.Call (.Attribute o "append" apos) [e] [] cpos) pos) (.app co ce) := by
  refine psW (ps_expr (pe_bm PySem.F.plainAttrs_list PySem.F.slot_list_append PySem.F.type_list_append mt_append ho (pa_cons he pa_nil h4) h1 h2 h3 h4 h5) hs) fun D σ H h => ?_
  obtain ⟨μ, env, S, r, sr, er, e0, f⟩ := h
  simp only [ex] at e0
  split at e0
  · rename_i k S1 e1
    split at e0
    · rename_i w S2 e2
      split at e0
      · rename_i xs e3
        split at e0
        · rename_i hl
          cases e0
          refine ⟨μ, env, S, _, S1, sr, er, e1, fun v μ1 H1 x1 s1 r1 => ?_⟩
          cases r1 with
          | ref hk hkl =>
            refine ⟨.inl ⟨rfl, s1.isL hk hkl⟩, μ1, env, S1, w, S2, s1, er.mono x1, e2, fun u μ2 H2 x2 s2 r2 => ?_⟩
            have hk2 := x2.pre _ _ hk
            obtain ⟨q0, vs, q1, t1⟩ := s2.rm hk2 e3
            obtain ⟨s3, x3⟩ := s2.write hk2 q0 (t1.snoc r2)
            refine ⟨_, vs, u, rfl, rfl, q1, by rw [t1.length]; exact lim_lt hl, ?_⟩
            exact f σ μ2 _ ((x1.trans x2).trans x3) s3 (er.mono ((x1.trans x2).trans x3))
        · cases e0
      · cases e0
    · cases e0
  · cases e0
theorem tupAt {pins : List (Addr × Obj)} {s : Shared} {σ : L2.St} {H : Hp} {a : Addr} {xs : List V} (I : L2.Inv X pins σ H s) (q : SqT X.K H a xs) : ∃ (ws : List Value) (ob : Obj) (m : Nat), Vals xs ws ∧ s.heap.get? a = some ob ∧ ob.cls = .type "tuple" ∧ ob.data = .seq ws.toArray m := by
  rcases q with q | ⟨ob, ws, m, e, hc, hd, _, hv⟩
  · obtain ⟨_, ws, hv, ob, e, hc, m, hd⟩ := (show ObjOk _ _ H s.heap a (.tup xs) from q.ok I.hok)
    exact ⟨ws, ob, m, hv, e, hc, hd⟩
  · exact ⟨ws.toList, ob, m, hv, I.kIn _ _ e, hc, by simp [hd]⟩
def rExtA (K : PySem.W.Frag) : V → List V → Hp → VK → Prop := fun x vs H Q => rExtend x vs H Q ∨ ∃ l b xs zs, x = .ref l ∧ vs = [.ref b] ∧ H l = some (.lst xs) ∧ SqT K H b zs ∧ xs.length + zs.length ≤ sizeLine ∧ Q .non (upd H l (.lst (xs ++ zs)))
end
/-! ### a def -/
theorem VWs.start {K : Fg} {μ : List Addr} {H : Hp} {vs : List V} {ws : List W} {N : List Str} (h : VWs K μ H vs ws) : ER K μ H (L2.start N vs) (MP.start N.length ws) := by
  refine ⟨?_, fun i w q => ?_⟩
  · unfold L2.start MP.start
    rw [List.length_append, List.length_append, List.length_map, List.length_map, List.length_replicate, List.length_replicate, h.length]
  · unfold MP.start at q
    unfold L2.start
    by_cases hi : i < ws.length
    · rw [List.getElem?_append_left (by rw [List.length_map]; exact hi), List.getElem?_map, Option.map_eq_some_iff] at q
      obtain ⟨w', q1, q2⟩ := q
      cases q2
      obtain ⟨v, h1, h2⟩ := h.get q1
      refine ⟨v, ?_, h2⟩
      rw [List.getElem?_append_left (by rw [List.length_map, h.length]; exact hi), List.getElem?_map, h1]
      rfl
    · rw [List.getElem?_append_right (by rw [List.length_map]; omega), List.getElem?_replicate] at q
      split at q <;> cases q
end MP
namespace MP
open PySem PySem.Spec PyProof.Rows L2
section
variable {τ : TZ} {X : Cx} {Φ : Fns} {a b d e tg : Expr} {es : List Expr} {ca cb cd ce : CE} {cs : CEs} {pos : Pos}
theorem tT_of {c : CE} {t : TE} (i : ∀ σ H Q, tD (kwOf τ X) Φ c σ H Q → t σ H Q) {σ : L2.St} {H : Hp} {Q : Bool → Hp → Prop} (h : tDT (kwOf τ X) Φ c σ H Q) : tB t σ H Q := tTest_of i h
theorem isN_of {neg : Bool} {σ : L2.St} {H : Hp} {Q : VK} (h : tD (kwOf τ X) Φ (.bi (if neg then .notN else .isN) (.cons ca .nil)) σ H Q) : (if neg then tNotN (tD (kwOf τ X) Φ ca) else tIsN (tD (kwOf τ X) Φ ca)) σ H Q := by
  obtain ⟨μ, env, S, w, S', s, er, h1, h2⟩ := h
  simp only [ev, evs] at h1
  split at h1
  · rename_i xs S1 e1
    split at e1
    · rename_i x S2 e2
      cases e1
      cases neg with
      | true =>
        simp only [opI, if_true] at h1
        cases h1
        refine ⟨μ, env, S, x, _, s, er, e2, fun v μ1 H1 x1 s1 r1 => ?_⟩
        have q : decide (v = .non) = isNon x := by cases r1 <;> simp [isNon]
        show Q (V.bl (!decide (v = V.non))) H1
        rw [q]
        exact h2 _ μ1 H1 x1 s1 (.bl _)
      | false =>
        simp only [opI] at h1
        cases h1
        refine ⟨μ, env, S, x, _, s, er, e2, fun v μ1 H1 x1 s1 r1 => ?_⟩
        have q : decide (v = .non) = isNon x := by cases r1 <;> simp [isNon]
        show Q (V.bl (decide (v = V.non))) H1
        rw [q]
        exact h2 _ μ1 H1 x1 s1 (.bl _)
    · cases e1
  · cases h1
theorem dt_isN {j p} (ha : DE τ X Φ a ca) : DT τ X Φ (.Compare a [.Is] [.Constant .none j p] pos) (.bi .isN (.cons ca .nil)) :=
  ptW (pt_cmp (pc_isN ha)) fun _ _ _ h => tT_of (fun _ _ _ q => isN_of (neg := false) q) h
theorem dt_notN {j p} (ha : DE τ X Φ a ca) : DT τ X Φ (.Compare a [.IsNot] [.Constant .none j p] pos) (.bi .notN (.cons ca .nil)) :=
  ptW (pt_cmp (pc_notN ha)) fun _ _ _ h => tT_of (fun _ _ _ q => isN_of (neg := true) q) h
end
/-! ### ends -/
theorem VWs.ints {K : Fg} {μ : List Addr} {H : Hp} : ∀ ns : List Int, VWs K μ H (ns.map V.int) (ns.map W.int)
  | [] => .nil
  | n :: ns => .cons (.int n) (VWs.ints ns)
/-! ### the law's call at the script -/
theorem tabs_nil {τ : TZ} {H : Hp} (h : ∀ p ∈ τ.T, H p.1 = some (.tbl #[])) : LamX.Tabs τ.T H := fun p hp => LamX.TabS.nil (h p hp)
theorem law_sp {K : Fg} {H : Hp} {a : Addr} {ns : List Int} {Φ : Fns} {f : Nat} {Q : VK} {E : XK} (hz : FzL K H a (ns.map V.int)) (t : LamX.Tabs K.T H) (h : ∃ S', Φ f [.rol (ns.map W.int)] [] = some (.bl true, S')) (hq : ∀ H', Q (.bl true) H') : spD K Φ f 1 [.ref a] H Q E := by
  obtain ⟨S', h⟩ := h
  refine ⟨rfl, [], [], _, _, S', ⟨rfl, fun i j a h => by simp at h, fun k a o h => by simp at h, t⟩, .cons (.rol hz (VWs.ints ns)) .nil, h, fun v μ' H' _ _ r => ?_⟩
  cases r
  exact hq H'
def spLaw (K : PySem.W.Frag) (τ : TZ) (Φ : Fns) (f : Nat) : Sp := fun vs H Q _ => ∃ (a : Addr) (ns : List Int), vs = [.ref a] ∧ SqL K H a (ns.map V.int) ∧ LamX.Tabs τ.T H ∧ (∃ S', Φ f [.rol (ns.map W.int)] [] = some (.bl true, S')) ∧ ∀ H', Q (.bl true) H'
theorem fn_law {τ : TZ} {P : Program} {w : World} {K : PySem.W.Frag} {mg : Str → Option Value} {base : Heap} {k : Nat} {f : Addr} {fd : FuncData} {x : Str} {Φ : Fns} {i : Nat} (F : FnOk P w K mg base CX0 k f fd [x] (spD ⟨K, w, τ⟩ Φ i 1)) : FnOk P w K mg base CX0 k f fd [x] (spLaw K τ Φ i) := by
  refine ⟨fun vs H Q E ⟨a, ns, e, _⟩ => by rw [e]; rfl, fun A outer s H args us vs Q E hr e0 hb hv ⟨a, ns, e, hs, t, h, hq⟩ => ?_⟩
  subst e
  rcases hs with (q | ⟨o, q⟩) | q
  · obtain ⟨hz, its, n, rv, ho⟩ := e0.hok a _ q
    have nH : ∀ b u, H b = some u → (∀ vs, u ≠ .lst vs) → b ≠ a := fun b u e z y => by
      rw [y, q] at e
      exact z _ (Option.some.inj e).symm
    have nN : ∀ b, H b = none → b ≠ a := fun b e y => by
      rw [y, q] at e
      cases e
    let o : Obj := { cls := .type "list", data := .seq its.toArray n }
    have e1 : Env0 P w K mg base A outer s (upd H a (.frz o (.lst (ns.map V.int)))) := ⟨e0.frames, e0.mod, fun b ob e => ⟨(e0.bs b ob e).1, by rw [upd_ne (nN b (e0.bs b ob e).2)]; exact (e0.bs b ob e).2⟩, e0.bsz, e0.funs, fun b hb => by rw [upd_ne (nN b (e0.frf b hb))]; exact e0.frf b hb, fun b u e => by
      by_cases hba : b = a
      · subst hba
        rw [upd_same] at e
        cases e
        exact ⟨ho, hz, its, n, rv, ho⟩
      · rw [upd_ne hba] at e
        exact (e0.hok b u e).stay (fun _ _ _ z => z) (fun c z => by rw [upd_ne (nH c _ z (fun _ y => nomatch y))]; exact z) fun c xs z => by rw [upd_ne (nH c _ z (fun _ y => nomatch y))]; exact z, e0.bare⟩
    have t1 : LamX.Tabs τ.T (upd H a (.frz o (.lst (ns.map V.int)))) := tb_upd t fun u e => by
      rw [q] at e
      cases e
      exact ⟨st_lst.nb, st_lst.nc⟩
    refine codeAny_mono (F.run A outer s _ args us [.ref a] (fun v _ => v = .bl true) E hr e1 hb hv (law_sp (K := ⟨K, w, τ⟩) (.inl ⟨o, upd_same⟩) t1 h fun _ => rfl)) fun r s' hc => ?_
    cases r with
    | error e => exact False.elim hc
    | ok fl =>
      cases fl with
      | next => exact False.elim hc
      | brk => exact False.elim hc
      | cont => exact False.elim hc
      | ret u =>
        obtain ⟨v, H1, os, bare, un, hok, rv', q'⟩ := hc
        have z1 := un.frzs a o (.lst (ns.map V.int)) upd_same
        have n1 : ∀ b u, H1 b = some u → (∀ ob u', u ≠ .frz ob u') → b ≠ a := fun b u e z y => by
          rw [y, z1] at e
          exact z _ _ (Option.some.inj e).symm
        refine ⟨v, upd H1 a (.lst (ns.map V.int)), os, bare, ⟨fun b ob e n1 n2 n3 => un.keep b ob e (by rw [upd_ne (nN b n1)]; exact n1) n2 n3, fun b ob e n1 n2 n3 => un.slot b ob e (by rw [upd_ne (nN b n1)]; exact n1) n2 n3, fun b ob e n1 n3 => by rw [upd_ne (nN b n1)]; exact un.free b ob e (by rw [upd_ne (nN b n1)]; exact n1) n3, un.there, fun b xs e => ?_, fun b ob u' e => ?_, fun b ps e => ?_⟩, fun b u' e => ?_, rv', ?_⟩
        · have nb := nH b _ e (fun _ y => nomatch y)
          rw [upd_ne nb]
          exact un.tups b xs (by rw [upd_ne nb]; exact e)
        · have nb := nH b _ e (fun _ y => nomatch y)
          rw [upd_ne nb]
          exact un.frzs b ob u' (by rw [upd_ne nb]; exact e)
        · have nb := nH b _ e (fun _ y => nomatch y)
          rw [upd_ne nb]
          exact un.tbls b ps (by rw [upd_ne nb]; exact e)
        · by_cases hba : b = a
          · subst hba
            rw [upd_same] at e
            cases e
            exact (hok b _ z1).2
          · rw [upd_ne hba] at e
            exact (hok b u' e).stay (fun _ _ _ z => z) (fun c z => by rw [upd_ne (n1 c _ z (fun _ _ y => nomatch y))]; exact z) fun c xs z => by rw [upd_ne (n1 c _ z (fun _ _ y => nomatch y))]; exact z
        · have q2 : v = .bl true := q'
          subst q2
          exact hq _
  · exact F.run A outer s H args us [.ref a] Q E hr e0 hb hv (law_sp (K := ⟨K, w, τ⟩) (.inl ⟨o, q⟩) t h hq)
  · exact F.run A outer s H args us [.ref a] Q E hr e0 hb hv (law_sp (K := ⟨K, w, τ⟩) (.inr q) t h hq)
end MP
/-! tables of sets: a free place is always found where the table has 8, 16 or 32 places -/
namespace MP
open PySem PySem.Spec PyProof.Rows L2
def Mk3 (m : Nat) : Prop := m = 7 ∨ m = 15 ∨ m = 31
def ownL (m : Nat) (own : Array (Option Nat)) : List Nat := (List.range (m + 1)).filterMap fun j => own.getD j none
end MP
namespace MP
open PySem PySem.Spec PyProof.Rows L2
/-! ### sets of texts: set(list), sorted(set) -/
def GoodT (w : World) (e : Int × Value) : Prop := ∃ x tk, e.2 = Value.str x tk ∧ e.1 = hashStr w x
def keyT (e : Int × Value) : Str := match e.2 with
  | .str x _ => x
  | _ => Str.empty
def SetT (bb : Bool) (w : World) (h : Heap) (a : Addr) (S : Str → Bool) (n : Nat) : Prop :=
  ∃ o es ep t, (h.get? a = some o ∧ o.ExactSet ∧ o.data = .set es ep t) ∧ ((∀ e ∈ es.toList, GoodT w e) ∧ (es.toList.map keyT).Nodup ∧ ∀ k, S k = true ↔ k ∈ es.toList.map keyT) ∧
    (es.size < scanBound ∧ t.fits es.size = true ∧ es.size = n) ∧ Ris t.place.toList ∧ (w.params.followText "set-order" = true ∨ t.led = true) ∧ (bb = true → n ≤ 4 → t.mask = 7 ∧ t.dummies = #[])
section
variable {bb : Bool} {P : Program} {w : World} {h h' : Heap} {a : Addr} {S : Str → Bool} {n : Nat}
theorem SetT.at (R : SetT bb w h a S n) (k : ∀ o, h.get? a = some o → h'.get? a = some o) : SetT bb w h' a S n := by
  obtain ⟨o, es, ep, t, ⟨ho, q⟩, r⟩ := R
  exact ⟨o, es, ep, t, ⟨k o ho, q⟩, r⟩
theorem SetT.congr {S' : Str → Bool} (R : SetT bb w h a S n) (e : ∀ k, S' k = S k) : SetT bb w h a S' n := by
  rw [show S' = S from funext e]
  exact R
end
section
variable {bb : Bool} {P : Program} {w : World} {A : Around} {E : Value → Shared → Prop} {s : Shared} {a : Addr} {S : Str → Bool} {n : Nat}
end
end MP
namespace MP
open PySem PySem.Spec PyProof.Rows L2
abbrev fset (w : World) : Obj := { cls := .type "set", dict := none, data := .set #[] 0 (.fresh 0 0 (!w.params.followText "set-order")) }
section
variable {P : Program} {w : World} {A : Around} {E : Value → Shared → Prop} {s : Shared}
end
/-! ### the layer's rules -/
def SetTO (bb : Bool) (w : World) (a : Addr) (S : Str → Bool) (n : Nat) : HO := .ext fun h => SetT bb w h a S n
section
variable {τ : TZ} {X : Cx}
def rSetL (K : PySem.W.Frag) (w : World) : List V → Hp → VK → Prop := fun vs H Q => ∃ (p : Addr) (xs : List Str), vs = [.ref p] ∧ SqL K H p (xs.map V.str) ∧ xs.length ≤ 60 ∧ ∀ q c, H q = none → c ≤ xs.length → Q (.ref q) (upd H q (SetTO true w q (fun j => decide (j ∈ xs)) c))
def rSortT (w : World) : List V → Hp → VK → Prop := fun vs H Q => ∃ (bb : Bool) (a : Addr) (S : Str → Bool) (n : Nat), vs = [V.ref a] ∧ H a = some (SetTO bb w a S n) ∧ n < 64 ∧
  ∀ (ns : List Str) (p : Addr), sortedS ns = true → ns.Nodup → (∀ k : Str, k ∈ ns ↔ S k = true) → H p = none → Q (.ref p) (upd H p (.lst (ns.map V.str)))
end
end MP
namespace MP
abbrev Srt (l : List (List Nat)) : Prop := l.Pairwise (· < ·)
end MP
namespace MP
open PySem PySem.Spec PyProof.Rows L2
theorem str_inj {x y : Str} (h : x.cps.toList = y.cps.toList) : x = y := by
  cases x
  cases y
  simp only [Str.mk.injEq]
  exact Array.ext' h
section
variable {τ : TZ} {X : Cx} {Φ : Fns} {a : Expr} {ca : CE} {pos : Pos}
end
end MP
namespace MP
open PySem PySem.Spec PyProof.Rows L2
/-! max of a list of numbers, with what is told of none -/
section
variable {prog : Program} {w : World} {A : Around} {R : Result → Shared → Prop} {I : Addr} {fp wr : List Addr} {n : Nat} {P : Nat → Value → Prop} {St : Nat → Heap → Prop} {kw : List (Str × Value)}
end
section
variable {prog : Program} {w : World} {A : Around} {E : Value → Shared → Prop} {s : Shared} {l : Addr} {xs : Array (Int × Tok)} {d : Value}
end
/-! the greatest of numbers -/
def rMxD (K : PySem.W.Frag) : List V → List V → Hp → VK → Prop := fun vs zs H Q => ∃ (a : Addr) (ns : List Int) (d : Int), vs = [V.ref a] ∧ zs = [V.int d] ∧ SqL K H a (ns.map V.int) ∧ Q (.int (if ns.isEmpty then d else maxI ns)) H
section
variable {τ : TZ} {X : Cx} {Φ : Fns} {a b d e : Expr} {es : List Expr} {ca cb cd ce : CE} {cs : CEs} {pos : Pos}
end
end MP
namespace MP
open PySem PySem.Spec PyProof.Rows L2
/-- a written dict of texts, as a table -/
def KTb (K : Fg) (w : World) (p : Addr) (t : List (List Nat × W)) : Prop := ∃ es n, K.k.lookup p = some ⟨.type "dict", none, .dict es n, #[]⟩ ∧ PySem.W.KeysLit w.params es.toList ∧ (p == sysModules) = false ∧
  ∀ z : Str, ∃ v, RelV v ((findBy Value.isStrOf es z).getD .none) ∧ ∀ μ H, VW K μ H v (atT t z.cps.toList)
section
variable {τ : TZ} {X : Cx} {Φ : Fns} {a b d e : Expr} {es : List Expr} {ca cb cd ce : CE} {cs : CEs} {pos apos cpos : Pos}
end
/-- entries and table, row by row -/
inductive KR (K : Fg) : List DictEntry → List (List Nat × W) → Prop
  | nil : KR K [] []
  | cons {x : Str} {l : List Nat} {t : Tok} {h : Int} {u : Value} {v : V} {w : W} {es : List DictEntry} {ts : List (List Nat × W)} : x.cps.toList = l → RelV v u → (∀ μ H, VW K μ H v w) → KR K es ts → KR K (⟨h, .str x t, u⟩ :: es) ((l, w) :: ts)
theorem KR.find {K : Fg} : ∀ {es : List DictEntry} {ts : List (List Nat × W)}, KR K es ts → ∀ z : Str, ∃ v, RelV v ((findBy Value.isStrOf es.toArray z).getD .none) ∧ ∀ μ H, VW K μ H v (atT ts z.cps.toList)
  | _, _, .nil, z => ⟨.non, rfl, fun _ _ => .non⟩
  | _, _, .cons (x := x) (l := l) (t := t) (h := h) (u := u) (v := v) (w := w) (es := es) (ts := ts) e r q k, z => by
    obtain ⟨v2, r2, q2⟩ := k.find z
    unfold findBy at r2 ⊢
    rw [List.find?_toArray] at r2 ⊢
    rw [List.find?_cons]
    by_cases hx : x = z
    · subst hx
      rw [show Value.isStrOf x (Value.str x t) = true from by simp [Value.isStrOf]]
      refine ⟨v, r, fun μ H => ?_⟩
      rw [atT, if_pos e]
      exact q μ H
    · rw [show Value.isStrOf z (Value.str x t) = false from by simp [Value.isStrOf, hx]]
      refine ⟨v2, r2, fun μ H => ?_⟩
      rw [atT, if_neg (fun q3 => hx (str_inj (e.trans q3.symm)))]
      exact q2 μ H
end MP
namespace MP
open PySem PySem.Spec PyProof.Rows L2
section
variable {τ : TZ} {X : Cx} {Φ : Fns} {a b d e : Expr} {es : List Expr} {ca cb cd ce : CE} {cs : CEs} {pos pos' : Pos}
end
end MP
namespace MP
open PySem PySem.Spec PyProof.Rows L2
section
variable {K : Fg}
/-! remove of a text -/
def eqT (x : Str) (v : Value) : Bool := match v with
  | .str y _ => y.cps.toList == x.cps.toList
  | _ => false
end
section
variable {τ : TZ} {X : Cx}
def rRemS : V → List V → Hp → VK → Prop := fun x xs H Q => ∃ (l : Addr) (ys : List Str) (k : Str) (j : Nat), x = .ref l ∧ xs = [.str k] ∧ H l = some (.lst (ys.map V.str)) ∧ ys[j]? = some k ∧ (∀ m : Nat, m < j → ys[m]? ≠ some k) ∧ Q .non (upd H l (.lst ((ys.eraseIdx j).map V.str)))
variable {Φ : Fns} {a b d e : Expr} {es : List Expr} {ca cb cd ce : CE} {cs : CEs} {pos : Pos}
end
end MP
namespace MP
open PySem PySem.Spec PyProof.Rows L2
/-! enumerate of a tuple -/
def IteT (K : PySem.W.Frag) (a : Addr) : It :=
  ⟨fun i H => ∃ (us : List V) (x : V), SqT K H a us ∧ us[i]? = some x, fun i H v H' => ∃ T x, v = .ref T ∧ H T = none ∧ H' = upd H T (.tup [.int (i : Nat), x]) ∧ ∀ us, SqT K H a us → us[i]? = some x, fun i H => ∃ us : List V, SqT K H a us ∧ us.length ≤ i⟩
section
variable {prog : Program} {w : World} {A : Around} {E : Value → Shared → Prop} {s : Shared}
end
theorem zipT_get : ∀ (x y : List W) (i : Nat), (zipT x y)[i]? = match x[i]?, y[i]? with | some a, some b => some (.tup [a, b]) | _, _ => none
  | [], y, i => by simp [zipT]
  | a :: x, [], i => by simp [zipT]
  | a :: x, b :: y, 0 => by simp [zipT]
  | a :: x, b :: y, i + 1 => by
    rw [zipT, List.getElem?_cons_succ, List.getElem?_cons_succ, List.getElem?_cons_succ, zipT_get x y i]
theorem zipT_len : ∀ (x y : List W), (zipT x y).length = min x.length y.length
  | [], y => by simp [zipT]
  | a :: x, [] => by simp [zipT]
  | a :: x, b :: y => by rw [zipT, List.length_cons, List.length_cons, List.length_cons, zipT_len x y]; omega
theorem it_zipT {K : Fg} {μ : List Addr} {H : Hp} {ws zs : List W} {vs us : List V} {a b : Addr} (q0 : SqT K H a vs) (t0 : VWs K μ H vs ws) (p0 : SqT K H b us) (r0 : VWs K μ H us zs) : ItOk K μ H (.seq (.tup (zipT ws zs))) (RZ.ItzT K a b) := by
  intro μ2 H2 S2 x s
  have q := x.tup _ _ q0
  have t := t0.monoY x
  have p := x.tup _ _ p0
  have r := r0.monoY x
  refine ⟨fun i w h => ?_, fun i n h hn => ?_⟩
  · simp only [Src.item, zipT_get] at h
    split at h
    · rename_i w1 w2 h1 h2
      cases h
      obtain ⟨v1, h3, h4⟩ := t.get h1
      obtain ⟨v2, h5, h6⟩ := r.get h2
      refine ⟨⟨vs, us, v1, v2, q, p, h3, h5⟩, fun u H3 y => ?_⟩
      obtain ⟨T, y1, y2, rfl, hT, rfl, f1, f2⟩ := y
      have e1 := f1 vs q
      have e2 := f2 us p
      rw [h3] at e1
      rw [h5] at e2
      cases e1
      cases e2
      exact ⟨ex_fresh hT, s.fresh hT, .tup (.inl (.inl upd_same)) (.cons (h4.mono (ex_fresh hT)) (.cons (h6.mono (ex_fresh hT)) .nil))⟩
    · cases h
  · simp only [Src.len, zipT_len] at h
    cases h
    have l1 := t.length
    have l2 := r.length
    refine ⟨vs, us, q, p, ?_⟩
    omega
/-! zip of two texts -/
def ItzS (x y : Str) : It :=
  ⟨fun i _ => i < x.cps.size ∧ i < y.cps.size, fun i H v H' => ∃ T c d, v = .ref T ∧ H T = none ∧ x.cps[i]? = some c ∧ y.cps[i]? = some d ∧ H' = upd H T (.tup [.str ⟨#[c]⟩, .str ⟨#[d]⟩]), fun i _ => x.cps.size ≤ i ∨ y.cps.size ≤ i⟩
theorem draws_past {prog : Program} {w : World} {A : Around} (hh : A.handled = none) {x : Str} {t : Tok} {it : Addr} {i : Nat} {h : Heap} (st : h.IsStrIter it (strIterType x) x t i) :
    ∃ n P St, Draws prog w A it [it] n P St ∧ St i h ∧ i ≤ n ∧ (x.cps.size ≤ i → i = n) := by
  by_cases hi : i < x.cps.size
  · exact ⟨_, _, _, Draws.text hh it x t, st, by omega, fun q => absurd hi (by omega)⟩
  · refine ⟨i, fun _ _ => True, fun j g => j = i ∧ g.IsStrIter it (strIterType x) x t i, ⟨fun _ _ q => let ⟨o, ho, _⟩ := q.2; ⟨o, ho⟩, fun _ _ _ q k => ⟨q.1, let ⟨o, ho, r⟩ := q.2; ⟨o, k it (by simp) o ho, r⟩⟩, fun j s Q E hj q _ => absurd q.1 (by omega), fun s Q E q hE => ?_⟩, ⟨rfl, st⟩, Nat.le_refl _, fun _ => rfl⟩
    have q2 := q.2
    have no : x.cps[i]? = none := by simp; omega
    unfold strIterType at q2
    split at q2
    · exact wpAny_nextOf_ascii_end hh q2 no hE
    · exact wpAny_nextOf_wide_end hh q2 no hE
theorem turn_zipS {P : Program} {w : World} {K : PySem.W.Frag} {elts : List Expr} {kk : Nat} {tpos : Pos} {x y : Str} {t u : Tok} {z TI TO i1 i2 : Addr} (D : ZipSep2 z TI TO i1 i2 [i1] [i2]) :
    Turn P w K (.Tuple elts kk tpos) (ItzS x y) [z, TI, TO, i1, i2] z (fun i h => IsZip h z TI TO .none ∧ IsTupOf2 h TI (.ref i1) (.ref i2) ∧ (∃ a b, IsTupOf2 h TO a b) ∧ h.IsStrIter i1 (strIterType x) x t i ∧ h.IsStrIter i2 (strIterType y) y u i) where
  mem := by simp
  obj := fun i h st c hc => by
    obtain ⟨hz, hTI, ⟨_, _, hTO⟩, ⟨o1, e1, _, d1⟩, ⟨o2, e2, _, d2⟩⟩ := st
    have e' : c = z ∨ c = TI ∨ c = TO ∨ c = i1 ∨ c = i2 := by simpa using hc
    rcases e' with q | q | q | q | q <;> rw [q]
    · exact ⟨_, hz, fun v q => nomatch q⟩
    · exact ⟨_, hTI, fun v q => nomatch q⟩
    · exact ⟨_, hTO, fun v q => nomatch q⟩
    · exact ⟨o1, e1, fun v q => by rw [d1] at q; cases q⟩
    · exact ⟨o2, e2, fun v q => by rw [d2] at q; cases q⟩
  keep := fun i h h' st k => by
    obtain ⟨hz, hTI, ⟨a0, b0, hTO⟩, ⟨o1, e1, r1⟩, ⟨o2, e2, r2⟩⟩ := st
    exact ⟨k z (by simp) _ hz, k TI (by simp) _ hTI, ⟨a0, b0, k TO (by simp) _ hTO⟩, ⟨o1, k i1 (by simp) _ e1, r1⟩, ⟨o2, k i2 (by simp) _ e2, r2⟩⟩
  item := by
    intro X hP hw hK hc i pins s σ H E I hf st hg
    subst hP hw hK
    obtain ⟨hz, hTI, ⟨a0, b0, hTO⟩, h1, h2⟩ := st
    have hzl : z < s.heap.objs.size := Heap.lt_size hz
    have hh : X.A.in1.handled = none := I.ok.hd hc
    refine wpAny_pyNext_zipD2_item D (Draws.text hh i1 x t) (Draws.text hh i2 y u) hz hTI hTO h1 h2 hg.1 hg.2 fun x1 x2 h' tk p1 p2 z' TO' h1' h2' hT hsz hk => ?_
    obtain ⟨c, tc, hx, rfl⟩ := p1
    obtain ⟨d, td, hy, rfl⟩ := p2
    refine ⟨_, rfl, wpAny_letOwnedTupleGo_zip (s := { s with heap := h', toks := tk }) z' fun h'' z'' sb => ?_⟩
    have hT2 : h''.get? s.heap.objs.size = some { cls := .type "tuple", data := .seq #[.str ⟨#[c]⟩ tc, .str ⟨#[d]⟩ td] } := (sb.2 _ (Nat.ne_of_gt hzl)).trans hT
    have nw : ObjOk X.prog X.w (upd H s.heap.objs.size (.tup [.str ⟨#[c]⟩, .str ⟨#[d]⟩])) h'' s.heap.objs.size (.tup [.str ⟨#[c]⟩, .str ⟨#[d]⟩]) :=
      ⟨by show 2 ≤ sizeLine; decide, [.str ⟨#[c]⟩ tc, .str ⟨#[d]⟩ td], .cons ⟨_, rfl⟩ (.cons ⟨_, rfl⟩ .nil), ⟨_, hT2, rfl, _, rfl⟩⟩
    have I1 : L2.Inv X pins σ (upd H s.heap.objs.size (.tup [.str ⟨#[c]⟩, .str ⟨#[d]⟩])) { s with heap := h'', toks := tk } :=
      I.turnedNew (t' := tk) (ch := [z, TI, TO, i1, i2]) (fun b o hb q => (sb.2 b (fun q' => hb (by simp [q']))).trans (hk b o (fun q' => hb (by simp [q'])) (fun q' => hb (by simp [q'])) (fun q' => hb (by simp [q'])) (fun q' => hb (by simp [q'])) q)) hf (Nat.le_refl _) nw
    refine ⟨.ref s.heap.objs.size, _, I1, rfl, ⟨_, c, d, rfl, I.hok.fresh (Nat.le_refl _), hx, hy, rfl⟩, ⟨z'', ?_, ⟨.str ⟨#[c]⟩ tc, .str ⟨#[d]⟩ td, ?_⟩, ?_, ?_⟩, fun b hbm => ?_⟩
    · exact (sb.2 _ D.TIz).trans (hk _ _ D.TIz D.TITO D.TIi1 D.TIi2 hTI)
    · exact (sb.2 _ D.TOz).trans TO'
    · obtain ⟨o, ho, r⟩ := h1'
      exact ⟨o, (sb.2 _ D.zi1.symm).trans ho, r⟩
    · obtain ⟨o, ho, r⟩ := h2'
      exact ⟨o, (sb.2 _ D.zi2.symm).trans ho, r⟩
    · have hlt : b < s.heap.objs.size := by
        have e' : b = z ∨ b = TI ∨ b = TO ∨ b = i1 ∨ b = i2 := by simpa using hbm
        rcases e' with q | q | q | q | q <;> rw [q]
        · exact hzl
        · exact Heap.lt_size hTI
        · exact Heap.lt_size hTO
        · obtain ⟨_, e1, _⟩ := h1; exact Heap.lt_size e1
        · obtain ⟨_, e2, _⟩ := h2; exact Heap.lt_size e2
      rw [upd_ne (Nat.ne_of_lt hlt)]
      exact (hf b hbm).1
  done := by
    intro X hP hw hK hc i pins s σ H E I hf st hg
    subst hP hw hK
    obtain ⟨hz, hTI, ⟨a0, b0, hTO⟩, h1, h2⟩ := st
    have hh : X.A.in1.handled = none := I.ok.hd hc
    obtain ⟨n1, P1, St1, D1, s1, l1, e1⟩ := draws_past (prog := X.prog) (w := X.w) (A := X.A.in1) hh h1
    obtain ⟨n2, P2, St2, D2, s2, l2, e2⟩ := draws_past (prog := X.prog) (w := X.w) (A := X.A.in1) hh h2
    refine wpAny_pyNext_zipD2_end D D1 D2 hz hTI hTO s1 s2 l1 l2 (hg.imp e1 e2) fun h' tk hk => ⟨rfl, I.turnedL (t' := tk) (ch := [z, TI, TO, i1, i2]) (fun b o hb q =>
      hk b o (fun q' => hb (by simp [q'])) (fun q' => hb (by simp [q'])) (fun q' => hb (by simp [q'])) (fun q' => hb (by simp [q'])) q) hf⟩
  self := fun A i s Q E st h => wpAny_pyIter_zip st.1 h
theorem sep5 (n : Nat) : ZipSep2 (n + 4) (n + 2) (n + 3) n (n + 1) [n] [n + 1] := by
  constructor <;> simp
theorem pi_zipB {X : Cx} {e e2 : Expr} {ta : TA} {p pos tpos : Pos} {elts : List Expr} {kk : Nat} (hg : Gl X "zip") (hm : X.mg "zip" = none) (ha : PA X [e, e2] ta)
    (hs : starEach [e, e2] X.env = (false, eval e X.env) :: starEach [e2] X.env := by rfl) (hpl : (backTo pos (starEach [e2] X.env)).any (·.1) = false := by rfl) :
    PI X (.Tuple elts kk tpos) (.Call (.Name "zip" p) [e, e2] [] pos) (fun σ H R => ta σ H fun vs H1 => (∃ a b xs ys, vs = [.ref a, .ref b] ∧ SqT X.K H1 a xs ∧ SqT X.K H1 b ys ∧ R (RZ.ItzT X.K a b) H1) ∨ (∃ x y, vs = [.str x, .str y] ∧ R (ItzS x y) H1) ∨ ∃ a b xs ys, vs = [.ref a, .ref b] ∧ SqL X.K H1 a xs ∧ SqL X.K H1 b ys ∧ R (Itz X.K a b) H1) := by
  refine ⟨fun pins s σ H R I h => ?_⟩
  refine Call_ (ld_blt I hg hm PyProof.Rows.boot_zip (PyProof.Rows.callWith_type1 (thn (ha.run pos pins s σ H _ I h) fun us s1 ⟨vs, H1, I1, r1, q1⟩ => ?_) hs hpl))
  have five : ∀ c, c ∈ [s1.heap.objs.size + 4, s1.heap.objs.size + 2, s1.heap.objs.size + 3, s1.heap.objs.size, s1.heap.objs.size + 1] → FpOk X pins H1 c := fun c hcm => by
    have hle : s1.heap.objs.size ≤ c := by
      have e' : c = s1.heap.objs.size + 4 ∨ c = s1.heap.objs.size + 2 ∨ c = s1.heap.objs.size + 3 ∨ c = s1.heap.objs.size ∨ c = s1.heap.objs.size + 1 := by simpa using hcm
      rcases e' with q | q | q | q | q <;> rw [q] <;> first | exact Nat.le_refl _ | exact Nat.le_add_right _ _
    exact I1.fpOk hle (I1.hok.fresh hle)
  rcases q1 with ⟨a, b, xs, ys, ex, hqx, hqy, q⟩ | ⟨x, y, ex, q⟩ | ⟨a, b, xs, ys, ex, hqx, hqy, q⟩
  · subst ex
    cases r1 with
    | cons r rr =>
      cases rr with
      | cons r' rr =>
        cases rr
        cases r
        cases r'
        obtain ⟨its, rv, p1, _⟩ := I1.tuple hqx
        obtain ⟨its2, rv2, p2, _⟩ := I1.tuple hqy
        obtain ⟨o1, ho1, _⟩ := id p1
        obtain ⟨o2, ho2, _⟩ := id p2
        refine RZ.call_zipT (show s1.heap.IsTuple a its.toArray from p1) (show s1.heap.IsTuple b its2.toArray from p2) fun h' hz hTI hTO h1 h2 hsz hk => wpAny_pyIter_zip hz ?_
        have I2 : L2.Inv X pins σ H1 { s1 with heap := h' } := I1.kept (t' := s1.toks) hk
        exact ⟨_, [s1.heap.objs.size + 4, s1.heap.objs.size + 2, s1.heap.objs.size + 3, s1.heap.objs.size, s1.heap.objs.size + 1], _, _, H1, rfl, I2, RZ.turn_zipT (PySem.W.ktu_apart s1.heap.objs.size a b (Heap.lt_size ho1) (Heap.lt_size ho2)), ⟨hz, hTI, ⟨_, _, hTO⟩, h1, h2⟩, five, q⟩
  · subst ex
    cases r1 with
    | cons r rr =>
      cases rr with
      | cons r' rr =>
        cases rr
        obtain ⟨t, rfl⟩ := r
        obtain ⟨u, rfl⟩ := r'
        refine zip_begins2 (begins_text x t) (begins_text y u) trivial trivial fun h' hz hTI hTO h1 h2 hsz hk => wpAny_pyIter_zip hz ?_
        have I2 : L2.Inv X pins σ H1 { s1 with heap := h' } := I1.kept (t' := s1.toks) hk
        exact ⟨_, [s1.heap.objs.size + 4, s1.heap.objs.size + 2, s1.heap.objs.size + 3, s1.heap.objs.size, s1.heap.objs.size + 1], _, _, H1, rfl, I2, turn_zipS (t := t) (u := u) (sep5 _), ⟨hz, hTI, ⟨_, _, hTO⟩, ⟨_, h1, rfl, rfl⟩, ⟨_, h2, rfl, rfl⟩⟩, five, q⟩
  · subst ex
    cases r1 with
    | cons r rr =>
      cases rr with
      | cons r' rr =>
        cases rr
        cases r
        cases r'
        obtain ⟨its, rv, p1, _⟩ := I1.list hqx
        obtain ⟨its2, rv2, p2, _⟩ := I1.list hqy
        refine call_zip_2 p1.isList p2.isList fun h' hz hTI hTO h1 h2 hsz hk => wpAny_pyIter_zip hz ?_
        have I3 : L2.Inv X pins σ H1 { s1 with heap := h' } := I1.kept (t' := s1.toks) hk
        refine ⟨_, [s1.heap.objs.size + 4, s1.heap.objs.size + 2, s1.heap.objs.size + 3, s1.heap.objs.size, s1.heap.objs.size + 1], _, _, H1, rfl, I3, turn_zip (PySem.W.ktu_apart s1.heap.objs.size a b p1.lt p2.lt), ?_, five, q⟩
        exact ⟨hz, hTI, ⟨_, _, hTO⟩, h1, h2⟩
/-! enumerate of a text -/
def IteS (x : Str) : It :=
  ⟨fun i _ => i < x.cps.size, fun i H v H' => ∃ T c, v = .ref T ∧ H T = none ∧ x.cps[i]? = some c ∧ H' = upd H T (.tup [.int (i : Nat), .str ⟨#[c]⟩]), fun i _ => x.cps.size ≤ i⟩
theorem it_zipL {K : Fg} {μ : List Addr} {H : Hp} {k l : Nat} {a b : Addr} (hk : μ[k]? = some a) (hl : μ[l]? = some b) : ItOk K μ H (.zipL k l) (Itz K a b) := by
  intro μ2 H2 S2 x s
  have hk2 := x.pre k a hk
  have hl2 := x.pre l b hl
  refine ⟨fun i w h => ?_, fun i n h hn => ?_⟩
  · simp only [Src.item] at h
    split at h
    · rename_i ws zs e1 e2
      obtain ⟨vs, q, t⟩ := s.rd hk2 e1
      obtain ⟨us, p, r⟩ := s.rd hl2 e2
      rw [zipT_get] at h
      split at h
      · rename_i w1 w2 h1 h2
        cases h
        obtain ⟨v1, h3, h4⟩ := t.get h1
        obtain ⟨v2, h5, h6⟩ := r.get h2
        refine ⟨⟨vs, us, v1, v2, q, p, h3, h5⟩, fun u H3 y => ?_⟩
        obtain ⟨T, y1, y2, rfl, hT, rfl, f1, f2⟩ := y
        have g1 := f1 vs q
        have g2 := f2 us p
        rw [h3] at g1
        rw [h5] at g2
        cases g1
        cases g2
        exact ⟨ex_fresh hT, s.fresh hT, .tup (.inl (.inl upd_same)) (.cons (h4.mono (ex_fresh hT)) (.cons (h6.mono (ex_fresh hT)) .nil))⟩
      · cases h
    · cases h
  · simp only [Src.len] at h
    split at h
    · rename_i ws zs e1 e2
      obtain ⟨vs, q, t⟩ := s.rd hk2 e1
      obtain ⟨us, p, r⟩ := s.rd hl2 e2
      rw [zipT_len] at h
      cases h
      have l1 := t.length
      have l2 := r.length
      refine ⟨vs, us, q, p, ?_⟩
      omega
    · cases h
theorem it_zipS {K : Fg} {μ : List Addr} {H : Hp} {l m : List Nat} {x y : Str} (e1 : x.cps.toList = l) (e2 : y.cps.toList = m) : ItOk K μ H (.seq (.tup (zipT (sgns l) (sgns m)))) (ItzS x y) := by
  intro μ2 H2 S2 _ s
  have z1 : x.cps.size = l.length := by rw [← e1]; simp
  have z2 : y.cps.size = m.length := by rw [← e2]; simp
  refine ⟨fun i w h => ?_, fun i n h hn => ?_⟩
  · simp only [Src.item, zipT_get, sgns, List.getElem?_map] at h
    cases h1 : l[i]? with
    | none => rw [h1] at h; simp at h
    | some c =>
      cases h2 : m[i]? with
      | none => rw [h1, h2] at h; simp at h
      | some d =>
        rw [h1, h2] at h
        simp only [Option.map_some, Option.some.injEq] at h
        subst h
        refine ⟨⟨by rw [z1]; exact (List.getElem?_eq_some_iff.mp h1).1, by rw [z2]; exact (List.getElem?_eq_some_iff.mp h2).1⟩, fun v H3 q => ?_⟩
        obtain ⟨T, c', d', rfl, hT, q1, q2, rfl⟩ := q
        have f1 : c' = c := by
          rw [← Array.getElem?_toList, e1, h1] at q1
          exact (Option.some.inj q1).symm
        have f2 : d' = d := by
          rw [← Array.getElem?_toList, e2, h2] at q2
          exact (Option.some.inj q2).symm
        subst f1 f2
        exact ⟨ex_fresh hT, s.fresh hT, .tup (.inl (.inl upd_same)) (.cons (.str _ _ rfl) (.cons (.str _ _ rfl) .nil))⟩
  · simp only [Src.len, zipT_len, sgns, List.length_map] at h
    cases h
    show _ ∨ _
    omega
section
variable {τ : TZ} {X : Cx} {Φ : Fns} {a b d e tg : Expr} {es : List Expr} {ca cb cd ce : CE} {cs : CEs} {pos : Pos}
theorem di_zip {p tpos : Pos} {elts : List Expr} {kk : Nat} (hm : X.mg "zip" = none) (ha : DE τ X Φ a ca) (hb : DE τ X Φ b cb) (hg : Gl X "zip" := by rfl) (hs : starEach [a, b] X.env = (false, eval a X.env) :: starEach [b] X.env := by rfl) (hs2 : starEach [b] X.env = [(false, eval b X.env)] := by rfl) (hpl : (backTo pos (starEach [b] X.env)).any (·.1) = false := by rfl) :
    DI τ X Φ (.Tuple elts kk tpos) (.Call (.Name "zip" p) [a, b] [] pos) (.zip ca cb) := by
  refine piW (pi_zipB hg hm (pa_cons ha (pa_cons hb pa_nil hs2) hs) hs hpl) fun σ H R h => ?_
  obtain ⟨μ, env, S, J, S', s, er, h1, h2, n, hn⟩ := h
  simp only [evi] at h1
  split at h1
  · rename_i x S1 e1
    split at h1
    · rename_i y S2 e2
      cases h1
      refine ⟨μ, env, S, _, _, s, er, e1, fun v μ1 H1 x1 s1 r1 => ⟨μ1, env, S1, _, _, s1, er.mono x1, e2, fun u μ2 H2 x2 s2 r2 => ?_⟩⟩
      have r1' := r1.mono x2
      cases r1' with
      | tup q t =>
        cases r2 with
        | tup q' t' => exact .inl ⟨_, _, _, _, rfl, q, q', h2 ⟨n, hn⟩ μ2 H2 _ (x1.trans x2) s2 (it_zipT q t q' t')⟩
    · cases h1
  · rename_i x S1 e1
    split at h1
    · rename_i y S2 e2
      cases h1
      refine ⟨μ, env, S, _, _, s, er, e1, fun v μ1 H1 x1 s1 r1 => ⟨μ1, env, S1, _, _, s1, er.mono x1, e2, fun u μ2 H2 x2 s2 r2 => ?_⟩⟩
      have r1' := r1.mono x2
      cases r1' with
      | str q _ t =>
        cases r2 with
        | str q' _ t' => exact .inr (.inl ⟨_, _, rfl, h2 ⟨n, hn⟩ μ2 H2 _ (x1.trans x2) s2 (it_zipS t t')⟩)
    · cases h1
  · rename_i x S1 e1
    split at h1
    · rename_i y S2 e2
      cases h1
      refine ⟨μ, env, S, _, _, s, er, e1, fun v μ1 H1 x1 s1 r1 => ⟨μ1, env, S1, _, _, s1, er.mono x1, e2, fun u μ2 H2 x2 s2 r2 => ?_⟩⟩
      have r1' := r1.mono x2
      simp only [Src.len] at hn
      cases r1' with
      | ref hk hkl =>
        cases r2 with
        | ref hk' hkl' =>
          obtain ⟨vs1, g1⟩ := s2.isL hk hkl
          obtain ⟨vs2, g2⟩ := s2.isL hk' hkl'
          exact .inr (.inr ⟨_, _, _, _, rfl, g1, g2, h2 ⟨n, hn⟩ μ2 H2 _ (x1.trans x2) s2 (it_zipL hk hk')⟩)
    · cases h1
  · cases h1
end
end MP
/-! list(zip(x, y)) of two tuples -/
namespace MP
open PySem PySem.Spec PyProof.Rows L2
section
variable {prog : Program} {w : World} {A : Around} {E : Value → Shared → Prop} {s : Shared} {z TI TO T i1 i2 l1 l2 q : Addr} {f : Bool} {oT : Obj} {n1 n2 : Nat} {xs ys : Array Value} {x y : Value}
/-- a zip under way: nothing given out yet, or the first pair still there -/
def ZS (z TI TO i1 i2 l1 l2 q : Addr) (h : Heap) (i : Nat) : Prop := IsPair h TI (.ref i1) (.ref i2) ∧ h.IsTupleIter i1 l1 i ∧ h.IsTupleIter i2 l2 i ∧
  ((IsZip h z TI TO .none ∧ ∃ u v, IsPair h TO u v) ∨ ∃ (T : Addr) (f : Bool) (o : Obj), IsZipHeld h z TI TO T f ∧ h.get? T = some o ∧ T ≠ z ∧ T ≠ i1 ∧ T ≠ i2 ∧ T ≠ q ∧ ∃ oO, h.get? TO = some oO)
theorem ZS.keep {h g : Heap} {i : Nat} (st : ZS z TI TO i1 i2 l1 l2 q h i) (nz : z ≠ q) (nI : TI ≠ q) (nO : TO ≠ q) (n1 : i1 ≠ q) (n2 : i2 ≠ q) (k : ∀ c o, c ≠ q → h.get? c = some o → g.get? c = some o) : ZS z TI TO i1 i2 l1 l2 q g i := by
  obtain ⟨a, b, c, d⟩ := st
  refine ⟨k _ _ nI a, b.at fun o e => k _ o n1 e, c.at fun o e => k _ o n2 e, ?_⟩
  rcases d with ⟨d, u, v, e⟩ | ⟨T, f, o, d, e, r1, r2, r3, r4, oO, eO⟩
  · exact .inl ⟨k _ _ nz d, u, v, k _ _ nO e⟩
  · exact .inr ⟨T, f, o, k _ _ nz d, k _ _ r4 e, r1, r2, r3, r4, oO, k _ _ nO eO⟩
end
section
variable {τ : TZ} {X : Cx} {pins : List (Addr × Obj)} {σ : L2.St} {zp TI TO i1 i2 a b q : Addr} {xs ys : List V}
/-- what is walked: the list at q is filled, pair by pair -/
structure ZRun (K : Fg) (a b q : Addr) (xs ys : List V) (P : Nat → List V → Hp → Prop) : Prop where
  here : ∀ i acc H, P i acc H → H q = some (.lst acc) ∧ acc.length = i ∧ SqT K H a xs ∧ SqT K H b ys
  step : ∀ i acc H T x y, P i acc H → xs[i]? = some x → ys[i]? = some y → H T = none → P (i + 1) (acc ++ [.ref T]) (upd (upd H T (.tup [x, y])) q (.lst (acc ++ [.ref T])))
end
section
variable {τ : TZ} {X : Cx} {Φ : Fns} {a b : Expr} {ca cb : CE}
end
end MP
/-! is True, is not True -/
namespace MP
open PySem PySem.Spec PyProof.Rows L2
section
variable {τ : TZ} {X : Cx} {Φ : Fns} {a : Expr} {ca : CE} {ta : TE} {pos : Pos}
end
/-! t[::-1] of a tuple -/
section
variable {prog : Program} {w : World} {A : Around} {E : Value → Shared → Prop} {s : Shared}
end
section
variable {τ : TZ} {X : Cx} {Φ : Fns} {a : Expr} {ca : CE} {pos : Pos}
end
end MP
namespace MP
open PySem PySem.Spec PyProof.Rows L2
section
variable {Φ : Fns} {ca cb : CE}
theorem ev_2 {f : BI} {env : Env} {S S' : Sto} {w : W} (h : ev Φ (.bi f (.cons ca (.cons cb .nil))) env S = some (w, S')) : ∃ x S1 y S2, ev Φ ca env S = some (x, S1) ∧ ev Φ cb env S1 = some (y, S2) ∧ opI f [x, y] S2 = some (w, S') := by
  simp only [ev, evs] at h
  split at h
  · rename_i xs S1 e1
    split at e1
    · rename_i x S2 e2
      split at e1
      · rename_i ys S3 e3
        cases e1
        split at e3
        · rename_i y S4 e4
          cases e3
          exact ⟨x, S2, y, _, e2, e4, h⟩
        · cases e3
      · cases e1
    · cases e1
  · cases h
theorem ev_3 {cc : CE} {f : BI} {env : Env} {S S' : Sto} {w : W} (h : ev Φ (.bi f (.cons ca (.cons cb (.cons cc .nil)))) env S = some (w, S')) : ∃ x S1 y S2 z S3, ev Φ ca env S = some (x, S1) ∧ ev Φ cb env S1 = some (y, S2) ∧ ev Φ cc env S2 = some (z, S3) ∧ opI f [x, y, z] S3 = some (w, S') := by
  simp only [ev, evs] at h
  split at h
  · rename_i xs S1 e1
    split at e1
    · rename_i x S2 e2
      split at e1
      · rename_i ys S3 e3
        cases e1
        split at e3
        · rename_i y S4 e4
          split at e3
          · rename_i zs S5 e5
            cases e3
            split at e5
            · rename_i z S6 e6
              cases e5
              exact ⟨x, S2, y, S4, z, _, e2, e4, e6, h⟩
            · cases e5
          · cases e3
        · cases e3
      · cases e1
    · cases e1
  · cases h
end
end MP
namespace MP
open PySem PySem.Spec PyProof.Rows L2
open SeqAt
/-! ### keys as values of the abstract heap -/
mutual
inductive KyV (K : PySem.W.Frag) (H : Hp) : V → NestedKey → Prop
  | non : KyV K H .non .none
  | int (i : Int) : KyV K H (.int i) (.num i)
  | str (x : Str) : KyV K H (.str x) (.text x)
  | tup {a : Addr} {xs : List V} {ks : List NestedKey} : SqT K H a xs → KyVs K H xs ks → KyV K H (.ref a) (.tup ks)
inductive KyVs (K : PySem.W.Frag) (H : Hp) : List V → List NestedKey → Prop
  | nil : KyVs K H [] []
  | cons {v : V} {k : NestedKey} {vs : List V} {ks : List NestedKey} : KyV K H v k → KyVs K H vs ks → KyVs K H (v :: vs) (k :: ks)
end
section
variable {X : Cx} {pins : List (Addr × Obj)} {σ : L2.St} {H : Hp} {s : Shared}
mutual
theorem KyV.is (I : Inv X pins σ H s) : ∀ {v : V} {k : NestedKey} {u : Value}, KyV X.K H v k → RelV v u → NestedIs s.heap k u
  | _, _, _, .non, r => by cases r; exact .none
  | _, _, _, .int i, r => by obtain ⟨t, rfl⟩ := r; exact .int i t
  | _, _, _, .str x, r => by obtain ⟨t, rfl⟩ := r; exact .text x t
  | _, _, _, .tup q t, r => by
    cases r
    obtain ⟨ws, ob, m, hv, e, hc, hd⟩ := tupAt I q
    exact .tup e hc hd (by simpa using KyVs.is I t hv)
theorem KyVs.is (I : Inv X pins σ H s) : ∀ {v : List V} {k : List NestedKey} {u : List Value}, KyVs X.K H v k → Vals v u → NestedAll s.heap k u
  | _, _, _, .nil, r => by cases r; exact .nil
  | _, _, _, .cons a b, r => by
    cases r with
    | cons r1 r2 => exact .cons (KyV.is I a r1) (KyVs.is I b r2)
end
end
section
variable {K : Fg} {μ : List Addr} {H : Hp} {S : Sto}
mutual
theorem VW.ky : ∀ {v : V} (k : HK), VW K μ H v k.w → KyV K H v k.nk
  | _, .non, r => by cases r; exact .non
  | _, .int i, r => by cases r; exact .int i
  | _, .str x, r => by
    cases r with
    | str z _ e =>
      show KyV K H (.str z) (.text ⟨x.toArray⟩)
      rw [← str_eta e]
      exact .str z
  | _, .tup xs, r => by
    cases r with
    | tup q t => exact .tup q (VWs.kys xs t)
theorem VWs.kys : ∀ {v : List V} (k : List HK), VWs K μ H v (HK.ws k) → KyVs K H v (HK.nks k)
  | _, [], r => by cases r; exact .nil
  | _, x :: xs, r => by
    cases r with
    | cons a b => exact .cons (VW.ky x a) (VWs.kys xs b)
end
theorem hks_ok {f : W → Option HK} {n : Nat} (hf : ∀ w h, f w = some h → w = h.w ∧ h.dep ≤ n) : ∀ {ws : List W} {hs : List HK}, hks f ws = some hs → ws = HK.ws hs ∧ HK.deps hs ≤ n
  | [], _, e => by cases e; exact ⟨rfl, Nat.zero_le _⟩
  | w :: ws, _, e => by
    unfold hks at e
    split at e
    · rename_i d ds h1 h2
      cases e
      obtain ⟨a1, a2⟩ := hf _ _ h1
      obtain ⟨b1, b2⟩ := hks_ok hf h2
      exact ⟨by rw [a1, b1]; rfl, by show max _ _ ≤ n; omega⟩
    · cases e
theorem hkOf_ok : ∀ (n : Nat) (w : W) (h : HK), hkOf n w = some h → w = h.w ∧ h.dep ≤ n
  | n, .non, h, e => by cases n <;> (simp only [hkOf] at e; cases e; exact ⟨rfl, Nat.zero_le _⟩)
  | n, .int i, h, e => by cases n <;> (simp only [hkOf] at e; cases e; exact ⟨rfl, Nat.zero_le _⟩)
  | n, .str i, h, e => by cases n <;> (simp only [hkOf] at e; cases e; exact ⟨rfl, Nat.zero_le _⟩)
  | n + 1, .tup xs, h, e => by
    simp only [hkOf, Option.map_eq_some_iff] at e
    obtain ⟨hs, h1, h2⟩ := e
    subst h2
    obtain ⟨a1, a2⟩ := hks_ok (fun w h q => hkOf_ok n w h q) h1
    exact ⟨by rw [a1]; rfl, by show _ + 1 ≤ _; omega⟩
  | 0, .tup xs, h, e => by simp [hkOf] at e
  | n, .bl b, h, e => by cases n <;> simp [hkOf] at e
  | n, .ref b, h, e => by cases n <;> simp [hkOf] at e
  | n, .rol b, h, e => by cases n <;> simp [hkOf] at e
  | n, .fn b, h, e => by cases n <;> simp [hkOf] at e
  | n, .dic b, h, e => by cases n <;> simp [hkOf] at e
  | n, .dref b, h, e => by cases n <;> simp [hkOf] at e
  | n, .exc b c, h, e => by cases n <;> simp [hkOf] at e
  | n, .oref b, h, e => by cases n <;> simp [hkOf] at e
  | n, .gref b, h, e => by cases n <;> simp [hkOf] at e
  | n, .ntup b, h, e => by cases n <;> simp [hkOf] at e
  | n, .lref b, h, e => by cases n <;> simp [hkOf] at e
/-- the entries' keys are keys, unlike, not too many -/
structure GKk (K : PySem.W.Frag) (H : Hp) (gs : List GE) : Prop where
  ky : ∀ g ∈ gs, KyV K H g.kv g.k ∧ g.k.depth ≤ 8
  nd : (gs.map (·.k)).Nodup
  sz : gs.length ≤ sizeLine
theorem VWg.len : ∀ {gs : List GE} {kvs : List (HK × W)}, VWg K μ H gs kvs → gs.length = kvs.length
  | _, _, .nil => rfl
  | _, _, .cons _ _ t => congrArg (· + 1) t.len
theorem VWg.get : ∀ {gs : List GE} {kvs : List (HK × W)} {j : Nat} {g : GE}, VWg K μ H gs kvs → gs[j]? = some g → ∃ p, kvs[j]? = some p ∧ g.k = p.1.nk ∧ VW K μ H g.kv p.1.w ∧ VW K μ H g.v p.2
  | _, _, _, _, .nil, e => by simp at e
  | _, _, 0, _, .cons a b t, e => by simp at e; subst e; exact ⟨_, rfl, rfl, a, b⟩
  | _, _, j + 1, _, .cons a b t, e => by
    obtain ⟨p, h1, h2⟩ := VWg.get (j := j) t (by simpa using e)
    exact ⟨p, by simpa using h1, h2⟩
theorem VWg.get' : ∀ {gs : List GE} {kvs : List (HK × W)} {j : Nat} {p : HK × W}, VWg K μ H gs kvs → kvs[j]? = some p → ∃ g, gs[j]? = some g ∧ g.k = p.1.nk ∧ VW K μ H g.kv p.1.w ∧ VW K μ H g.v p.2
  | _, _, _, _, .nil, e => by simp at e
  | _, _, 0, _, .cons a b t, e => by simp at e; subst e; exact ⟨_, rfl, rfl, a, b⟩
  | _, _, j + 1, _, .cons a b t, e => by
    obtain ⟨p, h1, h2⟩ := VWg.get' (j := j) t (by simpa using e)
    exact ⟨p, by simpa using h1, h2⟩
theorem VWg.keys : ∀ {gs : List GE} {kvs : List (HK × W)}, VWg K μ H gs kvs → gs.map (·.k) = (kvs.map (·.1)).map HK.nk
  | _, _, .nil => rfl
  | _, _, .cons _ _ t => by
    rw [List.map_cons, List.map_cons, List.map_cons, t.keys]
theorem VWg.kk {gs : List GE} {kvs : List (HK × W)} (t : VWg K μ H gs kvs) (d : DDk kvs) : GKk K H gs := by
  refine ⟨fun g hg => ?_, ?_, by rw [t.len]; exact d.sz⟩
  · obtain ⟨j, hj⟩ := List.getElem?_of_mem hg
    obtain ⟨p, h1, h2, h3, _⟩ := t.get hj
    rw [h2]
    exact ⟨h3.ky p.1, by rw [HK.nk_dep]; exact d.dp p (List.mem_of_getElem? h1)⟩
  · rw [t.keys]
    exact List.Pairwise.map (S := fun a b => a ≠ b) HK.nk (fun a b h e => h (HK.nk_inj a b e)) d.nd
theorem VWg.snoc {g : List GE} {kvs : List (HK × W)} {kv v : V} {h : HK} {w : W} (a : VW K μ H kv h.w) (b : VW K μ H v w) : VWg K μ H g kvs → VWg K μ H (g ++ [⟨h.nk, kv, v⟩]) (kvs ++ [(h, w)])
  | .nil => .cons a b .nil
  | .cons c d t => .cons c d (VWg.snoc a b t)
theorem VWg.set {v : V} {w : W} (b : VW K μ H v w) : ∀ {gs : List GE} {kvs : List (HK × W)} (j : Nat) (g : GE) (p : HK × W), VWg K μ H gs kvs → gs[j]? = some g → kvs[j]? = some p → VWg K μ H (gs.set j { g with v := v }) (kvs.set j (p.1, w))
  | _, _, _, _, _, .nil, _, _ => .nil
  | _, _, 0, _, _, .cons a c t, e, e' => by simp at e e'; subst e e'; exact .cons a b t
  | _, _, j + 1, g, p, .cons a c t, e, e' => .cons a c (VWg.set b j g p t (by simpa using e) (by simpa using e'))
/-! ### the pure side of a dict -/
theorem lookup_at {h : HK} {w : W} : ∀ {kvs : List (HK × W)} {j : Nat}, (kvs.map (·.1)).Nodup → kvs[j]? = some (h, w) → kvs.lookup h = some w
  | [], _, _, e => by simp at e
  | (h', w') :: r, 0, _, e => by simp at e; obtain ⟨rfl, rfl⟩ := e; simp [List.lookup]
  | (h', w') :: r, j + 1, nd, e => by
    rw [List.map_cons, List.nodup_cons] at nd
    have e : r[j]? = some (h, w) := by simpa using e
    have hne : (h == h') = false := by
      rw [beq_eq_false_iff_ne]
      intro z
      subst z
      exact nd.1 (List.mem_map.mpr ⟨_, List.mem_of_getElem? e, rfl⟩)
    rw [List.lookup_cons, hne]
    exact lookup_at nd.2 e
theorem lookup_no {h : HK} : ∀ {kvs : List (HK × W)}, (∀ p ∈ kvs, p.1 ≠ h) → kvs.lookup h = none
  | [], _ => rfl
  | (h', w') :: r, n => by
    have hne : (h == h') = false := by
      rw [beq_eq_false_iff_ne]
      exact fun z => n _ List.mem_cons_self z.symm
    rw [List.lookup_cons, hne]
    exact lookup_no fun p hp => n p (List.mem_cons_of_mem _ hp)
theorem putG_at {h : HK} {w w' : W} {kvs : List (HK × W)} {j : Nat} (nd : (kvs.map (·.1)).Nodup) (e : kvs[j]? = some (h, w')) : putG kvs h w = kvs.set j (h, w) := by
  have hany : (kvs.any fun p => decide (p.1 = h)) = true := List.any_eq_true.mpr ⟨_, List.mem_of_getElem? e, by simp⟩
  unfold putG
  rw [if_pos hany]
  apply List.ext_getElem?
  intro i
  rw [List.getElem?_map]
  by_cases q : i = j
  · subst q
    rw [List.getElem?_set_self (List.getElem?_eq_some_iff.mp e).1, e]
    simp
  · rw [List.getElem?_set_ne (Ne.symm q)]
    cases hi : kvs[i]? with
    | none => rfl
    | some p =>
      have hne : p.1 ≠ h := fun z => by
        have h1 : (kvs.map (·.1))[i]? = some h := by rw [List.getElem?_map, hi, ← z]; rfl
        have h2 : (kvs.map (·.1))[j]? = some h := by rw [List.getElem?_map, e]; rfl
        exact q ((List.getElem?_inj (List.getElem?_eq_some_iff.mp h1).1 nd).mp (h1.trans h2.symm))
      simp [hne]
theorem putG_no {h : HK} {w : W} {kvs : List (HK × W)} (n : ∀ p ∈ kvs, p.1 ≠ h) : putG kvs h w = kvs ++ [(h, w)] := by
  have hany : ¬ (kvs.any fun p => decide (p.1 = h)) = true := by
    rw [List.any_eq_true]
    rintro ⟨p, hp, e⟩
    exact n p hp (of_decide_eq_true e)
  unfold putG
  rw [if_neg hany]
theorem DDk.put {kvs : List (HK × W)} {h : HK} {w : W} (d : DDk kvs) (hh : h.dep ≤ 8) (hl : kvs.length < sizeLine) : DDk (putG kvs h w) := by
  by_cases q : ∃ p ∈ kvs, p.1 = h
  · obtain ⟨⟨h', w'⟩, hp, e⟩ := q
    have e : h' = h := e
    subst e
    obtain ⟨j, hj⟩ := List.getElem?_of_mem hp
    rw [putG_at d.nd hj]
    refine ⟨?_, fun p hp => ?_, by rw [List.length_set]; exact d.sz⟩
    · have e2 : (kvs.set j (h', w)).map (·.1) = kvs.map (·.1) := by
        rw [List.map_set]
        apply List.ext_getElem?
        intro i
        by_cases q : i = j
        · subst q
          have hl : i < (kvs.map (·.1)).length := by rw [List.length_map]; exact (List.getElem?_eq_some_iff.mp hj).1
          rw [List.getElem?_set_self hl, List.getElem?_map, hj]
          rfl
        · rw [List.getElem?_set_ne (Ne.symm q)]
      rw [e2]
      exact d.nd
    · rcases List.mem_or_eq_of_mem_set hp with z | z
      · exact d.dp p z
      · subst z
        exact d.dp (h', w') (List.mem_of_getElem? hj)
  · have n : ∀ p ∈ kvs, p.1 ≠ h := fun p hp z => q ⟨p, hp, z⟩
    rw [putG_no n]
    refine ⟨?_, fun p hp => ?_, by rw [List.length_append]; exact hl⟩
    · rw [List.map_append, List.nodup_append]
      refine ⟨d.nd, by simp, fun a ha b hb z => ?_⟩
      simp only [List.map_cons, List.map_nil, List.mem_singleton] at hb
      subst hb
      obtain ⟨p, hp, e⟩ := List.mem_map.mp ha
      exact n p hp (e.trans z)
    · rcases List.mem_append.mp hp with z | z
      · exact d.dp p z
      · simp only [List.mem_singleton] at z
        subst z
        exact hh
theorem DDk.nil : DDk [] := ⟨List.nodup_nil, fun _ h => (by cases h), Nat.zero_le _⟩
end
/-! ### the raw dict under the invariant -/
theorem GRs.get : ∀ {gs : List GE} {rs : List RE} {j : Nat} {r : RE}, GRs gs rs → rs[j]? = some r → ∃ g, gs[j]? = some g ∧ g.k = r.k ∧ RelV g.kv r.ku ∧ RelV g.v r.u
  | _, _, _, _, .nil, e => by simp at e
  | _, _, 0, _, .cons a b c t, e => by simp at e; subst e; exact ⟨_, rfl, a, b, c⟩
  | _, _, j + 1, _, .cons a b c t, e => by
    obtain ⟨p, h1, h2⟩ := GRs.get (j := j) t (by simpa using e)
    exact ⟨p, by simpa using h1, h2⟩
theorem GRs.keys : ∀ {gs : List GE} {rs : List RE}, GRs gs rs → gs.map (·.k) = rs.map (·.k)
  | _, _, .nil => rfl
  | _, _, .cons a _ _ t => by rw [List.map_cons, List.map_cons, t.keys, a]
theorem GRs.snoc {g : GE} {r : RE} (a : g.k = r.k) (b : RelV g.kv r.ku) (c : RelV g.v r.u) : ∀ {gs : List GE} {rs : List RE}, GRs gs rs → GRs (gs ++ [g]) (rs ++ [r])
  | _, _, .nil => .cons a b c .nil
  | _, _, .cons a' b' c' t => .cons a' b' c' (GRs.snoc a b c t)
theorem GRs.set {v : V} {u : Value} (c : RelV v u) : ∀ {gs : List GE} {rs : List RE} (j : Nat) (g : GE) (r : RE), GRs gs rs → gs[j]? = some g → rs[j]? = some r → GRs (gs.set j { g with v := v }) (rs.set j { r with u := u })
  | _, _, _, _, _, .nil, _, _ => .nil
  | _, _, 0, _, _, .cons a b _ t, e, e' => by simp at e e'; subst e e'; exact .cons a b c t
  | _, _, j + 1, g, r, .cons a b d t, e, e' => .cons a b d (GRs.set c j g r t (by simpa using e) (by simpa using e'))
section
variable {X : Cx} {pins : List (Addr × Obj)} {σ : L2.St} {H : Hp} {s : Shared} {d : Addr} {gs : List GE}
theorem dd_raw (I : Inv X pins σ H s) (hg : H d = some (DD X.w d gs)) (g : GKk X.K H gs) : ∃ rs, RawD X.w s.heap d rs ∧ KRs s.heap rs ∧ GRs gs rs ∧ (d == sysModules) = false ∧ rs.length ≤ sizeLine := by
  obtain ⟨n, o, es, ep, rs, e, hc, hd, gr, he⟩ := dd_at I.hok hg
  refine ⟨rs, ⟨o, es, ep, e, hc, hd, he⟩, ⟨fun r hr => ?_, by rw [← gr.keys]; exact g.nd⟩, gr, n, by rw [← gr.len]; exact g.sz⟩
  obtain ⟨j, hj⟩ := List.getElem?_of_mem hr
  obtain ⟨q, h1, h2, h3, _⟩ := gr.get hj
  obtain ⟨k1, k2⟩ := g.ky q (List.mem_of_getElem? h1)
  rw [← h2]
  exact ⟨k1.is I h3, k2⟩
/-- the dict is written -/
theorem dd_write {gs' : List GE} {rs' : List RE} {h' : Heap} {tk : Tok} (I : Inv X pins σ H s) (hg : H d = some (DD X.w d gs)) (x : RawD X.w h' d rs') (hs : Heap.SameBut d s.heap h') (gr : GRs gs' rs') (hn : (d == sysModules) = false) :
    Inv X pins σ (upd H d (DD X.w d gs')) { s with heap := h', toks := tk } := by
  obtain ⟨o, es, ep, e, hc, hd, he⟩ := x
  exact I.write (e := d) (t' := tk) (by rw [hg]; trivial) (.inl rfl) (fun b u hb hu => (hs.2 b hb).trans hu) ⟨o, e⟩ (dd_ok (w' := X.w) ⟨hn, o, es, ep, rs', e, hc, hd, gr, he⟩)
end
end MP
namespace MP
open PySem PySem.Spec PyProof.Rows L2
open SeqAt
/-! ### what stands for a key in such a dict -/
/-- the key's value, or that it has none -/
def GAsk (gs : List GE) (k : NestedKey) (o : Option V) : Prop := (∃ (j : Nat) (g : GE), gs[j]? = some g ∧ g.k = k ∧ o = some g.v) ∨ (o = none ∧ ∀ (j : Nat) (g : GE), gs[j]? = some g → g.k ≠ k)
/-- the dict behind a store -/
def GPut (gs : List GE) (k : NestedKey) (kv v : V) (gs' : List GE) : Prop := (∃ (j : Nat) (g : GE), gs[j]? = some g ∧ g.k = k ∧ gs' = gs.set j { g with v := v }) ∨ (gs' = gs ++ [⟨k, kv, v⟩] ∧ ∀ (j : Nat) (g : GE), gs[j]? = some g → g.k ≠ k)
section
variable {X : Cx} {pins : List (Addr × Obj)} {σ : L2.St} {H : Hp} {s : Shared} {d : Addr} {gs : List GE} {kv y : V} {k : NestedKey} {ku u : Value} {A : Around} {E : Value → Shared → Prop}
theorem g_look {Q : Value → Shared → Prop} {o : V} (hu : A.units + 9 < cLine) (I : Inv X pins σ H s) (hg : H d = some (DD X.w d gs)) (g : GKk X.K H gs) (hk : KyV X.K H kv k) (hd : k.depth ≤ 8) (rk : RelV kv ku) (hq : GAsk gs k (some o)) (h : ∀ u s', Inv X pins σ H s' → RelV o u → Q u s') :
    wpAny (model X.prog X.w) A (getItem (.ref d) ku) Q E s := by
  obtain ⟨rs, x, yy, gr, n, _⟩ := dd_raw I hg g
  rcases hq with ⟨j, q, h1, h2, e⟩ | ⟨e, _⟩
  · cases e
    obtain ⟨r, hr⟩ : ∃ r, rs[j]? = some r := ⟨rs[j]'(by rw [← gr.len]; exact (List.getElem?_eq_some_iff.mp h1).1), List.getElem?_eq_getElem _⟩
    obtain ⟨q', h3, h4, h5, h6⟩ := gr.get hr
    rw [h1] at h3
    cases h3
    have hrk : r.k = k := h4.symm.trans h2
    refine vd_item hu (hk.is I rk) hd x yy (fun i r' hi e tk => ?_) ⟨j, r, hr, hrk⟩
    have h7 : (rs.map (·.k))[i]? = some k := by rw [List.getElem?_map, hi]; exact congrArg some e
    have h8 : (rs.map (·.k))[j]? = some k := by rw [List.getElem?_map, hr]; exact congrArg some hrk
    have h9 := (List.getElem?_inj (List.getElem?_eq_some_iff.mp h7).1 yy.nd).mp (h7.trans h8.symm)
    subst h9
    rw [hr] at hi
    cases hi
    exact h _ _ (I.tok _) h6
  · cases e
theorem g_store {Q : Unit → Shared → Prop} (hu : A.units + 9 < cLine) (I : Inv X pins σ H s) (hg : H d = some (DD X.w d gs)) (g : GKk X.K H gs) (hk : KyV X.K H kv k) (hd : k.depth ≤ 8) (rk : RelV kv ku) (ry : RelV y u) (h : ∀ gs' s', GPut gs k kv y gs' → Inv X pins σ (upd H d (DD X.w d gs')) s' → Q () s') :
    wpAny (model X.prog X.w) A (setItem (.ref d) ku u) Q E s := by
  obtain ⟨rs, x, yy, gr, n, hz⟩ := dd_raw I hg g
  refine vd_put hu (hk.is I rk) hd x yy hz (fun j r hj e h' tk x' hs => ?_) fun hno h' tk x' hs => ?_
  · obtain ⟨q, h3, h4, _⟩ := gr.get hj
    exact h _ _ (.inl ⟨j, q, h3, h4.trans e, rfl⟩) (dd_write I hg x' hs (gr.set ry j q r h3 hj) n)
  · refine h _ _ (.inr ⟨rfl, fun j q hq e => ?_⟩) (dd_write I hg x' hs (gr.snoc (g := ⟨k, kv, y⟩) (r := ⟨k, ku, u⟩) rfl rk ry) n)
    obtain ⟨r, hr⟩ : ∃ r, rs[j]? = some r := ⟨rs[j]'(by rw [← gr.len]; exact (List.getElem?_eq_some_iff.mp hq).1), List.getElem?_eq_getElem _⟩
    obtain ⟨q', h5, h6, _⟩ := gr.get hr
    rw [hq] at h5
    cases h5
    exact hno j r hr (h6.symm.trans e)
end
/-! ### its methods -/
def gTy (w : World) (x : V) (H : Hp) : Prop := ∃ d gs, x = .ref d ∧ H d = some (DD w d gs)
section
variable {X : Cx} {a b c e : Expr} {es : List Expr} {pos apos cpos : Pos}
theorem gTy_ok : TyOk X "dict" (gTy X.w) := by
  intro pins σ H s x v I r ty
  obtain ⟨d, gs, rfl, hg⟩ := ty
  cases r
  obtain ⟨_, o, es, ep, rs, e, hc, _⟩ := dd_at I.hok hg
  refine ⟨⟨o, e, hc.1⟩, fun b q => ?_⟩
  cases q
  exact ⟨o, e, hc.2.1⟩
def rGet1 (K : PySem.W.Frag) (w : World) : V → List V → Hp → VK → Prop := fun x xs H Q => ∃ d gs kv k o, x = .ref d ∧ xs = [kv] ∧ H d = some (DD w d gs) ∧ GKk K H gs ∧ KyV K H kv k ∧ k.depth ≤ 8 ∧ GAsk gs k o ∧ Q (o.getD .non) H
def rGet2 (K : PySem.W.Frag) (w : World) : V → List V → Hp → VK → Prop := fun x xs H Q => ∃ d gs kv z k o, x = .ref d ∧ xs = [kv, z] ∧ H d = some (DD w d gs) ∧ GKk K H gs ∧ KyV K H kv k ∧ k.depth ≤ 8 ∧ GAsk gs k o ∧ Q (o.getD z) H
def rSetd (K : PySem.W.Frag) (w : World) : V → List V → Hp → VK → Prop := fun x xs H Q => ∃ d gs kv z k o, x = .ref d ∧ xs = [kv, z] ∧ H d = some (DD w d gs) ∧ GKk K H gs ∧ KyV K H kv k ∧ k.depth ≤ 8 ∧ GAsk gs k o ∧ (∀ v, o = some v → Q v H) ∧ (o = none → Q z (upd H d (DD w d (gs ++ [⟨k, kv, z⟩]))))
def rListG (w : World) : List V → Hp → VK → Prop := fun xs H Q => ∃ d gs, xs = [.ref d] ∧ H d = some (DD w d gs) ∧ gs.length ≤ sizeLine ∧ ∀ p, H p = none → Q (.ref p) (upd H p (.lst (gs.map (·.kv))))
end
end MP
namespace MP
open PySem PySem.Spec PyProof.Rows L2
open SeqAt
section
variable {K : Fg} {μ : List Addr} {H : Hp} {S : Sto}
/-- what is asked of the store's dict -/
theorem VWg.ask {gs : List GE} {kvs : List (HK × W)} (t : VWg K μ H gs kvs) (d : DDk kvs) (h : HK) : ∃ o, GAsk gs h.nk o ∧ ((∃ v w, o = some v ∧ kvs.lookup h = some w ∧ VW K μ H v w) ∨ (o = none ∧ kvs.lookup h = none)) := by
  by_cases q : ∃ p ∈ kvs, p.1 = h
  · obtain ⟨⟨h', w⟩, hp, e⟩ := q
    have e : h' = h := e
    subst e
    obtain ⟨j, hj⟩ := List.getElem?_of_mem hp
    obtain ⟨g, h1, h2, _, h4⟩ := t.get' hj
    exact ⟨some g.v, .inl ⟨j, g, h1, h2, rfl⟩, .inl ⟨g.v, w, rfl, lookup_at d.nd hj, h4⟩⟩
  · have n : ∀ p ∈ kvs, p.1 ≠ h := fun p hp z => q ⟨p, hp, z⟩
    refine ⟨none, .inr ⟨rfl, fun j g hg e => ?_⟩, .inr ⟨rfl, lookup_no n⟩⟩
    obtain ⟨p, h1, h2, _⟩ := t.get hg
    exact n p (List.mem_of_getElem? h1) (HK.nk_inj _ _ (h2.symm.trans e))
theorem VWg.put {gs gs' : List GE} {kvs : List (HK × W)} {h : HK} {kv v : V} {w : W} (t : VWg K μ H gs kvs) (d : DDk kvs) (rk : VW K μ H kv h.w) (rv : VW K μ H v w) (q : GPut gs h.nk kv v gs') : VWg K μ H gs' (putG kvs h w) := by
  rcases q with ⟨j, g, h1, h2, rfl⟩ | ⟨rfl, n⟩
  · obtain ⟨p, h3, h4, _⟩ := t.get h1
    have e : p.1 = h := HK.nk_inj _ _ (h4.symm.trans h2)
    obtain ⟨p1, p2⟩ := p
    have e : p1 = h := e
    subst e
    rw [putG_at d.nd h3]
    exact t.set rv j g _ h1 h3
  · have n' : ∀ p ∈ kvs, p.1 ≠ h := fun p hp z => by
      obtain ⟨j, hj⟩ := List.getElem?_of_mem hp
      obtain ⟨g, h1, h2, _⟩ := t.get' hj
      exact n j g h1 (h2.trans (congrArg HK.nk z))
    rw [putG_no n']
    exact VWg.snoc rk rv t
theorem VWg.kvs : ∀ {gs : List GE} {kvs : List (HK × W)}, VWg K μ H gs kvs → VWs K μ H (gs.map (·.kv)) (kvs.map fun p => p.1.w)
  | _, _, .nil => .nil
  | _, _, .cons a _ t => .cons a t.kvs
/-- a value that is a key -/
theorem VW.hk {v : V} {w : W} {h : HK} (r : VW K μ H v w) (e : hkOf 8 w = some h) : VW K μ H v h.w ∧ KyV K H v h.nk ∧ h.nk.depth ≤ 8 ∧ h.dep ≤ 8 := by
  obtain ⟨e1, e2⟩ := hkOf_ok 8 w h e
  subst e1
  exact ⟨r, VW.ky h r, by rw [HK.nk_dep]; exact e2, e2⟩
/-- the dict is written: what comes of it -/
theorem SR.putG (s : SR K μ H S) {k : Nat} {a : Addr} {gs gs' : List GE} {kvs : List (HK × W)} {h : HK} {kv v : V} {w : W} (hk : μ[k]? = some a) (h0 : S[k]? = some (.dd kvs)) (t : VWg K μ H gs kvs) (d : DDk kvs) (rk : VW K μ H kv h.w) (hd : h.dep ≤ 8) (rv : VW K μ H v w) (hl : kvs.length < LIM) (q : GPut gs h.nk kv v gs') :
    SR K μ (upd H a (DD K.w a gs')) (S.set k (.dd (MP.putG kvs h w))) ∧ Ex K μ H μ (upd H a (DD K.w a gs')) := s.writeG hk h0 (t.put d rk rv q) (d.put hd (lim_lt hl))
end
section
variable {τ : TZ} {X : Cx} {Φ : Fns} {a b c e : Expr} {es : List Expr} {ca cb cc ce : CE} {cs : CEs} {pos apos p2 : Pos}
theorem ev_1 {f : BI} {env : Env} {S S' : Sto} {w : W} (h : ev Φ (.bi f (.cons ca .nil)) env S = some (w, S')) : ∃ x S1, ev Φ ca env S = some (x, S1) ∧ opI f [x] S1 = some (w, S') := by
  simp only [ev, evs] at h
  split at h
  · rename_i xs S1 e1
    split at e1
    · rename_i x S2 e2
      cases e1
      exact ⟨x, S1, e2, h⟩
    · cases e1
  · cases h
/-- {} -/
theorem de_gnew : DE τ X Φ (.Dict [] [] pos) (.bi (.x .gnew) .nil) := by
  refine peW (t := fun _ H Q => ∀ p, H p = none → Q (.ref p) (upd H p (DD X.w p []))) ⟨fun pins s σ H Q I h => ?_⟩ fun σ H Q h p hp => ?_
  · refine wpAny_Dict_empty ⟨.ref s.heap.objs.size, _, I.laid (a := s.heap.objs.size) (o := DD X.w s.heap.objs.size []) (t' := s.toks) (fun _ _ q => Heap.get?_push_of_some _ q) (Nat.le_refl _) (dd_ok ?_), rfl, h _ (I.hok.fresh (Nat.le_refl _))⟩
    exact ⟨beq_eq_false_iff_ne.mpr (Ne.symm (Nat.ne_of_lt I.big)), _, #[], 0, [], Heap.get?_push_size _ rfl, ⟨rfl, rfl, rfl⟩, rfl, .nil, rfl⟩
  · obtain ⟨μ, env, S, w, S', s, er, h1, h2⟩ := h
    simp only [ev, evs, opI, opJ, opG] at h1
    cases h1
    have s2 := s.fresh (o := DD X.w p []) hp
    have s3 := s2.adoptO (so := .dd []) (s.off hp) ⟨[], upd_same, .nil, DDk.nil⟩
    refine h2 _ (μ ++ [p]) _ (ex_new hp) s3 (.gref ?_ ⟨[], upd_same⟩)
    rw [← s.len, List.getElem?_append_right (Nat.le_refl _), Nat.sub_self]
    rfl
/-- d[k] -/
theorem de_gix {ky : Nat} (hr : Room ky X.A) (ha : DE τ X Φ a ca) (hb : DE τ X Φ b cb) (hs : PlainIx b := by intro _ _; rfl) : DE τ X Φ (.Subscript a b pos) (.bi (.x .gix) (.cons ca (.cons cb .nil))) := by
  have hu : X.A.units + 9 < cLine := by have := hr.un; omega
  refine peW (t := fun σ H Q => tD (kwOf τ X) Φ ca σ H fun x H1 => tD (kwOf τ X) Φ cb σ H1 fun y H2 => ∃ d gs k o, x = .ref d ∧ H2 d = some (DD X.w d gs) ∧ GKk X.K H2 gs ∧ KyV X.K H2 y k ∧ k.depth ≤ 8 ∧ GAsk gs k (some o) ∧ Q o H2) ⟨fun pins s σ H Q I h => ?_⟩ fun σ H Q h => ?_
  · refine subD_of PySem.F.slot_dict_getitem.lookup hs (thn (ha.run pins s σ H _ I h) fun u s1 ⟨x, H1, I1, rx, q1⟩ => thn (hb.run pins s1 σ H1 _ I1 q1) fun iv s2 ⟨y, H2, I2, ry, d, gs, k, o, ex, hg, g, hk, hd, ga, q2⟩ => ?_)
    subst ex
    cases rx
    exact ⟨(gTy_ok pins σ H2 s2 (.ref d) (.ref d) I2 rfl ⟨d, gs, rfl, hg⟩).1, g_look hu I2 hg g hk hd ry ga fun u s' I' ru => ⟨o, H2, I', ru, q2⟩⟩
  · obtain ⟨μ, env, S, w, S', s, er, g1, g2⟩ := h
    obtain ⟨x, S1, y, S2, e1, e2, e3⟩ := ev_2 g1
    simp only [opI, opJ] at e3
    unfold opG at e3
    split at e3 <;> try (cases e3; done)
    all_goals (first | contradiction | skip)
    rename_i k y' hbj hl
    simp only [List.cons.injEq, and_true] at hl
    obtain ⟨rfl, rfl⟩ := hl
    split at e3
    · rename_i kvs h q1 q2
      rw [Option.map_eq_some_iff] at e3
      obtain ⟨w', e4, e5⟩ := e3
      cases e5
      refine ⟨μ, env, S, _, S1, s, er, e1, fun v μ1 H1 x1 s1 r1 => ⟨μ1, env, S1, _, _, s1, er.mono x1, e2, fun u μ2 H2 x2 s2 r2 => ?_⟩⟩
      cases r1 with
      | gref hk hkg =>
        obtain ⟨h0, gs, hg, t, d⟩ := s2.rdg (x2.pre _ _ hk) q1
        obtain ⟨r3, ky2, dp, dp2⟩ := r2.hk q2
        obtain ⟨o, ga, go⟩ := t.ask d h
        rcases go with ⟨v, w, rfl, hlk, rv⟩ | ⟨rfl, hlk⟩
        · rw [hlk] at e4
          cases e4
          exact ⟨_, gs, h.nk, v, rfl, hg, t.kk d, ky2, dp, ga, g2 v μ2 H2 (x1.trans x2) s2 rv⟩
        · rw [hlk] at e4
          cases e4
    · cases e3
/-- d[k] = v -/
theorem ds_gset {ky : Nat} (hr : Room ky X.A) (he : DE τ X Φ e ce) (ha : DE τ X Φ a ca) (hb : DE τ X Φ b cb) (hs : swapsWith e (some (.Subscript a b p2)) pos.line X.env = pure false := by rfl) :
    DS τ X Φ (.Assign [.Subscript a b p2] e pos) (.expr (.bi (.x .gset) (.cons ce (.cons ca (.cons cb .nil))))) := by
  have hu : X.A.units + 9 < cLine := by have := hr.un; omega
  refine ⟨fun pins s σ H D I h => ?_⟩
  obtain ⟨μ, env, S, r, sr, er, g1, g2⟩ := h
  simp only [ex] at g1
  split at g1
  · rename_i w0 S' g3
    cases g1
    obtain ⟨x, S1, y, S2, z, S3, e1, e2, e3, e4⟩ := ev_3 g3
    cases y <;> simp only [opI, opJ, opG] at e4 <;> try (cases e4; done)
    rename_i k
    split at e4
    · rename_i kvs h q1 q2
      split at e4
      · rename_i hlim
        cases e4
        refine wpAny_Assign_Subscript (thn (he.run pins s σ H (fun v1 H1 => ∃ μ1, Ex (kwOf τ X) μ H μ1 H1 ∧ SR (kwOf τ X) μ1 H1 S1 ∧ VW (kwOf τ X) μ1 H1 v1 x) I ⟨μ, env, S, x, S1, sr, er, e1, fun v1 μ1 H1 x1 s1 r1 => ⟨μ1, x1, s1, r1⟩⟩) fun u1 t1 ⟨v1, H1, I1, ru1, μ1, x1, s1, r1⟩ => ?_) hs
        refine thn (ha.run pins t1 σ H1 (fun v2 H2 => ∃ μ2, Ex (kwOf τ X) μ1 H1 μ2 H2 ∧ SR (kwOf τ X) μ2 H2 S2 ∧ VW (kwOf τ X) μ2 H2 v2 (.gref k)) I1 ⟨μ1, env, S1, _, S2, s1, er.mono x1, e2, fun v2 μ2 H2 x2 s2 r2 => ⟨μ2, x2, s2, r2⟩⟩) fun u2 t2 ⟨v2, H2, I2, ru2, μ2, x2, s2, r2⟩ => ?_
        refine thn (hb.run pins t2 σ H2 (fun v3 H3 => ∃ μ3, Ex (kwOf τ X) μ2 H2 μ3 H3 ∧ SR (kwOf τ X) μ3 H3 S3 ∧ VW (kwOf τ X) μ3 H3 v3 z) I2 ⟨μ2, env, S2, _, S3, s2, er.mono (x1.trans x2), e3, fun v3 μ3 H3 x3 s3 r3 => ⟨μ3, x3, s3, r3⟩⟩) fun u3 t3 ⟨v3, H3, I3, ru3, μ3, x3, s3, r3⟩ => ?_
        cases r2 with
        | gref hk hkg =>
          cases ru2
          have hk3 := x3.pre _ _ hk
          obtain ⟨h0, gs, hg, t, d⟩ := s3.rdg hk3 q1
          obtain ⟨rk, ky2, dp, dp2⟩ := r3.hk q2
          have r1' := (r1.mono x2).mono x3
          refine g_store hu I3 hg (t.kk d) ky2 dp ru3 ru1 fun gs' s' gp I' => ?_
          obtain ⟨s4, x4⟩ := s3.putG hk3 h0 t d rk dp2 r1' hlim gp
          exact ⟨σ, _, I', g2 σ μ3 _ (((x1.trans x2).trans x3).trans x4) s4 (er.mono (((x1.trans x2).trans x3).trans x4))⟩
      · cases e4
    · cases e4
  · cases g1
end
end MP
/-! k not in d, d keyed by data -/
namespace MP
open PySem PySem.Spec PyProof.Rows L2
open SeqAt
section
variable {prog : Program} {w : World} {A : Around} {E : Value → Shared → Prop} {s : Shared} {es : Array DictEntry} {rs : List RE} {h : Heap} {k : NestedKey} {key : Value}
end
section
variable {X : Cx} {pins : List (Addr × Obj)} {σ : L2.St} {H : Hp} {s : Shared} {d : Addr} {gs : List GE} {kv y : V} {k : NestedKey} {ku u : Value} {A : Around} {E : Value → Shared → Prop}
end
section
variable {τ : TZ} {X : Cx} {Φ : Fns} {a b c e : Expr} {ca cb cc ce : CE} {pos : Pos}
end
end MP
/-! sorted of a tuple of data: as of a list -/
namespace MP
open PySem PySem.W PySem.Spec PyProof.Rows L2
section
variable {prog : Program} {w : World} {A : Around} {E : Value → Shared → Prop} {s : Shared} {vs : List Value}
variable {β : Type} {bs : List β} {enc : β → PyData} {R : Value → β → Prop}
end
end MP
/-! sorted of data, the greatest of a tuple, zip of three tuples, written dicts keyed by pairs -/
namespace MP
open PySem PySem.Spec PyProof.Rows L2
section
variable {τ : TZ} {X : Cx}
/-! sorted of a list of data that are alike -/
/-- what sorted needs: a list, its items with their data, and any way to see the items as values -/
def rSortD (K : Fg) : List V → Hp → VK → Prop := fun vs H Q => ∃ (a : Addr) (xs : List V) (ds : List D) (ws : List W) (μ : List Addr), vs = [V.ref a] ∧ (SqL K H a xs ∨ SqT K H a xs) ∧ VWs K μ H xs ws ∧ ds.length = ws.length ∧ ds.length ≤ 1000 ∧ alkAll ds = true ∧ srtOk ds = true ∧
  (∀ (i : Nat) (v : V) (d : D), xs[i]? = some v → ds[i]? = some d → Dp K H v d.py ∧ SeqAt.shaped d.py = true) ∧ ∀ (ys : List V) (p : Addr), VWs K μ H ys (srtD ds ws) → H p = none → Q (.ref p) (upd H p (.lst ys))
/-! the greatest of a tuple of numbers -/
def rMaxT (K : PySem.W.Frag) : List V → Hp → VK → Prop := fun vs H Q => ∃ (a : Addr) (ns : List Int), vs = [V.ref a] ∧ SqT K H a (ns.map V.int) ∧ ns ≠ [] ∧ Q (.int (maxI ns)) H
end
/-! zip of three tuples -/
def Itz3 (K : PySem.W.Frag) (a b c : Addr) : It :=
  ⟨fun i H => ∃ (xs ys zs : List V) (x y z : V), SqT K H a xs ∧ SqT K H b ys ∧ SqT K H c zs ∧ xs[i]? = some x ∧ ys[i]? = some y ∧ zs[i]? = some z,
    fun i H v H' => ∃ T x y z, v = .ref T ∧ H T = none ∧ H' = upd H T (.tup [x, y, z]) ∧ (∀ xs, SqT K H a xs → xs[i]? = some x) ∧ (∀ ys, SqT K H b ys → ys[i]? = some y) ∧ ∀ zs, SqT K H c zs → zs[i]? = some z,
    fun i H => ∃ xs ys zs : List V, SqT K H a xs ∧ SqT K H b ys ∧ SqT K H c zs ∧ (xs.length ≤ i ∨ ys.length ≤ i ∨ zs.length ≤ i)⟩
section
variable {τ : TZ} {X : Cx} {Φ : Fns} {a b d e tg : Expr} {es : List Expr} {ca cb cd ce : CE} {cs : CEs} {pos : Pos}
end
end MP
/-! sorted(.., key=lambda x: ..) -/
namespace MP
open PySem PySem.Spec PyProof.Rows L2
/-- a lambda's scope: one parameter, captured names, globals -/
structure LamP (sc scope : Scope) (x : Str) : Prop where
  kind : scope.kind = .function
  co : scope.isCoroutine = false
  gen : scope.isGenerator = false
  par : scope.names.lookup x = some .local
  own : ∀ y ∈ scope.names, y.2 ≠ .cell ∧ (y.2 = .local → y.1 = x)
  fre : ∀ y ∈ scope.names, y.2 = .free → sc.names.lookup y.1 = some .cell ∨ sc.names.lookup y.1 = some .free
def lamPB (sc scope : Scope) (x : Str) : Bool :=
  decide (scope.kind = .function) && !scope.isCoroutine && !scope.isGenerator && decide (scope.names.lookup x = some .local) && scope.names.all fun y => !decide (y.2 = .cell) && (!decide (y.2 = .local) || decide (y.1 = x)) && (!decide (y.2 = .free) || decide (sc.names.lookup y.1 = some .cell) || decide (sc.names.lookup y.1 = some .free))
theorem lamP_by {sc scope : Scope} {x : Str} (h : lamPB sc scope x = true) : LamP sc scope x := by
  unfold lamPB at h
  simp only [Bool.and_eq_true, Bool.or_eq_true, Bool.not_eq_true', decide_eq_true_eq, decide_eq_false_iff_not, List.all_eq_true] at h
  obtain ⟨⟨⟨⟨h1, h2⟩, h3⟩, h4⟩, h5⟩ := h
  refine ⟨h1, h2, h3, h4, fun y hy => ⟨(h5 y hy).1.1, fun e => (h5 y hy).1.2.resolve_left (fun z => z e)⟩, fun y hy e => ?_⟩
  rcases (h5 y hy).2 with (z | z) | z
  · exact absurd e z
  · exact .inl z
  · exact .inr z
theorem LamP.has {X : Cx} {scope : Scope} {x : Str} (L : LamP X.env.scope scope x) (ok : X.Ok) : ∀ y ∈ scope.names, y.2 = .free → ∃ c, X.env.cells.lookup y.1 = some c := fun y hy e => by
  rcases L.fre y hy e with k | k
  · exact ok.has _ (.inl k)
  · exact ok.has _ (.inr k)
abbrev EN : XK := fun _ _ _ => False
section
variable {X : Cx} {pins : List (Addr × Obj)} {σ : L2.St} {H : Hp} {s : Shared}
/-- an untracked object is tracked from now on, another of ours has turned -/
theorem take2 {h' : Heap} {t' : Nat} {a c : Addr} {o : HO} (I : Inv X pins σ H s) (k : ∀ b ob, b ≠ a → b ≠ c → s.heap.get? b = some ob → h'.get? b = some ob) (fa : FpOk X pins H a) (fc : FpOk X pins H c)
    (new : ObjOk X.prog X.w (upd H a o) h' a o) : Inv X pins σ (upd H a o) { s with heap := h', toks := t' } := by
  obtain ⟨na, aL, _, a1, a2, a3⟩ := fa
  obtain ⟨nc, cL, _, c1, c2, c3⟩ := fc
  have nia : ∀ b w, H b = some w → b ≠ a := fun b w e z => by rw [z, na] at e; cases e
  have nic : ∀ b w, H b = some w → b ≠ c := fun b w e z => by rw [z, nc] at e; cases e
  have up : ∀ b w, H b = some w → upd H a o b = some w := fun b w e => by rw [upd_ne (nia b w e)]; exact e
  have ca : ∀ b : Addr, b ∉ [a, c] → b ≠ a ∧ b ≠ c := fun b hb => ⟨fun z => hb (by simp [z]), fun z => hb (by simp [z])⟩
  refine I.step (g' := s.gens) (d' := s.drawn) (ch := [a, c]) (fun b hb => ?_) (fun b ob _ _ hb e _ => k b ob (ca b hb).1 (ca b hb).2 e) (fun b ob _ _ hb e _ => ⟨ob.slots, k b ob (ca b hb).1 (ca b hb).2 e⟩)
    (fun b ob hb _ n => by rw [upd_ne (ca b hb).1]; exact n) (fun b ob hb e => ⟨ob, k b ob (ca b hb).1 (ca b hb).2 e⟩) (fun b _ e => up b _ e) (fun b _ _ e => up b _ e) (fun b ps e => ⟨#[], by rw [up b _ e]; simp⟩) (fun m hm => ?_) (fun b w e => ?_) I.bare
  · rcases List.mem_cons.mp hb with e | e
    · subst e
      exact ⟨a1, aL, a2, a3⟩
    · have e : b = c := by simpa using e
      subst e
      exact ⟨c1, cL, c2, c3⟩
  · obtain ⟨ob, es, ep, ho, r⟩ := hm
    exact ⟨ob, es, ep, k _ ob (Ne.symm aL) (Ne.symm cL) ho, r⟩
  · by_cases hb : b = a
    · rw [hb, upd_same] at e
      cases e
      rw [hb]
      exact new
    · rw [upd_ne hb] at e
      refine (I.hok b w e).stay (fun d v hd q => k d v ?_ ?_ q) (fun d q => up d _ q) fun d _ q => up d _ q
      · rcases hd with z | z
        · rw [z]; exact hb
        · exact nia d _ z
      · rcases hd with z | z
        · rw [z]; exact nic b w e
        · exact nic d _ z
end
end MP
/-! sorted(.., key=lambda x: ..) -/
namespace MP
open PySem PySem.Spec PySem.Calls PyProof.Rows L2
open PySem.W (KeepsBut copyHeap copyHeap_at copyHeap_old sortingHeap_old)
section
variable {X : Cx} {pins : List (Addr × Obj)} {σ : L2.St} {H : Hp} {s : Shared} {τ : TZ}
end
end MP
/-! sorted(.., key=lambda x: ..): the rule; a def with a lambda -/
namespace MP
open PySem PySem.Spec PySem.Calls PyProof.Rows L2
section
variable {K : Fg} {μ : List Addr} {H H' : Hp} {S : Sto}
theorem ex_extN (e : LamX.ExtN H H') : Ex K μ H μ H' := by
  have tp : ∀ {b : Addr} {u : HO}, H b = some u → (∀ ps, u ≠ .tbl ps) → H' b = some u := fun {b u} h n => e b u h n
  refine ⟨⟨fun _ _ h => h, fun a xs h => ?_, fun a xs h => ?_, fun a o ks h => tp h fun _ z => (nomatch z), fun a o ks h => tp h fun _ z => (nomatch z), fun k a _ ⟨vs, h⟩ => ⟨vs, tp h fun _ z => (nomatch z)⟩, fun k a _ ⟨vs, h⟩ => ⟨vs, tp h fun _ z => (nomatch z)⟩, fun k a _ ⟨C, dx, fs, h⟩ => ⟨C, dx, fs, tp h fun _ z => (nomatch z)⟩, fun k a _ ⟨gs, h⟩ => ⟨gs, tp h st_dd.nb⟩, fun k a _ ⟨fd, h⟩ => ⟨fd, tp h st_fn.nb⟩, fun c q h => tp h LamX.codeO_ne, fun c o φ h => tp h fun _ z => (nomatch z)⟩, fun a o h n q => ⟨tp h n, q⟩⟩
  · rcases h with (h | ⟨ob, h⟩) | h
    · exact .inl (.inl (tp h fun _ z => (nomatch z)))
    · exact .inl (.inr ⟨ob, tp h fun _ z => (nomatch z)⟩)
    · exact .inr h
  · rcases h with ⟨ob, h⟩ | h
    · exact .inl ⟨ob, tp h fun _ z => (nomatch z)⟩
    · exact .inr h
theorem SR.extN (s : SR K μ H S) (e : LamX.ExtN H H') (t : LamX.Tabs K.T H') : SR K μ H' S :=
  ⟨s.len, s.nd, fun k a so h1 h2 => (s.at_ k a so h1 h2).stay (ex_extN e).toEy fun u q => by
    obtain ⟨u', h3, st⟩ := s.trk h1
    rw [q] at h3
    cases h3
    exact e a u q st.nb, t⟩
end
/-- the def's code object and its table -/
structure LamAt (τ : TZ) (X : Cx) : Prop where
  ex : ∃ c P, X.env.code = .ref c ∧ LamX.TabB X.base X.mg c P ∧ (P, X.env.qual ++ "<lambda>") ∈ τ.T ∧ ∀ p ∈ τ.T, p.1 = P → p.2 = X.env.qual ++ "<lambda>"
section
variable {τ : TZ} {X : Cx} {Φ : Fns} {e body : Expr} {ce cb : CE} {p lpos kpos pos : Pos} {scope : Scope} {params : Arguments}
end
/-! ### a def that has lambdas -/
/-- the def's code object stands at c, its table at P -/
def CodAt (K : PySem.W.Frag) (mg : Str → Option Value) (base : Heap) (τ : TZ) (f : Addr) (q : Str) : Prop :=
  ∃ c P, (∀ o (fd : FuncData), K.lookup f = some o → o.data = .func fd → fd.code = .ref c) ∧ LamX.TabB base mg c P ∧ (P, q) ∈ τ.T ∧ ∀ p ∈ τ.T, p.1 = P → p.2 = q
theorem room_lam {k : Nat} {A : Around} (hr : Room (k + 1) A) (e1 e2 : PySem.Env) : Room k ((A.deeper e1).in1.in1.deeper e2) :=
  ⟨hr.hd, by have := hr.dp; show A.depth + 1 + 1 + 3 * k + 5 < _; omega, by have := hr.un; show A.units + 3 + 1 + 1 + 3 + 16 * k + 200 < _; omega⟩
end MP
/-! instances of classes: making, fields, methods -/
namespace MP
open PySem PySem.Spec PySem.Calls PyProof.Rows L2
/-- the classes of these names, and a name that none of them has of its own -/
def FldOk (K : PySem.W.Frag) (t : List (List Nat)) (f : Str) : Prop := ∀ (x : Str) (C : Addr), x.cps.toList ∈ t → PySem.W.nsIn K mainGlobals x = some (some (.ref C)) → Cls K C ∧ NoAttr K C f
section
variable {K : Fg} {μ : List Addr} {H : Hp} {S : Sto}
theorem VWf.look {f : Str} {l : List Nat} (hl : f.cps.toList = l) : ∀ {vs : List (Str × V)} {fs : List (List Nat × W)}, VWf K μ H vs fs → (∀ w, fs.lookup l = some w → ∃ v, vs.lookup f = some v ∧ VW K μ H v w) ∧ (fs.lookup l = none → vs.lookup f = none)
  | _, _, .nil => ⟨fun w h => by simp at h, fun _ => rfl⟩
  | _, _, .cons (x := x) (l := l') (v := v) (w := w) hx hv t => by
    have ih := VWf.look hl t
    by_cases e : l = l'
    · subst e
      have ex : f = x := (str_eta hl).trans (str_eta hx).symm
      subst ex
      refine ⟨fun w' h => ?_, fun h => ?_⟩
      · simp at h
        subst h
        exact ⟨v, by simp, hv⟩
      · simp at h
    · have ex : f ≠ x := fun z => e (by rw [← hl, z, hx])
      have e1 : (l == l') = false := beq_eq_false_iff_ne.mpr e
      have e2 : (f == x) = false := beq_eq_false_iff_ne.mpr ex
      refine ⟨fun w' h => ?_, fun h => ?_⟩
      · rw [List.lookup_cons, e1] at h
        obtain ⟨u, h1, h2⟩ := ih.1 w' h
        exact ⟨u, by rw [List.lookup_cons, e2]; exact h1, h2⟩
      · rw [List.lookup_cons, e1] at h
        rw [List.lookup_cons, e2]
        exact ih.2 h
theorem VWf.put {f : Str} {l : List Nat} {v : V} {w : W} (hl : f.cps.toList = l) (r : VW K μ H v w) : ∀ {vs : List (Str × V)} {fs : List (List Nat × W)}, VWf K μ H vs fs → VWf K μ H (putF f v vs) (putO l w fs)
  | _, _, .nil => .cons hl r .nil
  | _, _, .cons (x := x) (l := l') (v := v') (w := w') hx hv t => by
    by_cases e : l' = l
    · subst e
      have ex : x = f := (str_eta hx).trans (str_eta hl).symm
      subst ex
      simp only [putF, putO, if_true]
      exact .cons hx r t
    · have ex : x ≠ f := fun z => e (by rw [← hx, z, hl])
      simp only [putF, putO, e, ex, if_false]
      exact .cons hx hv (VWf.put hl r t)
theorem VWf.len : ∀ {vs : List (Str × V)} {fs : List (List Nat × W)}, VWf K μ H vs fs → vs.length = fs.length
  | _, _, .nil => rfl
  | _, _, .cons _ _ t => congrArg (· + 1) t.len
theorem ClN.one {c : List Nat} {C D : Addr} (h : ClN K c C) (h' : ClN K c D) : C = D := by
  obtain ⟨x, e1, e2⟩ := h
  obtain ⟨y, e3, e4⟩ := h'
  have e : x = y := (str_eta e1).trans (str_eta e3).symm
  subst e
  rw [e2] at e4
  cases e4
  rfl
end
section
variable {τ : TZ} {X : Cx} {Φ : Fns} {o e : Expr} {es : List Expr} {co ce : CE} {cs : CEs} {f : Str} {l : List Nat} {t : List (List Nat)} {pos apos p2 : Pos}
/-- o.f -/
theorem de_fld (F : FldOk X.K t f) (ho : DE τ X Φ o co) (hl : f.cps.toList = l := by decide +kernel) (hb : attributeBase o f X.env (eval o X.env) = eval o X.env := by rfl) : DE τ X Φ (.Attribute o f pos) (.fld t co l) := by
  refine peW (pe_fld ho hb) fun σ H Q h => ?_
  obtain ⟨μ, env, S, w, S', s, er, h1, h2⟩ := h
  simp only [ev] at h1
  split at h1 <;> try (cases h1; done)
  rename_i k S1 e1
  split at h1 <;> try (cases h1; done)
  rename_i c fs e2
  split at h1 <;> try (cases h1; done)
  rename_i hct
  rw [Option.map_eq_some_iff] at h1
  obtain ⟨w', e3, e4⟩ := h1
  cases e4
  refine ⟨μ, env, S, _, _, s, er, e1, fun v μ1 H1 x1 s1 r1 => ?_⟩
  cases r1 with
  | oref hk _ =>
    obtain ⟨h0, C, dx, vs, ha, hc, hv⟩ := s1.rdo hk e2
    obtain ⟨u, q1, q2⟩ := (hv.look hl).1 _ e3
    obtain ⟨x, ex, ec⟩ := hc
    obtain ⟨cl, na⟩ := F x C (by rw [ex]; exact hct) ec
    exact ⟨_, C, dx, vs, u, rfl, ha, cl, na, q1, h2 u μ1 H1 x1 s1 q2⟩
/-- o.f = e -/
theorem ds_fset (F : FldOk X.K t f) (ho : DE τ X Φ o co) (he : DE τ X Φ e ce) (hl : f.cps.toList = l := by decide +kernel) (hs : swapsWith e (some (.Attribute o f p2)) pos.line X.env = pure false := by rfl) : DS τ X Φ (.Assign [.Attribute o f p2] e pos) (.fset t co l ce) := by
  refine psW (ps_fld ho he hs) fun D σ H h => ?_
  obtain ⟨μ, env, S, r, s, er, h1, h2⟩ := h
  simp only [ex] at h1
  split at h1 <;> try (cases h1; done)
  rename_i w S1 e1
  split at h1 <;> try (cases h1; done)
  rename_i k S2 e2
  split at h1 <;> try (cases h1; done)
  rename_i c fs e3
  split at h1 <;> try (cases h1; done)
  rename_i hc
  cases h1
  refine ⟨μ, env, S, w, S1, s, er, e1, fun y μ1 H1 x1 s1 r1 => ⟨μ1, env, S1, _, S2, s1, er.mono x1, e2, fun v μ2 H2 x2 s2 r2 => ?_⟩⟩
  cases r2 with
  | oref hk _ =>
    obtain ⟨h0, C, dx, vs, ha, hcl, hv⟩ := s2.rdo hk e3
    have hcl0 := hcl
    obtain ⟨x, ex, ec⟩ := hcl
    obtain ⟨cl, na⟩ := F x C (by rw [ex]; exact hc.1) ec
    refine ⟨_, C, dx, vs, rfl, ha, cl, na, by rw [hv.len]; omega, ?_⟩
    have ry := r1.mono x2
    obtain ⟨s3, x3⟩ := s2.writeF hk h0 ha hcl0 (hv.put hl ry)
    exact h2 _ μ2 _ ((x1.trans x2).trans x3) s3 (er.mono ((x1.trans x2).trans x3))
/-- a class that may be made: its name in the module, the number of its __init__, how many it is given -/
structure MakeF (P : Program) (w : World) (K : Fg) (mg : Str → Option Value) (base : Heap) (k : Nat) (Φ : Fns) (x : Str) (i n : Nat) : Prop where
  ex : ∃ (C f : Addr) (fd : FuncData) (ps : List Str), Mk K.k C f ∧ mg x = some (.ref C) ∧ PySem.W.nsIn K.k mainGlobals x = some (some (.ref C)) ∧ FnOk P w K.k mg base CX0 k f fd ps (spD K Φ i (n + 1)) ∧ Binds K.k fd ps []
/-- a method -/
structure MetF (P : Program) (w : World) (K : Fg) (mg : Str → Option Value) (base : Heap) (k : Nat) (Φ : Fns) (x m : Str) (i n : Nat) : Prop where
  ex : ∃ (C f : Addr) (fd : FuncData) (ps : List Str), Cls K.k C ∧ Meth K.k C m f ∧ PySem.W.nsIn K.k mainGlobals x = some (some (.ref C)) ∧ FnOk P w K.k mg base CX0 k f fd ps (spD K Φ i (n + 1)) ∧ Binds K.k fd ps []
abbrev mkA_ (A : Around) (C : Addr) (us : List Value) : Around := A.under (.builtin "type.__call__" ⟨.ref C :: us, []⟩)
theorem room_mk {k : Nat} {A : Around} (hr : Room (k + 1) A) (e : PySem.Env) (C : Addr) (us : List Value) : Room k (mkA_ (A.deeper e) C us) :=
  ⟨hr.hd, by have := hr.dp; rw [make_depth]; show A.depth + 1 + 1 + 3 * k + 5 < _; omega, by have := hr.un; rw [make_units]; show A.units + 3 + 1 + 16 * k + 200 < _; omega⟩
theorem mk_run {k : Nat} {pins : List (Addr × Obj)} {s : Shared} {σ : L2.St} {H : Hp} {C g : Addr} {fd : FuncData} {ps : List Str} {sp : Sp} {us : List Value} {vs : List V} {Q : VK} (hm : Mk X.K C g) (hf : FnOk X.prog X.w X.K X.mg X.base CX0 k g fd ps sp) (room : Room k (mkA_ X.A C us)) (hb : Binds X.K fd ps [])
    (I : Inv X pins σ H s) (rv : Vals vs us) (h : ∀ p d, H p = none → H d = none → d ≠ p → sp (.ref p :: vs) (upd (upd H d (.own p)) p (.ins C d [])) (fun v J => v = .non ∧ Q (.ref p) J) E0) :
    wpAny (model X.prog X.w) X.A (call (.ref C) us) (EP X pins σ Q) X.xe s := by
  have h1 := h (s.heap.objs.size + 1) s.heap.objs.size (I.hok.fresh (Nat.le_succ _)) (I.hok.fresh (Nat.le_refl _)) (Nat.ne_of_lt (Nat.lt_succ_self _))
  have J := Inv.made (C := C) I
  have rr : Vals (V.ref (s.heap.objs.size + 1) :: vs) (Value.ref (s.heap.objs.size + 1) :: us) := .cons rfl rv
  have ln : (Value.ref (s.heap.objs.size + 1) :: us ++ []).length = ps.length := by
    rw [List.append_nil, ← rr.length]
    exact hf.len _ _ _ _ h1
  have bd := hb _ (Value.ref (s.heap.objs.size + 1) :: us) J.kIn ln
  rw [List.append_nil] at bd
  refine wpAny_call (make_map (f := g) I.kIn hm.makes hm.init (beq_iff_eq.mp hm.fn) (codeAny_mono (hf.run _ X.stack _ _ _ _ _ _ E0 room (J.env0.make C us []) bd rr h1) fun r s2 hq => ?_))
  cases r with
  | error e => exact False.elim hq
  | ok fl =>
    cases fl with
    | ret u =>
      obtain ⟨v, J2, I2, ru, ev, q⟩ := J.after hq
      subst ev
      exact ⟨ru, ⟨V.ref (s.heap.objs.size + 1), J2, I2, rfl, q⟩⟩
    | next => exact False.elim hq
    | brk => exact False.elim hq
    | cont => exact False.elim hq
theorem mk_of {K : Fg} {μ : List Addr} {H : Hp} {S S2 : Sto} {x : Str} {C p d : Addr} {c : List Nat} {vs : List V} {ws : List W} {i n : Nat} {Q : VK} (s : SR K μ H S) (hx : x.cps.toList = c) (hn : PySem.W.nsIn K.k mainGlobals x = some (some (.ref C))) (rv : VWs K μ H vs ws) (hl : ws.length = n)
    (h1 : Φ i (.oref S.length :: ws) (mkO c S) = some (.non, S2)) (h2 : Aft K μ H S2 (.oref S.length) Q) (hp : H p = none) (hd : H d = none) (ne : d ≠ p) :
    spD K Φ i (n + 1) (.ref p :: vs) (upd (upd H d (.own p)) p (.ins C d [])) (fun v J => v = .non ∧ Q (.ref p) J) E0 := by
  have hp2 : (upd H d (.own p)) p = none := by rw [upd_ne (Ne.symm ne)]; exact hp
  have s1 := s.fresh (o := .own p) hd
  have s2 := s1.fresh (o := .ins C d []) hp2
  have s3 := s2.adoptO (so := .obj c []) (s1.off hp2) ⟨C, d, [], upd_same, ⟨x, hx, hn⟩, .nil⟩
  have x1 : Ex K μ H μ (upd H d (.own p)) := ex_fresh hd
  have x2 : Ex K μ (upd H d (.own p)) (μ ++ [p]) (upd (upd H d (.own p)) p (.ins C d [])) := ex_new hp2
  have hk : (μ ++ [p])[S.length]? = some p := by
    rw [← s.len, List.getElem?_append_right (Nat.le_refl _), Nat.sub_self]
    rfl
  have ro : VW K (μ ++ [p]) (upd (upd H d (.own p)) p (.ins C d [])) (.ref p) (.oref S.length) := .oref hk ⟨C, d, [], upd_same⟩
  refine ⟨by rw [List.length_cons, rv.length, hl], _, _, _, .non, S2, s3, .cons ro (rv.mono (x1.trans x2)), h1, fun v μ' H' x' s' r' => ?_⟩
  cases r'
  exact ⟨rfl, h2 _ μ' H' ((x1.trans x2).trans x') s' (ro.mono x')⟩
/-- C(e, ..) -/
theorem de_mk {k i n : Nat} {x : Str} {c : List Nat} {p : Pos} (M : MakeF X.prog X.w (kwOf τ X) X.mg X.base k Φ x i n) (hrm : ∀ C us, Room k (mkA_ X.A C us)) (ha : DA τ X Φ (e :: es) cs) (hn : cs.len = n := by rfl) (hc : x.cps.toList = c := by decide +kernel) (hg : Gl X x := by rfl) (hdb : (x == ("__debug__" : Str)) = false := by decide)
    (he : starEach (e :: es) X.env = (false, eval e X.env) :: starEach es X.env := by rfl) (hpl : (backTo pos (starEach es X.env)).any (·.1) = false := by rfl) : DE τ X Φ (.Call (.Name x p) (e :: es) [] pos) (.mk c i cs) := by
  obtain ⟨C, g, fd, ps, hm, hmg, hns, F, hb⟩ := M.ex
  refine ⟨fun pins s σ H Q I h => ?_⟩
  obtain ⟨μ, env, S, w, S', sr, er, h1, h2⟩ := h
  simp only [ev] at h1
  split at h1 <;> try (cases h1; done)
  rename_i xs S1 e1
  split at h1 <;> try (cases h1; done)
  rename_i S2 e2
  cases h1
  refine wpAny_Call_Name_kw (ld_glob I hg hmg ?_ hdb)
  refine PySem.W.callWith_K (h₀ := X.base) I.ok.mod.kin hm.kp (thn (ha.run pos pins s σ H (fun vs H1 => ∃ μ1, Ex (kwOf τ X) μ H μ1 H1 ∧ SR (kwOf τ X) μ1 H1 S1 ∧ VWs (kwOf τ X) μ1 H1 vs xs) I ⟨μ, env, S, xs, S1, sr, er, e1, fun vs μ1 H1 x1 s1 rv => ⟨μ1, x1, s1, rv⟩⟩) fun us s1 ⟨vs, H1, I1, r, μ1, x1, sr1, rv⟩ => ⟨I1.kIn, ?_⟩) he hpl
  exact mk_run hm F (hrm C us) hb I1 r fun q d hq hd ne => mk_of (K := kwOf τ X) sr1 hc hns rv (by rw [evs_len cs e1, hn]) e2 (h2.mono x1) hq hd ne
end
end MP
/-! len and str of an instance, by its class -/
namespace MP
open PySem PySem.Spec PySem.Calls PyProof.Rows L2
section
variable {τ : TZ} {X : Cx} {Φ : Fns} {o e : Expr} {co ce : CE} {pos p : Pos}
/-- what is wanted of an own method: the instance alone -/
def rOwn (K : PySem.W.Frag) (C : Addr) (sp : Sp) (ok : V → Prop) : List V → Hp → VK → Prop := fun xs H Q => ∃ a dx fs, xs = [V.ref a] ∧ H a = some (.ins C dx fs) ∧ sp [.ref a] H (fun v J => ok v ∧ Q v J) E0
end
end MP
/-! != of an instance whose class has an == of its own -/
namespace MP
open PySem PySem.Spec PySem.Calls PyProof.Rows L2
section
variable {prog : Program} {w : World} {A : Around} {E : Value → Shared → Prop} {s : Shared} {K : PySem.W.Frag} {x C g : Addr} {ox : Obj} {od : Option Obj} {b tb : Value}
end
end MP
/-! == and != of an instance by its class's own ==; isinstance against an own class -/
namespace MP
open PySem PySem.Spec PySem.Calls PyProof.Rows L2
section
variable {τ : TZ} {X : Cx} {Φ : Fns} {a b : Expr} {ca cb : CE} {pos : Pos}
/-- of what type the other thing is -/
def OthT (K : PySem.W.Frag) (H : Hp) (C : Addr) (y : V) : Prop := (∃ i, y = .int i) ∨ (∃ p xs, y = .ref p ∧ SqT K H p xs) ∨ ∃ p dx fs, y = .ref p ∧ H p = some (.ins C dx fs)
structure EqF (K : PySem.W.Frag) (C : Addr) : Prop where
  ne : PySem.W.findIn K (.ref C) "__ne__" = some (some (.builtin "object.__ne__"))
  obj : PySem.W.mroIn K C (.type "object") = some true
def rOeq (K : PySem.W.Frag) (C : Addr) (sp : Sp) (neg : Bool) : R2 := fun x y H Q => ∃ p dx fs, x = .ref p ∧ H p = some (.ins C dx fs) ∧ OthT K H C y ∧ sp [x, y] H (fun v J => ∃ r, v = .bl r ∧ Q (.bl (r != neg)) J) E0
end
section
variable {prog : Program} {w : World} {A : Around} {E : Value → Shared → Prop} {s : Shared} {K : PySem.W.Frag} {l x C g : Addr} {ox : Obj} {od : Option Obj}
end
section
variable {τ : TZ} {X : Cx} {Φ : Fns} {a b : Expr} {ca cb : CE} {pos p : Pos}
structure NtF (K : PySem.W.Frag) (C : Addr) : Prop where
  ne : PySem.W.findIn K (.ref C) "__ne__" = some (some (.builtin "object.__ne__"))
  obj : PySem.W.mroIn K C (.type "object") = some true
  tup : PySem.W.mroIn K C (.type "tuple") = some false
end
end MP
/-! isinstance against an own class -/
namespace MP
open PySem PySem.Spec PySem.Calls PyProof.Rows L2
/-- the class of that name, of which those of t are (below), those of u not; no built-in value is -/
structure IsF (K : PySem.W.Frag) (mg : Str → Option Value) (z : Str) (t u : List (List Nat)) : Prop where
  ex : ∃ D, mg z = some (.ref D) ∧ (∀ n : String, n = "NoneType" ∨ n = "bool" ∨ n = "int" ∨ n = "str" ∨ n = "tuple" ∨ n = "list" → PySem.W.kitOne K (.type n) (.ref D) = some false) ∧
    ∀ (y : Str) (C : Addr), y.cps.toList ∈ t ++ u → PySem.W.nsIn K mainGlobals y = some (some (.ref C)) → (Cls K C ∧ PySem.W.findIn K (.ref C) "__class__" = some (some (.builtin "object.__class__")) ∧ PySem.W.specialIn K (.builtin "object.__class__") "__get__" = some (some (.builtin "getset_descriptor.__get__")) ∧
      PySem.W.takesIn K (.builtin "object.__class__") = some true ∧ PySem.W.mroIn K C (.type "object") = some true) ∧ PySem.W.kitOne K (.ref C) (.ref D) = some (decide (y.cps.toList ∈ t))
section
variable {τ : TZ} {X : Cx} {Φ : Fns} {a : Expr} {ca : CE} {pos p p1 : Pos}
end
end MP
/-! a law's end by a Hook that tells the defs, their code's tables -/
namespace MP
open PySem PySem.Spec PyProof.Rows L2
theorem fun_of {K : PySem.W.Frag} {x : Str} {st : Stmt} {f : Addr} {fd : FuncData} (F : FunD K x x (defArgs st) (defBody st) (defScope st) [] [] f fd) : Fun K x x st f fd := by
  obtain ⟨oc, od, dV, kV, doc, pm, an, cdv, ct, osl, e, lk, hc, hd, _⟩ := F.ex
  rcases hd with ⟨_, rfl⟩ | ⟨n, _⟩
  · exact ⟨⟨oc, od, kV, doc, pm, an, cdv, ct, osl, e, lk, hc⟩, F.kp⟩
  · exact absurd rfl n
theorem bind_k {K : PySem.W.Frag} {x y : Str} {st : Stmt} {f : Addr} {fd : FuncData} (F : Fun K x x st f fd) (h : ∀ (kV doc pm : Value) (an : Option Addr) (cdv ct : Value) (u : Value), bindArgs (PySem.W.fnOf x x (defArgs st) (defBody st) (defScope st) .none kV doc pm an cdv ct) ⟨[u], []⟩ = pure [(y, u)]) : ∀ (s : Shared) (u : Value), BindsTo s fd ⟨[u], []⟩ [(y, u)] := by
  obtain ⟨oc, od, kV, doc, pm, an, cdv, ct, osl, rfl, lk, hcd⟩ := F.ex
  exact fun s u => .of_eq (h kV doc pm an cdv ct u)
/-- a def by its name -/
def dfD (x : Str) (st : Stmt) : He.DefD := ⟨(x, none), x, x, defArgs st, defBody st, defScope st, [], []⟩
theorem fs_one {fa : List He.Fa} {fn : List He.DefD} {K : PySem.W.Frag} {h : Heap} {mg : Str → Option Value} (X : K.In h) (G : h.Ns mainGlobals mg) (c : He.SaysD fa fn K) {x : Str} {st : Stmt} (i : Nat) (h1 : fn[i]? = some (dfD x st)) (h2 : fa[i]? = some (.glo x)) :
    ∃ f fd, Fun K x x st f fd ∧ mg x = some (.ref f) := by
  obtain ⟨fd, F⟩ := c.def_ i h1
  exact ⟨_, fd, fun_of F, He.glo_ok X G (c.fact i h2)⟩
theorem codAt_of {K : PySem.W.Frag} {h : Heap} {mg : Str → Option Value} {base : Heap} {τ : TZ} {x q : Str} {st : Stmt} {f : Addr} {fd : FuncData} (X : K.In h) (G : h.Ns mainGlobals mg) (g : (He.Fa.glo x).ok K = true) (F : Fun K x x st f fd) (hm : mg x = some (.ref f))
    (TB : LamX.TabB base mg (He.cT K (x, none)).1 (He.cT K (x, none)).2) (ht : ((He.cT K (x, none)).2, q) ∈ τ.T) (hu : ∀ p ∈ τ.T, p.1 = (He.cT K (x, none)).2 → p.2 = q) : CodAt K mg base τ f q := by
  have e := hm.symm.trans (He.glo_ok X G g)
  cases e
  obtain ⟨oc, od, kV, doc, pm, an, cdv, ct, osl, e, lk, hc⟩ := F.ex
  obtain ⟨c, rfl⟩ := He.codeIn_ref hc
  subst e
  have ec : He.codeOf K (x, none) = c := He.codeOf_eq (p := (x, none)) lk rfl
  refine ⟨(He.cT K (x, none)).1, (He.cT K (x, none)).2, fun o fd' h1 h2 => ?_, TB, ht, hu⟩
  rw [lk] at h1
  cases h1
  cases h2
  show Value.ref c = Value.ref (He.codeOf K (x, none))
  rw [ec]
end MP
/-! classes: their methods as defs, what the end says of them -/
namespace MP
open PySem PySem.Spec PyProof.Rows L2
/-- a statement of a class's body -/
def inCls (s : Stmt) (j : Nat) : Stmt := match s with
  | .ClassDef _ _ _ b _ _ _ _ _ _ _ => b.getD j (.Pass ⟨0, 0, 0, 0⟩)
  | _ => .Pass ⟨0, 0, 0, 0⟩
theorem room_i1 {k : Nat} {A : Around} (hr : Room (k + 1) A) (e : PySem.Env) : Room k (A.deeper e).in1 :=
  ⟨hr.hd, by have := hr.dp; show A.depth + 1 + 3 * k + 5 < _; omega, by have := hr.un; show A.units + 3 + 1 + 16 * k + 200 < _; omega⟩
theorem room_i2 {k : Nat} {A : Around} (hr : Room (k + 1) A) (e : PySem.Env) : Room k (A.deeper e).in1.in1 :=
  ⟨hr.hd, by have := hr.dp; show A.depth + 1 + 3 * k + 5 < _; omega, by have := hr.un; show A.units + 3 + 1 + 1 + 16 * k + 200 < _; omega⟩
/-- a method of a class by name -/
structure MtS (K : PySem.W.Frag) (x m q : Str) (st : Stmt) : Prop where
  ex : ∃ (C f : Addr) (fd : FuncData), Fun K m q st f fd ∧ Cls K C ∧ Meth K C m f ∧ PySem.W.nsIn K mainGlobals x = some (some (.ref C))
/-- its maker -/
structure MkS (K : PySem.W.Frag) (mg : Str → Option Value) (x q : Str) (st : Stmt) : Prop where
  ex : ∃ (C f : Addr) (fd : FuncData), Fun K "__init__" q st f fd ∧ Mk K C f ∧ mg x = some (.ref C) ∧ PySem.W.nsIn K mainGlobals x = some (some (.ref C))
section
variable {P : Program} {w : World} {K : PySem.W.Frag} {τ : TZ} {mg : Str → Option Value} {base : Heap} {k : Nat} {Φ : Fns} {x m q : Str} {st : Stmt} {i n : Nat} {ps : List Str}
theorem MkS.makeF (M : MkS K mg x q st) (hf : ∀ f fd, Fun K "__init__" q st f fd → FnOk P w K mg base CX0 k f fd ps (spD ⟨K, w, τ⟩ Φ i (n + 1))) (hb : ∀ f fd, Fun K "__init__" q st f fd → Binds K fd ps []) : MakeF P w ⟨K, w, τ⟩ mg base k Φ x i n := by
  obtain ⟨C, f, fd, F, hm, hmg, hn⟩ := M.ex
  exact ⟨C, f, fd, ps, hm, hmg, hn, hf f fd F, hb f fd F⟩
end
/-! ### what the end says -/
theorem fun_ofQ {K : PySem.W.Frag} {x q : Str} {st : Stmt} {f : Addr} {fd : FuncData} (F : FunD K x q (defArgs st) (defBody st) (defScope st) [] [] f fd) : Fun K x q st f fd := by
  obtain ⟨oc, od, dV, kV, doc, pm, an, cdv, ct, osl, e, lk, hc, hd, _⟩ := F.ex
  rcases hd with ⟨_, rfl⟩ | ⟨n, _⟩
  · exact ⟨⟨oc, od, kV, doc, pm, an, cdv, ct, osl, e, lk, hc⟩, F.kp⟩
  · exact absurd rfl n
/-- a class's method by its name -/
def mtD (x m q : Str) (st : Stmt) : He.DefD := ⟨(x, some m), m, q, defArgs st, defBody st, defScope st, [], []⟩
section
variable {fa : List He.Fa} {fn : List He.DefD} {K : PySem.W.Frag} {h : Heap} {mg : Str → Option Value} {x m q : Str} {st : Stmt}
theorem glo_ns (g : (He.Fa.glo x).ok K = true) : PySem.W.nsIn K mainGlobals x = some (some (.ref (He.ga K x))) := He.eqO_ok g
theorem mts_of (c : He.SaysD fa fn K) (h1 : mtD x m q st ∈ fn) (h2 : .glo x ∈ fa) (h3 : .cls x ∈ fa) (h4 : .meth x m ∈ fa) : MtS K x m q st := by
  obtain ⟨fd, F⟩ := c.defs h1
  exact ⟨_, _, fd, fun_ofQ F, He.cls_ok (c.facts h3), He.meth_ok (c.facts h4), glo_ns (c.facts h2)⟩
theorem mks_of (X : K.In h) (G : h.Ns mainGlobals mg) (c : He.SaysD fa fn K) (h1 : mtD x "__init__" q st ∈ fn) (h2 : .glo x ∈ fa) (h3 : .mkr x ∈ fa) : MkS K mg x q st := by
  obtain ⟨fd, F⟩ := c.defs h1
  exact ⟨_, _, fd, fun_ofQ F, He.mkr_ok (c.facts h3), He.glo_ok X G (c.facts h2), glo_ns (c.facts h2)⟩
theorem str_cps {x y : Str} (h : x.cps.toList = y.cps.toList) : x = y := (str_eta h).trans (str_eta rfl).symm
theorem fld_of {xs : List Str} {t : List (List Nat)} {f : Str} (c : He.SaysD fa fn K) (ht : xs.map (fun x => x.cps.toList) = t) (hx : ∀ x ∈ xs, He.Fa.glo x ∈ fa ∧ He.Fa.cls x ∈ fa ∧ He.Fa.noat x f ∈ fa) : FldOk K t f := by
  intro y C hy hn
  subst ht
  obtain ⟨x, hxx, e⟩ := List.mem_map.mp hy
  cases str_cps e
  obtain ⟨h1, h2, h3⟩ := hx _ hxx
  have e2 := (glo_ns (c.facts h1)).symm.trans hn
  cases e2
  exact ⟨He.cls_ok (c.facts h2), He.noat_ok (c.facts h3)⟩
/-- what is asked of a class whose == is held against things -/
def ntB (K : PySem.W.Frag) (x : Str) : Bool := He.eqO (PySem.W.findIn K (.ref (He.ga K x)) "__ne__") (some (some (.builtin "object.__ne__"))) && (decide (PySem.W.mroIn K (He.ga K x) (.type "object") = some true) && decide (PySem.W.mroIn K (He.ga K x) (.type "tuple") = some false))
/-- what is asked of isinstance against the class z: of those of ts, not of those of us -/
def isB (K : PySem.W.Frag) (z : Str) (ts us : List Str) : Bool :=
  (["NoneType", "bool", "int", "str", "tuple", "list"] : List String).all (fun n => decide (PySem.W.kitOne K (.type n) (.ref (He.ga K z)) = some false)) &&
  ((ts ++ us).all (fun y => He.eqO (PySem.W.findIn K (.ref (He.ga K y)) "__class__") (some (some (.builtin "object.__class__"))) && (decide (PySem.W.takesIn K (.builtin "object.__class__") = some true) && (decide (PySem.W.mroIn K (He.ga K y) (.type "object") = some true) &&
    decide (PySem.W.kitOne K (.ref (He.ga K y)) (.ref (He.ga K z)) = some (decide (y.cps.toList ∈ ts.map fun x => x.cps.toList)))))) &&
  He.eqO (PySem.W.specialIn K (.builtin "object.__class__") "__get__") (some (some (.builtin "getset_descriptor.__get__"))))
end
end MP
namespace MP
theorem mem_at {α : Type} {l : List α} {a : α} (j : Nat) (h : l[j]? = some a) : a ∈ l := List.mem_of_getElem? h
theorem alx_nil {α : Type} {p : α → Prop} : ∀ x ∈ ([] : List α), p x := fun _ h => (List.not_mem_nil h).elim
theorem alx_cons {α : Type} {p : α → Prop} {a : α} {l : List α} (h : p a) (t : ∀ x ∈ l, p x) : ∀ x ∈ a :: l, p x := List.forall_mem_cons.mpr ⟨h, t⟩
end MP
/-! str of a number, f-strings of numbers and texts, list.clear, list.index of a text -/
namespace MP
open PySem PySem.Spec PyProof.Rows L2
section
variable {τ : TZ} {X : Cx} {Φ : Fns} {pos p : Pos} {a b e : Expr} {ca cb ce : CE}
theorem log_ok {i : Int} (h : i.natAbs < 10 ^ 18) : i.natAbs.log2 < 1920 := by
  by_cases z : i.natAbs = 0
  · rw [z]
    decide
  · refine (Nat.log2_lt z).mpr (Nat.lt_of_lt_of_le h ?_)
    exact Nat.le_trans (show 10 ^ 18 ≤ 2 ^ 60 by decide) (Nat.pow_le_pow_right (by decide) (by decide))
/-! f-strings -/
inductive DJ (τ : TZ) (X : Cx) (Φ : Fns) : List Expr → CEs → List TE → Prop where
  | nil : DJ τ X Φ [] .nil []
  | str {e : Expr} {c : CE} {es : List Expr} {cs : CEs} {ts : List TE} (h : DE τ X Φ e c) (r : DJ τ X Φ es cs ts) : DJ τ X Φ (e :: es) (.cons c cs) (tD (kwOf τ X) Φ c :: ts)
  | fmt {e : Expr} {p : Pos} {c : CE} {es : List Expr} {cs : CEs} {ts : List TE} (h : DE τ X Φ e c) (r : DJ τ X Φ es cs ts) : DJ τ X Φ (.FormattedValue e (-1) none p :: es) (.cons (.bi (.x .istr) (.cons c .nil)) cs) (tFmt (tD (kwOf τ X) Φ c) :: ts)
theorem DJ.go {es : List Expr} {cs : CEs} {ts : List TE} (h : DJ τ X Φ es cs ts) {σ : L2.St} : ∀ {μ : List Addr} {H : Hp} {env : Env} {S S' : Sto} {ws : List W} {ys : List (List Nat)} (acc : Str) (Q : Str → Hp → Prop), SR (kwOf τ X) μ H S → ER (kwOf τ X) μ H σ env → evs Φ cs env S = some (ws, S') → txts ws = some ys → acc.length + lens ys ≤ LIM →
    (∀ out μ' H', Ex (kwOf τ X) μ H μ' H' → SR (kwOf τ X) μ' H' S' → out.cps.toList = acc.cps.toList ++ ys.flatten → Q out H') → tJs ts acc σ H Q := by
  induction h with
  | nil =>
    intro μ H env S S' ws ys acc Q s er e1 e2 hl f
    simp only [evs] at e1
    cases e1
    simp only [txts] at e2
    cases e2
    exact f acc μ H .refl s (by simp)
  | @str e c es cs ts h r ih =>
    intro μ H env S S' ws ys acc Q s er e1 e2 hl f
    simp only [evs] at e1
    split at e1
    · rename_i x S2 q1
      split at e1
      · rename_i xs S3 q2
        cases e1
        cases x <;> simp only [txts] at e2 <;> try (cases e2; done)
        rename_i l
        rw [Option.map_eq_some_iff] at e2
        obtain ⟨zs, e3, e4⟩ := e2
        subst e4
        refine ⟨μ, env, S, _, S2, s, er, q1, fun v μ1 H1 x1 s1 r1 => ?_⟩
        cases r1 with
        | str z _ ez =>
          have hz : z.length = l.length := by rw [← ez]; rfl
          have ha : (acc ++ z).length = acc.length + l.length := by
            show (acc ++ z).cps.toList.length = acc.cps.toList.length + _
            rw [cps_toList_append, List.length_append, ez]
          simp only [lens] at hl
          refine ⟨z, rfl, by rw [ha]; exact lim_ok (by omega), ih (acc ++ z) Q s1 (er.mono x1) q2 e3 (by rw [ha]; omega) fun out μ2 H2 x2 s2 eo => f out μ2 H2 (x1.trans x2) s2 ?_⟩
          rw [eo, cps_toList_append, ez, List.flatten_cons, List.append_assoc]
      · cases e1
    · cases e1
  | @fmt e p c es cs ts h r ih =>
    intro μ H env S S' ws ys acc Q s er e1 e2 hl f
    simp only [evs] at e1
    split at e1
    · rename_i x S2 q1
      split at e1
      · rename_i xs S3 q2
        cases e1
        obtain ⟨x0, S1, f1, f2⟩ := ev_1 q1
        cases x <;> simp only [txts] at e2 <;> try (cases e2; done)
        rename_i l
        rw [Option.map_eq_some_iff] at e2
        obtain ⟨zs, e3, e4⟩ := e2
        subst e4
        refine ⟨μ, env, S, _, S1, s, er, f1, fun v μ1 H1 x1 s1 r1 => ?_⟩
        cases x0 <;> simp only [opI, opJ] at f2 <;> try (cases f2; done)
        · rename_i i0
          split at f2
          · rename_i hi
            cases f2
            cases r1
            have ez : ((toString i0 : String) : Str).cps.toList = istrL i0 := rfl
            have ha : (acc ++ ((toString i0 : String) : Str)).length = acc.length + (istrL i0).length := by
              show (acc ++ ((toString i0 : String) : Str)).cps.toList.length = acc.cps.toList.length + _
              rw [cps_toList_append, List.length_append, ez]
            simp only [lens] at hl
            refine .inr ⟨i0, rfl, log_ok hi, _, rfl, by rw [ha]; exact lim_ok (by omega), ih (acc ++ ((toString i0 : String) : Str)) Q s1 (er.mono x1) q2 e3 (by rw [ha]; omega) fun out μ2 H2 x2 s2 eo => f out μ2 H2 (x1.trans x2) s2 ?_⟩
            rw [eo, cps_toList_append, ez, List.flatten_cons, List.append_assoc]
          · cases f2
        · split at f2
          · cases f2
            cases r1 with
            | str z _ ez =>
              have hz : z.length = l.length := by rw [← ez]; rfl
              have ha : (acc ++ z).length = acc.length + l.length := by
                show (acc ++ z).cps.toList.length = acc.cps.toList.length + _
                rw [cps_toList_append, List.length_append, ez]
              simp only [lens] at hl
              refine .inl ⟨z, rfl, by rw [hz]; exact lim_ok (by omega), z, rfl, by rw [ha]; exact lim_ok (by omega), ih (acc ++ z) Q s1 (er.mono x1) q2 e3 (by rw [ha]; omega) fun out μ2 H2 x2 s2 eo => f out μ2 H2 (x1.trans x2) s2 ?_⟩
              rw [eo, cps_toList_append, ez, List.flatten_cons, List.append_assoc]
          · cases f2
      · cases e1
    · cases e1
end
end MP
/-! super().__init__(..) in an own error's __init__, over a built-in class of errors -/
namespace MP
open PySem PySem.Spec PyProof.Rows L2 NdefX
/-- what the written part says of a class C whose __init__ (at f, its code at cda, its cell of the class at cc) asks the base's -/
structure SupT (P : Program) (K : PySem.W.Frag) (C f cda cc : Addr) (B i : String) (nm qual : Str) (params : Arguments) (body : List Stmt) (sc : Scope) : Prop where
  fn : ∃ (oc : Value) (od : Option Addr) (kV doc pm ct : Value) (an : Option Addr) (osl : Array (Option Value)), K.lookup f = some ⟨oc, od, .func (PySem.W.fnX nm qual params body sc [("__class__", cc)] .none kV doc pm an (.ref cda) ct), osl⟩
  code : PySem.W.codeIn K (.ref cda) qual = true
  file : ∃ (oc : Value) (od : Option Addr) (vs : Array Value) (sl : Array (Option Value)) (fl : Str) (t : Tok), K.lookup cda = some ⟨oc, od, .fields vs, sl⟩ ∧ vs[2]? = some (.str fl t) ∧ ((P.main.file : Str) == fl) = true
  cell : ∃ (oc : Value) (od : Option Addr) (sl : Array (Option Value)), K.lookup cc = some ⟨oc, od, .cell (some (.ref C)), sl⟩
  top : (P.main.scope.names.lookup ("super" : Str)).isSome = false
  own : PySem.W.mroIn K C (.ref C) = some true
  sup : PySem.W.ks_superIn K C C "__init__" = some (some (.builtin i))
  opq : PySem.W.nsIn K cStatics "thirdparty.any" = some none
  bas : PySem.W.subIn K (.ref C) (.type B) = some true
section
variable {X : Cx} {pins : List (Addr × Obj)} {σ : L2.St} {H : Hp} {s : Shared} {C f cda cc x : Addr} {B i : String} {nm qual : Str} {params : Arguments} {body rest : List Stmt} {sc : Scope} {E : Value → Shared → Prop}
theorem sup_base {p0 p1 : Pos} {attr : Str} {whole : Sem Value} {ar : Arg} {j : Nat} {Q : Value → Shared → Prop} {ox : Obj} (T : SupT X.prog X.K C f cda cc B i nm qual params body sc) (I : Inv X pins σ H s)
    (k1 : X.env.kindOf "super" = some .globalImplicit) (k2 : X.env.kindOf "__class__" = some .free) (k3 : X.env.cells.lookup ("__class__" : Str) = some cc) (k4 : X.env.func = some f) (k5 : X.env.code = .ref cda) (hat : (attr == ("__class__" : Str)) = false)
    (hp : (params.posonlyargs ++ params.args).head? = some ar) (hj : X.N[j]? = some ar.arg) (hs : σ[j]? = some (some (.ref x))) (k6 : X.env.kindOf ar.arg = some .local) (hm : X.mg "super" = none) (hx : s.heap.get? x = some ox) (hxc : ox.cls = .ref C) (hnc : ∀ c, ox.data ≠ .cls c)
    (h : ∀ g, (∀ b o, s.heap.get? b = some o → g.get? b = some o) → g.get? s.heap.objs.size = some (PySem.W.ks_superObj C x C) → Q (.ref s.heap.objs.size) { s with heap := g }) :
    _root_.PySem.wpAt (model X.prog X.w) X.A (.func rest X.env) (attributeBase (.Call (.Name "super" p0) [] [] p1) attr X.env whole) Q E s := by
  obtain ⟨oc, od, kV, doc, pm, ct, an, osl, e1⟩ := T.fn
  obtain ⟨oc2, od2, vs, sl2, fl, tf, e2, e3, e4⟩ := T.file
  obtain ⟨oc3, od3, sl3, e5⟩ := T.cell
  have KI : X.K.In s.heap := I.kIn
  obtain ⟨mb, b1, b2⟩ := I.mod.blt
  obtain ⟨m, n1, n2⟩ := I.loc
  obtain ⟨u, r1, lk⟩ := n2 j ar.arg _ hj hs (.inl k6)
  cases r1
  have hv : m ar.arg = some (.ref x) := by
    rcases lk with ⟨_, q⟩ | ⟨q, _⟩
    · exact q
    · rw [k6] at q
      rcases q with q | q <;> cases q
  obtain ⟨cd, hcd⟩ : ∃ cd, PySem.W.clsIn X.K C = some cd := by
    have q := T.sup
    unfold PySem.W.ks_superIn at q
    cases hc : PySem.W.clsIn X.K C with
    | none => rw [hc] at q; cases q
    | some cd => exact ⟨cd, rfl⟩
  obtain ⟨oD, hD1, hD2⟩ : ∃ oD, s.heap.get? C = some oD ∧ oD.data = .cls cd := by
    unfold PySem.W.clsIn at hcd
    split at hcd
    · rename_i ho
      cases hcd
      exact ⟨_, KI _ _ ho, rfl⟩
    · cases hcd
  obtain ⟨hh, g, d, t, os⟩ := s
  refine ks_wpAt_super_base (env := X.env) k1 k2 hat k4 (KI _ _ e1) rfl hp k5 (KI _ _ e2) rfl e3 e4 T.top ?_
  refine PySem.W.ks_loadName_global I.ok.kind k1 (Calls.loadGlobal_builtin (by rw [I.ok.glob]; exact I.mod.glob.keeps I.bk) hm (by rw [I.ok.blt]; exact b1.keeps I.bk) ((b2 "super" (by decide)).trans (by rfl)) ⟨rfl, ?_⟩)
  refine wpAny_loadName_free I.ok.kind k2 k3 ⟨_, KI _ _ e5, rfl⟩ ?_
  refine wpAny_loadName_local I.ok.kind k6 n1 hv ?_
  refine ks_wpAny_isType_cls hD1 hD2 ⟨rfl, ?_⟩
  exact ks_wpAny_call_super hD1 hD2 hx hxc hnc (PySem.W.looks_mroIn KI T.own) fun h' e k => h h' k e
end
end MP
namespace MP
open PySem PySem.Spec PyProof.Rows L2 NdefX
/-- an own error's class, its __new__ the builtin of that name -/
def ExcAt (nw : String) (K : PySem.W.Frag) (C : Addr) : Prop := ∃ (nm q : Str) (N : Addr) (bs bm : List Value) (sn sub ab col dd k0 k1 k2 k3 k5 : _), K.lookup C = some (excClassObj nm q C N bs bm true sn sub ab col dd k0 k1 k2 k3 k5 nw)
section
variable {nw : String} {X : Cx} {pins : List (Addr × Obj)} {σ : L2.St} {H : Hp} {s : Shared} {C f cda cc x : Addr} {B i newId : String} {nm qual : Str} {params : Arguments} {body rest : List Stmt} {sc : Scope} {E : Value → Shared → Prop} {bmB : List Value}
/-- the bound maker is called: the args are laid anew, nothing else -/
theorem mw_call {u : Addr} {us : List Value} {Q : Value → Shared → Prop} (O : ExcAt nw X.K C) (FB : ExcBaseFacts B nw i bmB) (I : Inv X pins σ H s) (hH : H x = some (exo x C none)) (hu : s.heap.get? u = some (PySem.W.kxs_mw i x)) (hl : us.length ≤ sizeLine)
    (h : ∀ s', Inv X pins σ H s' → Q .none s') : wpAny (model X.prog X.w) X.A (call (.ref u) us) Q E s := by
  obtain ⟨nm, q, N, bs, bm, sn, sub, ab, col, dd, k0, k1, k2, k3, k5, hC⟩ := O
  obtain ⟨t0, hx⟩ := exo_at I.hok hH
  have KI : X.K.In s.heap := I.kIn
  obtain ⟨hh, g, d, t, os⟩ := s
  refine wpAny_call (codeAny_of_tree ?_)
  show wpAny _ X.A.in1 (callAny (.ref u) ⟨us, []⟩) _ _ _
  simp only [callAny]
  refine wpAny_bind (wpAny_load hu ?_)
  have z1 : (Value.type "method-wrapper" == Value.type "method" || Value.type "method-wrapper" == Value.type "builtin_function_or_method" || Value.type "method-wrapper" == Value.type "method-wrapper") = true := by decide
  simp only [PySem.W.kxs_mw, z1, if_true]
  refine PySem.W.KFB.if_so (by decide) ?_
  refine wpAny_bind (PySem.W.check_bound_init FB.toExcCallFacts (KI _ _ hC) hx rfl ?_)
  refine wpAny_bind (wpAny_pure (wpAny_pure ?_))
  refine ⟨plainId_quiet FB.init.plain _, codeAny_builtin FB.initEntry ?_⟩
  refine PySem.W.exc_init_tree (cls := .ref C) (t0 := t0) (dv := none) (c2 := .none) (c3 := .none) (b4 := .bool false) hx hl fun h' kp e1 _ => ?_
  have J := I.write (t' := t) (x := x) (e := x) (o := exo x C none) (by rw [hH]; exact True.intro) (.inl rfl) kp ⟨_, e1⟩ (exo_ok e1)
  have eu : upd H x (exo x C none) = H := funext fun b => by
    by_cases hb : b = x
    · rw [hb, upd_same, hH]
    · rw [upd_ne hb]
  rw [eu] at J
  exact h _ J
theorem sup_ev {p0 p1 p2 p3 : Pos} {pl : Sem Bool} {e : Expr} {es : List Expr} {ta : TA} {ar : Arg} {j : Nat} {Q : Value → Shared → Prop} (T : SupT X.prog X.K C f cda cc B i nm qual params body sc) (O : ExcAt nw X.K C) (FB : ExcBaseFacts B nw i bmB) (KF : PySem.W.KxsFacts B i) (I : Inv X pins σ H s)
    (k1 : X.env.kindOf "super" = some .globalImplicit) (k2 : X.env.kindOf "__class__" = some .free) (k3 : X.env.cells.lookup ("__class__" : Str) = some cc) (k4 : X.env.func = some f) (k5 : X.env.code = .ref cda)
    (hp : (params.posonlyargs ++ params.args).head? = some ar) (hj : X.N[j]? = some ar.arg) (hs : σ[j]? = some (some (.ref x))) (k6 : X.env.kindOf ar.arg = some .local) (hm : X.mg "super" = none) (hH : H x = some (exo x C none)) (ha : PA X (e :: es) ta)
    (hc : eval (.Call (.Attribute (.Call (.Name "super" p0) [] [] p1) "__init__" p2) (e :: es) [] p3) X.env = (do
      let ov ← attributeBase (.Call (.Name "super" p0) [] [] p1) "__init__" X.env (eval (.Call (.Name "super" p0) [] [] p1) X.env)
      standAt p2.atName
      let (f, first) ← holding [ov] (getMethod ov "__init__" pl)
      callWith p3 f first (backTo p3 (starEach (e :: es) X.env)) []))
    (he : starEach (e :: es) X.env = (false, eval e X.env) :: starEach es X.env) (hpl : (backTo p3 (starEach es X.env)).any (·.1) = false)
    (h : ta σ H fun vs H1 => H1 x = some (exo x C none) ∧ vs.length ≤ sizeLine ∧ ∀ s', Inv X pins σ H1 s' → Q .none s') :
    _root_.PySem.wpAt (model X.prog X.w) X.A (.func rest X.env) (eval (.Call (.Attribute (.Call (.Name "super" p0) [] [] p1) "__init__" p2) (e :: es) [] p3) X.env) Q X.xe s := by
  obtain ⟨t1, ho⟩ := exo_at I.hok hH
  obtain ⟨cd, hcd, hal⟩ : ∃ cd, PySem.W.clsIn X.K C = some cd ∧ PySem.W.alongIn X.K "__init__" ((cd.mro.dropWhile (· != .ref C)).drop 1) = some (some (.builtin i)) := by
    have q := T.sup
    unfold PySem.W.ks_superIn at q
    cases hc : PySem.W.clsIn X.K C with
    | none => rw [hc] at q; cases q
    | some cd => rw [hc] at q; exact ⟨cd, rfl, q⟩
  refine ks_wpAt_MethodCall (pl := pl) ?_ hc
  refine sup_base T I k1 k2 k3 k4 k5 (by decide) hp hj hs k6 hm ho rfl (fun c z => by cases z) fun g kg hg => ?_
  have I1 : Inv X pins σ H { s with heap := g } := I.kept (t' := s.toks) kg
  have ho1 := kg _ _ ho
  have IA : PySem.W.InstAt g x ({ cls := .ref C, dict := none, data := .fields #[.ref t1, .none, .none, .none, .bool false, .none] } : Obj) C none := ⟨ho1, rfl, rfl, trivial⟩
  have hI : PySem.W.Looks (model X.prog X.w) g (isInstance (.ref x) (.type B)) true := IA.type.andThen (PySem.W.looks_subIn I1.kIn T.bas)
  obtain ⟨hh, gg, d, t, os⟩ := s
  refine PySem.W.kxs_getMethod KF (so := hh.objs.size) (D := C) (l₀ := cd.mro) hg (PySem.W.looks_opaque I1.kIn T.opq) (fun A Q E s k q => wpAny_bind ((PySem.W.looks_clsIn I1.kIn hcd) A _ E s k (wpAny_pure q))) rfl I1.kIn hal hI (PySem.W.ks_ne I1.kIn IA hcd) (by decide) ?_
  have I2 : Inv X pins σ H { heap := g.push (PySem.W.kxs_mw i x), gens := gg, drawn := d, toks := t + 1, os := os } := I1.kept (t' := t + 1) fun b o e => Heap.get?_push_of_some _ e
  have I3 : Inv X ((g.objs.size, PySem.W.kxs_mw i x) :: pins) σ H { heap := g.push (PySem.W.kxs_mw i x), gens := gg, drawn := d, toks := t + 1, os := os } := I2.pins_of fun p hp => by
    rcases List.mem_cons.mp hp with rfl | hp
    · exact ⟨Heap.get?_push_size _ rfl, I1.hok.fresh (Nat.le_refl _), Nat.ne_of_gt I1.lt, I1.nofs (Nat.le_refl _), fun v z => by cases z⟩
    · exact I2.pin p (List.mem_append_right _ hp)
  have hq : (((false, eval e X.env) :: backTo p3 (starEach es X.env)).any (·.1)) = false := by
    show (false || _) = false
    rw [hpl]
    rfl
  show wpAny _ _ (callWith p3 (.ref g.objs.size) [] (backTo p3 (starEach (e :: es) X.env)) []) _ _ _
  have run := ha.run p3 _ _ σ H _ I3 h
  rw [he] at run ⊢
  refine PySem.W.kxs_callWith (i := i) (x := x) (by first | exact hq | (show (false || (backTo p3 (starEach es X.env)).any (·.1)) = false; rw [hpl]; rfl)) ?_
  refine Calls.evalArgs_plain (wpAny_mono run (fun us s1 z => ?_) fun _ _ z => z)
  obtain ⟨vs, H1, J, r, q1, q2, q3⟩ := z
  have hu := (J.pin (g.objs.size, PySem.W.kxs_mw i x) (List.mem_append_right _ (List.mem_cons_self ..))).1
  refine ⟨hu, mw_call O FB J q1 hu (by show us.length ≤ _; rw [← r.length]; exact q2) fun s' J' => q3 s' (J'.pins_of fun p hp => J'.pin p (List.mem_append_right _ (List.mem_cons_of_mem _ hp)))⟩
end
end MP
namespace MP
open PySem PySem.Spec PyProof.Rows L2 NdefX
theorem cells_one {cc : Addr} {h : Heap} {H : Hp} (hn : H cc = none) {v : Option Value} (hc : h.IsCell cc v) : CellsAt [(("__class__" : Str), cc)] ["__class__"] [none] h H := by
  have look : ∀ (y : Str) (c : Addr), List.lookup y [(("__class__" : Str), cc)] = some c → y = "__class__" ∧ c = cc := fun y c e => by
    simp only [List.lookup] at e
    split at e
    · rename_i q
      exact ⟨by simpa using q, (Option.some.inj e).symm⟩
    · cases e
  refine ⟨rfl, fun y c e => ?_, fun x y c e1 e2 => ((look _ _ e1).1).trans ((look _ _ e2).1).symm, fun i y e => ?_⟩
  · obtain ⟨_, rfl⟩ := look y c e
    exact ⟨hn, v, hc⟩
  · cases i with
    | zero =>
      cases e
      exact ⟨cc, by simp [List.lookup], fun v q => by cases q⟩
    | succ i => cases e
/-- the maker that asks its base's maker first -/
theorem fn_sup {nw : String} {CX : CXT} {P : Program} {w : World} {K : PySem.W.Frag} {mg : Str → Option Value} {base : Heap} {k : Nat} {C f cda cc : Addr} {B i : String} {nm qual : Str} {params : Arguments} {rest : List Stmt} {sc : Scope} {p0 p1 p2 p3 p4 : Pos} {e : Expr} {es : List Expr} {oc kV doc pm ct : Value} {od an : Option Addr} {osl : Array (Option Value)} {N ps : List Str} {ar : Arg} {sp : Sp} {bmB : List Value}
    (T : SupT P K C f cda cc B i nm qual params (.Expr (.Call (.Attribute (.Call (.Name "super" p0) [] [] p1) "__init__" p2) (e :: es) [] p3) p4 :: rest) sc) (O : ExcAt nw K C) (FB : ExcBaseFacts B nw i bmB) (KF : PySem.W.KxsFacts B i)
    (lk : K.lookup f = some ⟨oc, od, .func (PySem.W.fnX nm qual params (.Expr (.Call (.Attribute (.Call (.Name "super" p0) [] [] p1) "__init__" p2) (e :: es) [] p3) p4 :: rest) sc [("__class__", cc)] .none kV doc pm an (.ref cda) ct), osl⟩) (S : NScope N ps ["__class__"] sc) (hp : (params.posonlyargs ++ params.args).head? = some ar) (hps : ps.head? = some ar.arg) (hm : mg "super" = none) (ks : sc.names.lookup ("super" : Str) = some .globalImplicit)
    (len : ∀ vs H Q E, sp vs H Q E → vs.length = ps.length)
    (hbody : ∀ (A : Around) (outer : List PySem.Env) (s : Shared) (H : Hp) (vs : List V) (Q : VK) (E : XK) (F : NF), F = ⟨nm, qual, params, (.Expr (.Call (.Attribute (.Call (.Name "super" p0) [] [] p1) "__init__" p2) (e :: es) [] p3) p4 :: rest), sc, [("__class__", cc)], cda⟩ → Room k (A.deeper (envF F f s.heap.objs.size)) → sp vs H Q E →
      ∃ (x : Addr) (ta : TA) (t : TS), vs[0]? = some (.ref x) ∧ H x = some (exo x C none) ∧ PA (ncx CX P w K mg base N F f A outer s H E) (e :: es) ta ∧ PSs (ncx CX P w K mg base N F f A outer s H E) rest t ∧
        ∀ R : List V → Hp → Prop, (∀ us H1, H1 x = some (exo x C none) → us.length ≤ sizeLine → t { nx := fun _ H' => Q .non H', rt := Q } (startF N vs [none]) H1 → R us H1) → ta (startF N vs [none]) H R)
    (hin : ∀ env : PySem.Env, env.scope = sc → interactive env = false)
    (hsw : ∀ env : PySem.Env, env.scope = sc → swapsWith (.Call (.Attribute (.Call (.Name "super" p0) [] [] p1) "__init__" p2) (e :: es) [] p3) none p4.line env = pure false)
    (hc : ∀ env : PySem.Env, env.scope = sc → eval (.Call (.Attribute (.Call (.Name "super" p0) [] [] p1) "__init__" p2) (e :: es) [] p3) env = (do
      let ov ← attributeBase (.Call (.Name "super" p0) [] [] p1) "__init__" env (eval (.Call (.Name "super" p0) [] [] p1) env)
      standAt p2.atName
      let (f, first) ← holding [ov] (getMethod ov "__init__" (do return (← importBound (.Call (.Name "super" p0) [] [] p1) env).getD true))
      callWith p3 f first (backTo p3 (starEach (e :: es) env)) []))
    (he : ∀ env : PySem.Env, env.scope = sc → starEach (e :: es) env = (false, eval e env) :: starEach es env) (hpl : ∀ env : PySem.Env, env.scope = sc → (backTo p3 (starEach es env)).any (·.1) = false) :
    FnOk P w K mg base CX (k + 1) f (PySem.W.fnX nm qual params (.Expr (.Call (.Attribute (.Call (.Name "super" p0) [] [] p1) "__init__" p2) (e :: es) [] p3) p4 :: rest) sc [("__class__", cc)] .none kV doc pm an (.ref cda) ct) ps sp := by
  refine ⟨len, fun A outer s H args us vs Q E hr e0 hb r hsp => ?_⟩
  have hl := len _ _ _ _ hsp
  have KI : K.In s.heap := e0.mod.kin.keeps fun b o e => (e0.bs b o e).1
  have lim : s.heap.NoLimit := e0.mod.nolimit.keeps fun b o e => (e0.bs b o e).1
  obtain ⟨oc3, od3, sl3, e5⟩ := T.cell
  have hcn : H cc = none := (e0.bs cc _ (e0.mod.kin _ _ e5)).2
  have C1 := cells_one hcn (h := s.heap) (v := some (.ref C)) ⟨_, KI _ _ e5, rfl⟩
  refine ks_codeAny_call_defAt (binds := ps.zip us) hr.depth (KI _ _ lk) rfl lim (PySem.W.codeRec_of KI T.code) rfl hb S.nocell (fun ⟨n, _⟩ hy => S.par n (List.of_mem_zip hy).1) (fun h₁ hns kp => ?_) S.co S.gen S.kind
  generalize hF : (⟨nm, qual, params, (.Expr (.Call (.Attribute (.Call (.Name "super" p0) [] [] p1) "__init__" p2) (e :: es) [] p3) p4 :: rest), sc, [("__class__", cc)], cda⟩ : NF) = F
  have hb2 := hbody A outer s H vs Q E F hF.symm (hr.deeper _) hsp
  obtain ⟨x, ta, t, q1, q2, pa, pr, q3⟩ := hb2
  have C2 : CellsAt F.cl ["__class__"] [none] s.heap H := by rw [← hF]; exact C1
  have S2 : NScope N ps ["__class__"] F.scope := by rw [← hF]; exact S
  have I : L2.Inv (ncx CX P w K mg base N F f A outer s H E) [] (startF N vs [none]) H { s with heap := h₁, toks := s.toks + (ps.zip us).length } := inv_startN S2 hr.hd e0 hl r C2 hns kp
  have eEnv : (callEnv (PySem.W.fnX nm qual params (.Expr (.Call (.Attribute (.Call (.Name "super" p0) [] [] p1) "__init__" p2) (e :: es) [] p3) p4 :: rest) sc [("__class__", cc)] .none kV doc pm an (.ref cda) ct) s.heap.objs.size f) = (ncx CX P w K mg base N F f A outer s H E).env := by rw [← hF]; rfl
  have sEnv : (ncx CX P w K mg base N F f A outer s H E).env.scope = sc := by rw [← hF]; rfl
  rw [eEnv]
  have fin : ∀ {σ' : L2.St} {H' : Hp} {v : V} {u : Value} {s' : Shared}, L2.Inv (ncx CX P w K mg base N F f A outer s H E) [] σ' H' s' → L2.RelV v u → Q v H' → L2.CE outer P w H s Q u s' :=
    fun {σ' H' v u s'} J rv q => ⟨v, H', J.os, J.bare, J.base, J.hok, rv, q⟩
  have hN0 : N[0]? = some ar.arg := by
    have q := S.pre
    cases ps with
    | nil => cases hps
    | cons p ps =>
      cases hps
      cases N with
      | nil => cases q
      | cons n N =>
        simp only [List.length_cons, List.take_succ_cons, List.cons_append, List.length_nil, Nat.zero_add] at q
        have q2 := congrArg List.head? q
        simpa [Nat.add_right_comm] using q2
  have hs0 : (startF N vs [none])[0]? = some (some (.ref x)) := by
    cases vs with
    | nil => cases q1
    | cons v vs => cases q1; rfl
  have hpar : sc.names.lookup ar.arg = some .local := S.par _ (List.mem_of_mem_head? hps)
  have hfr : sc.names.lookup ("__class__" : Str) = some .free := S.frk _ (List.mem_singleton.mpr rfl)
  refine ks_wpAt_execs_cons (ks_wpAt_Expr_any ?_ ?_ (hsw _ sEnv))
  · refine sup_ev (X := ncx CX P w K mg base N F f A outer s H E) (j := 0) (ar := ar) T O FB KF I ?_ ?_ ?_ ?_ ?_ hp hN0 hs0 ?_ hm q2 pa (hc _ sEnv) (he _ sEnv) (hpl _ sEnv) ?_
    · show (ncx CX P w K mg base N F f A outer s H E).env.scope.names.lookup _ = _
      rw [sEnv]; exact ks
    · show (ncx CX P w K mg base N F f A outer s H E).env.scope.names.lookup _ = _
      rw [sEnv]; exact hfr
    · rw [← hF]; rfl
    · rw [← hF]; rfl
    · rw [← hF]; rfl
    · show (ncx CX P w K mg base N F f A outer s H E).env.scope.names.lookup _ = _
      rw [sEnv]; exact hpar
    · refine q3 _ fun us1 H1 z1 z2 z3 => ⟨z1, z2, fun s' J => ?_⟩
      refine _root_.PySem.wpAt_of_wpAny (wpAny_mono (pr.run [] s' _ H1 _ J z3) (fun fl s2 hs => ?_) fun e s2 hs => hs)
      cases fl with
      | ret u =>
        obtain ⟨v, σ', H', J2, rv, q⟩ := hs
        exact fin J2 rv q
      | next =>
        obtain ⟨σ', H', J2, q⟩ := hs
        exact fin (v := V.non) (u := Value.none) J2 rfl q
      | brk =>
        obtain ⟨_, _, _, q⟩ := hs
        exact q.elim
      | cont =>
        obtain ⟨_, _, _, q⟩ := hs
        exact q.elim
  · exact hin _ sEnv
end MP
/-! defs that may raise: what is raised is told as an answer of its own kind -/
namespace MP
open PySem PySem.Spec PyProof.Rows L2
/-- an error: its class by its name in the module, its fields -/
structure ExcR (K : Fg) (μ : List Addr) (H : Hp) (cls : Value) (d : Option Addr) (c : List Nat) (fs : List (List Nat × W)) : Prop where
  cl : ∃ (x : Str) (C : Addr), x.cps.toList = c ∧ PySem.W.nsIn K.k mainGlobals x = some (some (.ref C)) ∧ cls = .ref C
  no : fs = [] → d = none
  fl : ∀ n w, fs.lookup n = some w → ∃ (dd : Addr) (gs : List (Str × V)) (y : Str) (v : V), d = some dd ∧ H dd = some (.xd gs) ∧ (∀ k : Nat, μ[k]? ≠ some dd) ∧ y.cps.toList = n ∧ gs.lookup y = some v ∧ VW K μ H v w
section
variable {K : Fg} {μ μ1 : List Addr} {H H1 : Hp} {S : Sto} {w : W} {cls : Value} {d : Option Addr} {c : List Nat} {fs : List (List Nat × W)}
theorem ExcR.mono (e : Ex K μ H μ1 H1) (r : ExcR K μ H cls d c fs) : ExcR K μ1 H1 cls d c fs :=
  ⟨r.cl, r.no, fun n w h => by
    obtain ⟨dd, gs, y, v, e1, e2, e3, e4, e5, e6⟩ := r.fl n w h
    obtain ⟨q1, q2⟩ := e.fr dd _ e2 e3
    exact ⟨dd, gs, y, v, e1, q1, q2, e4, e5, e6.mono e⟩⟩
/-- what is wished where the answer is an error -/
def ExcP (K : Fg) (μ : List Addr) (H : Hp) (S : Sto) (w : W) (E : XK) : Prop := ∀ c fs, w = .exc c fs → ∀ μ' H' cls d, Ex K μ H μ' H' → SR K μ' H' S → ExcR K μ' H' cls d c fs → E cls d H'
theorem ExcP.mono {E : XK} (e : Ex K μ H μ1 H1) (h : ExcP K μ H S w E) : ExcP K μ1 H1 S w E := fun c fs q μ' H' cls d x s r => h c fs q μ' H' cls d (e.trans x) s r
end
/-! ### expressions -/
def tDX (K : Fg) (Φ : Fns) (c : CX) (Z : WX) : TE := fun σ H Q => ∃ μ env S w S', SR K μ H S ∧ ER K μ H σ env ∧ evx Φ c env S = some (w, S') ∧ Aft K μ H S' w Q ∧ ExcP K μ H S' w (fun cls d H' => Z cls d σ H')
def tDXs (K : Fg) (Φ : Fns) (c : CEXs) (Z : WX) : TA := fun σ H Q => ∃ μ env S w S', SR K μ H S ∧ ER K μ H σ env ∧ evsx Φ c env S = some (w, S') ∧ (∀ ws, w = .tup ws → AftA K μ H S' ws Q) ∧ ExcP K μ H S' w (fun cls d H' => Z cls d σ H')
abbrev DX (τ : TZ) (X : Cx) (Φ : Fns) (Z : WX) (e : Expr) (c : CX) : Prop := PE X e (tDX (kwOf τ X) Φ c Z)
abbrev DXs (τ : TZ) (X : Cx) (Φ : Fns) (Z : WX) (e : List Expr) (c : CEXs) : Prop := PA X e (tDXs (kwOf τ X) Φ c Z)
/-- the promise of a def that may raise -/
def spX (K : Fg) (Φ : Fns) (f n : Nat) : Sp := fun vs H Q E => vs.length = n ∧ ∃ μ S ws w S', SR K μ H S ∧ VWs K μ H vs ws ∧ Φ f ws S = some (w, S') ∧ Aft K μ H S' w Q ∧ ExcP K μ H S' w E
structure CalX (P : Program) (w : World) (K : Fg) (mg : Str → Option Value) (base : Heap) (k : Nat) (Φ : Fns) (x : Str) (i n : Nat) : Prop where
  ex : ∃ (f : Addr) (fd : FuncData) (ps : List Str), FnOk P w K.k mg base (L2.CX P w) k f fd ps (spX K Φ i n) ∧ mg x = some (.ref f) ∧ PySem.W.keepIn K.k (.ref f) = true ∧ L2.Binds K.k fd ps []
def CEXs.len : CEXs → Nat
  | .nil => 0
  | .ok _ r => r.len + 1
  | .may _ r => r.len + 1
section
variable {τ : TZ} {X : Cx} {Φ : Fns} {Z : WX} {e : Expr} {es : List Expr} {ce : CE} {cx : CX} {cs : CEXs} {pos : Pos}
theorem evsx_len : ∀ (cs : CEXs) {env : Env} {S S' : Sto} {ws : List W}, evsx Φ cs env S = some (.tup ws, S') → ws.length = cs.len
  | .nil, env, S, S', ws, h => by
    simp only [evsx] at h
    cases h
    rfl
  | .ok c cs, env, S, S', ws, h => by
    simp only [evsx] at h
    split at h
    · split at h
      · rename_i e2
        cases h
        show _ + 1 = cs.len + 1
        rw [evsx_len cs e2]
      · cases h
      · cases h
    · cases h
  | .may c cs, env, S, S', ws, h => by
    simp only [evsx] at h
    split at h
    · cases h
    · split at h
      · rename_i e2
        cases h
        show _ + 1 = cs.len + 1
        rw [evsx_len cs e2]
      · cases h
      · cases h
    · cases h
theorem dxs_nil : DXs τ X Φ Z [] .nil := by
  refine paW pa_nil fun σ H Q h => ?_
  obtain ⟨μ, env, S, w, S', s, er, h1, h2, _⟩ := h
  simp only [evsx] at h1
  cases h1
  exact h2 _ rfl _ μ H .refl s .nil
theorem dxs_ok (ha : DE τ X Φ e ce) (hr : DXs τ X Φ Z es cs) (hs : starEach (e :: es) X.env = (false, eval e X.env) :: starEach es X.env := by rfl) : DXs τ X Φ Z (e :: es) (.ok ce cs) := by
  refine paW (pa_cons ha hr hs) fun σ H Q h => ?_
  obtain ⟨μ, env, S, w, S', s, er, h1, h2, h3⟩ := h
  simp only [evsx] at h1
  split at h1
  · rename_i x S1 e1
    refine ⟨μ, env, S, x, S1, s, er, e1, fun v μ1 H1 x1 s1 r1 => ?_⟩
    split at h1
    · rename_i xs S2 e2
      cases h1
      refine ⟨μ1, env, S1, _, _, s1, er.mono x1, e2, fun ws q => ?_, fun c fs q => by cases q⟩
      cases q
      exact fun vs μ2 H2 x2 s2 r2 => h2 _ rfl _ μ2 H2 (x1.trans x2) s2 (.cons (r1.mono x2) r2)
    · rename_i c fs S2 e2
      cases h1
      exact ⟨μ1, env, S1, _, _, s1, er.mono x1, e2, fun ws q => (by cases q), h3.mono x1⟩
    · cases h1
  · cases h1
theorem dxs_may (ha : DX τ X Φ Z e cx) (hr : DXs τ X Φ Z es cs) (hs : starEach (e :: es) X.env = (false, eval e X.env) :: starEach es X.env := by rfl) : DXs τ X Φ Z (e :: es) (.may cx cs) := by
  refine paW (pa_cons ha hr hs) fun σ H Q h => ?_
  obtain ⟨μ, env, S, w, S', s, er, h1, h2, h3⟩ := h
  simp only [evsx] at h1
  split at h1
  · rename_i c fs S1 e1
    cases h1
    refine ⟨μ, env, S, _, _, s, er, e1, fun v μ1 H1 x1 s1 r1 => (by cases r1), h3⟩
  · rename_i x S1 hne e1
    refine ⟨μ, env, S, x, S1, s, er, e1, fun v μ1 H1 x1 s1 r1 => ?_, fun c fs q => absurd q (hne c fs)⟩
    split at h1
    · rename_i xs S2 e2
      cases h1
      refine ⟨μ1, env, S1, _, _, s1, er.mono x1, e2, fun ws q => ?_, fun c fs q => by cases q⟩
      cases q
      exact fun vs μ2 H2 x2 s2 r2 => h2 _ rfl _ μ2 H2 (x1.trans x2) s2 (.cons (r1.mono x2) r2)
    · rename_i c fs S2 e2
      cases h1
      exact ⟨μ1, env, S1, _, _, s1, er.mono x1, e2, fun ws q => (by cases q), h3.mono x1⟩
    · cases h1
  · cases h1
theorem dx_call {x : Str} {i n k : Nat} {p : Pos} (tk : Takes X Z) (G : CalX X.prog X.w (kwOf τ X) X.mg X.base k Φ x i n) (hr : Room k X.A) (ha : DXs τ X Φ Z (e :: es) cs) (hn : cs.len = n := by rfl) (hg : Gl X x := by rfl) (hdb : (x == ("__debug__" : Str)) = false := by decide)
    (he : starEach (e :: es) X.env = (false, eval e X.env) :: starEach es X.env := by rfl) (hpl : (backTo pos (starEach es X.env)).any (·.1) = false := by rfl) : DX τ X Φ Z (.Call (.Name x p) (e :: es) [] pos) (.call i cs) := by
  obtain ⟨f, fd, ps, F, hm, hk, hb⟩ := G.ex
  refine peW (pe_callS F hr hg hm hk hb (fun σ => passAt tk σ) ha hdb he hpl) fun σ H Q h => ?_
  obtain ⟨μ, env, S, w, S', s, er, h1, h2, h3⟩ := h
  simp only [evx] at h1
  split at h1
  · rename_i xs S1 e1
    refine ⟨μ, env, S, _, S1, s, er, e1, fun ws q => ?_, fun c fs q => by cases q⟩
    cases q
    exact fun vs μ1 H1 x1 s1 r1 => ⟨by rw [r1.length, evsx_len cs e1]; exact hn, μ1, S1, _, w, S', s1, r1, h1, h2.mono x1, h3.mono x1⟩
  · rename_i c fs S1 e1
    cases h1
    exact ⟨μ, env, S, _, _, s, er, e1, fun ws q => (by cases q), h3⟩
  · cases h1
theorem dx_tup {x1} (h : DXs τ X Φ Z es cs) : DX τ X Φ Z (.Tuple es x1 pos) (.tup cs) := by
  refine peW (pe_tup h) fun σ H Q h => ?_
  obtain ⟨μ, env, S, w, S', s, er, h1, h2, h3⟩ := h
  simp only [evx] at h1
  split at h1
  · rename_i xs S1 e1
    split at h1
    · rename_i hl
      cases h1
      refine ⟨μ, env, S, _, _, s, er, e1, fun ws q => ?_, fun c fs q => by cases q⟩
      cases q
      refine fun vs μ1 H1 x1 s1 r1 => ⟨?_, ?_⟩
      · rw [r1.length]
        exact lim_ok hl
      · exact (h2.mono x1).tup s1 r1
    · cases h1
  · rename_i c fs S1 e1
    cases h1
    exact ⟨μ, env, S, _, _, s, er, e1, fun ws q => (by cases q), h3⟩
  · cases h1
end
/-! ### statements -/
def FlOkX (K : Fg) (μ : List Addr) (H : Hp) (D : Ends) (E : XK) (r : Fl) : Prop := FlOk K μ H D r ∧ ∀ w S, r = .rt w S → ExcP K μ H S w E
theorem FlOkX.mono {K : Fg} {μ μ1 : List Addr} {H H1 : Hp} {D : Ends} {E : XK} {r : Fl} (x : Ex K μ H μ1 H1) (h : FlOkX K μ H D E r) : FlOkX K μ1 H1 D E r := ⟨h.1.mono x, fun w S e => (h.2 w S e).mono x⟩
def tSX (K : Fg) (Φ : Fns) (E : XK) (c : CS) : TS := fun D σ H => ∃ μ env S r, SR K μ H S ∧ ER K μ H σ env ∧ ex Φ c env S = some r ∧ FlOkX K μ H D E r
def tSXs (K : Fg) (Φ : Fns) (E : XK) (c : CSs) : TS := fun D σ H => ∃ μ env S r, SR K μ H S ∧ ER K μ H σ env ∧ exs Φ c env S = some r ∧ FlOkX K μ H D E r
abbrev SX (τ : TZ) (X : Cx) (Φ : Fns) (E : XK) (st : Stmt) (c : CS) : Prop := PS X st (tSX (kwOf τ X) Φ E c)
abbrev SXs (τ : TZ) (X : Cx) (Φ : Fns) (E : XK) (st : List Stmt) (c : CSs) : Prop := PSs X st (tSXs (kwOf τ X) Φ E c)
section
variable {τ : TZ} {X : Cx} {Φ : Fns} {E : XK} {d e tg : Expr} {es : List Expr} {cd ce : CE} {cx : CX} {cs : CEs} {pos : Pos}
theorem sx_of {st : Stmt} {c : CS} (h : DS τ X Φ st c) : SX τ X Φ E st c := psW h fun D σ H ⟨μ, env, S, r, s, er, e, f⟩ => ⟨μ, env, S, r, s, er, e, f.1⟩
theorem sxs_nil : SXs τ X Φ E [] .nil := pssW dss_nil fun D σ H ⟨μ, env, S, r, s, er, e, f⟩ => ⟨μ, env, S, r, s, er, e, f.1⟩
theorem sxs_cons {st : Stmt} {rest : List Stmt} {c : CS} {cr : CSs} (h1 : SX τ X Φ E st c) (h2 : SXs τ X Φ E rest cr) : SXs τ X Φ E (st :: rest) (.cons c cr) := pssW (pss_cons h1 h2) fun D σ H h => by
  obtain ⟨μ, env, S, r, s, er, e1, f⟩ := h
  simp only [exs] at e1
  split at e1
  · rename_i env' S' e2
    refine ⟨μ, env, S, _, s, er, e2, fun σ' μ' H' x' s' er' => ?_, fun w S q => by cases q⟩
    exact ⟨μ', env', S', r, s', er', e1, f.mono x'⟩
  · rename_i r' hn
    refine ⟨μ, env, S, r, s, er, e1, ?_⟩
    cases r with
    | nx env' S' => exact absurd e1 (hn env' S')
    | rt w S' => exact f
    | bk env' S' => exact f
    | ct env' S' => exact f
theorem sx_if {A B : List Stmt} {sa sb : CSs} (hc : DT τ X Φ d cd) (ha : SXs τ X Φ E A sa) (hb : SXs τ X Φ E B sb) : SX τ X Φ E (.If d A B pos) (.ifs cd sa sb) := psW (ps_if hc ha hb) fun D σ H h => by
  obtain ⟨μ, env, S, r, s, er, e1, f⟩ := h
  simp only [ex] at e1
  split at e1
  · rename_i S1 e2
    refine ⟨μ, env, S, _, S1, s, er, e2, fun μ' H' x' s' => iteT ?_⟩
    exact ⟨μ', env, S1, r, s', er.mono x', e1, f.mono x'⟩
  · rename_i S1 e2
    refine ⟨μ, env, S, _, S1, s, er, e2, fun μ' H' x' s' => iteF ?_⟩
    exact ⟨μ', env, S1, r, s', er.mono x', e1, f.mono x'⟩
  · cases e1
theorem sx_set {ts : List Nat} {x : Expr} (hg : DG τ X x ts) (he : DX τ X Φ (fun cls d _ H => E cls d H) e cx) (hs : swapsWithSole [x] e pos.line X.env = pure false := by rfl) (hw : swappedStores [x] e X.env = pure none := by rfl) (h3 : List.map (fun x => x.snd) (assignEach [x] X.env) = [assign x X.env] := by rfl) : SX τ X Φ E (.Assign [x] e pos) (.setX ts cx) := by
  obtain ⟨g, h1, h2⟩ := hg.ex
  refine psW (ps_asg he h1 hs hw h3) fun D σ H h => ?_
  obtain ⟨μ, env, S, r, s, er, e1, f⟩ := h
  simp only [ex] at e1
  split at e1
  · rename_i c fs S1 e2
    cases e1
    exact ⟨μ, env, S, _, S1, s, er, e2, fun v μ' H' x' s' r' => (by cases r'), f.2 _ S1 rfl⟩
  · rename_i w S1 hne e2
    rw [Option.map_eq_some_iff] at e1
    obtain ⟨env', q1, q2⟩ := e1
    subst q2
    refine ⟨μ, env, S, w, S1, s, er, e2, fun v μ' H' x' s' r' => ?_, fun c fs q => absurd q (hne c fs)⟩
    exact h2 μ' H' S1 σ env env' v w _ s' (er.mono x') r' q1 fun σ' er' _ _ => f.1 σ' μ' H' x' s' er'
  · cases e1
theorem sx_while {body : List Stmt} {b : CSs} (n : Nat) (hc : DT τ X Φ d cd) (hb : SXs τ X Φ E body b) (hp : PassesOwn (model X.prog X.w) X.A X.env X.xe) : SX τ X Φ E (.While d body [] pos) (.whl n cd b) := by
  refine psW (ps_while hp hc hb) fun D σ H h => ?_
  obtain ⟨μ, env, S, r, sr, er, e0, f⟩ := h
  simp only [ex] at e0
  refine ⟨fun m σ2 H2 => ∃ μ2 env2 S2, Ex (kwOf τ X) μ H μ2 H2 ∧ SR (kwOf τ X) μ2 H2 S2 ∧ ER (kwOf τ X) μ2 H2 σ2 env2 ∧ whlGo (ev Φ cd) (exs Φ b) m env2 S2 = some r, ⟨n, μ, env, S, .refl, sr, er, e0⟩, ?_⟩
  rintro m σ2 H2 ⟨μ2, env2, S2, x2, s2, er2, hgo⟩
  cases m with
  | zero =>
    simp only [whlGo] at hgo
    cases hgo
  | succ m =>
    simp only [whlGo] at hgo
    split at hgo
    · rename_i S3 e3
      refine ⟨μ2, env2, S2, _, S3, s2, er2, e3, fun μ3 H3 x3 s3 => iteT ?_⟩
      refine ⟨fun σ' H' => ∃ μ3 env3 S3, Ex (kwOf τ X) μ H μ3 H' ∧ SR (kwOf τ X) μ3 H' S3 ∧ ER (kwOf τ X) μ3 H' σ' env3 ∧ whlGo (ev Φ cd) (exs Φ b) m env3 S3 = some r, fun σ' H' hN => ⟨m, by omega, hN⟩, ?_⟩
      cases hr : exs Φ b env2 S3 with
      | none =>
        simp only [hr] at hgo
        cases hgo
      | some r2 =>
        refine ⟨μ3, env2, S3, r2, s3, er2.mono x3, hr, ?_⟩
        simp only [hr] at hgo
        cases r2 with
        | nx env4 S4 => exact ⟨fun σ4 μ4 H4 x4 s4 er4 => ⟨μ4, env4, S4, (x2.trans x3).trans x4, s4, er4, hgo⟩, fun w S q => by cases q⟩
        | ct env4 S4 => exact ⟨fun σ4 μ4 H4 x4 s4 er4 => ⟨μ4, env4, S4, (x2.trans x3).trans x4, s4, er4, hgo⟩, fun w S q => by cases q⟩
        | bk env4 S4 =>
          cases hgo
          exact ⟨fun σ4 μ4 H4 x4 s4 er4 => f.1 σ4 μ4 H4 ((x2.trans x3).trans x4) s4 er4, fun w S q => by cases q⟩
        | rt w S4 =>
          cases hgo
          exact f.mono (x2.trans x3)
    · rename_i S3 e3
      cases hgo
      exact ⟨μ2, env2, S2, _, S3, s2, er2, e3, fun μ3 H3 x3 s3 => iteF (f.1 σ2 μ3 H3 (x2.trans x3) s3 (er2.mono x3))⟩
    · cases hgo
end
/-! ### a def -/
end MP
/-! own errors made: classes whose __init__ asks the base's and keeps its arguments as fields -/
namespace MP
open PySem PySem.Spec PyProof.Rows L2 NdefX
section
variable {τ : TZ} {X : Cx} {pins : List (Addr × Obj)} {σ : L2.St} {H1 H2 : Hp} {Q : XK} {a C : Addr}
/-- C(): an own error without fields -/
def tMk0 (C : Addr) (sp : Sp) : L2.St → Hp → XK → Prop := fun _ H Q => ∀ a, H a = none → sp [.ref a] (upd H a (exo a C none)) (fun v H2 => v = .non ∧ H2 a = some (exo a C none) ∧ Q (.ref C) none (del H2 a)) (fun _ _ _ => False)
end
end MP
/-! try: one call that may raise; the suites ask the error for its class and its fields -/
namespace MP
open PySem PySem.Spec PyProof.Rows L2
/-- what the written part says of a class of errors, its name x in the module -/
structure ErrF (K : PySem.W.Frag) (mg : Str → Option Value) (x : Str) (C : Addr) : Prop where
  g : PySem.W.nsIn K mainGlobals x = some (some (.ref C))
  m : mg x = some (.ref C)
  xc : ExcC K C
  ic : (PySem.W.clsIn K C).isSome = true
  ty : PySem.W.typeIn K (.ref C) = some (.type "type")
section
variable {K : PySem.W.Frag} {mg : Str → Option Value} {x y : Str} {C D : Addr} {b : Bool}
theorem ErrF.uniq (a : ErrF K mg x C) (h : PySem.W.nsIn K mainGlobals x = some (some (.ref D))) : D = C := by
  have e := h.symm.trans a.g
  cases e
  rfl
end
/-- a class T as it is asked for: of the errors of cat just those of these names are its instances -/
structure IsT (K : PySem.W.Frag) (mg : Str → Option Value) (cat names : List (List Nat)) (T : Str) : Prop where
  ex : ∃ (v : V) (u : Value), ((mg T = some u) ∨ (mg T = none ∧ bootBuiltins T = some u ∧ T ≠ "__name__")) ∧ RelV v u ∧ ClsV v u ∧ ∀ (x : Str) (D : Addr), x.cps.toList ∈ cat → PySem.W.nsIn K mainGlobals x = some (some (.ref D)) → PySem.W.kitOne K (.ref D) u = some (decide (x.cps.toList ∈ names))
/-- all errors of cat can be asked -/
def CatE (K : PySem.W.Frag) (cat : List (List Nat)) : Prop := ∀ (x : Str) (D : Addr), x.cps.toList ∈ cat → PySem.W.nsIn K mainGlobals x = some (some (.ref D)) → ExcC K D
section
variable {τ : TZ} {X : Cx} {a D : Addr} {d : Option Addr} {oe : Obj} {pn : List (Addr × Obj)}
def rIsE1 (K : PySem.W.Frag) (D a : Addr) (d : Option Addr) : List V → Hp → VK → Prop := fun xs H Q => ∃ (c : V) (u : Value) (b : Bool), xs = [.ref a, c] ∧ ClsV c u ∧ PySem.W.kitOne K (.ref D) u = some b ∧ (∀ dd, d = some dd → ∃ gs, H dd = some (.xd gs)) ∧ Q (.bl b) H
def rIsE2 (K : PySem.W.Frag) (D a : Addr) (d : Option Addr) : List V → Hp → VK → Prop := fun xs H Q => ∃ (tp : Addr) (cs : List V) (us : List Value) (b : Bool), xs = [.ref a, .ref tp] ∧ H tp = some (.tup cs) ∧ Paired ClsV cs us ∧ PySem.W.kitAny K (.ref D) us = some b ∧ (∀ dd, d = some dd → ∃ gs, H dd = some (.xd gs)) ∧ Q (.bl b) H
end
/-! ### readings within a suite: the error at a, of the class cls, its dict d, in slot i -/
structure Held (K : Fg) (cat : List (List Nat)) (i : Nat) (a : Addr) (cls : Value) (d : Option Addr) (μ : List Addr) (σ : L2.St) (H : Hp) (c : List Nat) (fs : List (List Nat × W)) : Prop where
  mem : c ∈ cat
  er : ExcR K μ H cls d c fs
  at_ : σ[i]? = some (some (.ref a))
theorem Held.mono {K : Fg} {cat : List (List Nat)} {i : Nat} {a : Addr} {cls : Value} {d : Option Addr} {μ μ1 : List Addr} {σ : L2.St} {H H1 : Hp} {c : List Nat} {fs : List (List Nat × W)} (x : Ex K μ H μ1 H1) (h : Held K cat i a cls d μ σ H c fs) : Held K cat i a cls d μ1 σ H1 c fs := ⟨h.mem, h.er.mono x, h.at_⟩
/-- its dict, if it has one, stands -/
theorem ExcR.dict {K : Fg} {μ : List Addr} {H : Hp} {cls : Value} {d : Option Addr} {c : List Nat} {fs : List (List Nat × W)} (r : ExcR K μ H cls d c fs) : ∀ dd, d = some dd → ∃ gs, H dd = some (.xd gs) := fun dd e => by
  cases fs with
  | nil => rw [r.no rfl] at e; cases e
  | cons p fs =>
    obtain ⟨n, w⟩ := p
    obtain ⟨dd', gs, y, v, e1, e2, _⟩ := r.fl n w (by simp [List.lookup])
    rw [e] at e1
    cases e1
    exact ⟨gs, e2⟩
def tEE (K : Fg) (Φ : Fns) (cat : List (List Nat)) (i : Nat) (a : Addr) (cls : Value) (d : Option Addr) (ce : CE) : TE := fun σ H Q => ∃ μ env S w S' c fs, Held K cat i a cls d μ σ H c fs ∧ SR K μ H S ∧ ER K μ H σ env ∧ ev (withX Φ c fs) ce env S = some (w, S') ∧ Aft K μ H S' w Q
def tET (K : Fg) (Φ : Fns) (cat : List (List Nat)) (i : Nat) (a : Addr) (cls : Value) (d : Option Addr) (ce : CE) : TT := fun σ H Q => ∃ μ env S k S' c fs, Held K cat i a cls d μ σ H c fs ∧ SR K μ H S ∧ ER K μ H σ env ∧ ev (withX Φ c fs) ce env S = some (.bl k, S') ∧ ∀ μ' H', Ex K μ H μ' H' → SR K μ' H' S' → Q k H'
def FlI (K : Fg) (μ : List Addr) (H : Hp) (i : Nat) (a : Addr) (D : Ends) : Fl → Prop
  | .nx env S => ∀ σ' μ' H', Ex K μ H μ' H' → SR K μ' H' S → ER K μ' H' σ' env → σ'[i]? = some (some (.ref a)) → D.nx σ' H'
  | .rt w S => Aft K μ H S w D.rt
  | .bk env S => ∀ σ' μ' H', Ex K μ H μ' H' → SR K μ' H' S → ER K μ' H' σ' env → D.bk σ' H'
  | .ct env S => ∀ σ' μ' H', Ex K μ H μ' H' → SR K μ' H' S → ER K μ' H' σ' env → D.ct σ' H'
theorem FlI.mono {K : Fg} {μ μ1 : List Addr} {H H1 : Hp} {i : Nat} {a : Addr} {D : Ends} {r : Fl} (x : Ex K μ H μ1 H1) (h : FlI K μ H i a D r) : FlI K μ1 H1 i a D r := by
  cases r with
  | nx env S => exact fun σ' μ' H' x' s' e' => h σ' μ' H' (x.trans x') s' e'
  | rt w S => exact Aft.mono x h
  | bk env S => exact fun σ' μ' H' x' s' e' => h σ' μ' H' (x.trans x') s' e'
  | ct env S => exact fun σ' μ' H' x' s' e' => h σ' μ' H' (x.trans x') s' e'
def tES (K : Fg) (Φ : Fns) (cat : List (List Nat)) (i : Nat) (a : Addr) (cls : Value) (d : Option Addr) (c : CS) : TS := fun D σ H => ∃ μ env S r cn fs, Held K cat i a cls d μ σ H cn fs ∧ SR K μ H S ∧ ER K μ H σ env ∧ ex (withX Φ cn fs) c env S = some r ∧ FlI K μ H i a D r
def tESs (K : Fg) (Φ : Fns) (cat : List (List Nat)) (i : Nat) (a : Addr) (cls : Value) (d : Option Addr) (c : CSs) : TS := fun D σ H => ∃ μ env S r cn fs, Held K cat i a cls d μ σ H cn fs ∧ SR K μ H S ∧ ER K μ H σ env ∧ exs (withX Φ cn fs) c env S = some r ∧ FlI K μ H i a D r
section
variable {τ : TZ} {X : Cx} {Φ : Fns} {cat : List (List Nat)} {i : Nat} {a : Addr} {cls : Value} {d : Option Addr} {oe : Obj} {pn : List (Addr × Obj)} {e : Expr} {es : List Expr} {ce cb : CE} {pos : Pos}
theorem ee_lift (h : ∀ Φ' : Fns, DE τ X Φ' e ce) : PE X e (tEE (kwOf τ X) Φ cat i a cls d ce) := ⟨fun pins s σ H Q I q => by
  obtain ⟨μ, env, S, w, S', c, fs, hd, sr, er, h1, h2⟩ := q
  exact (h (withX Φ c fs)).run pins s σ H Q I ⟨μ, env, S, w, S', sr, er, h1, h2⟩⟩
end
end MP
namespace MP
open PySem PySem.Spec PyProof.Rows L2
section
variable {τ : TZ} {X : Cx} {Φ : Fns} {cat : List (List Nat)} {i : Nat} {a : Addr} {cls : Value} {d : Option Addr} {oe : Obj} {pn : List (Addr × Obj)} {e : Expr} {es : List Expr} {ce cb : CE} {pos : Pos}
/-- the classes that a test names, one behind another -/
inductive IsTs (K : PySem.W.Frag) (mg : Str → Option Value) (X : Cx) (cat : List (List Nat)) : List Expr → List (List Nat) → Prop where
  | nil : IsTs K mg X cat [] []
  | cons {T : Str} {p : Pos} {es : List Expr} {ns ms : List (List Nat)} (t : IsT K mg cat ns T) (hg : Gl X T) (hdb : (T == ("__debug__" : Str)) = false) (hs : starEach ((.Name T p : Expr) :: es) X.env = (false, eval (.Name T p) X.env) :: starEach es X.env) (r : IsTs K mg X cat es ms) : IsTs K mg X cat (.Name T p :: es) (ns ++ ms)
end
end MP
namespace MP
open PySem PySem.Spec PyProof.Rows L2
section
variable {τ : TZ} {X : Cx} {Φ : Fns} {cat : List (List Nat)} {i : Nat} {a : Addr} {cls : Value} {d : Option Addr} {oe : Obj} {pn : List (Addr × Obj)} {e tg : Expr} {es : List Expr} {ce cd : CE} {cx : CX} {pos : Pos}
/-- the error's field -/
theorem ee_fld {n f : Str} {l : List Nat} {p1 : Pos} (hz : Zc cls d oe) (hf : ∃ vs, oe.data = .fields vs) (hx : ∀ (x : Str) (D : Addr), x.cps.toList ∈ cat → PySem.W.nsIn X.K mainGlobals x = some (some (.ref D)) → XfC X.K D ∧ PySem.W.findIn X.K (.ref D) f = some none) (hl : f.cps.toList = l := by decide +kernel)
    (hN : X.N[i]? = some n := by rfl) (hv : Vis X.env.scope n := by first | exact .inl rfl | exact .inr (.inl rfl)) (hdn : (n == ("__debug__" : Str)) = false := by decide) (hdc : (n == ("__classdict__" : Str)) = false := by decide) (hb : attributeBase (.Name n p1) f X.env (eval (.Name n p1) X.env) = eval (.Name n p1) X.env := by rfl) :
    PE (X.suite a ((a, oe) :: pn)) (.Attribute (.Name n p1) f pos) (tEE (kwOf τ X) Φ cat i a cls d (.call 99999 (.cons (.c (.str l)) .nil))) := by
  refine ⟨fun pins s σ H Q I q => ?_⟩
  obtain ⟨μ, env, S, w, S', c, fs, hd, sr, er, h1, h2⟩ := q
  obtain ⟨x, D, ex, hn, ec⟩ := hd.er.cl
  subst ec
  subst ex
  obtain ⟨xf, hno⟩ := hx x D hd.mem hn
  have hlk : fs.lookup l = some w ∧ S' = S := by
    simp only [ev, evs, withX] at h1
    rw [if_neg (by decide), if_pos trivial] at h1
    cases hq : fs.lookup l with
    | none => rw [hq] at h1; cases h1
    | some w' => rw [hq] at h1; cases h1; exact ⟨rfl, rfl⟩
  obtain ⟨q1, rfl⟩ := hlk
  obtain ⟨dd, gs, y, v, e1, e2, e3, e4, e5, e6⟩ := hd.er.fl l w q1
  have ey : y = f := str_inj (e4.trans hl.symm)
  subst ey
  exact (pe_xf (pn := pn) xf hno hz hf (pe_var (X := X.suite a ((a, oe) :: pn)) (i := i) hN hv hdn hdc) hb).run pins s σ H Q I ⟨_, hd.at_, rfl, rfl, dd, gs, v, e1, e2, e5, h2.now sr e6⟩
/-! ### the suite's statements -/
theorem es_set {ts : List Nat} {x : Expr} (hg : DG τ X x ts) (he : PE X e (tEE (kwOf τ X) Φ cat i a cls d ce)) (hi : i ∉ ts := by decide) (hs : swapsWithSole [x] e pos.line X.env = pure false := by rfl) (hw : swappedStores [x] e X.env = pure none := by rfl) (h3 : List.map (fun x => x.snd) (assignEach [x] X.env) = [assign x X.env] := by rfl) : PS X (.Assign [x] e pos) (tES (kwOf τ X) Φ cat i a cls d (.set ts ce)) := by
  obtain ⟨g, h1, h2⟩ := hg.ex
  refine psW (ps_asg he h1 hs hw h3) fun D σ H h => ?_
  obtain ⟨μ, env, S, r, c, fs, hd, sr, er, e1, f⟩ := h
  simp only [ex] at e1
  split at e1
  · rename_i w S1 e2
    rw [Option.map_eq_some_iff] at e1
    obtain ⟨env', q1, q2⟩ := e1
    subst q2
    refine ⟨μ, env, S, w, S1, c, fs, hd, sr, er, e2, fun v μ' H' x' s' r' => ?_⟩
    exact h2 μ' H' S1 σ env env' v w _ s' (er.mono x') r' q1 fun σ' er' _ z => f σ' μ' H' x' s' er' ((z i hi).trans hd.at_)
  · cases e1
theorem ess_nil : PSs X [] (tESs (kwOf τ X) Φ cat i a cls d .nil) := pssW pss_nil fun D σ H h => by
  obtain ⟨μ, env, S, r, c, fs, hd, sr, er, h1, h2⟩ := h
  simp only [exs] at h1
  cases h1
  exact h2 σ μ H .refl sr er hd.at_
theorem ess_cons {st : Stmt} {rest : List Stmt} {c : CS} {cr : CSs} (h1 : PS X st (tES (kwOf τ X) Φ cat i a cls d c)) (h2 : PSs X rest (tESs (kwOf τ X) Φ cat i a cls d cr)) : PSs X (st :: rest) (tESs (kwOf τ X) Φ cat i a cls d (.cons c cr)) := pssW (pss_cons h1 h2) fun D σ H h => by
  obtain ⟨μ, env, S, r, cn, fs, hd, sr, er, e1, f⟩ := h
  simp only [exs] at e1
  split at e1
  · rename_i env' S' e2
    refine ⟨μ, env, S, _, cn, fs, hd, sr, er, e2, fun σ' μ' H' x' s' er' at' => ?_⟩
    exact ⟨μ', env', S', r, cn, fs, ⟨hd.mem, hd.er.mono x', at'⟩, s', er', e1, f.mono x'⟩
  · rename_i r' hn
    refine ⟨μ, env, S, r, cn, fs, hd, sr, er, e1, ?_⟩
    cases r with
    | nx env' S' => exact absurd e1 (hn env' S')
    | rt w S' => exact f
    | bk env' S' => exact f
    | ct env' S' => exact f
/-! ### try -/
/-- the body's one call: its value is bound, or what is raised is looked at -/
def tTB (K : Fg) (Φ : Fns) (ts : List Nat) (cx : CX) (Z : WX) : TS := fun D σ H => ∃ μ env S w S', SR K μ H S ∧ ER K μ H σ env ∧ evx Φ cx env S = some (w, S') ∧ ((∀ c fs, w ≠ .exc c fs) → ∃ env', landX ts env w S' = some (.nx env' S') ∧ ∀ σ' μ' H', Ex K μ H μ' H' → SR K μ' H' S' → ER K μ' H' σ' env' → D.nx σ' H') ∧ ExcP K μ H S' w (fun cls d H' => Z cls d σ H')
theorem tb_set {ts : List Nat} {x : Expr} {Z : WX} (ht : ts.isEmpty = false) (hg : DG τ X x ts) (he : DX τ X Φ Z e cx) (hs : swapsWithSole [x] e pos.line X.env = pure false) (hw : swappedStores [x] e X.env = pure none) (h3 : List.map (fun x => x.snd) (assignEach [x] X.env) = [assign x X.env]) : PSs X [.Assign [x] e pos] (tTB (kwOf τ X) Φ ts cx Z) := by
  obtain ⟨g, h1, h2⟩ := hg.ex
  refine pssW (pss_one (ps_asg he h1 hs hw h3)) fun D σ H h => ?_
  obtain ⟨μ, env, S, w, S', sr, er, e1, q1, q2⟩ := h
  refine ⟨μ, env, S, w, S', sr, er, e1, fun v μ' H' x' s' r' => ?_, q2⟩
  obtain ⟨env', l1, l2⟩ := q1 fun c fs z => by subst z; cases r'
  unfold landX at l1
  rw [ht, if_neg (by decide), Option.map_eq_some_iff] at l1
  obtain ⟨env2, l3, l4⟩ := l1
  cases l4
  exact h2 μ' H' _ σ env env' v w _ s' (er.mono x') r' (by
    have : bindT S' env ts w = some env' := l3
    exact this) fun σ' er' _ _ => l2 σ' μ' H' x' s' er'
end
end MP
/-! raise C(), C an own error without fields, its text written -/
namespace MP
open PySem PySem.Spec PyProof.Rows L2 NdefX
/-- a statement of a class's body -/
def inS (s : Stmt) (j : Nat) : Stmt := match s with
  | .ClassDef _ _ _ b _ _ _ _ _ _ _ => b.getD j (.Pass ⟨0, 0, 0, 0⟩)
  | _ => .Pass ⟨0, 0, 0, 0⟩
/-- what the written part says of the class x and of its __init__, the def st -/
structure Mk0 (P : Program) (K : PySem.W.Frag) (mg : Str → Option Value) (x qual : Str) (st : Stmt) (C f cda cc : Addr) (fd : FuncData) : Prop where
  er : ErrF K mg x C
  ox : OexC K C
  sup : SupT P K C f cda cc "ValueError" "ValueError.__init__" "__init__" qual (defArgs st) (defBody st) (defScope st)
  lk : ∃ (oc kV doc pm ct : Value) (od an : Option Addr) (osl : Array (Option Value)), fd = PySem.W.fnX "__init__" qual (defArgs st) (defBody st) (defScope st) [("__class__", cc)] .none kV doc pm an (.ref cda) ct ∧ K.lookup f = some ⟨oc, od, .func fd, osl⟩
  iC : PySem.W.findIn K (.ref C) "__init__" = some (some (.ref f))
  tI : PySem.W.typeIn K (.ref f) = some (.type "function")
  ms : mg "super" = none
def sp0 (K : PySem.W.Frag) (C : Addr) : Sp := fun vs H Q _ => ∃ a, vs = [.ref a] ∧ H a = some (exo a C none) ∧ Q .non H
end MP
/-! raise C(e), C an own error with one field, which its text tells -/
namespace MP
open PySem PySem.Spec PyProof.Rows L2 NdefX
/-- what the written part says of the class x, of its __init__ (the def st) and of its field -/
structure Mk1 (P : Program) (K : PySem.W.Frag) (mg : Str → Option Value) (x qual : Str) (st : Stmt) (C f cda cc : Addr) (fd : FuncData) (fl : Str) : Prop where
  m0 : Mk0 P K mg x qual st C f cda cc fd
  nf : PySem.W.findIn K (.ref C) fl = some none
/-- a number or a text that isn't long -/
def Sml (v : V) : Prop := (∃ i : Int, v = .int i ∧ i.natAbs.log2 < 1920) ∨ ∃ y : Str, v = .str y ∧ y.length ≤ 1000
def sp1 (K : PySem.W.Frag) (C : Addr) (fl : Str) : Sp := fun vs H Q _ => ∃ (a : Addr) (v : V), vs = [.ref a, v] ∧ H a = some (exo a C none) ∧ Sml v ∧ ∀ d, H d = none → d ≠ a → Q .non (upd (upd H d (exd d [(fl, v)])) a (exo a C (some d)))
section
variable {τ : TZ} {X : Cx} {Φ : Fns} {E : XK} {e : Expr} {ce : CE}
variable {ca : CE}
theorem ev_one {f : BI} {env : Env} {S S' : Sto} {w : W} (h : ev Φ (.bi f (.cons ca .nil)) env S = some (w, S')) : ∃ x S1, ev Φ ca env S = some (x, S1) ∧ opI f [x] S1 = some (w, S') := by
  simp only [ev, evs] at h
  split at h
  · rename_i xs S1 e1
    split at e1
    · rename_i x S2 e2
      cases e1
      exact ⟨x, _, e2, h⟩
    · cases e1
  · cases h
theorem sml_fmt {v : V} (hv : Sml v) : (∃ y : Str, v = .str y ∧ y.length ≤ 2000) ∨ ∃ i : Int, v = .int i ∧ i.natAbs.log2 < 1920 ∧ (Str.ofString (toString i)).length ≤ 2000 := by
  rcases hv with ⟨i, rfl, h⟩ | ⟨y, rfl, h⟩
  · refine .inr ⟨i, rfl, h, ?_⟩
    rw [PySem.ofString_length]
    have := PySem.int_text_length_le (a := i) (k := i.natAbs.log2 + 1) (by omega) (by omega)
    omega
  · exact .inl ⟨y, rfl, by omega⟩
theorem app_len {x y : Str} {n m : Nat} (hx : x.length ≤ n) (hy : y.length ≤ m) : (x ++ y).length ≤ n + m := by
  show (x ++ y).cps.toList.length ≤ _
  rw [cps_toList_append, List.length_append]
  have h1 : x.cps.toList.length = x.length := rfl
  have h2 : y.cps.toList.length = y.length := rfl
  omega
/-- the text, of words and of what is told -/
theorem js_cf {s1 : Str} {σ : L2.St} {H : Hp} {v : V} {Q : VK} {i : Nat} (h : s1.length ≤ 1000) (hv : Sml v) (hs : σ[i]? = some (some v)) (q : ∀ y : Str, Q (.str y) H) : tJs [tC (.str s1), tFmt (tVar i)] Str.empty σ H fun out H1 => Q (.str out) H1 := by
  have e0 : Str.empty.length ≤ 0 := by decide
  have l1 := app_len e0 h
  refine ⟨s1, rfl, by rw [sizeLine_eq]; omega, v, hs, ?_⟩
  rcases sml_fmt hv with ⟨y, rfl, hy⟩ | ⟨i, rfl, hi, hy⟩
  · exact .inl ⟨y, rfl, by rw [sizeLine_eq]; omega, y, rfl, by have := app_len l1 hy; rw [sizeLine_eq]; omega, q _⟩
  · exact .inr ⟨i, rfl, hi, _, rfl, by have := app_len l1 hy; rw [sizeLine_eq]; omega, q _⟩
/-- raise C(e) -/
theorem sx_raise1 {x qual : Str} {c l : List Nat} {st : Stmt} {C f cda cc : Addr} {fd : FuncData} {k : Nat} {fl : Str} {p p1 pos : Pos} (tk : Takes X (fun cls d _ H => E cls d H)) (M : Mk1 X.prog X.K X.mg x qual st C f cda cc fd fl) (F : FnOk X.prog X.w X.K X.mg X.base CX0 1 f fd ["self", fl] (sp1 X.K C fl)) (hb : Binds X.K fd ["self", fl] []) (hr : Room (k + 5) X.A) (he : DE τ X Φ e ce)
    (hc : x.cps.toList = c := by decide +kernel) (hl : fl.cps.toList = l := by decide +kernel) (hg : Gl X x := by rfl) (hcalm : X.calm = true := by rfl) (hdb : (x == ("__debug__" : Str)) = false := by decide)
    (hse : starEach [e] X.env = (false, eval e X.env) :: starEach [] X.env := by rfl) (hpl : (backTo p1 (starEach [] X.env)).any (·.1) = false := by rfl) : SX τ X Φ E (.Raise (some (.Call (.Name x p) [e] [] p1)) none pos) (.raise_ c [l] (.cons (.bi (.x .small) (.cons ce .nil)) .nil)) := by
  refine psW (ps_raise hcalm tk (pmk_oex M.m0.ox M.m0.iC M.m0.tI F (hr.mono (by omega)) hb .nil (fun _ _ _ _ _ _ _ h => h.elim) hg M.m0.er.m (pa_cons he pa_nil hse) hdb hse hpl)) fun D σ H h => ?_
  obtain ⟨μ, env, S, r, s, er, e1, f1, f2⟩ := h
  simp only [ex] at e1
  split at e1
  · rename_i ws S1 e2
    simp only [evs] at e2
    split at e2
    · rename_i w S2 e3
      cases e2
      obtain ⟨y, S3, e4, e5⟩ := ev_one e3
      split at e1
      · cases e1
        have hy : w = y ∧ S1 = S3 ∧ ((∃ i : Int, y = .int i ∧ i.natAbs.log2 < 1920) ∨ ∃ z, y = .str z ∧ z.length ≤ 1000) := by
          cases y <;> simp only [opI, opJ] at e5 <;> try (cases e5; done)
          · split at e5
            · rename_i q
              cases e5
              exact ⟨rfl, rfl, .inl ⟨_, rfl, q⟩⟩
            · cases e5
          · split at e5
            · rename_i q
              cases e5
              exact ⟨rfl, rfl, .inr ⟨_, rfl, q⟩⟩
            · cases e5
        obtain ⟨rfl, rfl, hsm⟩ := hy
        refine ⟨μ, env, S, w, S1, s, er, e4, fun v μ1 H1 x1 s1 r1 => ?_⟩
        refine ⟨by simp, fun a ha => ?_⟩
        have sm : Sml v := by
          rcases hsm with ⟨i, rfl, q⟩ | ⟨z, rfl, q⟩
          · cases r1
            exact .inl ⟨_, rfl, q⟩
          · cases r1 with
            | str y _ ey => exact .inr ⟨y, rfl, by rw [str_len ey]; exact q⟩
        refine ⟨a, v, rfl, upd_same, sm, fun d hd hda => ⟨rfl, d, _, upd_same, by rw [upd_ne hda]; exact upd_same, ?_, ?_⟩⟩
        · rw [upd_ne hda] at hd
          exact hd
        · have eh : upd (del (upd (upd (upd H1 a (exo a C none)) d (exd d [(fl, v)])) a (exo a C (some d))) a) d (.xd [(fl, v)]) = upd H1 d (.xd [(fl, v)]) := funext fun b => by
            by_cases h1 : b = d
            · rw [h1, upd_same, upd_same]
            · rw [upd_ne h1, upd_ne h1]
              by_cases h2 : b = a
              · rw [h2, del_same, ha]
              · rw [del_ne h2, upd_ne h2, upd_ne h1, upd_ne h2]
          rw [eh]
          have hd1 : H1 d = none := by rw [upd_ne hda] at hd; exact hd
          refine f2 _ S1 rfl c [(l, w)] rfl μ1 _ (.ref C) (some d) (x1.trans (ex_fresh hd1)) (s1.fresh hd1) ⟨⟨x, C, hc, M.m0.er.g, rfl⟩, (fun q => by cases q), fun n w' hl' => ?_⟩
          have hn : n = l ∧ w' = w := by
            simp only [List.lookup] at hl'
            split at hl'
            · rename_i q
              cases hl'
              exact ⟨by simpa using q, rfl⟩
            · cases hl'
          obtain ⟨rfl, rfl⟩ := hn
          refine ⟨d, [(fl, v)], fl, v, rfl, upd_same, fun k hk => ?_, hl, by simp [List.lookup], r1.mono (ex_fresh hd1)⟩
          obtain ⟨u, hu, _⟩ := s1.trk hk
          rw [hd1] at hu
          cases hu
      · cases e1
    · cases e2
  · cases e1
end
end MP
/-! defs that raise: loops, calls that are sure not to; their levels; facts of classes -/
namespace MP
open PySem PySem.Spec PyProof.Rows L2
section
variable {τ : TZ} {X : Cx} {Φ : Fns} {a b d e tg : Expr} {ca cb cd ce : CE} {pos : Pos}
end
/-! classes -/
section
variable {K : PySem.W.Frag} {mg : Str → Option Value} {h : Heap}
theorem errF_mk {x : Str} {C : Addr} (X : K.In h) (G : h.Ns mainGlobals mg) (g : PySem.W.nsIn K mainGlobals x = some (some (.ref C))) (hg : PySem.W.findIn K (.ref C) "__getattribute__" = some (some (.builtin "BaseException.__getattribute__"))) (hk : PySem.W.findIn K (.ref C) "__getattr__" = some none) (hs : PySem.W.subIn K (.ref C) (.type "BaseException") = some true) (hd : PySem.W.hasDictIn K C = true)
    (ha : PySem.W.findIn K (.ref C) "__class__" = some (some (.builtin "object.__class__"))) (hn : PySem.W.specialIn K (.builtin "object.__class__") "__get__" = some (some (.builtin "getset_descriptor.__get__"))) (ht : PySem.W.takesIn K (.builtin "object.__class__") = some true) (hm : PySem.W.mroIn K C (.type "object") = some true) (ty : PySem.W.typeIn K (.ref C) = some (.type "type")) : ErrF K mg x C :=
  ⟨g, PySem.W.mg_of X G g, ⟨hg, hk, hs, hd, ha, hn, ht, hm⟩, by obtain ⟨cd, hcd, _⟩ := PySem.W.any_some hd; rw [hcd]; rfl, ty⟩
theorem cat_nil {R : Str → Addr → Prop} : ∀ (x : Str) (D : Addr), x.cps.toList ∈ ([] : List (List Nat)) → PySem.W.nsIn K mainGlobals x = some (some (.ref D)) → R x D := fun x D h => by simp at h
theorem cat_cons {y : Str} {l : List Nat} {cat : List (List Nat)} {C : Addr} {R : Str → Addr → Prop} (e : y.cps.toList = l) (F : ErrF K mg y C) (q : R y C) (r : ∀ (x : Str) (D : Addr), x.cps.toList ∈ cat → PySem.W.nsIn K mainGlobals x = some (some (.ref D)) → R x D) : ∀ (x : Str) (D : Addr), x.cps.toList ∈ l :: cat → PySem.W.nsIn K mainGlobals x = some (some (.ref D)) → R x D := fun x D hx hn => by
  rcases List.mem_cons.mp hx with h | h
  · have ex : x = y := str_inj (h.trans e.symm)
    subst ex
    rw [F.uniq hn]
    exact q
  · exact r x D h hn
end
end MP
/-! several except clauses, each naming the error -/
namespace MP
open PySem PySem.Spec PyProof.Rows L2
abbrev Cls4 := Value × Nat × (Addr → Value → Option Addr → TS)
/-- the ends of a suite, behind which slot i is empty again -/
def away (i : Nat) (D : Ends) : Ends := { nx := fun z M => D.nx (z.set i none) M, rt := D.rt, bk := fun z M => D.bk (z.set i none) M, ct := fun z M => D.ct (z.set i none) M }
/-- what the clauses wish, one behind another -/
def wCls (K : Fg) (Wo : WX) (D : Ends) : List Cls4 → WX
  | [] => Wo
  | (C, i, f) :: more => fun k d z M => ∃ yes, PySem.W.exmOne K k C = some yes ∧ (yes = true → ∀ p, M p = none → f p k d (away i D) (z.set i (some (.ref p))) M) ∧ (yes = false → wCls K Wo D more k d z M)
inductive ClsOk (X : Cx) : List ExceptHandler → List Cls4 → Prop
  | nil : ClsOk X [] []
  | cons {E y : Str} {C : Value} {i : Nat} {f : Addr → Value → Option Addr → TS} {s0 : Stmt} {st : List Stmt} {q1 q2 : Pos} {es : List ExceptHandler} {cs : List Cls4} (hC : Names X E C) (hi : X.N[i]? = some y) (hy : X.env.kindOf y = some .local)
      (hst : ∀ (p : Addr) (o : Obj) (k : Value) (d : Option Addr) (more : List (Addr × Obj)), Zc k d o → (∃ fs, o.data = .fields fs) → PSs (X.suite p ((p, o) :: more)) (s0 :: st) (f p k d)) (r : ClsOk X es cs) :
      ClsOk X (.ExceptHandler (some (.Name E q1)) (some y) (s0 :: st) q2 :: es) ((C, i, f) :: cs)
section
variable {τ : TZ} {X : Cx} {bd : List Stmt} {e0 : ExceptHandler} {es : List ExceptHandler} {cs : List Cls4} {at_ : Pos} {tb : WX → TS} {Wo : WX}
theorem ps_clauses (h1 : X.stack = X.env :: X.outer) (h2 : X.env.frame = some X.env.locals) (h3 : X.N.Nodup) (tk : Takes X Wo)
    (hb : ∀ (Z : WX) (more : List (Addr × Obj)) (xe : Value → Shared → Prop), Takes (X.tr more xe) Z → PSs (X.tr more xe) bd (tb Z))
    (hh : ClsOk X (e0 :: es) cs) : PS X (.Try bd (e0 :: es) [] [] at_) (fun D z M => tb (wCls (kwOf τ X) Wo D cs) D z M) := by
  refine ⟨fun pp w0 z M D J0 want => ?_⟩
  have ok := J0.ok
  have onTop : X.A.frames = some (X.env :: X.outer) := by rw [ok.frames, h1]
  refine wpAny_Try_except ?_
  refine wpAny_mono ((hb (wCls (kwOf τ X) Wo D cs) (X.pn ++ pp) (fun u v1 => wpAny (model X.prog X.w) X.A (noteFrame u X.env) (fun _ v2 => wpAny (model X.prog X.w) X.A (setFlight u none) (fun _ v3 =>
    wpAny (model X.prog X.w) X.A (handleBy u X.env (e0 :: es)) (SP X pp D) X.xe v3) X.xe v2) X.xe v1) (fun u w1 caught => ?_)).run [] w0 z M D (J0.toTry _) want) (fun fl w1 got => ?_) (fun _ _ same => same)
  · obtain ⟨p, B, wI, pp', z', M', k, d, rfl, J', nb, up, sky, na, os, ag, wish⟩ := caught
    have J : Inv X pp z' M' wI := J'.ofTry ok
    have high : Sky B (X.env :: X.outer) p (Zc k d) X.env.locals w1.heap := by rw [← h1]; exact sky
    show wpAny (model X.prog X.w) X.A (noteFrame (.ref p) X.env) _ _ _
    refine Sky.land Zc.steady onTop h2 high fun g3 l3 u3 => ?_
    have K3 : Inv X pp z' M' { w1 with heap := g3 } := J.landed nb l3.1 (up.trans u3) os ag
    obtain ⟨o3, fs3, got3, z3, d3⟩ := l3.there
    have clear : p ∉ frs (X.env :: X.outer) := fun hm => by
      obtain ⟨_, o', e', away⟩ := l3.2.2.1.mem hm
      rw [got3] at e'
      cases e'
      exact away _ d3
    have offL : p ≠ X.env.locals := fun same => clear (List.mem_filterMap.mpr ⟨X.env, List.mem_cons_self, by rw [h2, same]⟩)
    have offF : p ∉ X.fs := fun hm => by
      obtain ⟨v, hv, q⟩ := List.mem_filterMap.mp hm
      exact clear (List.mem_filterMap.mpr ⟨v, List.mem_cons_of_mem _ hv, q⟩)
    have T3 := K3.suite got3 d3 na offL offF
    have each : ∀ {es' : List ExceptHandler} {cs' : List Cls4}, ClsOk X es' cs' → wCls (kwOf τ X) Wo D cs' k d z' M' →
        wpAny (model X.prog X.w) X.A (handleBy (.ref p) X.env es') (SP X pp D) X.xe { w1 with heap := g3 } := by
      intro es' cs' hk
      induction hk with
      | nil =>
        intro wish
        refine wpAny_handleBy_nil ?_
        obtain ⟨k1, k2, k3, oo, fs, T, oT, ts', heo, hzo, hdo, hf1, hr⟩ := id l3
        unfold PySem.passOn
        refine wpAny_bind (wpAny_field heo hdo hf1 ?_)
        rw [if_neg (show ¬ ((Value.ref T == Value.none) = true) from by simp)]
        have thrown : wpAny (model X.prog X.w) X.A (setFlight (.ref p) X.env.frame) (fun _ w4 => wpAny (model X.prog X.w) X.A (throw (.ref p) : Sem Flow) (SP X pp D) X.xe w4) X.xe { w1 with heap := g3 } := by
          rw [h2]
          refine HandSPX.setFlight_upZ l3 fun g4 high4 u4 => wpAny_throw (tk _ _ ?_)
          exact ⟨p, B, wI, pp, z', M', k, d, rfl, J, nb, (up.trans u3).trans u4, .inr (.inr (by rw [h1]; exact high4)), na, os, ag, wish⟩
        first
          | exact wpAny_bind (wpAny_pure (wpAny_bind thrown))
          | exact wpAny_bind thrown
      | @cons E y C i f s0 st q1 q2 es2 cs2 hC hi hy hst r ih =>
        intro wish
        obtain ⟨yes, hw1, hw2, hw3⟩ := wish
        refine wpAny_handleBy_cons (codeAny_handlers_test ?_) (by intro q; cases q)
        have look : PySem.W.Looks (model X.prog X.w) g3 (typeOf (.ref p)) k := fun A Q E' v c q => wpAny_typeOf_ref (c _ _ got3) (by rw [z3.1]; exact q)
        have one := PySem.W.exm_one (M := model X.prog X.w) (K3.kIn) look hw1
        have test : ∀ {Q : Value → Shared → Prop} {R : Value → Shared → Prop}, Q C { w1 with heap := g3 } → wpAny (model X.prog X.w) (X.A.mark (some (.ref p))) (eval (.Name E q1) X.env) Q R { w1 with heap := g3 } := fun {Q R} q => by
          obtain ⟨hg, hdb, hm | ⟨hm, hv, hn⟩⟩ := hC
          · exact ld_glob (X := X.suite p ((p, o3) :: (X.pn ++ pp))) T3 hg hm q hdb
          · exact ld_blt (X := X.suite p ((p, o3) :: (X.pn ++ pp))) T3 hg hm hv q hn hdb
        refine test (one.here ?_)
        cases yes with
        | true =>
          refine codeAny_handlers_suite_as ?_
          refine HandSPX.lands_againZ l3 fun g4 l4 u4 => ?_
          have K4 : Inv X pp z' M' { w1 with heap := g4 } := J.landed nb l4.1 ((up.trans u3).trans u4) os ag
          obtain ⟨o4, fs4, got4, z4, d4⟩ := l4.there
          have T4 := K4.suite got4 d4 na offL offF
          refine store_ok (X := X.suite p ((p, o4) :: (X.pn ++ pp))) (v := .ref p) T4 h3 hi (.inl hy) rfl (fun w5 T5 => ?_) (.inr hy)
          refine wpAny_mono ((hst p o4 k d (X.pn ++ pp) z4 ⟨_, d4⟩).run [] w5 _ M' _ T5 (hw2 rfl p na)) (fun fl w6 got => ?_) (fun _ _ no => no.elim)
          have shut : ∀ {z6 : L2.St} {M6 : Hp} {Q : Shared → Prop}, Inv (X.suite p ((p, o4) :: (X.pn ++ pp))) [] z6 M6 w6 → (∀ w7, Inv X pp (z6.set i none) M6 w7 → Q w7) →
              wpAny (model X.prog X.w) X.A (do bindName X.env y .none; unbindBehindTheSuite X.env y q2) (fun _ w7 => Q w7) X.xe w6 := fun {z6 M6 Q} T6 hq => gone_ok (T6.unsuite ok) h3 hi hy hq
          cases fl with
          | next =>
            obtain ⟨z6, M6, T6, q6⟩ := got
            exact shut T6 fun w7 J7 => ⟨_, _, J7, q6⟩
          | brk =>
            obtain ⟨z6, M6, T6, q6⟩ := got
            exact shut T6 fun w7 J7 => ⟨_, _, J7, q6⟩
          | cont =>
            obtain ⟨z6, M6, T6, q6⟩ := got
            exact shut T6 fun w7 J7 => ⟨_, _, J7, q6⟩
          | ret u =>
            obtain ⟨v6, z6, M6, T6, r6, q6⟩ := got
            exact shut T6 fun w7 J7 => ⟨_, _, _, J7, r6, q6⟩
        | false =>
          show wpAny _ X.A (handleBy (.ref p) X.env es2) _ _ _
          exact ih (hw3 rfl)
    exact each hh wish
  · cases fl with
    | next =>
      obtain ⟨z1, M1, J1, q⟩ := got
      exact wpAny_execs_nil ⟨z1, M1, J1.ofTry ok, q⟩
    | brk =>
      obtain ⟨z1, M1, J1, q⟩ := got
      exact ⟨z1, M1, J1.ofTry ok, q⟩
    | cont =>
      obtain ⟨z1, M1, J1, q⟩ := got
      exact ⟨z1, M1, J1.ofTry ok, q⟩
    | ret u =>
      obtain ⟨v, z1, M1, J1, r, q⟩ := got
      exact ⟨v, z1, M1, J1.ofTry ok, r, q⟩
end
end MP
/-! try with several clauses, by what is read -/
namespace MP
open PySem PySem.Spec PyProof.Rows L2
section
variable {τ : TZ} {X : Cx} {Φ : Fns}
/-- clauses and what is read of them; the names: what any of them takes -/
inductive HsOk (τ : TZ) (X : Cx) (Φ : Fns) : List ExceptHandler → List Cls4 → CHs → List (List Nat) → Prop
  | nil : HsOk τ X Φ [] [] .nil []
  | cons {x n : Str} {C : Addr} {i : Nat} {cat names : List (List Nat)} {b0 : Stmt} {st : List Stmt} {b : CSs} {q1 q2 : Pos} {es : List ExceptHandler} {cs : List Cls4} {hs : CHs} (F : ErrF X.K X.mg x C)
      (hcat : ∀ (y : Str) (D : Addr), y.cps.toList ∈ cat → PySem.W.nsIn X.K mainGlobals y = some (some (.ref D)) → PySem.W.exmOne X.K (.ref D) (.ref C) = some true)
      (hnot : ∀ (y : Str) (D : Addr), y.cps.toList ∈ names → y.cps.toList ∉ cat → PySem.W.nsIn X.K mainGlobals y = some (some (.ref D)) → PySem.W.exmOne X.K (.ref D) (.ref C) = some false)
      (hst : ∀ (a : Addr) (oe : Obj) (cls : Value) (d : Option Addr) (pn : List (Addr × Obj)), Zc cls d oe → (∃ vs, oe.data = .fields vs) → PSs (X.suite a ((a, oe) :: pn)) (b0 :: st) (tESs (kwOf τ X) Φ cat i a cls d b))
      (hi : X.N[i]? = some n) (hln : X.env.kindOf n = some .local) (hg : Gl X x) (hdx : (x == ("__debug__" : Str)) = false) (r : HsOk τ X Φ es cs hs names) :
      HsOk τ X Φ (.ExceptHandler (some (.Name x q1)) (some n) (b0 :: st) q2 :: es) ((.ref C, i, fun a cls d => tESs (kwOf τ X) Φ cat i a cls d b) :: cs) (.cons cat i b hs) (cat ++ names)
theorem HsOk.cls {es : List ExceptHandler} {cs : List Cls4} {hs : CHs} {names : List (List Nat)} (h : HsOk τ X Φ es cs hs names) : ClsOk X es cs := by
  induction h with
  | nil => exact .nil
  | cons F hcat hnot hst hi hln hg hdx r ih => exact .cons ⟨hg, hdx, .inl F.m⟩ hi hln hst ih
theorem exh_in {Φ : Fns} {c : List Nat} {fs : List (List Nat × W)} {env : Env} {S : Sto} {r : Fl} {es : List ExceptHandler} {cs : List Cls4} {hs : CHs} {names : List (List Nat)} (h : HsOk τ X Φ es cs hs names) (e : exh Φ c fs hs env S = some r) : c ∈ names := by
  induction h with
  | nil => simp only [exh] at e; cases e
  | cons F hcat hnot hst hi hln hg hdx r0 ih =>
    simp only [exh] at e
    split at e
    · rename_i hc
      exact List.mem_append_left _ hc
    · exact List.mem_append_right _ (ih e)
theorem wish_of {μ μ' : List Addr} {H H' : Hp} {D : Ends} {σ : L2.St} {cls : Value} {d : Option Addr} {c : List Nat} {fs : List (List Nat × W)} {env : Env} {S1 : Sto} {r : Fl} {es : List ExceptHandler} {cs : List Cls4} {hs : CHs} {names : List (List Nat)} (hlen : X.N.length = σ.length) (f : FlOk (kwOf τ X) μ H D r) (x' : Ex (kwOf τ X) μ H μ' H') (s' : SR (kwOf τ X) μ' H' S1) (er : ER (kwOf τ X) μ H σ env) (R : ExcR (kwOf τ X) μ' H' cls d c fs)
    (h : HsOk τ X Φ es cs hs names) (e1 : exh Φ c fs hs env S1 = some r) : wCls (kwOf τ X) (fun _ _ _ _ => False) D cs cls d σ H' := by
  induction h with
  | nil => simp only [exh] at e1; cases e1
  | @cons x n C i cat names b0 st b q1 q2 es cs hs F hcat hnot hst hi hln hg hdx r0 ih =>
    have hil : i < σ.length := by
      rw [← hlen]
      exact (List.getElem?_eq_some_iff.mp hi).1
    have e1' := e1
    simp only [exh] at e1
    obtain ⟨y, D', ey, hn, ec⟩ := R.cl
    split at e1
    · rename_i hc
      refine ⟨true, by rw [ec]; exact hcat y D' (by rw [ey]; exact hc) hn, fun _ a ha => ?_, fun z => by cases z⟩
      cases hr : exs (withX Φ c fs) b (env.set i none) S1 with
      | none => rw [hr] at e1; cases e1
      | some r1 =>
        rw [hr] at e1
        have er1 : ER (kwOf τ X) μ' H' (σ.set i (some (.ref a))) (env.set i none) := by
          refine ⟨by rw [List.length_set, List.length_set]; exact er.1, fun j w q => ?_⟩
          by_cases hj : i = j
          · subst hj
            rw [List.getElem?_set_self (by rw [← er.1]; exact hil)] at q
            cases q
          · rw [List.getElem?_set_ne hj] at q ⊢
            exact (er.mono x').2 j w q
        refine ⟨μ', env.set i none, S1, r1, c, fs, ⟨hc, R, by rw [List.getElem?_set_self hil]⟩, s', er1, hr, ?_⟩
        cases r1 with
        | nx env' S' =>
          cases e1
          exact fun σ' μ2 H2 x2 s2 er2 _ => f (σ'.set i none) μ2 H2 (x'.trans x2) s2 (er2.clear i)
        | rt w S' =>
          cases e1
          exact Aft.mono x' f
        | bk env' S' =>
          cases e1
          exact fun σ' μ2 H2 x2 s2 er2 => f (σ'.set i none) μ2 H2 (x'.trans x2) s2 (er2.clear i)
        | ct env' S' =>
          cases e1
          exact fun σ' μ2 H2 x2 s2 er2 => f (σ'.set i none) μ2 H2 (x'.trans x2) s2 (er2.clear i)
    · rename_i hc
      exact ⟨false, by rw [ec]; exact hnot y D' (by rw [ey]; exact exh_in r0 e1) (by rw [ey]; exact hc) hn, (fun z => by cases z), fun _ => ih e1⟩
theorem ds_clauses {ts : List Nat} {body : List Stmt} {cx : CX} {e0 : ExceptHandler} {es : List ExceptHandler} {cs : List Cls4} {hs : CHs} {names : List (List Nat)} {pos : Pos} (hN : X.N.Nodup)
    (hbd : ∀ (Z : WX) (pn : List (Addr × Obj)) (xe : Value → Shared → Prop), Takes (X.tr pn xe) Z → PSs (X.tr pn xe) body (tTB (kwOf τ X) Φ ts cx Z))
    (hh : HsOk τ X Φ (e0 :: es) cs hs names)
    (hs0 : X.stack = X.env :: X.outer := by rfl) (hf : X.env.frame = some X.env.locals := by rfl) :
    DS τ X Φ (.Try body (e0 :: es) [] [] pos) (.tryX ts cx hs) := by
  refine ⟨fun pins s σ H D I h => ?_⟩
  refine (ps_clauses (τ := τ) (Wo := fun _ _ _ _ => False) (tb := fun Z => tTB (kwOf τ X) Φ ts cx Z) hs0 hf hN takes0 (fun Z pn xe tk => hbd Z pn xe tk) hh.cls).run pins s σ H D I ?_
  have hlen : X.N.length = σ.length := I.len.symm
  obtain ⟨μ, env, S, r, sr, er, e1, f⟩ := h
  simp only [ex] at e1
  split at e1
  · rename_i c fs S1 e2
    refine ⟨μ, env, S, _, S1, sr, er, e2, fun z => absurd rfl (z c fs), fun c' fs' z μ' H' cls d x' s' R => ?_⟩
    cases z
    exact wish_of hlen f x' s' er R hh e1
  · rename_i w S1 hne e2
    refine ⟨μ, env, S, w, S1, sr, er, e2, fun _ => ?_, fun c fs q => absurd q (hne c fs)⟩
    unfold landX at e1 ⊢
    split at e1
    · rename_i ht
      cases e1
      exact ⟨env, by rw [if_pos ht], fun σ' μ' H' x' s' er' => f σ' μ' H' x' s' er'⟩
    · rename_i ht
      rw [Option.map_eq_some_iff] at e1
      obtain ⟨env', q1, q2⟩ := e1
      subst q2
      exact ⟨env', by rw [if_neg ht, q1]; rfl, fun σ' μ' H' x' s' er' => f σ' μ' H' x' s' er'⟩
  · cases e1
end
end MP
/-! a def that is given the error that is being handled, and tells a truth of its class -/
namespace MP
open PySem PySem.Spec PyProof.Rows L2
section
variable {τ : TZ} {X : Cx} {Φ : Fns} {cat : List (List Nat)} {i : Nat} {a : Addr} {cls : Value} {d : Option Addr} {e : Expr} {ce : CE} {pos : Pos}
end
def noFns : Fns := fun _ _ _ => none
/-- its promise: given the error, whether its class is one of names -/
structure FnE (P : Program) (w : World) (K : Fg) (mg : Str → Option Value) (base : Heap) (k : Nat) (f : Addr) (fd : FuncData) (ps : List Str) (cat names : List (List Nat)) : Prop where
  one : ps.length = 1
  go : ∀ (B : Around) (out : List PySem.Env) (t : Shared) (H : Hp) (ar : Args) (a : Addr) (oe : Obj) (cls : Value) (d : Option Addr) (c : List Nat) (fs : List (List Nat × W)) (μ : List Addr) (S : Sto) (Q : VK), L2H.RoomH k B → B.handled = some (.ref a) → L2H.PinOk out H t (a, oe) → Env0 P w K mg base B out t H →
    BindsTo t fd ar (ps.zip [.ref a]) → Zc cls d oe → (∃ vs, oe.data = .fields vs) → c ∈ cat → ExcR K μ H cls d c fs → SR K μ H S → Aft K μ H S (.bl (decide (c ∈ names))) Q → codeAny (model P w) B (.call (.ref f) ar) (CR CX0 out P w H t Q E0) t
section
variable {τ : TZ} {X : Cx} {Φ : Fns} {cat : List (List Nat)} {i : Nat} {a : Addr} {cls : Value} {d : Option Addr} {oe : Obj} {pn : List (Addr × Obj)} {pos : Pos}
end
/-! several clauses, the classes gathered -/
section
variable {τ : TZ} {X : Cx} {Φ : Fns}
theorem hs_cons {x n : Str} {i : Nat} {cat names : List (List Nat)} {b0 : Stmt} {st : List Stmt} {b : CSs} {q1 q2 : Pos} {es : List ExceptHandler} {hs : CHs}
    (F : ∃ C, ErrF X.K X.mg x C ∧ (∀ (y : Str) (D : Addr), y.cps.toList ∈ cat → PySem.W.nsIn X.K mainGlobals y = some (some (.ref D)) → PySem.W.exmOne X.K (.ref D) (.ref C) = some true) ∧ ∀ (y : Str) (D : Addr), y.cps.toList ∈ names → PySem.W.nsIn X.K mainGlobals y = some (some (.ref D)) → PySem.W.exmOne X.K (.ref D) (.ref C) = some false)
    (hst : ∀ (a : Addr) (oe : Obj) (cls : Value) (d : Option Addr) (pn : List (Addr × Obj)), Zc cls d oe → (∃ vs, oe.data = .fields vs) → PSs (X.suite a ((a, oe) :: pn)) (b0 :: st) (tESs (kwOf τ X) Φ cat i a cls d b))
    (r : ∃ cs, HsOk τ X Φ es cs hs names) (hi : X.N[i]? = some n := by rfl) (hln : X.env.kindOf n = some .local := by rfl) (hg : Gl X x := by rfl) (hdx : (x == ("__debug__" : Str)) = false := by decide) :
    ∃ cs, HsOk τ X Φ (.ExceptHandler (some (.Name x q1)) (some n) (b0 :: st) q2 :: es) cs (.cons cat i b hs) (cat ++ names) := by
  obtain ⟨C, F1, F2, F3⟩ := F
  obtain ⟨cs, r⟩ := r
  exact ⟨_, .cons F1 F2 (fun y D h1 _ h3 => F3 y D h1 h3) hst hi hln hg hdx r⟩
theorem hs_nil : ∃ cs, HsOk τ X Φ [] cs .nil [] := ⟨_, .nil⟩
theorem ds_tryM {ts : List Nat} {body : List Stmt} {cx : CX} {e0 : ExceptHandler} {es : List ExceptHandler} {hs : CHs} {names : List (List Nat)} {pos : Pos} (hh : ∃ cs, HsOk τ X Φ (e0 :: es) cs hs names) (hN : X.N.Nodup)
    (hbd : ∀ (Z : WX) (pn : List (Addr × Obj)) (xe : Value → Shared → Prop), Takes (X.tr pn xe) Z → PSs (X.tr pn xe) body (tTB (kwOf τ X) Φ ts cx Z))
    (hs0 : X.stack = X.env :: X.outer := by rfl) (hf : X.env.frame = some X.env.locals := by rfl) :
    DS τ X Φ (.Try body (e0 :: es) [] [] pos) (.tryX ts cx hs) := by
  obtain ⟨cs, hh⟩ := hh
  exact ds_clauses hN hbd hh hs0 hf
end
end MP
/-! tuples whose object is known to have no dict: tuple(a list), t.index(e) of texts, forgotten -/
namespace MP
open PySem PySem.Spec PySem.Calls PyProof.Rows L2
section
variable {τ : TZ} {X : Cx} {Φ : Fns} {a b e : Expr} {ca cb ce : CE} {pos : Pos}
def rNtup (K : PySem.W.Frag) : List V → Hp → VK → Prop := fun xs H Q => ∃ p ys, xs = [V.ref p] ∧ SqL K H p ys ∧ ∀ (l : Addr) (o : Obj), H l = none → o.cls = .type "tuple" → o.dict = none → Q (.ref l) (upd H l (.frz o (.tup ys)))
def ntTy (x : V) (H : Hp) : Prop := ∃ a o xs, x = .ref a ∧ H a = some (.frz o (.tup xs)) ∧ o.cls = .type "tuple" ∧ o.dict = none
end
end MP
/-! where a sign stands in a text: find -/
namespace MP
open PySem PySem.Spec PyProof.Rows L2
section
variable {τ : TZ} {X : Cx} {Φ : Fns} {a b : Expr} {ca cb : CE} {pos : Pos}
end
end MP
namespace MP
open PySem PySem.Spec PyProof.Rows L2
section
variable {P : Program} {w : World} {A : Around} {E : Value → Shared → Prop} {s : Shared}
end
end MP
namespace MP
open PySem PySem.Spec PyProof.Rows L2
section
variable {P : Program} {w : World} {A : Around} {E : Value → Shared → Prop} {s : Shared}
end
end MP
/-! sorted(set(tuple) | set(tuple)), sorted(list) of texts -/
namespace MP
open PySem PySem.Spec PyProof.Rows L2
section
variable {τ : TZ} {X : Cx}
def rSetTp (K : PySem.W.Frag) (w : World) : List V → Hp → VK → Prop := fun vs H Q => ∃ (p : Addr) (xs : List Str), vs = [.ref p] ∧ SqT K H p (xs.map V.str) ∧ xs.length ≤ 60 ∧ ∀ q c, H q = none → c ≤ xs.length → Q (.ref q) (upd H q (SetTO true w q (fun j => decide (j ∈ xs)) c))
def rUni (w : World) : R2 := fun x y H Q => ∃ (a b : Addr) (S S' : Str → Bool) (n n' : Nat), x = .ref a ∧ y = .ref b ∧ a ≠ b ∧ H a = some (SetTO true w a S n) ∧ H b = some (SetTO true w b S' n') ∧ n ≤ 4 ∧ n' ≤ 4 ∧ ∀ q c, H q = none → c ≤ 8 → Q (.ref q) (upd H q (SetTO false w q (fun k => S k || S' k) c))
end
section
variable {τ : TZ} {X : Cx} {Φ : Fns} {a b : Expr} {ca cb : CE} {pos : Pos}
/-- what sorted needs: a list or a tuple of texts -/
def rSortedST (K : PySem.W.Frag) : List V → Hp → VK → Prop := fun vs H Q => ∃ (a : Addr) (xs : List Str), vs = [V.ref a] ∧ (SqL K H a (xs.map V.str) ∨ SqT K H a (xs.map V.str)) ∧ xs.length < 64 ∧
  ∀ (ys : List Str) (p : Addr), ys.Perm xs → sortedS ys = true → H p = none → Q (.ref p) (upd H p (.lst (ys.map V.str)))
end
end MP
/-! sorted(set(a tuple of texts)) -/
namespace MP
open PySem PySem.Spec PyProof.Rows L2
section
variable {τ : TZ} {X : Cx} {Φ : Fns} {a : Expr} {ca : CE} {pos : Pos}
end
end MP
/-! comprehensions of dicts keyed by what may be a key -/
namespace MP
open PySem PySem.Spec PyProof.Rows L2
open SeqAt
section
variable {X : Cx}
/-- {k: v for target in iter if ..}: D the new dict -/
def tGc (w : World) (wi : TI) (g : TG) (tt : TT) (tk tv : TE) (vs : List Nat) (K : PySem.W.Frag) : TE := fun σ H Q => wi σ H fun J H1 => ∀ D, H1 D = none → ∃ W : Nat → Nat → Hp → Prop, (∃ m, W 0 m (upd H1 D (DD w D []))) ∧ ∀ i m H, W i m H →
  (J.stop i H ∧ Q (.ref D) H) ∨ (J.go i H ∧ ∃ Nx : Hp → Prop, (∀ H', Nx H' → ∃ m', m' < m ∧ W (i + 1) m' H') ∧ ∀ x H', J.yld i H x H' → g x (L2.wipe σ vs) H' fun σ2 H2 => L2.wipe σ2 vs = L2.wipe σ vs ∧ tt σ2 H2 fun b H3 =>
    if b = true then tk σ2 H3 fun y H4 => tv σ2 H4 fun z H5 => ∃ gs k, H5 D = some (DD w D gs) ∧ GKk K H5 gs ∧ KyV K H5 y k ∧ k.depth ≤ 8 ∧ ∀ gs', GPut gs k y z gs' → Nx (upd H5 D (DD w D gs')) else Nx H3)
end
/-! ### the rules -/
section
variable {τ : TZ} {X : Cx} {Φ : Fns} {kx vx tg iter : Expr} {ifs : List Expr} {scope : Scope} {own : List (Str × Nat)} {pos : Pos} {ts : List Nat} {si : CI} {ct ck cv : CE}
end
end MP
/-! written dicts keyed by pairs of numbers: D.get((a, b)) -/
namespace MP
open PySem PySem.Spec PyProof.Rows L2
def key2 (p : Int × Int) : NestedKey := .tup [.num p.1, .num p.2]
theorem key2_inj {p q : Int × Int} (h : key2 p = key2 q) : p = q := by
  unfold key2 at h
  injection h with h
  injection h with h1 h2
  injection h2 with h2
  injection h1 with h1
  injection h2 with h2
  exact Prod.ext h1 h2
inductive KR2 (K : Fg) : List (NestedKey × Addr × Value) → List ((Int × Int) × W) → Prop
  | nil : KR2 K [] []
  | cons {a : Addr} {o : Obj} {m : Nat} {i j : Int} {t1 t2 : Tok} {u : Value} {v : V} {w : W} {xs : List (NestedKey × Addr × Value)} {ts : List ((Int × Int) × W)} : K.k.lookup a = some o → o.cls = .type "tuple" → o.data = .seq #[.int i t1, .int j t2] m → RelV v u → (∀ μ H, VW K μ H v w) → KR2 K xs ts → KR2 K ((key2 (i, j), a, u) :: xs) (((i, j), w) :: ts)
theorem KR2.keys {K : Fg} {xs : List (NestedKey × Addr × Value)} {ts : List ((Int × Int) × W)} (h : KR2 K xs ts) : xs.map (·.1) = ts.map fun x => key2 x.1 := by
  induction h with
  | nil => rfl
  | cons _ _ _ _ _ _ ih => rw [List.map_cons, List.map_cons, ih]
theorem KR2.is {K : Fg} {P : Program} {w : World} {h : Heap} (X : K.k.In h) {xs : List (NestedKey × Addr × Value)} {ts : List ((Int × Int) × W)} (k : KR2 K xs ts) : ∀ x ∈ xs, (nestedKind P w).is h x.1 x.2.1 := by
  induction k with
  | nil => intro x hx; cases hx
  | cons h1 h2 h3 _ _ _ ih =>
    intro x hx
    rcases List.mem_cons.mp hx with rfl | hx
    · exact ⟨.tup (X _ _ h1) h2 h3 (.cons (.int _ _) (.cons (.int _ _) .nil)), by show NestedKey.depth (key2 _) ≤ 8; simp [key2, NestedKey.depth, NestedKey.depthAll]⟩
    · exact ih x hx
theorem KR2.find {K : Fg} {xs : List (NestedKey × Addr × Value)} {ts : List ((Int × Int) × W)} (k : KR2 K xs ts) (z : Int × Int) : ∃ v, RelV v (((atKey xs (key2 z)).map (·.2)).getD .none) ∧ ∀ μ H, VW K μ H v ((ts.lookup z).getD .non) := by
  induction k with
  | nil => exact ⟨.non, rfl, fun _ _ => .non⟩
  | @cons a o m i j t1 t2 u v w xs ts h1 h2 h3 h4 h5 h6 ih =>
    unfold atKey at ih ⊢
    rw [List.find?_cons, List.lookup_cons]
    by_cases hx : (i, j) = z
    · subst hx
      simp only [decide_true, beq_self_eq_true]
      exact ⟨v, h4, h5⟩
    · rw [show decide (key2 (i, j) = key2 z) = false from decide_eq_false fun e => hx (key2_inj e)]
      have q2 : (z == (i, j)) = false := by simpa using fun z' => hx z'.symm
      simp only [q2]
      exact ih
/-- a written dict keyed by pairs, as a table -/
def ent2 (w : World) (x : NestedKey × Addr × Value) : DictEntry := ⟨x.1.hash w, .ref x.2.1, x.2.2⟩
def KT2 (K : Fg) (w : World) (p : Addr) (t : List ((Int × Int) × W)) : Prop := ∃ (es : Array DictEntry) (n : Nat) (xs : List (NestedKey × Addr × Value)), K.k.lookup p = some ⟨.type "dict", none, .dict es n, #[]⟩ ∧ es.toList = xs.map (ent2 w) ∧ (xs.map (·.1)).Nodup ∧ (p == sysModules) = false ∧ KR2 K xs t
theorem KT2.at {K : Fg} {P : Program} {w : World} {p : Addr} {t : List ((Int × Int) × W)} {h : Heap} (X : K.k.In h) {es : Array DictEntry} {n : Nat} {xs : List (NestedKey × Addr × Value)} (l1 : K.k.lookup p = some ⟨.type "dict", none, .dict es n, #[]⟩) (l2 : es.toList = xs.map (ent2 w)) (l3 : (xs.map (·.1)).Nodup) (l5 : KR2 K xs t) : h.DictOfH (nestedKind P w) p xs :=
  ⟨_, es, n, X _ _ l1, ⟨rfl, rfl, rfl⟩, rfl, l2, l5.is X, l3⟩
section
variable {τ : TZ} {X : Cx} {Φ : Fns} {a b d e : Expr} {es : List Expr} {ca cb cd ce : CE} {cs : CEs} {pos apos cpos : Pos}
end
end MP
/-! (*list, x), list.insert -/
namespace MP
open PySem PySem.Spec PyProof.Rows L2
section
variable {τ : TZ} {X : Cx} {Φ : Fns} {a b c e : Expr} {es : List Expr} {ca cb cc ce : CE} {cs : CEs} {pos apos cpos : Pos}
end
end MP
/-! sorted(set(numbers)) -/
namespace MP
open PySem PySem.Spec PyProof.Rows L2
section
variable {P : Program} {w : World} {A : Around} {E : Value → Shared → Prop} {s : Shared}
end
/-! numbers rising, each once -/
abbrev SrtZ (l : List Int) : Prop := l.Pairwise (· < ·)
section
variable {τ : TZ} {X : Cx} {Φ : Fns} {a : Expr} {ca : CE} {pos : Pos}
def rSetZ (K : PySem.W.Frag) (w : World) : List V → Hp → VK → Prop := fun vs H Q => ∃ (p : Addr) (xs : List Int), vs = [.ref p] ∧ SqL K H p (xs.map V.int) ∧ xs.length ≤ 60 ∧ ∀ q c, H q = none → c ≤ xs.length → Q (.ref q) (upd H q (SetO w q (fun j => decide (j ∈ xs)) c))
end
end MP
/-! what leaves the store as it is -/
namespace MP
open PySem PySem.Spec PyProof.Rows L2
theorem st_c {Φ : Fns} (x : W) : ∀ (env : Env) (S : Sto) (w : W) (S' : Sto), ev Φ (.c x) env S = some (w, S') → S' = S := by
  intro env S w S' h
  simp only [ev, Option.some.injEq, Prod.mk.injEq] at h
  exact h.2.symm
theorem st_var {Φ : Fns} (i : Nat) : ∀ (env : Env) (S : Sto) (w : W) (S' : Sto), ev Φ (.var i) env S = some (w, S') → S' = S := by
  intro env S w S' h
  simp only [ev] at h
  split at h
  · simp only [Option.some.injEq, Prod.mk.injEq] at h
    exact h.2.symm
  · cases h
/-- what a block's scope is, by the scopes alone -/
def relabelS (sc sc0 : Scope) : Scope := { sc with names := sc.names.map fun (n, k) => if (k == NameKind.free && sc0.kind == .function && sc0.names.lookup n == some .cell) then (n, NameKind.cell) else (n, k) }
end MP
/-! comprehensions of two fors -/
namespace MP
open PySem PySem.Spec PyProof.Rows L2
section
variable {Φ : Fns}
end
end MP
/-! comprehensions of two fors: as values, given to a name -/
namespace MP
open PySem PySem.Spec PyProof.Rows L2
section
variable {τ : TZ} {X : Cx} {Φ : Fns} {tg tg1 : Expr} {ce : CE} {pos : Pos}
end
end MP

/-! zip of two sequences, each a list or a tuple; dict(zip(a, b)) -/
namespace MP
open PySem PySem.Spec PyProof.Rows L2
/-- an iterator at place k of l, a list's (true) or a tuple's -/
def ItG : Bool → Heap → Addr → Addr → Nat → Prop
  | true, h, i, l, k => h.IsListIter i l k
  | false, h, i, l, k => h.IsTupleIter i l k
def SqG : Bool → Heap → Addr → Array Value → Prop
  | true, h, l, xs => h.IsList l xs
  | false, h, l, xs => h.IsTuple l xs
theorem ItG.extBut {t : Bool} {h g : Heap} {i b l : Addr} {k : Nat} (x : ItG t h i l k) (e : Heap.ExtBut b h g) (n : i ≠ b) : ItG t g i l k := by
  cases t
  · exact Heap.IsTupleIter.extBut x e n
  · exact Heap.IsListIter.extBut x e n
theorem ItG.at {t : Bool} {h g : Heap} {i l : Addr} {k : Nat} (x : ItG t h i l k) (e : ∀ o, h.get? i = some o → g.get? i = some o) : ItG t g i l k := by
  cases t
  · exact Heap.IsTupleIter.at x e
  · exact Heap.IsListIter.at x e
theorem SqG.extBut {t : Bool} {h g : Heap} {b l : Addr} {xs : Array Value} (x : SqG t h l xs) (e : Heap.ExtBut b h g) (n : l ≠ b) : SqG t g l xs := by
  cases t
  · exact Heap.IsTuple.extBut x e n
  · exact Heap.IsList.extBut x e n
theorem SqG.at {t : Bool} {h g : Heap} {l : Addr} {xs : Array Value} (x : SqG t h l xs) (e : ∀ o, h.get? l = some o → g.get? l = some o) : SqG t g l xs := by
  cases t
  · exact Heap.IsTuple.at x e
  · exact Heap.IsList.at x e
theorem ItG.there {t : Bool} {h : Heap} {i l : Addr} {k : Nat} (x : ItG t h i l k) : ∃ o, h.get? i = some o := by
  cases t
  · obtain ⟨o, e, _⟩ := (show h.IsTupleIter i l k from x); exact ⟨o, e⟩
  · obtain ⟨o, e, _⟩ := (show h.IsListIter i l k from x); exact ⟨o, e⟩
theorem SqG.there {t : Bool} {h : Heap} {l : Addr} {xs : Array Value} (x : SqG t h l xs) : ∃ o, h.get? l = some o := by
  cases t
  · obtain ⟨o, e, _⟩ := (show h.IsTuple l xs from x); exact ⟨o, e⟩
  · obtain ⟨o, e, _⟩ := (show h.IsList l xs from x); exact ⟨o, e⟩
section
variable {prog : Program} {w : World} {A : Around} {E : Value → Shared → Prop} {s : Shared} {z TI TO T i1 i2 l1 l2 q : Addr} {f tt uu : Bool} {oT : Obj} {n1 n2 : Nat} {xs ys : Array Value} {x y : Value}
/-- how far a zip is while at d a dict is being filled -/
def ZG (tt uu : Bool) (z TI TO i1 i2 l1 l2 d : Addr) (xs ys : Array Value) (n : Nat) (h : Heap) : Prop := IsPair h TI (.ref i1) (.ref i2) ∧ ItG tt h i1 l1 n ∧ ItG uu h i2 l2 n ∧ SqG tt h l1 xs ∧ SqG uu h l2 ys ∧
  ((IsZip h z TI TO .none ∧ ∃ u v, IsPair h TO u v) ∨ ∃ (T : Addr) (f : Bool) (o : Obj), IsZipHeld h z TI TO T f ∧ h.get? T = some o ∧ T ≠ z ∧ T ≠ i1 ∧ T ≠ i2 ∧ T ≠ d)
/-! the making of a zip -/
def itO (t : Bool) (l : Addr) : Obj := { cls := .type (if t then "list_iterator" else "tuple_iterator"), data := .fields #[.ref l, .int 0 0] }
abbrev zgA (t : Bool) (h : Heap) (l1 : Addr) : Heap := h.push (itO t l1)
abbrev zgB (t u : Bool) (h : Heap) (l1 l2 : Addr) : Heap := (zgA t h l1).push (itO u l2)
abbrev zgC (t u : Bool) (h : Heap) (l1 l2 : Addr) : Heap := (zgB t u h l1 l2).push { cls := .type "tuple", data := .seq #[.ref h.objs.size, .ref (zgA t h l1).objs.size] }
abbrev zgD (t u : Bool) (h : Heap) (l1 l2 : Addr) : Heap := (zgC t u h l1 l2).push { cls := .type "tuple", data := .seq #[.none, .none] }
abbrev zgE (t u : Bool) (h : Heap) (l1 l2 : Addr) : Heap := (zgD t u h l1 l2).push { cls := .type "zip", data := .fields #[.none, .bool false, .bool false, .ref (zgB t u h l1 l2).objs.size, .ref (zgC t u h l1 l2).objs.size] }
theorem SqG.push {h : Heap} {l : Addr} {t : Bool} (x : SqG t h l xs) (o : Obj) : SqG t (h.push o) l xs := x.at fun _ e => Heap.get?_push_of_some _ e
end
end MP
/-! dict(zip(a, b)) -/
namespace MP
open PySem PySem.Spec PyProof.Rows L2
def dzAcc (hs : List HK) (zs : List W) (i : Nat) : List (HK × W) := ((hs.zip zs).take i).foldl (fun a p => putG a p.1 p.2) []
section
variable {τ : TZ} {X : Cx} {pins : List (Addr × Obj)} {σ : L2.St} {zp TI TO i1 i2 la lb : Addr} {tt uu : Bool} {H : Hp} {μ : List Addr} {s1 : Shared}
end
section
variable {τ : TZ} {X : Cx} {Φ : Fns} {pos p p2 pz : Pos} {a b e : Expr} {ca cb ce : CE}
end
end MP
/-! sep.join(a tuple of texts) -/
namespace MP
open PySem PySem.Spec PyProof.Rows L2
section
variable {τ : TZ} {X : Cx} {Φ : Fns} {pos : Pos} {a b : Expr} {ca cb : CE}
end
end MP

/-! defs at a level that leaves room for makers of errors -/
namespace MP
open PySem PySem.Spec PyProof.Rows L2
section
variable {τ : TZ} {P : Program} {w : World} {K : PySem.W.Frag} {mg : Str → Option Value} {base : Heap} {x q : Str} {st : Stmt} {f : Addr} {fd : FuncData} {N ps : List Str} {k i n l : Nat} {ds : Nat → Option Def} {body : CSs}
theorem fn_okRl (l : Nat) (F : Fun K x q st f fd) (Sc : FnScope N ps (defScope st)) (hd : ds i = some ⟨n, N.length, body⟩) (hn : ps.length = n)
    (hbody : ∀ (cdv : Value) (A : Around) (outer : List PySem.Env) (s : Shared) (H : Hp) (E : XK), Room (l + 1) A → Room l (A.deeper (envOfC q (defScope st) s.heap.objs.size f cdv)) →
      DSs τ (cxOf CX0 P w K mg base N q (defScope st) f cdv A outer s H E).nox (callF ds k) (defBody st) body) : FnOk P w K mg base CX0 (l + 1) f fd ps (spD ⟨K, w, τ⟩ (callF ds (k + 1)) i n) := by
  obtain ⟨oc, od, kV, doc, pm, an, cdv, ct, osl, rfl, lk, hcd⟩ := F.ex
  refine ⟨fun vs H Q E h => h.1.trans hn.symm, fun A outer s H args us vs Q E hr e0 hb rv h => ?_⟩
  obtain ⟨hl, μ, S, ws, w', S', sr, hv, g1, g2⟩ := h
  refine LamX.run_ofS lk hcd Sc hr e0 hb rv (hl.trans hn.symm) fun hr2 => ⟨_, (hbody cdv A outer s H E hr hr2).nox, ?_⟩
  · simp only [callF, hd] at g1
    split at g1
    · cases hr : exs (callF ds k) body (MP.start N.length ws) S with
      | none =>
        rw [hr] at g1
        cases g1
      | some r =>
        rw [hr] at g1
        refine ⟨μ, _, S, r, sr, hv.start, hr, ?_⟩
        cases r with
        | nx env S2 =>
          cases g1
          exact fun σ' μ' H' x' s' _ => g2 _ μ' H' x' s' .non
        | rt w2 S2 =>
          cases g1
          exact g2
        | bk env S2 => cases g1
        | ct env S2 => cases g1
    · cases g1
theorem fn_okXl (l : Nat) (F : Fun K x q st f fd) (Sc : FnScope N ps (defScope st)) (hd : ds i = some ⟨n, N.length, body⟩) (hn : ps.length = n)
    (hbody : ∀ (cdv : Value) (A : Around) (outer : List PySem.Env) (s : Shared) (H : Hp) (E : XK), Room (l + 1) A → Room l (A.deeper (envOfC q (defScope st) s.heap.objs.size f cdv)) → Takes (cxOf (L2.CX P w) P w K mg base N q (defScope st) f cdv A outer s H E) (fun cls d _ H => E cls d H) → SXs τ (cxOf (L2.CX P w) P w K mg base N q (defScope st) f cdv A outer s H E) (callF ds k) E (defBody st) body) :
    FnOk P w K mg base (L2.CX P w) (l + 1) f fd ps (spX ⟨K, w, τ⟩ (callF ds (k + 1)) i n) := by
  obtain ⟨oc, od, kV, doc, pm, an, cdv, ct, osl, rfl, lk, hcd⟩ := F.ex
  refine ⟨fun vs H Q E h => h.1.trans hn.symm, fun A outer s H args us vs Q E hr e0 hb rv h => ?_⟩
  refine LamX.run_ofS lk hcd Sc hr e0 hb rv (h.1.trans hn.symm) fun hr2 => ⟨_, hbody cdv A outer s H E hr hr2 (takes_of rfl rfl rfl rfl), ?_⟩
  obtain ⟨hl, μ, S, ws, w', S', sr, hv, h1, h2, h3⟩ := h
  simp only [callF, hd] at h1
  split at h1
  · cases hr : exs (callF ds k) body (MP.start N.length ws) S with
    | none =>
      rw [hr] at h1
      cases h1
    | some r =>
      rw [hr] at h1
      refine ⟨μ, _, S, r, sr, hv.start, hr, ?_⟩
      cases r with
      | nx env S2 =>
        cases h1
        exact ⟨fun σ' μ' H' x' s' _ => h2 _ μ' H' x' s' .non, fun w S q => by cases q⟩
      | rt w2 S2 =>
        cases h1
        exact ⟨h2, fun w S q => by cases q; exact h3⟩
      | bk env S2 => cases h1
      | ct env S2 => cases h1
  · cases h1
theorem fn_zerol (hn : ps.length = n) : FnOk P w K mg base CX0 l f fd ps (spD ⟨K, w, τ⟩ (callF ds 0) i n) := by
  refine ⟨fun vs H Q E h => h.1.trans hn.symm, fun A outer s H args us vs Q E hr e0 hb r h => ?_⟩
  obtain ⟨_, μ, S, ws, w', S', _, _, h1, _⟩ := h
  cases h1
theorem fn_zeroXl (hn : ps.length = n) : FnOk P w K mg base (L2.CX P w) l f fd ps (spX ⟨K, w, τ⟩ (callF ds 0) i n) := by
  refine ⟨fun vs H Q E h => h.1.trans hn.symm, fun A outer s H args us vs Q E hr e0 hb r h => ?_⟩
  obtain ⟨_, μ, S, ws, w', S', _, _, h1, _⟩ := h
  cases h1
end
end MP
/-! the end's Hook, widened: own errors, their makers -/
namespace MP
open PySem PySem.Spec PyProof.Rows L2
def asY (g : Addr → Option Obj) : Nat → List Addr
  | 0 => [mainGlobals, cStatics]
  | n + 1 => He.growD g (asY g n)
theorem saysX_as {as : List Addr} {fa : List He.Fa} {fn : List He.DefD} {ts : List He.Tab} {tf : List He.Defn} {ex : PySem.W.Frag → Bool} {w : World} {h : Heap} (e1 : He.obsT fa fn ts (He.frT h.get? as) = He.valT fn ts w) (e2 : (ex (He.frT h.get? as) && He.tabsB h.get? tf (He.frT h.get? as)) = true) : He.SaysX fa fn ts tf ex w h (He.frT h.get? as) := by
  obtain ⟨h1, h2⟩ := He.ba e2
  have key : ∀ p ∈ tf, PySem.W.codeHdIn (He.frT h.get? as) (He.cT (He.frT h.get? as) p).1 (He.cT (He.frT h.get? as) p).2 = true ∧ ∃ o, h.get? (He.cT (He.frT h.get? as) p).2 = some o ∧ He.emptyTab o = true := fun p hp => by
    obtain ⟨h3, h4⟩ := He.ba (List.all_eq_true.mp h2 p hp)
    refine ⟨h3, ?_⟩
    cases q : h.get? (He.cT (He.frT h.get? as) p).2 with
    | none =>
      rw [q] at h4
      cases h4
    | some o =>
      rw [q] at h4
      exact ⟨o, rfl, h4⟩
  exact ⟨e1, h1, fun p hp => (key p hp).1, fun p hp => by
    obtain ⟨_, o, q, z⟩ := key p hp
    exact He.frT_none q z, fun p hp => by
    obtain ⟨_, o, q, z⟩ := key p hp
    rw [q, He.emptyTab_eq z]⟩
/-! ### makers -/
structure MkD where
  x : Str
  qual : Str
  st : Stmt
abbrev FnZ : Type := Option (Str × Str × Arguments × FuncBody × Scope × Addr × List Str × Addr)
def iAd (K : PySem.W.Frag) (x : Str) : Addr := He.ma K (He.ga K x) "__init__"
def fnZ (K : PySem.W.Frag) (x : Str) : FnZ := match K.lookup (iAd K x) with
  | some ⟨_, _, .func fd, _⟩ => some (fd.name, fd.qualname, fd.params, fd.body, fd.scope, fd.globals, fd.closure.map (·.1), fd.builtins)
  | _ => none
def MkD.val (d : MkD) : FnZ := some ("__init__", d.qual, defArgs d.st, .stmts (defBody d.st), defScope d.st, mainGlobals, ["__class__"], builtinsNs)
abbrev AlY : Type := He.AlX × List FnZ
def obsY (n : Nat) (fa : List He.Fa) (fn : List He.DefD) (tf : List He.Defn) (ex : PySem.W.Frag → Bool) (mk : List MkD) (g : Addr → Option Obj) : AlY := ((He.obsT fa fn [] (He.frT g (asY g n)), ex (He.frT g (asY g n)) && He.tabsB g tf (He.frT g (asY g n))), mk.map fun d => fnZ (He.frT g (asY g n)) d.x)
def valY (fn : List He.DefD) (mk : List MkD) (w : World) : AlY := (He.valX fn [] w, mk.map MkD.val)
structure SaysY (fa : List He.Fa) (fn : List He.DefD) (tf : List He.Defn) (ex : PySem.W.Frag → Bool) (mk : List MkD) (w : World) (h : Heap) (K : PySem.W.Frag) : Prop where
  s : He.SaysX fa fn [] tf ex w h K
  m : mk.map (fun d => fnZ K d.x) = mk.map MkD.val
def hookY (n : Nat) (fa : List He.Fa) (fn : List He.DefD) (tf : List He.Defn) (ex : PySem.W.Frag → Bool) (mk : List MkD) : PySem.W.Hook where
  α := AlY
  obs := fun s => obsY n fa fn tf ex mk s.heap.get?
  val := fun w => valY fn mk w
  says := fun w h => ∃ K : PySem.W.Frag, K.In h ∧ SaysY fa fn tf ex mk w h K
  of := fun _ _ e => ⟨_, He.frT_in, saysX_as (congrArg (fun z : AlY => z.1.1) e) (congrArg (fun z : AlY => z.1.2) e), congrArg (fun z : AlY => z.2) e⟩
  keeps := fun _ _ _ ⟨K, hK, c⟩ k => ⟨K, PySem.W.Frag.In.keeps hK k, ⟨⟨c.s.t, c.s.more, c.s.hd, c.s.out, fun p hp => k _ _ (c.s.empty p hp)⟩, c.m⟩⟩
theorem obsY_eq {n : Nat} {fa : List He.Fa} {fn : List He.DefD} {tf : List He.Defn} {ex : PySem.W.Frag → Bool} {mk : List MkD} {g : Addr → Option Obj} {s : Shared} (h : ∀ a, g a = s.heap.get? a) : obsY n fa fn tf ex mk g = (hookY n fa fn tf ex mk).obs s := by
  have e : g = s.heap.get? := funext h
  rw [e] <;> rfl
theorem mk_at {K : PySem.W.Frag} {mk : List MkD} (c : mk.map (fun d => fnZ K d.x) = mk.map MkD.val) (i : Nat) {d : MkD} (h : mk[i]? = some d) : fnZ K d.x = d.val := by
  have e2 : (mk.map fun d => fnZ K d.x)[i]? = (mk.map MkD.val)[i]? := by rw [c]
  rw [List.getElem?_map, List.getElem?_map, h] at e2
  exact Option.some.inj e2
/-! ### an own error's class -/
def erB (K : PySem.W.Frag) (x : Str) : Bool :=
  He.eqO (PySem.W.nsIn K mainGlobals x) (some (some (.ref (He.ga K x)))) && (He.eqO (PySem.W.findIn K (.ref (He.ga K x)) "__getattribute__") (some (some (.builtin "BaseException.__getattribute__"))) && (He.eqO (PySem.W.findIn K (.ref (He.ga K x)) "__getattr__") (some none) &&
  (decide (PySem.W.subIn K (.ref (He.ga K x)) (.type "BaseException") = some true) && (PySem.W.hasDictIn K (He.ga K x) && (He.eqO (PySem.W.findIn K (.ref (He.ga K x)) "__class__") (some (some (.builtin "object.__class__"))) &&
  (He.eqO (PySem.W.specialIn K (.builtin "object.__class__") "__get__") (some (some (.builtin "getset_descriptor.__get__"))) && (decide (PySem.W.takesIn K (.builtin "object.__class__") = some true) && (decide (PySem.W.mroIn K (He.ga K x) (.type "object") = some true) && decide (PySem.W.typeIn K (.ref (He.ga K x)) = some (.type "type"))))))))))
structure ErA (K : PySem.W.Frag) (mg : Str → Option Value) (x : Str) (C : Addr) : Prop where
  er : ErrF K mg x C
  e1 : PySem.W.findIn K (.ref C) "__getattribute__" = some (some (.builtin "BaseException.__getattribute__"))
  e2 : PySem.W.findIn K (.ref C) "__getattr__" = some none
  e3 : PySem.W.subIn K (.ref C) (.type "BaseException") = some true
  e4 : PySem.W.hasDictIn K C = true
  e9 : PySem.W.typeIn K (.ref C) = some (.type "type")
theorem er_of {K : PySem.W.Frag} {h : Heap} {mg : Str → Option Value} (X : K.In h) (G : h.Ns mainGlobals mg) {x : Str} (b : erB K x = true) : ErA K mg x (He.ga K x) := by
  obtain ⟨b0, b⟩ := He.ba b
  obtain ⟨b1, b⟩ := He.ba b
  obtain ⟨b2, b⟩ := He.ba b
  obtain ⟨b3, b⟩ := He.ba b
  obtain ⟨b4, b⟩ := He.ba b
  obtain ⟨b5, b⟩ := He.ba b
  obtain ⟨b6, b⟩ := He.ba b
  obtain ⟨b7, b⟩ := He.ba b
  obtain ⟨b8, b9⟩ := He.ba b
  exact ⟨errF_mk X G (He.eqO_ok b0) (He.eqO_ok b1) (He.eqO_ok b2) (of_decide_eq_true b3) b4 (He.eqO_ok b5) (He.eqO_ok b6) (of_decide_eq_true b7) (of_decide_eq_true b8) (of_decide_eq_true b9), He.eqO_ok b1, He.eqO_ok b2, of_decide_eq_true b3, b4, of_decide_eq_true b9⟩
theorem ErA.xf {K : PySem.W.Frag} {mg : Str → Option Value} {x : Str} {C : Addr} (E : ErA K mg x C) : XfC K C := ⟨E.e1, E.e2, E.e3, E.e4⟩
def exB (K : PySem.W.Frag) (y x : Str) (b : Bool) : Bool := decide (PySem.W.exmOne K (.ref (He.ga K y)) (.ref (He.ga K x)) = some b)
theorem ex_of {K : PySem.W.Frag} {y x : Str} {b : Bool} (h : exB K y x b = true) : PySem.W.exmOne K (.ref (He.ga K y)) (.ref (He.ga K x)) = some b := of_decide_eq_true h
def kqB (K : PySem.W.Frag) (y : Str) (u : Value) (b : Bool) : Bool := decide (PySem.W.kitOne K (.ref (He.ga K y)) u = some b)
def nfB (K : PySem.W.Frag) (y f : Str) : Bool := He.eqO (PySem.W.findIn K (.ref (He.ga K y)) f) (some none)
theorem nf_of {K : PySem.W.Frag} {y f : Str} (h : nfB K y f = true) : PySem.W.findIn K (.ref (He.ga K y)) f = some none := He.eqO_ok h
/-! ### its maker -/
def oexB (K : PySem.W.Frag) (C : Addr) (nw : String) : Bool := match K.lookup C with
  | some ⟨.type "type", _, .cls cd, sl⟩ => (match cd.mro, sl.toList with
    | .ref C' :: bm, [_, _, _, _, some (.builtin n), _] => decide (C' = C) && (decide (n = nw) && (cd.hasDict && (!cd.hasDel && PySem.HandSPX.refsVE bm)))
    | _, _ => false)
  | _ => false
theorem oex_of {K : PySem.W.Frag} {C : Addr} {nw : String} (q : oexB K C nw = true) : ∃ nm q N bs bm sn sub ab col dd k0 k1 k2 k3 k5, K.lookup C = some (excClassObj nm q C N bs bm true sn sub ab col dd k0 k1 k2 k3 k5 nw) ∧ PySem.HandSPX.refsVE bm = true := by
  unfold oexB at q
  split at q
  · rename_i dd cd sl ho
    split at q
    · rename_i C' bm k0 k1 k2 k3 n k5 hm hs
      obtain ⟨q1, q⟩ := He.ba q
      obtain ⟨q2, q⟩ := He.ba q
      obtain ⟨q3, q⟩ := He.ba q
      obtain ⟨q4, q5⟩ := He.ba q
      have q1 := of_decide_eq_true q1
      have q2 := of_decide_eq_true q2
      subst q1 q2
      obtain ⟨nm, bs, mro, ns, qn, hd, sn, sub, ab, col, del⟩ := cd
      dsimp only at hm q3 q4
      simp only [Bool.not_eq_true'] at q4
      subst hm q3 q4
      have hsl : sl = #[k0, k1, k2, k3, some (.builtin n), k5] := by
        obtain ⟨l⟩ := sl
        simp only at hs
        rw [hs]
      subst hsl
      exact ⟨nm, qn, ns, bs, bm, sn, sub, ab, col, dd, k0, k1, k2, k3, k5, ho, q5⟩
    · cases q
  · cases q
def fileB (K : PySem.W.Frag) (P : Program) (cda : Addr) : Bool := match K.lookup cda with
  | some ⟨_, _, .fields vs, _⟩ => (match (vs[2]? : Option Value) with
    | some (Value.str fl _) => ((P.main.file : Str) == fl)
    | _ => false)
  | _ => false
def cellB (K : PySem.W.Frag) (C cc : Addr) : Bool := match K.lookup cc with
  | some ⟨_, _, .cell (some (.ref D)), _⟩ => decide (D = C)
  | _ => false
def bodC (K : PySem.W.Frag) (P : Program) (x qual : Str) (cl : List (Str × Addr)) (cd df : Value) : Bool := match cl, cd, df with
  | [(_, cc)], .ref cda, .none => PySem.W.codeIn K (.ref cda) qual && (fileB K P cda && cellB K (He.ga K x) cc)
  | _, _, _ => false
def bodB (K : PySem.W.Frag) (P : Program) (x qual : Str) : Bool := match K.lookup (iAd K x) with
  | some ⟨_, _, .func fd, _⟩ => bodC K P x qual fd.closure fd.code fd.defaults
  | _ => false
def mkB (K : PySem.W.Frag) (P : Program) (x qual : Str) (B i nw : String) : Bool :=
  bodB K P x qual && (decide (PySem.W.mroIn K (He.ga K x) (.ref (He.ga K x)) = some true) && (He.eqO (PySem.W.ks_superIn K (He.ga K x) (He.ga K x) "__init__") (some (some (.builtin i))) && (He.eqO (PySem.W.nsIn K cStatics "thirdparty.any") (some none) &&
  (decide (PySem.W.subIn K (.ref (He.ga K x)) (.type B) = some true) && (He.eqO (PySem.W.findIn K (.ref (He.ga K x)) "__init__") (some (some (.ref (iAd K x)))) && (decide (PySem.W.typeIn K (.ref (iAd K x)) = some (.type "function")) &&
  (oexB K (He.ga K x) nw && (He.eqO (PySem.W.findIn K (.ref (He.ga K x)) "__setattr__") (some (some (.builtin "object.__setattr__"))) && PySem.W.keepIn K (.ref (He.ga K x))))))))))
theorem bod_of {K : PySem.W.Frag} {P : Program} {x qual : Str} {st : Stmt} (e : fnZ K x = MkD.val ⟨x, qual, st⟩) (b : bodB K P x qual = true) :
    ∃ (cda cc : Addr) (oc kV doc pm ct : Value) (od an : Option Addr) (osl : Array (Option Value)), K.lookup (iAd K x) = some ⟨oc, od, .func (PySem.W.fnX "__init__" qual (defArgs st) (defBody st) (defScope st) [("__class__", cc)] .none kV doc pm an (.ref cda) ct), osl⟩ ∧ PySem.W.codeIn K (.ref cda) qual = true ∧ fileB K P cda = true ∧ cellB K (He.ga K x) cc = true := by
  unfold bodB at b
  unfold fnZ at e
  cases q : K.lookup (iAd K x) with
  | none =>
    rw [q] at b
    cases b
  | some o =>
    obtain ⟨oc, od, dt, osl⟩ := o
    rw [q] at b e
    cases dt with
    | func fd =>
      obtain ⟨n1, n2, n3, n4, n5, n6, n7, n8, n9, n10, n11, n12, n13, n14, n15⟩ := fd
      have e2 : (some (n1, n2, n3, n4, n5, n6, n7.map (·.1), n15) : FnZ) = (some ("__init__", qual, defArgs st, FuncBody.stmts (defBody st), defScope st, mainGlobals, ["__class__"], builtinsNs) : FnZ) := e
      simp only [Option.some.injEq, Prod.mk.injEq] at e2
      obtain ⟨h1, h2, h3, h4, h5, h6, h7, h8⟩ := e2
      subst h1 h2 h3 h4 h5 h6 h8
      have b2 : bodC K P x n2 n7 n13 n8 = true := b
      unfold bodC at b2
      split at b2
      · rename_i c cc cda
        obtain ⟨b3, b4⟩ := He.ba b2
        obtain ⟨b4, b5⟩ := He.ba b4
        simp only [List.map_cons, List.map_nil, List.cons.injEq, and_true] at h7
        subst h7
        exact ⟨cda, cc, oc, n9, n10, n11, n14, od, n12, osl, rfl, b3, b4, b5⟩
      · cases b2
    | _ => cases b
theorem mk0_of {K : PySem.W.Frag} {P : Program} {h : Heap} {mg : Str → Option Value} (X : K.In h) (G : h.Ns mainGlobals mg) {x qual : Str} {st : Stmt} {ps : List Str} (E : ErA K mg x (He.ga K x)) (e : fnZ K x = MkD.val ⟨x, qual, st⟩) (b : mkB K P x qual "ValueError" "ValueError.__init__" "ValueError.__new__" = true) (top : (P.main.scope.names.lookup ("super" : Str)).isSome = false) (ms : mg "super" = none)
    (hb : ∀ (kV doc pm cdv ct : Value) (an : Option Addr) (cc : Addr), L2.Binds K (PySem.W.fnX "__init__" qual (defArgs st) (defBody st) (defScope st) [("__class__", cc)] .none kV doc pm an cdv ct) ps []) : ∃ f cda cc fd, Mk0 P K mg x qual st (He.ga K x) f cda cc fd ∧ L2.Binds K fd ps [] := by
  obtain ⟨b0, b⟩ := He.ba b
  obtain ⟨b1, b⟩ := He.ba b
  obtain ⟨b2, b⟩ := He.ba b
  obtain ⟨b3, b⟩ := He.ba b
  obtain ⟨b4, b⟩ := He.ba b
  obtain ⟨b5, b⟩ := He.ba b
  obtain ⟨b6, b⟩ := He.ba b
  obtain ⟨b7, b⟩ := He.ba b
  obtain ⟨b8, b9⟩ := He.ba b
  obtain ⟨cda, cc, oc, kV, doc, pm, ct, od, an, osl, lk, c1, c2, c3⟩ := bod_of e b0
  have hfile : ∃ (oc : Value) (od : Option Addr) (vs : Array Value) (sl : Array (Option Value)) (fl : Str) (t : Tok), K.lookup cda = some ⟨oc, od, .fields vs, sl⟩ ∧ vs[2]? = some (.str fl t) ∧ ((P.main.file : Str) == fl) = true := by
    unfold fileB at c2
    split at c2
    · rename_i oc od vs sl q
      split at c2
      · rename_i fl t q2
        exact ⟨oc, od, vs, sl, fl, t, q, q2, c2⟩
      · cases c2
    · cases c2
  have hcell : ∃ (oc : Value) (od : Option Addr) (sl : Array (Option Value)), K.lookup cc = some ⟨oc, od, .cell (some (.ref (He.ga K x))), sl⟩ := by
    unfold cellB at c3
    split at c3
    · rename_i oc od D sl q
      have c3 := of_decide_eq_true c3
      subst c3
      exact ⟨oc, od, sl, q⟩
    · cases c3
  exact ⟨iAd K x, cda, cc, _, ⟨E.er, ⟨oex_of b7, He.eqO_ok b8, E.e3, E.e9, b9⟩, ⟨⟨oc, od, kV, doc, pm, ct, an, osl, lk⟩, c1, hfile, hcell, top, of_decide_eq_true b1, He.eqO_ok b2, He.eqO_ok b3, of_decide_eq_true b4⟩, ⟨oc, kV, doc, pm, ct, od, an, osl, rfl, lk⟩, He.eqO_ok b5, of_decide_eq_true b6, ms⟩, hb _ _ _ _ _ _ _⟩
end MP
/-! a suite that makes a list of what it asks the error -/
namespace MP
open PySem PySem.Spec PyProof.Rows L2
section
variable {τ : TZ} {X : Cx} {Φ : Fns} {cat : List (List Nat)} {i : Nat} {a : Addr} {cls : Value} {d : Option Addr} {e : Expr} {es : List Expr} {ce : CE} {cs : CEs} {pos : Pos}
def tEA (K : Fg) (Φ : Fns) (cat : List (List Nat)) (i : Nat) (a : Addr) (cls : Value) (d : Option Addr) (ce : CEs) : TA := fun σ H Q => ∃ μ env S ws S' c fs, Held K cat i a cls d μ σ H c fs ∧ SR K μ H S ∧ ER K μ H σ env ∧ evs (withX Φ c fs) ce env S = some (ws, S') ∧ AftA K μ H S' ws Q
theorem ea_nil : PA X [] (tEA (kwOf τ X) Φ cat i a cls d .nil) := paW pa_nil fun σ H Q h => by
  obtain ⟨μ, env, S, ws, S', c, fs, hd, s, er, h1, h2⟩ := h
  simp only [evs] at h1
  cases h1
  exact h2 [] μ H .refl s .nil
theorem ea_cons (ha : PE X e (tEE (kwOf τ X) Φ cat i a cls d ce)) (hr : PA X es (tEA (kwOf τ X) Φ cat i a cls d cs)) (hs : starEach (e :: es) X.env = (false, eval e X.env) :: starEach es X.env := by rfl) : PA X (e :: es) (tEA (kwOf τ X) Φ cat i a cls d (.cons ce cs)) := by
  refine paW (pa_cons ha hr hs) fun σ H Q h => ?_
  obtain ⟨μ, env, S, w, S', c, fs, hd, s, er, h1, h2⟩ := h
  simp only [evs] at h1
  split at h1
  · rename_i x S1 e1
    split at h1
    · rename_i xs S2 e2
      cases h1
      refine ⟨μ, env, S, x, S1, c, fs, hd, s, er, e1, fun v μ1 H1 x1 s1 r1 => ⟨μ1, env, S1, xs, _, c, fs, hd.mono x1, s1, er.mono x1, e2, fun vs μ2 H2 x2 s2 r2 => ?_⟩⟩
      exact h2 _ μ2 H2 (x1.trans x2) s2 (.cons (r1.mono x2) r2)
    · cases h1
  · cases h1
end
end MP
/-! raise C(e), C an own error with one field, a tuple of texts, which its text shows: whatever is being shown around it -/
namespace MP
open PySem PySem.Spec PyProof.Rows L2 NdefX
theorem oex_at {K : PySem.W.Frag} {C : Addr} (O : OexC K C) : ExcAt "ValueError.__new__" K C := by
  obtain ⟨nm, q, N, bs, bm, sn, sub, ab, col, dd, k0, k1, k2, k3, k5, h, _⟩ := O.cls
  exact ⟨nm, q, N, bs, bm, sn, sub, ab, col, dd, k0, k1, k2, k3, k5, h⟩
section
variable {prog : Program} {w : World} {A : Around} {E : Value → Shared → Prop} {s : Shared} {a : Addr} {o : Obj} {items : Array Value} {n : Nat} {ts : List Str}
end
/-- texts that are few and short -/
def Sms (xs : List Str) : Prop := xs.length ≤ 8 ∧ ∀ y ∈ xs, y.length ≤ 20 ∧ ∀ c ∈ y.cps.toList, c < 1114112
/-- {x!r}: a tuple of texts, as some text -/
def tFmtT (K : PySem.W.Frag) (te : TE) : TE := fun σ H Q => te σ H fun x H1 => ∃ (p : Addr) (xs : List Str), x = .ref p ∧ SqT K H1 p (xs.map V.str) ∧ Sms xs ∧ ∀ z : Str, z.length ≤ 2000 → Q (.str z) H1
section
variable {X : Cx}
end
def sp1T (K : PySem.W.Frag) (C : Addr) (fl : Str) : Sp := fun vs H Q _ => ∃ (a p : Addr) (xs : List Str), vs = [.ref a, .ref p] ∧ H a = some (exo a C none) ∧ SqT K H p (xs.map V.str) ∧ Sms xs ∧ ∀ d, H d = none → d ≠ a → Q .non (upd (upd H d (exd d [(fl, .ref p)])) a (exo a C (some d)))
section
variable {τ : TZ} {X : Cx} {Φ : Fns} {E : XK} {e : Expr} {ce : CE}
end
end MP
/-! sets of texts: one gone, one put in or taken out, `^` -/
namespace MP
open PySem PySem.Spec PyProof.Rows L2
section
variable {P : Program} {w : World} {A : Around} {E : Value → Shared → Prop} {s : Shared}
end
def rXor (w : World) : R2 := fun x y H Q => ∃ (a b : Addr) (S S' : Str → Bool) (n n' : Nat), x = .ref a ∧ y = .ref b ∧ a ≠ b ∧ H a = some (SetTO true w a S n) ∧ H b = some (SetTO true w b S' n') ∧ n ≤ 4 ∧ n' ≤ 4 ∧ ∀ q c, H q = none → c ≤ 8 → Q (.ref q) (upd H q (SetTO false w q (fun k => S' k != S k) c))
section
variable {τ : TZ} {X : Cx} {Φ : Fns} {a b : Expr} {ca cb : CE} {pos : Pos}
end
end MP
/-! own errors right over LookupError, with one field that their text shows -/
namespace MP
open PySem PySem.Spec PyProof.Rows L2 NdefX
def lkT : List Value := [.type "LookupError", .type "Exception", .type "BaseException", .type "object"]
structure OexL (K : PySem.W.Frag) (C : Addr) : Prop where
  cl : ∃ (nm q : Str) (N : Addr) (bs : List Value) (sn sub ab col dd k0 k1 k2 k3 k5 : _), K.lookup C = some (excClassObj nm q C N bs lkT true sn sub ab col dd k0 k1 k2 k3 k5 "LookupError.__new__")
  ov : PySem.W.excOver K C lkT = true
  st : PySem.W.findIn K (.ref C) "__setattr__" = some (some (.builtin "object.__setattr__"))
  bE : PySem.W.subIn K (.ref C) (.type "BaseException") = some true
  ty : PySem.W.typeIn K (.ref C) = some (.type "type")
  kp : PySem.W.keepIn K (.ref C) = true
theorem OexL.at {K : PySem.W.Frag} {C : Addr} (O : OexL K C) : ExcAt "LookupError.__new__" K C := by
  obtain ⟨nm, q, N, bs, sn, sub, ab, col, dd, k0, k1, k2, k3, k5, h⟩ := O.cl
  exact ⟨nm, q, N, bs, lkT, sn, sub, ab, col, dd, k0, k1, k2, k3, k5, h⟩
theorem taker_no {K : PySem.W.Frag} {C : Addr} {f : Str} (h : PySem.W.findIn K (.ref C) f = some none) : PySem.W.takerIn K C f = some none := by
  unfold PySem.W.takerIn
  rw [h]
  rfl
section
variable {X : Cx} {pins : List (Addr × Obj)} {σ : L2.St} {H : Hp} {s : Shared} {a C : Addr} {f : Str} {y : V} {u : Value} {E : Value → Shared → Prop} {A : Around}
/-- its first field is stored: a dict is made for it -/
theorem fieldL {Q : Unit → Shared → Prop} (O : OexL X.K C) (I : L2.Inv X pins σ H s) (e : H a = some (exo a C none)) (hno : PySem.W.findIn X.K (.ref C) f = some none) (ry : RelV y u)
    (go : ∀ dx s', H dx = none → dx ≠ a → L2.Inv X pins σ (upd (upd H dx (exd dx [(f, y)])) a (exo a C (some dx))) s' → Q () s') : wpAny (model X.prog X.w) A (setAttr (.ref a) f u) Q E s := by
  obtain ⟨nm, q, N, bs, sn, sub, ab, col, dd, k0, k1, k2, k3, k5, hC⟩ := O.cl
  have hcd : PySem.W.clsIn X.K C = some { name := nm, bases := bs, mro := .ref C :: lkT, ns := N, qualname := q, hasDict := true, slotNames := sn, subclasses := sub, abstract := ab, collection := col, hasDel := false } := by
    unfold PySem.W.clsIn
    rw [hC] <;> rfl
  obtain ⟨t1, ho⟩ := exo_at I.hok e
  obtain ⟨hp, gg, dr, tk, os⟩ := s
  have ia : PySem.W.InstAt hp a ({ cls := .ref C, dict := none, data := .fields #[.ref t1, .none, .none, .none, .bool false, .none] } : Obj) C none := ⟨ho, rfl, rfl, trivial⟩
  have lc : PySem.W.Looks (model X.prog X.w) hp (classData C) _ := PySem.W.looks_clsIn I.kIn hcd
  have nx : a ≠ hp.objs.size := Nat.ne_of_lt (Heap.lt_size ho)
  refine PySem.W.set_plain I.kIn ia O.st (PySem.W.osa_openX PySem.F.store_LookupError I.kIn ia O.ov (taker_no hno) fun b => ?_)
  unfold Builtin.ObjectAttr.storeInOwnDict Builtin.ObjectAttr.ownDictForStores
  repeat (first | with_reducible refine PySem.HandSPX.store_in_new ?_ ?_ | with_reducible refine PySem.W.wpAny_loadPart_at ho ?_ | with_reducible refine lc.at ?_ | wp_step)
  · exact ⟨_, #[], _, (Heap.get?_update_ne _ _ _ _ nx.symm).trans (Heap.get?_push_at rfl rfl), rfl, fun e he => absurd he (by simp), fun _ => rfl⟩
  intro h2 tk2 hns sb
  have up : (hp.push ({ cls := .type "dict", data := .dict #[] } : Obj)).get? a = some ({ cls := .ref C, dict := none, data := .fields #[.ref t1, .none, .none, .none, .bool false, .none] } : Obj) := Heap.get?_push_of_some _ ho
  have free : H hp.objs.size = none := I.hok.fresh (Nat.le_refl _)
  have low : ∀ {b : Addr} {o : Obj}, hp.get? b = some o → b ≠ hp.objs.size := fun {b o} z => Nat.ne_of_lt (Heap.lt_size z)
  have same : ∀ {b : Addr} {o : Obj}, b ≠ a → hp.get? b = some o → h2.get? b = some o := fun {b o} nb z => (sb.2 b (low z)).trans ((Heap.get?_update_ne _ _ _ _ nb).trans (Heap.get?_push_of_some _ z))
  have now : h2.get? a = some ({ cls := .ref C, dict := some hp.objs.size, data := .fields #[.ref t1, .none, .none, .none, .bool false, .none] } : Obj) := (sb.2 a nx).trans (Heap.get?_update_self _ up rfl)
  have off : ∀ {b : Addr}, H b = none → b ≠ a := fun {b} n z => by rw [z, e] at n; cases n
  have W1 : Un X.fs [] H (upd (upd H hp.objs.size (exd hp.objs.size [(f, y)])) a (exo a C (some hp.objs.size))) hp h2 := {
    keep := fun b o z n _ _ => same (off n) z
    slot := fun b o z n _ _ => ⟨o.slots, same (off n) z⟩
    free := fun b o z n _ => (upd_ne (off n)).trans ((upd_ne (low z)).trans n)
    there := fun b o z _ => if nb : b = a then ⟨_, nb ▸ now⟩ else ⟨o, same nb z⟩
    tups := fun b xs z => (upd_ne (at_ne e z exo_tup)).trans ((upd_ne (ne_of_none z free)).trans z)
    frzs := fun b o v z => (upd_ne (at_ne e z exo_frz)).trans ((upd_ne (ne_of_none z free)).trans z)
    tbls := fun b ps z => ⟨#[], by rw [upd_ne (at_ne e z exo_tbl), upd_ne (ne_of_none z free), z]; simp⟩ }
  refine go hp.objs.size _ free nx.symm (I.un (t' := tk2) W1 fun b o z => ?_)
  by_cases nb : b = a
  · subst nb
    rw [upd_same] at z
    cases z
    exact exo_ok now
  rw [upd_ne nb] at z
  by_cases nd : b = hp.objs.size
  · subst nd
    rw [upd_same] at z
    cases z
    exact exd_ok hns (relO_put (fs := []) ry fun _ => True.intro)
  rw [upd_ne nd] at z
  refine (I.hok b o z).stay (fun c v hc k => same (hc.elim (fun q => q ▸ nb) fun q => at_ne e q exo_own) k) (fun c hc => ?_) fun c xs hc => ?_
  · exact (upd_ne (at_ne e hc exo_own)).trans ((upd_ne (ne_of_none hc free)).trans hc)
  · exact (upd_ne (at_ne e hc exo_tup)).trans ((upd_ne (ne_of_none hc free)).trans hc)
end
section
variable {X : Cx} {o e : Expr} {f : Str} {to te : TE} {p' pos : Pos} {C : Addr} {ta : TA}
/-- self.f = e, its first field -/
def tFieldL (K : PySem.W.Frag) (f : Str) (to te : TE) : TS := fun D σ H => te σ H fun y H1 => to σ H1 fun x H2 => ∃ a C : Addr, x = .ref a ∧ OexL K C ∧ PySem.W.findIn K (.ref C) f = some none ∧ H2 a = some (exo a C none) ∧ ∀ dx, H2 dx = none → dx ≠ a → D.nx σ (upd (upd H2 dx (exd dx [(f, y)])) a (exo a C (some dx)))
theorem ps_fieldL (ho : PE X o to) (he : PE X e te) (hs : swapsWith e (some (.Attribute o f p')) pos.line X.env = pure false := by rfl) : PS X (.Assign [.Attribute o f p'] e pos) (tFieldL X.K f to te) := ⟨fun pins s σ H D I h => plainObj_wpAny_Assign_Attribute (thn (he.run pins s σ H _ I h) fun v s1 ⟨y, H1, I1, r1, q1⟩ => thn (ho.run pins s1 σ H1 _ I1 q1) fun u s2 ⟨x, H2, I2, r2, a, C, ex, O, hno, ea, q⟩ => by
  subst ex
  obtain rfl : u = Value.ref a := r2
  exact fieldL O I2 ea hno r1 fun dx s' n ne J => ⟨σ, _, J, q dx n ne⟩) hs⟩
/-- C(e): it is made -/
theorem pmkL {CX : CXT} {x : Str} {fI : Addr} {k : Nat} {fd : FuncData} {ps : List Str} {sp : Sp} {p : Pos} (O : OexL X.K C) (iC : PySem.W.findIn X.K (.ref C) "__init__" = some (some (.ref fI))) (tI : PySem.W.typeIn X.K (.ref fI) = some (.type "function"))
    (F1 : FnOk X.prog X.w X.K X.mg X.base CX k fI fd ps sp) (hr : Room (k + 1) X.A) (hb : Binds X.K fd ps []) (hx : Passes CX X (fun _ _ _ => False)) (hg : Gl X x) (hm : X.mg x = some (.ref C)) (ha : PA X [e] ta) (hdb : (x == ("__debug__" : Str)) = false := by decide)
    (he : starEach [e] X.env = (false, eval e X.env) :: starEach [] X.env := by rfl) (hpl : (backTo pos (starEach [] X.env)).any (·.1) = false := by rfl) : PMk X (.Call (.Name x p) [e] [] pos) (tMkO C sp [] ta) := by
  intro pins s σ H Q I h
  obtain ⟨nm, q, N, bs, sn, sub, ab, col, dd, k0, k1, k2, k3, k5, hC⟩ := O.cl
  refine wpAny_Call_Name_kw (ld_glob I hg hm ?_ hdb)
  refine PySem.W.callWith_K (h₀ := X.base) I.ok.mod.kin O.kp (thn (ha.run pos pins s σ H _ I h) fun us s1 ⟨vs, H1, J, rv, hz, w1⟩ => ⟨J.kIn, ?_⟩) he hpl
  show wpAny _ _ (call (.ref C) us) _ _ _
  obtain ⟨hp, gg, dr, tk, os⟩ := s1
  have below : hp.objs.size ≤ hp.objs.size + 1 := Nat.le_succ _
  have w2 := w1 (hp.objs.size + 1) (J.hok.fresh below)
  have older : ∀ b o, hp.get? b = some o → ((hp.push (PySem.W.kdv_tup us)).push (PySem.HandSPX.excO C hp.objs.size)).get? b = some o := fun b o z => Heap.get?_push_of_some _ (Heap.get?_push_of_some _ z)
  have lies : ((hp.push (PySem.W.kdv_tup us)).push (PySem.HandSPX.excO C hp.objs.size)).get? (hp.objs.size + 1) = some (PySem.HandSPX.excO C hp.objs.size) := by heap_get
  have J2 := J.laid (t' := tk) older below (exo_ok lies)
  have rv2 : Vals (V.ref (hp.objs.size + 1) :: (vs ++ [])) (Value.ref (hp.objs.size + 1) :: (us ++ [])) := .cons rfl (rv.append .nil)
  have len : (Value.ref (hp.objs.size + 1) :: us ++ []).length = ps.length := (rv2.length).symm.trans (F1.len _ _ _ _ w2)
  have few : us.length ≤ sizeLine := by
    have := Paired.length rv
    rw [sizeLine_eq]
    omega
  refine wpAny_call (PySem.HandSPX.call_own PySem.F.excBase_LookupError (fun _ => rfl) (J.kIn _ _ hC) (PySem.W.looks_findIn J.kIn iC) (fun self => PySem.W.bind_fn J.kIn self tI) few
    (codeAny_mono (F1.run _ X.stack _ _ ⟨Value.ref (hp.objs.size + 1) :: us, []⟩ (Value.ref (hp.objs.size + 1) :: (us ++ [])) _ _ (fun _ _ _ => False) (hr.make C us []) (J2.env0.make C us []) (by simpa using hb _ (Value.ref (hp.objs.size + 1) :: us) J2.kIn len) rv2 w2) fun r s' got => ?_))
  cases r with
  | error er => exact hx pins σ _ _ er s' J2 got
  | ok fl =>
    cases fl with
    | ret u =>
      obtain ⟨v, H2, o2, b2, u2, hk2, r2, ev, d, fs, ea, ed, nd, w3⟩ := got
      subst ev
      obtain ⟨h2, g2, d2, t2, os'⟩ := s'
      exact ⟨r2, mk_end (raises_own O.bE O.ty) J below older u2 hk2 o2 b2 ea ed nd w3⟩
    | next => exact got.elim
    | brk => exact got.elim
    | cont => exact got.elim
end
/-- what the written part says of the class x, of its __init__ (the def st) and of its field -/
structure Mk1L (P : Program) (K : PySem.W.Frag) (mg : Str → Option Value) (x qual : Str) (st : Stmt) (C f cda cc : Addr) (fd : FuncData) (fl : Str) : Prop where
  er : ErrF K mg x C
  ox : OexL K C
  sup : SupT P K C f cda cc "LookupError" "LookupError.__init__" "__init__" qual (defArgs st) (defBody st) (defScope st)
  lk : ∃ (oc kV doc pm ct : Value) (od an : Option Addr) (osl : Array (Option Value)), fd = PySem.W.fnX "__init__" qual (defArgs st) (defBody st) (defScope st) [("__class__", cc)] .none kV doc pm an (.ref cda) ct ∧ K.lookup f = some ⟨oc, od, .func fd, osl⟩
  iC : PySem.W.findIn K (.ref C) "__init__" = some (some (.ref f))
  tI : PySem.W.typeIn K (.ref f) = some (.type "function")
  ms : mg "super" = none
  nf : PySem.W.findIn K (.ref C) fl = some none
/-- a text that isn't long -/
def Shs (y : Str) : Prop := y.length ≤ 1000 ∧ ∀ c ∈ y.cps.toList, c < 1114112
def sp1L (K : PySem.W.Frag) (C : Addr) (fl : Str) : Sp := fun vs H Q _ => ∃ (a : Addr) (y : Str), vs = [.ref a, .str y] ∧ H a = some (exo a C none) ∧ Shs y ∧ ∀ d, H d = none → d ≠ a → Q .non (upd (upd H d (exd d [(fl, .str y)])) a (exo a C (some d)))
section
variable {τ : TZ} {X : Cx} {Φ : Fns} {E : XK} {e : Expr} {ce : CE}
end
/-! what the Hook tells of such a class -/
def oelB (K : PySem.W.Frag) (C : Addr) : Bool := match K.lookup C with
  | some ⟨.type "type", _, .cls cd, sl⟩ => (match cd.mro, sl.toList with
    | .ref C' :: bm, [_, _, _, _, some (.builtin n), _] => decide (C' = C) && (decide (n = "LookupError.__new__") && (cd.hasDict && (!cd.hasDel && (bm == lkT))))
    | _, _ => false)
  | _ => false
theorem oel_of {K : PySem.W.Frag} {C : Addr} (q : oelB K C = true) : ∃ (nm q : Str) (N : Addr) (bs : List Value) (sn sub ab col dd k0 k1 k2 k3 k5 : _), K.lookup C = some (excClassObj nm q C N bs lkT true sn sub ab col dd k0 k1 k2 k3 k5 "LookupError.__new__") := by
  unfold oelB at q
  split at q
  · rename_i dd cd sl ho
    split at q
    · rename_i C' bm k0 k1 k2 k3 n k5 hm hs
      obtain ⟨q1, q⟩ := He.ba q
      obtain ⟨q2, q⟩ := He.ba q
      obtain ⟨q3, q⟩ := He.ba q
      obtain ⟨q4, q5⟩ := He.ba q
      have q1 := of_decide_eq_true q1
      have q2 := of_decide_eq_true q2
      have q5 := eq_of_beq q5
      subst q1 q2 q5
      obtain ⟨nm, bs, mro, ns, qn, hd, sn, sub, ab, col, del⟩ := cd
      dsimp only at hm q3 q4
      simp only [Bool.not_eq_true'] at q4
      subst hm q3 q4
      have hsl : sl = #[k0, k1, k2, k3, some (.builtin "LookupError.__new__"), k5] := by
        obtain ⟨l⟩ := sl
        simp only at hs
        rw [hs]
      subst hsl
      exact ⟨nm, qn, ns, bs, sn, sub, ab, col, dd, k0, k1, k2, k3, k5, ho⟩
    · cases q
  · cases q
def mkLB (K : PySem.W.Frag) (P : Program) (x qual : Str) : Bool :=
  bodB K P x qual && (decide (PySem.W.mroIn K (He.ga K x) (.ref (He.ga K x)) = some true) && (He.eqO (PySem.W.ks_superIn K (He.ga K x) (He.ga K x) "__init__") (some (some (.builtin "LookupError.__init__"))) && (He.eqO (PySem.W.nsIn K cStatics "thirdparty.any") (some none) &&
  (decide (PySem.W.subIn K (.ref (He.ga K x)) (.type "LookupError") = some true) && (He.eqO (PySem.W.findIn K (.ref (He.ga K x)) "__init__") (some (some (.ref (iAd K x)))) && (decide (PySem.W.typeIn K (.ref (iAd K x)) = some (.type "function")) &&
  (oelB K (He.ga K x) && (PySem.W.excOver K (He.ga K x) lkT && (He.eqO (PySem.W.findIn K (.ref (He.ga K x)) "__setattr__") (some (some (.builtin "object.__setattr__"))) && PySem.W.keepIn K (.ref (He.ga K x)))))))))))
theorem mkL_of {K : PySem.W.Frag} {P : Program} {h : Heap} {mg : Str → Option Value} (X : K.In h) (G : h.Ns mainGlobals mg) {x qual : Str} {st : Stmt} {ps : List Str} {fl : Str} (E : ErA K mg x (He.ga K x)) (e : fnZ K x = MkD.val ⟨x, qual, st⟩) (b : mkLB K P x qual = true) (nf : nfB K x fl = true) (top : (P.main.scope.names.lookup ("super" : Str)).isSome = false) (ms : mg "super" = none)
    (hb : ∀ (kV doc pm cdv ct : Value) (an : Option Addr) (cc : Addr), L2.Binds K (PySem.W.fnX "__init__" qual (defArgs st) (defBody st) (defScope st) [("__class__", cc)] .none kV doc pm an cdv ct) ps []) : ∃ f cda cc fd, Mk1L P K mg x qual st (He.ga K x) f cda cc fd fl ∧ L2.Binds K fd ps [] := by
  obtain ⟨b0, b⟩ := He.ba b
  obtain ⟨b1, b⟩ := He.ba b
  obtain ⟨b2, b⟩ := He.ba b
  obtain ⟨b3, b⟩ := He.ba b
  obtain ⟨b4, b⟩ := He.ba b
  obtain ⟨b5, b⟩ := He.ba b
  obtain ⟨b6, b⟩ := He.ba b
  obtain ⟨b7, b⟩ := He.ba b
  obtain ⟨b10, b⟩ := He.ba b
  obtain ⟨b8, b9⟩ := He.ba b
  obtain ⟨cda, cc, oc, kV, doc, pm, ct, od, an, osl, lk, c1, c2, c3⟩ := bod_of e b0
  have hfile : ∃ (oc : Value) (od : Option Addr) (vs : Array Value) (sl : Array (Option Value)) (fl : Str) (t : Tok), K.lookup cda = some ⟨oc, od, .fields vs, sl⟩ ∧ vs[2]? = some (.str fl t) ∧ ((P.main.file : Str) == fl) = true := by
    unfold fileB at c2
    split at c2
    · rename_i oc od vs sl q
      split at c2
      · rename_i fl t q2
        exact ⟨oc, od, vs, sl, fl, t, q, q2, c2⟩
      · cases c2
    · cases c2
  have hcell : ∃ (oc : Value) (od : Option Addr) (sl : Array (Option Value)), K.lookup cc = some ⟨oc, od, .cell (some (.ref (He.ga K x))), sl⟩ := by
    unfold cellB at c3
    split at c3
    · rename_i oc od D sl q
      have c3 := of_decide_eq_true c3
      subst c3
      exact ⟨oc, od, sl, q⟩
    · cases c3
  exact ⟨iAd K x, cda, cc, _, ⟨E.er, ⟨oel_of b7, b10, He.eqO_ok b8, E.e3, E.e9, b9⟩, ⟨⟨oc, od, kV, doc, pm, ct, an, osl, lk⟩, c1, hfile, hcell, top, of_decide_eq_true b1, He.eqO_ok b2, He.eqO_ok b3, of_decide_eq_true b4⟩, ⟨oc, kV, doc, pm, ct, od, an, osl, rfl, lk⟩, He.eqO_ok b5, of_decide_eq_true b6, ms, nf_of nf⟩, hb _ _ _ _ _ _ _⟩
end MP
/-! xs.insert(i, y): the index may be a call -/
namespace MP
open PySem PySem.Spec PyProof.Rows L2
section
variable {τ : TZ} {X : Cx} {Φ : Fns} {a b c e : Expr} {es : List Expr} {ca cb cc ce : CE} {cs : CEs} {pos apos cpos : Pos}
end
end MP

namespace MP
open PySem PySem.Spec PyProof.Rows L2
/-! ### captured cells: left alone, or known to stand still -/
/-- at these places G, elsewhere H -/
def mixH (cs : List Addr) (G H : Hp) : Hp := fun b => if b ∈ cs then G b else H b
theorem mix_in {cs : List Addr} {G H : Hp} {b : Addr} (h : b ∈ cs) : mixH cs G H b = G b := if_pos h
theorem mix_out {cs : List Addr} {G H : Hp} {b : Addr} (h : b ∉ cs) : mixH cs G H b = H b := if_neg h
def StillE (s : Shared) (b : Addr) (o : Obj) (u : HO) : Prop := ∃ φ : Heap → Prop, u = .frz o (.ext φ) ∧ φ s.heap ∧ ∀ h1 h2 : Heap, φ h1 → (∀ o, h1.get? b = some o → h2.get? b = some o) → φ h2
structure MixAt (s : Shared) (H G : Hp) (base : Heap) (outer : List PySem.Env) (b : Addr) : Prop where
  bs : base.get? b = none
  nf : b ∉ frs outer
  ob : ∃ o, s.heap.get? b = some o ∧ (H b = none ∨ ∃ φ, H b = some (.frz o (.ext φ))) ∧ (G b = none ∨ ∃ u, G b = some u ∧ StillE s b o u)
theorem MixAt.nH {s : Shared} {H G : Hp} {base : Heap} {outer : List PySem.Env} {b : Addr} (m : MixAt s H G base outer b) {u : HO} (e : H b = some u) : ∃ o φ, u = .frz o (.ext φ) := by
  obtain ⟨o, _, h, _⟩ := m.ob
  rcases h with h | ⟨φ, h⟩
  · rw [h] at e; cases e
  · rw [h] at e; cases e; exact ⟨o, φ, rfl⟩
theorem MixAt.nG {s : Shared} {H G : Hp} {base : Heap} {outer : List PySem.Env} {b : Addr} (m : MixAt s H G base outer b) {u : HO} (e : G b = some u) : ∃ o φ, u = .frz o (.ext φ) := by
  obtain ⟨o, _, _, h⟩ := m.ob
  rcases h with h | ⟨u2, h, φ, h2, _⟩
  · rw [h] at e; cases e
  · rw [h] at e; cases e; exact ⟨o, φ, h2⟩
section
variable {P : Program} {w : World} {K : PySem.W.Frag} {mg : Str → Option Value} {base : Heap} {A : Around} {outer : List PySem.Env} {s s' : Shared} {H G : Hp} {cs : List Addr}
theorem mix_env0 (e0 : Env0 P w K mg base A outer s H) (hc : ∀ b ∈ cs, MixAt s H G base outer b) : Env0 P w K mg base A outer s (mixH cs G H) := by
  have nc : ∀ b u, H b = some u → (∀ o φ, u ≠ .frz o (.ext φ)) → b ∉ cs := fun b u e n hb => by
    obtain ⟨o, φ, z⟩ := (hc b hb).nH e
    exact n o φ z
  refine ⟨e0.frames, e0.mod, fun b o e => ⟨(e0.bs b o e).1, ?_⟩, e0.bsz, e0.funs, fun b hb => ?_, fun b u e => ?_, e0.bare⟩
  · have : b ∉ cs := fun z => by
      have := (hc b z).bs
      rw [e] at this
      cases this
    rw [mix_out this]
    exact (e0.bs b o e).2
  · have : b ∉ cs := fun z => (hc b z).nf hb
    rw [mix_out this]
    exact e0.frf b hb
  · by_cases hb : b ∈ cs
    · rw [mix_in hb] at e
      obtain ⟨o, ho, _, h⟩ := (hc b hb).ob
      rcases h with h | ⟨u2, h, φ, h2, h3, h4⟩
      · rw [h] at e; cases e
      · rw [h] at e
        cases e
        subst h2
        exact ⟨ho, h3, ⟨o, ho⟩, h4⟩
    · rw [mix_out hb] at e
      exact (e0.hok b u e).stay (fun _ _ _ z => z) (fun c z => by rw [mix_out (nc c _ z (fun _ _ y => nomatch y))]; exact z) fun c xs z => by rw [mix_out (nc c _ z (fun _ _ y => nomatch y))]; exact z
theorem mix_back (e0 : Env0 P w K mg base A outer s H) (hc : ∀ b ∈ cs, MixAt s H G base outer b) {Q Q' : VK} {u : Value} (h : L2.CE outer P w (mixH cs G H) s Q' u s') (q : ∀ v H', (∀ b ∈ cs, H' b = G b) → Q' v H' → Q v (mixH cs H H')) : L2.CE outer P w H s Q u s' := by
  obtain ⟨v, H1, os, bare, un, hok, rv, q'⟩ := h
  have nc : ∀ b u, H b = some u → (∀ o φ, u ≠ .frz o (.ext φ)) → b ∉ cs := fun b u e n hb => by
    obtain ⟨o, φ, z⟩ := (hc b hb).nH e
    exact n o φ z
  have eG : ∀ b ∈ cs, H1 b = G b := fun b hb => by
    obtain ⟨o, ho, _, h⟩ := (hc b hb).ob
    rcases h with h | ⟨u2, h, φ, h2, _⟩
    · rw [h]
      exact un.free b o ho (by rw [mix_in hb]; exact h) (by simp)
    · rw [h]
      subst h2
      exact un.frzs b o _ (by rw [mix_in hb]; exact h)
  have nc1 : ∀ b u, H1 b = some u → (∀ o φ, u ≠ .frz o (.ext φ)) → b ∉ cs := fun b u e n hb => by
    rw [eG b hb] at e
    obtain ⟨o, φ, z⟩ := (hc b hb).nG e
    exact n o φ z
  have obk : ∀ b ∈ cs, ∀ o, s.heap.get? b = some o → s'.heap.get? b = some o := fun b hb o ho => by
    obtain ⟨o2, ho2, _, h⟩ := (hc b hb).ob
    rw [ho] at ho2
    cases ho2
    rcases h with h | ⟨u2, h, φ, h2, _⟩
    · exact un.keep b o ho (by rw [mix_in hb]; exact h) (hc b hb).nf (by simp)
    · have e1 : H1 b = some (.frz o (.ext φ)) := by rw [eG b hb, h, h2]
      exact (hok b _ e1).1
  refine ⟨v, mixH cs H H1, os, bare, ⟨fun b o ho n hf hx => ?_, fun b o ho n hf hx => ?_, fun b o ho n hx => ?_, un.there, fun b xs e => ?_, fun b o u e => ?_, fun b ps e => ?_⟩, fun b u e => ?_, rv, q v H1 eG q'⟩
  · by_cases hb : b ∈ cs
    · exact obk b hb o ho
    · exact un.keep b o ho (by rw [mix_out hb]; exact n) hf hx
  · have hb : b ∉ cs := fun z => (hc b z).nf hf
    exact un.slot b o ho (by rw [mix_out hb]; exact n) hf hx
  · by_cases hb : b ∈ cs
    · rw [mix_in hb]; exact n
    · rw [mix_out hb]; exact un.free b o ho (by rw [mix_out hb]; exact n) hx
  · have hb := nc b _ e (fun _ _ y => nomatch y)
    rw [mix_out hb]
    exact un.tups b xs (by rw [mix_out hb]; exact e)
  · by_cases hb : b ∈ cs
    · rw [mix_in hb]; exact e
    · rw [mix_out hb]; exact un.frzs b o u (by rw [mix_out hb]; exact e)
  · have hb := nc b _ e (fun _ _ y => nomatch y)
    rw [mix_out hb]
    exact un.tbls b ps (by rw [mix_out hb]; exact e)
  · by_cases hb : b ∈ cs
    · rw [mix_in hb] at e
      obtain ⟨o, ho, h, _⟩ := (hc b hb).ob
      rcases h with h | ⟨φ, h⟩
      · rw [h] at e; cases e
      · rw [h] at e
        cases e
        obtain ⟨g1, g2, g3, g4⟩ := e0.hok b _ h
        exact ⟨obk b hb o ho, g4 _ _ g2 (fun o2 h2 => obk b hb o2 h2), ⟨o, obk b hb o ho⟩, g4⟩
    · rw [mix_out hb] at e
      exact (hok b u e).stay (fun _ _ _ z => z) (fun c z => by rw [mix_out (nc1 c _ z (fun _ _ y => nomatch y))]; exact z) fun c xs z => by rw [mix_out (nc1 c _ z (fun _ _ y => nomatch y))]; exact z
end
/-! ### the store's relation there -/
/-- all that is not known to stand still is there too -/
def Keeps (H H' : Hp) : Prop := ∀ b o, H b = some o → (∀ ob φ, o ≠ .frz ob (.ext φ)) → H' b = some o
section
variable {K K' : Fg} {μ : List Addr} {H H' : Hp} {S : Sto}
theorem Keeps.sqT (k : Keeps H H') {F : PySem.W.Frag} {a : Addr} {xs : List V} (h : SqT F H a xs) : SqT F H' a xs := by
  rcases h with (h | ⟨ob, h⟩) | h
  · exact .inl (.inl (k _ _ h (fun _ _ z => nomatch z)))
  · exact .inl (.inr ⟨ob, k _ _ h (fun _ _ z => by cases z)⟩)
  · exact .inr h
theorem Keeps.fzL (k : Keeps H H') {F : PySem.W.Frag} {a : Addr} {xs : List V} (h : FzL F H a xs) : FzL F H' a xs := by
  rcases h with ⟨ob, h⟩ | h
  · exact .inl ⟨ob, k _ _ h (fun _ _ z => by cases z)⟩
  · exact .inr h
mutual
theorem VW.go (ek : K'.k = K.k) (ew : K'.w = K.w) (k : Keeps H H') : ∀ {v : V} {w : W}, VW K μ H v w → VW K' μ H' v w
  | _, _, .non => .non
  | _, _, .bl b => .bl b
  | _, _, .int i => .int i
  | _, _, .str x l q => .str x l q
  | _, _, .tup s h => .tup (by rw [ek]; exact k.sqT s) (VWs.go ek ew k h)
  | _, _, .ref h ⟨vs, q⟩ => .ref h ⟨vs, k _ _ q (fun _ _ z => nomatch z)⟩
  | _, _, .dref h ⟨vs, q⟩ => .dref h ⟨vs, k _ _ q (fun _ _ z => nomatch z)⟩
  | _, _, .rol s h => .rol (by rw [ek]; exact k.fzL s) (VWs.go ek ew k h)
  | _, _, .fn x l q h => .fn x l q (by rw [ek]; exact h)
  | _, _, .dic s h => .dic (k _ _ s (fun _ _ z => by cases z)) (VWd.go ek ew k h)
  | _, _, .oref h ⟨C, dx, fs, q⟩ => .oref h ⟨C, dx, fs, k _ _ q (fun _ _ z => nomatch z)⟩
  | _, _, .gref h ⟨gs, q⟩ => .gref h ⟨gs, by rw [ew]; exact k _ _ q (fun _ _ z => nomatch z)⟩
  | _, _, .ntup s c d h => .ntup (k _ _ s (fun _ _ z => by cases z)) c d (VWs.go ek ew k h)
  | _, _, .lref h ⟨fd, q⟩ => .lref h ⟨fd, k _ _ q (fun _ _ z => nomatch z)⟩
theorem VWs.go (ek : K'.k = K.k) (ew : K'.w = K.w) (k : Keeps H H') : ∀ {v : List V} {w : List W}, VWs K μ H v w → VWs K' μ H' v w
  | _, _, .nil => .nil
  | _, _, .cons h t => .cons (VW.go ek ew k h) (VWs.go ek ew k t)
theorem VWd.go (ek : K'.k = K.k) (ew : K'.w = K.w) (k : Keeps H H') : ∀ {v : List (Key × V)} {w : List (List Nat × W)}, VWd K μ H v w → VWd K' μ H' v w
  | _, _, .nil => .nil
  | _, _, .cons q h t => .cons q (VW.go ek ew k h) (VWd.go ek ew k t)
end
theorem VWf.go (ek : K'.k = K.k) (ew : K'.w = K.w) (k : Keeps H H') : ∀ {v : List (Str × V)} {w : List (List Nat × W)}, VWf K μ H v w → VWf K' μ H' v w
  | _, _, .nil => .nil
  | _, _, .cons q h t => .cons q (VW.go ek ew k h) (VWf.go ek ew k t)
theorem VWg.go (ek : K'.k = K.k) (ew : K'.w = K.w) (k : Keeps H H') : ∀ {v : List GE} {w : List (HK × W)}, VWg K μ H v w → VWg K' μ H' v w
  | _, _, .nil => .nil
  | _, _, .cons q h t => .cons (VW.go ek ew k q) (VW.go ek ew k h) (VWg.go ek ew k t)
theorem Keeps.tabs (k : Keeps H H') {T : List (Addr × Str)} (t : LamX.Tabs T H) : LamX.Tabs T H' := fun p hp => by
  obtain ⟨ps, h1, h2, h3⟩ := t p hp
  refine ⟨ps, k _ _ h1 (fun _ _ z => nomatch z), h2, fun pos cv hc => ?_⟩
  obtain ⟨c, e1, e2⟩ := h3 pos cv hc
  exact ⟨c, e1, k _ _ e2 (fun _ _ z => nomatch z)⟩
theorem SR.go (ek : K'.k = K.k) (ew : K'.w = K.w) (eT : K'.tz.T = K.tz.T) (eC : K'.tz.C = K.tz.C) (el : K'.tz.lam = K.tz.lam) (en : K'.tz.nm = K.tz.nm) (k : Keeps H H') (hz : ∀ (j l : Nat) (zs : List W), S[j]? = some (.clo l zs) → zs ≠ [] → Fz K' μ H' K'.tz.nm zs) (s : SR K μ H S) : SR K' μ H' S := by
  refine ⟨s.len, s.nd, fun j a so h1 h2 => ?_, ?_⟩
  · have q := s.at_ j a so h1 h2
    cases so with
    | lst ws => obtain ⟨vs, q1, q2⟩ := q; exact ⟨vs, k _ _ q1 (fun _ _ z => nomatch z), q2.go ek ew k⟩
    | dct ws => obtain ⟨vs, q1, q2⟩ := q; exact ⟨vs, k _ _ q1 (fun _ _ z => nomatch z), q2.go ek ew k⟩
    | obj c fs => obtain ⟨C, dx, vs, q1, q2, q3⟩ := q; exact ⟨C, dx, vs, k _ _ q1 (fun _ _ z => nomatch z), by unfold ClN; rw [ek]; exact q2, q3.go ek ew k⟩
    | dd kvs => obtain ⟨vs, q1, q2, q3⟩ := q; exact ⟨vs, by rw [ew]; exact k _ _ q1 (fun _ _ z => nomatch z), q2.go ek ew k, q3⟩
    | clo l zs =>
      obtain ⟨d, c', pm, ctv, q1, q2, q3, q4⟩ := q
      exact ⟨d, c', pm, ctv, by rw [el]; exact q1, by rw [eC]; exact k _ _ q2 (fun _ _ z => nomatch z), k _ _ q3 (fun _ _ z => nomatch z), by rw [eC]; exact q4.1, fun z => hz j l zs h2 z⟩
  · show LamX.Tabs K'.tz.T H'
    rw [eT]
    exact k.tabs s.tb
theorem relock_get (zs : List W) (S : Sto) (k : Nat) : (relock zs S)[k]? = (S[k]?).map (relock1 zs) := List.getElem?_map ..
theorem relock_len (zs : List W) (S : Sto) : (relock zs S).length = S.length := List.length_map ..
/-- what closures see is not told: it may be told otherwise -/
theorem SR.relock (s : SR K μ H S) (zs : List W) (h2 : zs ≠ [] → Fz K μ H K.tz.nm zs) : SR K μ H (MP.relock zs S) := by
  refine ⟨by rw [relock_len]; exact s.len, s.nd, fun j a so h1 h3 => ?_, s.tb⟩
  rw [relock_get] at h3
  cases e : S[j]? with
  | none => rw [e] at h3; cases h3
  | some o =>
    rw [e] at h3
    cases h3
    have q := s.at_ j a o h1 e
    cases o with
    | lst ws => exact q
    | dct ws => exact q
    | obj c fs => exact q
    | dd kvs => exact q
    | clo l ws =>
      obtain ⟨d, c', pm, ctv, q1, q2, q3, q4⟩ := q
      exact ⟨d, c', pm, ctv, q1, q2, q3, q4.1, h2⟩
end
end MP
namespace MP
open PySem PySem.Spec PyProof.Rows L2
/-! ### a closure is called from anywhere -/
abbrev cloEnv (C : List (Str × Addr)) (q : Str) (scope : Scope) (L f c' : Addr) : PySem.Env := PySem.W.envX q scope L f (.ref c') (cloFrom C scope.names [])
/-- the context of a closure's body, entered at s from the frames outer -/
def cloCx (P : Program) (w : World) (K : PySem.W.Frag) (mg : Str → Option Value) (base : Heap) (N : List Str) (C : List (Str × Addr)) (q : Str) (scope : Scope) (f c' : Addr) (A : Around) (outer : List PySem.Env) (s : Shared) (H : Hp) (E : XK) : Cx where
  prog := P
  w := w
  K := K
  mg := mg
  base := base
  A := A.deeper (cloEnv C q scope s.heap.objs.size f c')
  N := N
  s_0 := s
  H_0 := H
  env := cloEnv C q scope s.heap.objs.size f c'
  outer := outer
  stack := cloEnv C q scope s.heap.objs.size f c' :: outer
  ex := []
  fn := fun _ => false
  calm := true
  pn := []
  xe := fun e s' => wpAny (model P w) (A.deeper (cloEnv C q scope s.heap.objs.size f c')) (leaving (cloEnv C q scope s.heap.objs.size f c') e) (fun _ s'' => L2.CX P w outer H s E e s'') (fun e' s'' => L2.CX P w outer H s E e' s'') s'
/-- a closure's scope: one parameter, captured names out of these, globals -/
structure LamQ (nm : List Str) (scope : Scope) (x : Str) : Prop where
  kind : scope.kind = .function
  co : scope.isCoroutine = false
  gen : scope.isGenerator = false
  par : scope.names.lookup x = some .local
  own : ∀ y ∈ scope.names, y.2 ≠ .cell ∧ (y.2 = .local → y.1 = x)
  fre : ∀ y ∈ scope.names, y.2 = .free → y.1 ∈ nm
def lamQB (nm : List Str) (scope : Scope) (x : Str) : Bool :=
  decide (scope.kind = .function) && !scope.isCoroutine && !scope.isGenerator && decide (scope.names.lookup x = some .local) && scope.names.all fun y => !decide (y.2 = .cell) && (!decide (y.2 = .local) || decide (y.1 = x)) && (!decide (y.2 = .free) || decide (y.1 ∈ nm))
theorem lamQ_by {nm : List Str} {scope : Scope} {x : Str} (h : lamQB nm scope x = true) : LamQ nm scope x := by
  unfold lamQB at h
  simp only [Bool.and_eq_true, Bool.or_eq_true, Bool.not_eq_true', decide_eq_true_eq, decide_eq_false_iff_not, List.all_eq_true] at h
  obtain ⟨⟨⟨⟨h1, h2⟩, h3⟩, h4⟩, h5⟩ := h
  exact ⟨h1, h2, h3, h4, fun y hy => ⟨(h5 y hy).1.1, fun e => (h5 y hy).1.2.resolve_left (fun z => z e)⟩, fun y hy e => (h5 y hy).2.resolve_left (fun z => z e)⟩
/-- the captured names' cells, what they hold -/
inductive CellsV (C : List (Str × Addr)) (H : Hp) (h : Heap) : List Str → List V → Prop
  | nil : CellsV C H h [] []
  | cons {y : Str} {ys : List Str} {v : V} {vs : List V} {c : Addr} {o : Obj} {u : Value} : C.lookup y = some c → h.get? c = some o → o.data = .cell (some u) → RelV v u → H c = none → CellsV C H h ys vs → CellsV C H h (y :: ys) (v :: vs)
theorem CellsV.len {C : List (Str × Addr)} {H : Hp} {h : Heap} {ys : List Str} {vs : List V} (q : CellsV C H h ys vs) : vs.length = ys.length := by
  induction q with
  | nil => rfl
  | cons _ _ _ _ _ _ ih => simp [ih]
theorem CellsV.at {C : List (Str × Addr)} {H : Hp} {h : Heap} {ys : List Str} {vs : List V} (q : CellsV C H h ys vs) : ∀ {i : Nat} {y : Str}, ys[i]? = some y → ∃ v c u, vs[i]? = some v ∧ C.lookup y = some c ∧ h.IsCell c (some u) ∧ RelV v u ∧ H c = none := by
  induction q with
  | nil => intro i y e; simp at e
  | cons a b c d f _ ih =>
    intro i y e
    cases i with
    | zero =>
      simp only [List.getElem?_cons_zero, Option.some.injEq] at e
      subst e
      exact ⟨_, _, _, rfl, a, ⟨_, b, c⟩, d, f⟩
    | succ i =>
      simp only [List.getElem?_cons_succ] at e ⊢
      exact ih e
theorem CellsV.mem {C : List (Str × Addr)} {H : Hp} {h : Heap} {ys : List Str} {vs : List V} (q : CellsV C H h ys vs) {y : Str} (hy : y ∈ ys) : ∃ c u, C.lookup y = some c ∧ h.IsCell c (some u) ∧ H c = none := by
  obtain ⟨i, hi⟩ := List.getElem?_of_mem hy
  obtain ⟨v, c, u, _, a, b, _, d⟩ := q.at hi
  exact ⟨c, u, a, b, d⟩
abbrev cloSt (vz : List V) (v : V) : L2.St := vz.map some ++ [some v]
section
variable {P : Program} {w : World} {K : PySem.W.Frag} {mg : Str → Option Value} {base : Heap} {A : Around} {outer : List PySem.Env} {s : Shared} {H : Hp}
theorem clo_start {E : XK} {C : List (Str × Addr)} {nm : List Str} {q : Str} {scope : Scope} {f c' : Addr} {h₁ : Heap} {tk : Nat} {x : Str} {v : V} {u : Value} {vz : List V} (hN : (nm ++ [x]).Nodup) (L : LamQ nm scope x) (inj : ∀ y z c, C.lookup y = some c → C.lookup z = some c → y = z) (e0 : Env0 P w K mg base A outer s H) (hd : A.handled = none)
    (cv : CellsV C H s.heap nm vz) (rv : RelV v u) (hns : h₁.Ns s.heap.objs.size fun y => ([(x, u)] : List (Str × Value)).reverse.lookup y) (kp : ∀ b o, s.heap.get? b = some o → h₁.get? b = some o) :
    Inv (cloCx P w K mg base (nm ++ [x]) C q scope f c' A outer s H E) [] (cloSt vz v) H { s with heap := h₁, toks := tk } := by
  have hfree : ∀ y ∈ scope.names, y.2 = .free → ∃ c, C.lookup y.1 = some c := fun y hy e => by
    obtain ⟨c, _, h1, _⟩ := cv.mem (L.fre y hy e)
    exact ⟨c, h1⟩
  have cm : ∀ {y c}, (cloFrom C scope.names []).lookup y = some c → C.lookup y = some c ∧ scope.names.lookup y ≠ none ∧ y ∈ nm := fun {y c} e => by
    rcases cloFrom_mem (PySem.mem_of_lookup e) with hm | ⟨h1, h2⟩
    · cases hm
    · obtain ⟨c1, hc⟩ := hfree _ h1 rfl
      have hc : C.lookup y = some c1 := hc
      have e2 : c = c1 := by
        rw [h2, hc] <;> rfl
      refine ⟨by rw [e2]; exact hc, ?_, L.fre _ h1 rfl⟩
      have h1' : (y, NameKind.free) ∈ scope.names := h1
      intro z
      have := List.lookup_eq_none_iff.mp z _ h1'
      simp at this
  have look : ∀ {y}, scope.names.lookup y = some .free → ∃ c, (cloFrom C scope.names []).lookup y = some c := fun {y} hl => by
    have hy : (y, NameKind.free) ∈ scope.names := PySem.mem_of_lookup hl
    exact mem_lookup (cloFrom_has (cells := C) (acc := []) hy)
  have cellK : ∀ {c : Addr} {v : Option Value}, s.heap.IsCell c v → h₁.IsCell c v := fun {c v} ⟨o, ho, hd⟩ => ⟨_, kp _ _ ho, hd⟩
  have noA : ∀ b : Addr, b ∉ (cloCx P w K mg base (nm ++ [x]) C q scope f c' A outer s H E).ex := fun b z => absurd (show b ∈ ([] : List Addr) from z) (by simp)
  have ll := cv.len
  refine ⟨⟨e0.mod, L.kind, rfl, rfl, Nat.le_refl _, fun y z c e1 e2 => inj y z c (cm e1).1 (cm e2).1, fun y hy => ?_, fun y c z _ => ?_, fun _ => hd, Around.frames_deeper e0.frames, .inr ⟨rfl, rfl⟩, fun b z => absurd z (noA b), e0.bs, e0.bsz, fun b _ _ => noA b,
      fun b z => absurd z (noA b), e0.funs, e0.frf⟩,
    rfl, e0.bare, Un.kept kp, ⟨_, hns, fun j y v' e1 e2 e3 => ?_⟩, fun y c e => ?_, e0.hok.fresh (Nat.le_refl _), fun y c e => ?_, fun q hq => absurd (show q ∈ ([] : List (Addr × Obj)) ++ [] from hq) (by simp), e0.hok.kept kp, ?_⟩
  · have hy : scope.names.lookup y = some .cell ∨ scope.names.lookup y = some .free := hy
    rcases hy with hy | hy
    · exact absurd rfl (L.own _ (PySem.mem_of_lookup hy)).1
    · exact look hy
  · have z : false = true := z
    cases z
  · have e3 : Vis scope y := e3
    have e1 : (nm ++ [x])[j]? = some y := e1
    have e2 : (vz.map some ++ [some v])[j]? = some (some v') := e2
    rcases e3 with k | k | k
    · have ey : y = x := (L.own _ (PySem.mem_of_lookup k)).2 rfl
      subst ey
      have hx : (nm ++ [y])[nm.length]? = some y := by simp
      have ij : nm.length = j := nodup_ix hN hx e1
      subst ij
      have e4 : (vz.map some ++ [some v])[nm.length]? = some (some v) := by
        rw [List.getElem?_append_right (by simp [ll]), List.length_map, ll, Nat.sub_self]
        rfl
      rw [e4] at e2
      cases e2
      refine ⟨u, rv, .inl ⟨k, ?_⟩⟩
      show ([(y, u)] : List (Str × Value)).lookup y = some u
      simp
    · exact absurd rfl (L.own _ (PySem.mem_of_lookup k)).1
    · have hy := L.fre _ (PySem.mem_of_lookup k) rfl
      have hj : j < nm.length := by
        apply Nat.lt_of_not_le
        intro z
        rw [List.getElem?_append_right z] at e1
        have : y = x := by
          cases hq : j - nm.length with
          | zero => rw [hq] at e1; simpa using e1.symm
          | succ n => rw [hq] at e1; simp at e1
        subst this
        rw [L.par] at k
        cases k
      rw [List.getElem?_append_left hj] at e1
      rw [List.getElem?_append_left (by rw [List.length_map, ll]; exact hj), List.getElem?_map] at e2
      obtain ⟨v2, c2, u2, h1, h2, h3, h4, h5⟩ := cv.at e1
      rw [h1] at e2
      cases e2
      obtain ⟨c3, h6⟩ := look k
      have c1 := (cm h6).1
      rw [h2] at c1
      cases c1
      exact ⟨u2, h4, .inr ⟨.inr k, c2, h6, cellK h3⟩⟩
  · obtain ⟨h1, _, h2⟩ := cm e
    obtain ⟨c2, u2, g1, g2, g3⟩ := cv.mem h2
    rw [h1] at g1
    cases g1
    exact ⟨_, cellK g2⟩
  · obtain ⟨h1, _, h2⟩ := cm e
    obtain ⟨c2, u2, g1, g2, g3⟩ := cv.mem h2
    rw [h1] at g1
    cases g1
    exact g3
  · show (vz.map some ++ [some v]).length = (nm ++ [x]).length
    simp [ll]
end
end MP
namespace MP
open PySem PySem.Spec PyProof.Rows L2
/-! ### a closure is made and kept -/
section
variable {X : Cx} {pins : List (Addr × Obj)} {σ : L2.St} {H : Hp} {s : Shared}
/-- an object made since then, untracked as yet, is tracked from now on -/
theorem adopt_ext {s2 : Shared} {H2 : Hp} {a : Addr} {o : HO} (I : Inv X pins σ H s) (I2 : Inv X pins σ H2 s2) (hge : s.heap.objs.size ≤ a) (hn : H2 a = none) (new : ObjOk X.prog X.w (upd H2 a o) s2.heap a o) : Inv X pins σ (upd H2 a o) s2 := by
  have fp : FpOk X pins H2 a := I.fpOk hge hn
  have := take2 (t' := s2.toks) (h' := s2.heap) (a := a) (c := a) I2 (fun b ob _ _ e => e) fp fp new
  exact this
/-- what the making of a lambda leaves: as the kit's own, and the function stands behind what there was -/
theorem lam_new {T : List (Addr × Str)} {cd P : Addr} {ps_ : Arguments} {bd : Expr} {scp : Scope} {lp : Pos} {E Q : Value → Shared → Prop} (I : Inv X pins σ H s) (tb : LamX.TabB X.base X.mg cd P) (hcd : X.env.code = .ref cd)
    (inT : (P, X.env.qual ++ "<lambda>") ∈ T) (oneT : ∀ p ∈ T, p.1 = P → p.2 = X.env.qual ++ "<lambda>") (tT : LamX.Tabs T H) (dflt : defaultsOf ps_ X.env = ([], [])) (hfr : ∀ y ∈ scp.names, y.2 = .free → ∃ c, X.env.cells.lookup y.1 = some c)
    (go : ∀ (g k : Addr) (p_ t_ : Value) (G : Hp) (z : Shared), Inv X pins σ G z → LamX.ExtN H G → LamX.Tabs T G → s.heap.objs.size ≤ g → G g = none → G k = some (LamX.CodeO k (X.env.qual ++ "<lambda>")) →
      z.heap.get? g = some (PySem.W.kla_obj "<lambda>" (X.env.qual ++ "<lambda>") ps_ bd scp (cloFrom X.env.cells scp.names []) p_ k t_) → Q (.ref g) z) :
    wpAny (model X.prog X.w) X.A (eval (.Lambda ps_ bd scp lp) X.env) Q E s := by
  have ⟨tr, atP, trOk, known⟩ := tT _ inT
  have objP := I.hok P _ atP
  have blt : s.heap.BuiltinsAt X.mg P := tb.bm.keeps I.bk
  refine PySem.W.kla_eval dflt ?_
  rcases hq : codeAmong lp tr.toList with _ | cv
  · refine PySem.W.kla_makeFunction (mg := X.mg) (c := cd) (P := P) (ps := tr) (closure_ok hfr) I.ok.glob (I.mod.glob.keeps I.bk) hcd (tb.code.keeps I.bk) objP trOk hq tb.gP blt fun k t_ hh tk old hge hlt rec atP2 => ?_
    obtain ⟨k2, ok_, vs_, tn, ek, g1, g2, g3⟩ := rec
    injection ek with ek
    subst ek
    have sz : s.heap.objs.size ≤ hh.objs.size := Nat.le_trans hge (Nat.le_of_lt hlt)
    have noK : H k = none := I.hok.fresh hge
    let ob := PySem.W.kla_obj "<lambda>" (X.env.qual ++ "<lambda>") ps_ bd scp (cloFrom X.env.cells scp.names []) ((X.mg "__name__").getD .none) k t_
    have keep : ∀ b o, hh.get? b = some o → (hh.push ob).get? b = some o := fun b o e => Heap.get?_push_of_some _ e
    have J := LamX.inv_table (t' := tk) (more := #[rawInt lp.line, rawInt lp.col, .ref k]) (h' := hh.push ob) I atP (fun b o nb e => keep b o (old b o nb e)) (keep _ _ atP2) hge ⟨ok_, vs_, tn, keep _ _ g1, g2, g3⟩
    have ext : LamX.ExtN H (upd (upd H P (.tbl (tr ++ #[rawInt lp.line, rawInt lp.col, .ref k]))) k (LamX.CodeO k (X.env.qual ++ "<lambda>"))) := by
      intro b o e n
      have nP : b ≠ P := fun z => by
        subst z
        rw [atP] at e
        exact n tr (Option.some.inj e).symm
      rw [upd_ne (ne_of_none e noK), upd_ne nP]
      exact e
    have asL : (tr ++ #[rawInt lp.line, rawInt lp.col, .ref k]).toList = tr.toList ++ [rawInt lp.line, rawInt lp.col, .ref k] := by simp
    have tabs : LamX.Tabs T (upd (upd H P (.tbl (tr ++ #[rawInt lp.line, rawInt lp.col, .ref k]))) k (LamX.CodeO k (X.env.qual ++ "<lambda>"))) := by
      intro p hp
      by_cases e : p.1 = P
      · rw [oneT p hp e, e]
        refine ⟨_, by rw [upd_ne (ne_of_none atP noK), upd_same], by rw [asL]; exact PySem.TriplesOk_snoc _ _ _ _ trOk, fun p2 cv2 h2 => ?_⟩
        rw [asL] at h2
        rcases LamX.among_app _ trOk h2 with z | z
        · obtain ⟨k3, e1, e2⟩ := known p2 cv2 z
          exact ⟨k3, e1, ext _ _ e2 LamX.codeO_ne⟩
        · exact ⟨k, z, upd_same⟩
      · obtain ⟨tr2, a1, a2, a3⟩ := tT p hp
        refine ⟨tr2, by rw [upd_ne (ne_of_none a1 noK), upd_ne e]; exact a1, a2, fun p2 cv2 h2 => ?_⟩
        obtain ⟨k3, e1, e2⟩ := a3 p2 cv2 h2
        exact ⟨k3, e1, ext _ _ e2 LamX.codeO_ne⟩
    refine go hh.objs.size k _ t_ _ _ J ext tabs sz ?_ upd_same (Heap.get?_push_size _ rfl)
    rw [upd_ne (Nat.ne_of_gt hlt), upd_ne (Nat.ne_of_gt (Nat.lt_of_lt_of_le (Heap.lt_size objP) sz))]
    exact I.hok.fresh sz
  · obtain ⟨k, ek, hk⟩ := known lp cv hq
    subst ek
    refine PySem.W.kla_makeFunctionHit (mg := X.mg) (c := cd) (P := P) (ps := tr) (closure_ok hfr) I.ok.glob (I.mod.glob.keeps I.bk) hcd (tb.code.keeps I.bk) objP trOk hq blt fun t_ hh tk old sz => ?_
    exact go hh.objs.size k _ t_ H _ (I.kept fun b o e => Heap.get?_push_of_some _ (old b o e)) (LamX.ExtN.refl H) tT sz (I.hok.fresh sz) hk (Heap.get?_push_size _ rfl)
end
section
variable {τ : TZ} {X : Cx} {Φ : Fns}
theorem de_lam {l : Nat} {params : Arguments} {body : Expr} {scope : Scope} {lpos : Pos} (LA : LamAt τ X) (hl : τ.lam l = some ⟨X.env.qual ++ "<lambda>", params, body, scope⟩) (hC : τ.C = X.env.cells) (hdef : defaultsOf params X.env = ([], []) := by rfl)
    {x : Str} (Ls : LamP X.env.scope scope x) : DE τ X Φ (.Lambda params body scope lpos) (.lam l) := by
  obtain ⟨c, P, hcode, TB, hmT, huT⟩ := LA.ex
  refine ⟨fun pins s σ H Q I h => ?_⟩
  obtain ⟨μ, env, S, w, S', sr, er, h1, h2⟩ := h
  simp only [ev] at h1
  cases h1
  refine lam_new I TB hcode hmT huT sr.tb hdef (Ls.has I.ok) fun g k p_ t_ G z I2 eN T2 sz gn gk gg => ?_
  have s1 : SR (kwOf τ X) μ G S := sr.extN eN T2
  have x1 : Ex (kwOf τ X) μ H μ G := ex_extN eN
  have nk : k ≠ g := fun e => by
    subst e
    rw [gn] at gk
    cases gk
  let fd := PySem.W.kla_fn "<lambda>" (X.env.qual ++ "<lambda>") params body scope (cloFrom X.env.cells scope.names []) p_ (.ref k) t_
  have I3 : Inv X pins σ (upd G g (FnO g fd)) z := adopt_ext I I2 sz gn (fn_ok_ext gg)
  have s2 := s1.fresh (o := FnO g fd) gn
  have s3 := s2.adoptO (so := .clo l []) (s1.off gn) ⟨⟨X.env.qual ++ "<lambda>", params, body, scope⟩, k, p_, t_, hl, by
    show upd G g (FnO g fd) g = some (FnO g (PySem.W.kla_fn "<lambda>" (X.env.qual ++ "<lambda>") params body scope (cloFrom τ.C scope.names []) p_ (.ref k) t_))
    rw [upd_same, hC], by rw [upd_ne nk]; exact gk, by
    show ∀ y z c, τ.C.lookup y = some c → τ.C.lookup z = some c → y = z
    rw [hC]
    exact I.ok.inj, fun e => absurd rfl e⟩
  refine ⟨.ref g, _, I3, rfl, h2 _ (μ ++ [g]) _ (x1.trans (ex_new gn)) s3 (.lref ?_ ⟨fd, upd_same⟩)⟩
  rw [← sr.len, List.getElem?_append_right (Nat.le_refl _), Nat.sub_self]
  rfl
end
end MP
namespace MP
open PySem PySem.Spec PyProof.Rows L2
/-! ### the cells are let stand still round a call, and let go round a closure's body -/
theorem mix_keeps {s : Shared} {H G : Hp} {base : Heap} {outer : List PySem.Env} {cs : List Addr} (hc : ∀ b ∈ cs, MixAt s H G base outer b) : Keeps H (mixH cs G H) := fun b o e n => by
  by_cases hb : b ∈ cs
  · obtain ⟨o2, φ, z⟩ := (hc b hb).nH e
    exact absurd z (n o2 φ)
  · rw [mix_out hb]; exact e
theorem mix_keepsB {s : Shared} {H G H' : Hp} {base : Heap} {outer : List PySem.Env} {cs : List Addr} (hc : ∀ b ∈ cs, MixAt s H G base outer b) (e : ∀ b ∈ cs, H' b = G b) : Keeps H' (mixH cs H H') := fun b o e1 n => by
  by_cases hb : b ∈ cs
  · rw [e b hb] at e1
    obtain ⟨o2, φ, z⟩ := (hc b hb).nG e1
    exact absurd z (n o2 φ)
  · rw [mix_out hb]; exact e1
theorem ex_mix {K K' : Fg} {μ μ' : List Addr} {s : Shared} {H G H' : Hp} {S' : Sto} {base : Heap} {outer : List PySem.Env} {cs : List Addr} (ek : K'.k = K.k) (ew : K'.w = K.w) (hc : ∀ b ∈ cs, MixAt s H G base outer b) (eG : ∀ b ∈ cs, H' b = G b) (x : Ex K' μ (mixH cs G H) μ' H') (sr : SR K' μ' H' S') : Ex K μ H μ' (mixH cs H H') := by
  have k1 := mix_keeps hc
  have k2 := mix_keepsB hc eG
  refine ⟨⟨x.pre, fun a xs h => ?_, fun a xs h => ?_, fun a o ks h => ?_, fun a o xs h => ?_, fun k a h ⟨vs, q⟩ => ?_, fun k a h ⟨vs, q⟩ => ?_, fun k a h ⟨C, dx, fs, q⟩ => ?_, fun k a h ⟨gs, q⟩ => ?_, fun k a h ⟨fd, q⟩ => ?_, fun c q h => ?_, fun c o φ h => ?_⟩, fun a o h n q => ?_⟩
  · have := x.tup a xs (by rw [ek]; exact k1.sqT h)
    rw [ek] at this
    exact k2.sqT this
  · have := x.fz a xs (by rw [ek]; exact k1.fzL h)
    rw [ek] at this
    exact k2.fzL this
  · exact k2 _ _ (x.dk a o ks (k1 _ _ h (fun _ _ z => by cases z))) (fun _ _ z => by cases z)
  · exact k2 _ _ (x.nt a o xs (k1 _ _ h (fun _ _ z => by cases z))) (fun _ _ z => by cases z)
  · obtain ⟨v2, e⟩ := x.kl k a h ⟨vs, k1 _ _ q (fun _ _ z => nomatch z)⟩
    exact ⟨v2, k2 _ _ e (fun _ _ z => nomatch z)⟩
  · obtain ⟨v2, e⟩ := x.kd k a h ⟨vs, k1 _ _ q (fun _ _ z => nomatch z)⟩
    exact ⟨v2, k2 _ _ e (fun _ _ z => nomatch z)⟩
  · obtain ⟨C2, d2, f2, e⟩ := x.ko k a h ⟨C, dx, fs, k1 _ _ q (fun _ _ z => nomatch z)⟩
    exact ⟨C2, d2, f2, k2 _ _ e (fun _ _ z => nomatch z)⟩
  · obtain ⟨g2, e⟩ := x.kg k a h ⟨gs, by rw [ew]; exact k1 _ _ q (fun _ _ z => nomatch z)⟩
    rw [ew] at e
    exact ⟨g2, k2 _ _ e (fun _ _ z => nomatch z)⟩
  · obtain ⟨f2, e⟩ := x.kc k a h ⟨fd, k1 _ _ q (fun _ _ z => nomatch z)⟩
    exact ⟨f2, k2 _ _ e (fun _ _ z => nomatch z)⟩
  · exact k2 _ _ (x.co c q (k1 _ _ h (fun _ _ z => nomatch z))) (fun _ _ z => nomatch z)
  · by_cases hb : c ∈ cs
    · rw [mix_in hb]; exact h
    · rw [mix_out hb]; exact x.fe c o φ (by rw [mix_out hb]; exact h)
  · by_cases hb : a ∈ cs
    · refine ⟨by rw [mix_in hb]; exact h, fun k z => ?_⟩
      obtain ⟨u, hu, st⟩ := sr.trk z
      rw [eG a hb] at hu
      obtain ⟨o2, φ, z2⟩ := (hc a hb).nG hu
      exact st.nf _ _ z2
    · obtain ⟨e1, e2⟩ := x.fr0 a o (by rw [mix_out hb]; exact h) n q
      exact ⟨by rw [mix_out hb]; exact e1, e2⟩
section
variable {X : Cx} {pins : List (Addr × Obj)} {σ : L2.St} {H G : Hp} {s : Shared} {cs : List Addr}
/-- a def is called, the cells at cs stood otherwise meanwhile -/
theorem run_mix {k : Nat} {f : Addr} {sp : Sp} {Q : VK} {us : List Value} {vs : List V} (F : FnR X.prog X.w X.K X.mg X.base CX0 k f sp) (hr : Room k X.A) (I : Inv X pins σ H s) (r : Vals vs us) (hc : ∀ b ∈ cs, MixAt s H G X.base X.stack b)
    (h : sp vs (mixH cs G H) (fun v H' => (∀ b ∈ cs, H' b = G b) → Q v (mixH cs H H')) E0) : wpAny (model X.prog X.w) X.A (call (.ref f) us) (EP X pins σ Q) X.xe s := by
  refine wpAny_call (codeAny_mono (F X.A X.stack s (mixH cs G H) us vs _ E0 hr (mix_env0 I.env0 hc) r h) fun r s' hq => ?_)
  cases r with
  | error e => exact False.elim hq
  | ok fl =>
    cases fl with
    | ret u => exact I.after (mix_back I.env0 hc hq fun v H' e q => q e)
    | next => exact False.elim hq
    | brk => exact False.elim hq
    | cont => exact False.elim hq
end
/-! ### from the def that has the cells -/
/-- the captured names stand in these slots, as cells -/
def SlotC (X : Cx) : List Nat → List Str → Prop
  | [], [] => True
  | i :: is, y :: ys => X.N[i]? = some y ∧ X.env.scope.names.lookup y = some .cell ∧ SlotC X is ys
  | _, _ => False
structure LawC (τ : TZ) (X : Cx) (zs : List Nat) : Prop where
  C : τ.C = X.env.cells
  fn : ∀ x, X.fn x = true
  sl : SlotC X zs τ.nm
inductive LC (K : Fg) (μ : List Addr) (X : Cx) (H : Hp) (h : Heap) : List Str → List W → List Addr → Prop
  | nil : LC K μ X H h [] [] []
  | cons {y : Str} {ys : List Str} {w : W} {ws : List W} {c : Addr} {cs : List Addr} {o : Obj} {u : Value} {v : V} : X.env.cells.lookup y = some c → h.get? c = some o → o.data = .cell (some u) → RelV v u → VW K μ H v w → H c = none → LC K μ X H h ys ws cs → LC K μ X H h (y :: ys) (w :: ws) (c :: cs)
section
variable {K : Fg} {μ : List Addr} {X : Cx} {pins : List (Addr × Obj)} {σ : L2.St} {H : Hp} {s : Shared} {env : Env}
theorem lc_of (I : Inv X pins σ H s) (er : ER K μ H σ env) : ∀ {zs : List Nat} {nm : List Str} {ws : List W}, SlotC X zs nm → slotsOf env zs = some ws → ∃ cs, LC K μ X H s.heap nm ws cs
  | [], [], ws, _, h => by
    cases h
    exact ⟨[], .nil⟩
  | i :: is, y :: ys, ws, ⟨h1, h2, h3⟩, h => by
    unfold slotsOf at h
    split at h <;> try (cases h; done)
    rename_i w hw
    obtain ⟨r, hr, rfl⟩ := Option.map_eq_some_iff.mp h
    obtain ⟨cs, q⟩ := lc_of I er h3 hr
    obtain ⟨v, e1, e2⟩ := er.2 i w hw
    obtain ⟨m, hn, hl⟩ := I.loc
    obtain ⟨u, ru, lk⟩ := hl i y v h1 e1 (.inr (.inl h2))
    rcases lk with ⟨k1, _⟩ | ⟨_, c, k2, k3⟩
    · have k1 : X.env.scope.names.lookup y = some .local := k1
      rw [h2] at k1
      cases k1
    · obtain ⟨o, ho, hd⟩ := k3
      exact ⟨c :: cs, .cons k2 ho hd ru e2 (I.freeC y c k2) q⟩
  | [], _ :: _, _, h, _ => h.elim
  | _ :: _, [], _, h, _ => h.elim
def stillG (s : Shared) : Hp := fun b => (s.heap.get? b).map fun o => .frz o (.ext fun h => h.get? b = some o)
theorem LC.mix (fn : ∀ x, X.fn x = true) (I : Inv X pins σ H s) : ∀ {nm : List Str} {ws : List W} {cs : List Addr}, LC K μ X H s.heap nm ws cs → ∀ b ∈ cs, MixAt s H (stillG s) X.base X.stack b
  | _, _, _, .nil, b, hb => by simp at hb
  | _, _, _, .cons (y := y) (c := c) (o := o) (u := u) h1 h2 h3 h4 h5 h6 t, b, hb => by
    rcases List.mem_cons.mp hb with e | e
    · subst e
      have ge : X.s_0.heap.objs.size ≤ b := I.ok.cab y b (fn y) h1
      refine ⟨?_, fun z => ?_, o, h2, .inl h6, .inr ⟨_, by unfold stillG; rw [h2]; rfl, _, rfl, h2, fun g1 g2 a k => k _ a⟩⟩
      · cases e : X.base.get? b with
        | none => rfl
        | some o2 => exact absurd (Nat.lt_of_lt_of_le (Heap.lt_size e) (Nat.le_trans I.ok.bsz ge)) (Nat.lt_irrefl _)
      · rcases List.mem_cons.mp (I.stkSub _ z) with e | e
        · obtain ⟨m, hn, _⟩ := I.loc
          subst e
          obtain ⟨o1, es, ep, g1, g2, _⟩ := hn
          rw [h2] at g1
          cases g1
          rw [h3] at g2
          cases g2
        · obtain ⟨_, o1, g1, _⟩ := I.ok.funs.mem e
          exact absurd (Nat.lt_of_lt_of_le (Heap.lt_size g1) ge) (Nat.lt_irrefl _)
    · exact LC.mix fn I t b e
end
end MP
namespace MP
open PySem PySem.Spec PyProof.Rows L2
theorem LC.fz {τ : TZ} {K : Fg} {μ : List Addr} {X : Cx} {H : Hp} {s : Shared} (hC : τ.C = X.env.cells) (ek : X.K = K.k) (ew : X.w = K.w) {cs0 : List Addr} (kk : Keeps H (mixH cs0 (stillG s) H)) {nm : List Str} {ws : List W} {cs : List Addr} (q : LC K μ X H s.heap nm ws cs) : (∀ c ∈ cs, c ∈ cs0) → Fz (kwOf τ X) μ (mixH cs0 (stillG s) H) nm ws := by
  induction q with
  | nil => intro _; exact .nil
  | @cons y ys w ws c cs o u v h1 h2 h3 h4 h5 h6 t ih =>
    intro sub
    refine .cons (c := c) (o := o) (φ := fun h => h.get? c = some o) (u := u) (v := v) ?_ ?_ h3 h4 (VW.go ek ew kk h5) (ih fun d hd => sub d (List.mem_cons_of_mem _ hd))
    · show τ.C.lookup y = some c
      rw [hC]; exact h1
    · rw [mix_in (sub c (List.mem_cons_self ..))]
      unfold stillG
      rw [h2]
      rfl
theorem relock_clo {zs ws : List W} {S : Sto} {j l : Nat} (h : (relock zs S)[j]? = some (.clo l ws)) : ws = zs := by
  rw [relock_get] at h
  cases e : S[j]? with
  | none => rw [e] at h; cases h
  | some o =>
    rw [e] at h
    cases o <;> simp [relock1] at h
    exact h.2.symm
theorem relock_relock {zs ws : List W} {S : Sto} : relock zs (relock ws S) = relock zs S := by
  unfold relock
  rw [List.map_map]
  exact List.map_congr_left fun o _ => by cases o <;> rfl
section
variable {τ : TZ} {X : Cx} {Φ : Fns}
theorem spZ_law {pins : List (Addr × Obj)} {σ : L2.St} {H : Hp} {s : Shared} {μ : List Addr} {S S' : Sto} {zs : List Nat} {ws xs : List W} {cs : List Addr} {w : W} {i n : Nat} {vs : List V} {Q : VK} (L : LawC τ X zs) (I : Inv X pins σ H s) (sr : SR (kwOf τ X) μ H S) (lc : LC (kwOf τ X) μ X H s.heap τ.nm ws cs)
    (hv : VWs (kwOf τ X) μ H vs xs) (hl : vs.length = n) (h1 : Φ i xs (relock ws S) = some (w, S')) (h2 : Aft (kwOf τ X) μ H (relock [] S') w Q) :
    spD (kwOf τ X) Φ i n vs (mixH cs (stillG s) H) (fun v H' => (∀ b ∈ cs, H' b = stillG s b) → Q v (mixH cs H H')) E0 := by
  have hc := lc.mix L.fn I
  have kk := mix_keeps hc
  have s1 : SR (kwOf τ X) μ H (relock [] S) := sr.relock [] fun z => absurd rfl z
  have s2 : SR (kwOf τ X) μ (mixH cs (stillG s) H) (relock [] S) := SR.go (K := kwOf τ X) rfl rfl rfl rfl rfl rfl kk (fun j l z hz hne => absurd (relock_clo hz) hne) s1
  have s3 : SR (kwOf τ X) μ (mixH cs (stillG s) H) (relock ws S) := by
    have := s2.relock ws fun _ => lc.fz L.C rfl rfl kk fun c hc => hc
    rwa [relock_relock] at this
  refine ⟨hl, μ, relock ws S, xs, w, S', s3, VWs.go (K := kwOf τ X) (K' := kwOf τ X) rfl rfl kk hv, h1, fun v μ' H' x' s' r' e => ?_⟩
  have kb := mix_keepsB hc e
  have s4 : SR (kwOf τ X) μ' H' (relock [] S') := s'.relock [] fun z => absurd rfl z
  exact h2 v μ' (mixH cs H H') (ex_mix (K := kwOf τ X) (K' := kwOf τ X) rfl rfl hc e x' s') (SR.go (K := kwOf τ X) rfl rfl rfl rfl rfl rfl kb (fun j l z hz hne => absurd (relock_clo hz) hne) s4) (VW.go (K := kwOf τ X) (K' := kwOf τ X) rfl rfl kb r')
/-! ### a closure's body -/
def spClo (K : Fg) (Φ : Fns) (l : Nat) (f : Addr) : Sp := fun vs H Q _ => vs.length = 1 ∧ ∃ d c' pm ctv, K.tz.lam l = some d ∧ H f = some (FnO f (PySem.W.kla_fn "<lambda>" d.q d.params d.body d.scope (cloFrom K.tz.C d.scope.names []) pm (.ref c') ctv)) ∧ H c' = some (LamX.CodeO c' d.q) ∧
  (∀ y z c, K.tz.C.lookup y = some c → K.tz.C.lookup z = some c → y = z) ∧ ∃ μ S ws zs w S', SR K μ H S ∧ VWs K μ H vs ws ∧ Fz K μ H K.tz.nm zs ∧ Φ l (zs ++ ws) (relock [] S) = some (w, S') ∧ Aft K μ H (relock zs S') w Q
theorem Fz.cells {K : Fg} {μ : List Addr} {H : Hp} {nm : List Str} {zs : List W} (q : Fz K μ H nm zs) : ∃ (cs : List Addr) (vz : List V), VWs K μ H vz zs ∧ (∀ c ∈ cs, ∃ o φ, H c = some (.frz o (.ext φ))) ∧
    ∀ (P : Program) (w : World) (h : Heap) (cs0 : List Addr), HOk P w H h → (∀ c ∈ cs, c ∈ cs0) → CellsV K.tz.C (mixH cs0 (fun _ => none) H) h nm vz := by
  induction q with
  | nil => exact ⟨[], [], .nil, by simp, fun _ _ _ _ _ _ => .nil⟩
  | @cons y ys w ws c o φ u v h1 h2 h3 h4 h5 t ih =>
    obtain ⟨cs, vz, a1, a2, a3⟩ := ih
    refine ⟨c :: cs, v :: vz, .cons h5 a1, fun d hd => ?_, fun P w h cs0 ok sub => ?_⟩
    · rcases List.mem_cons.mp hd with e | e
      · subst e; exact ⟨o, φ, h2⟩
      · exact a2 d e
    · exact .cons h1 (ok c _ h2).1 h3 h4 (mix_in (sub c (List.mem_cons_self ..))) (a3 P w h cs0 ok fun d hd => sub d (List.mem_cons_of_mem _ hd))
end
end MP
namespace MP
open PySem PySem.Spec PyProof.Rows L2
section
variable {τ : TZ} {X : Cx} {Φ : Fns} {a b d e : Expr} {es : List Expr} {ca cb cd ce : CE} {cs : CEs} {pos apos cpos : Pos}
/-- -1 -/
theorem de_m1 {p p2 : Pos} {j : Nat} : DE τ X Φ (.UnaryOp .USub (.Constant (.int 1) j p) p2) (.c (.int (-1))) := by
  refine peW (de_neg (τ := τ) (Φ := Φ) de_int) fun σ H Q h => ?_
  obtain ⟨μ, env, S, w, S', s, er, h1, h2⟩ := h
  simp only [ev] at h1
  cases h1
  exact ⟨μ, env, S, .int (-1), S, s, er, rfl, h2⟩
/-- range(e, -1, -1) -/
theorem di_rngD {tg : Expr} {p : Pos} (hm : X.mg "range" = none) (ha : DE τ X Φ a ca) (hb : DE τ X Φ b (.c (.int (-1)))) (hc : DE τ X Φ d (.c (.int (-1)))) (hg : Gl X "range" := by rfl) (hs : starEach [a, b, d] X.env = (false, eval a X.env) :: starEach [b, d] X.env := by rfl) (hs2 : starEach [b, d] X.env = (false, eval b X.env) :: starEach [d] X.env := by rfl) (hs3 : starEach [d] X.env = (false, eval d X.env) :: starEach [] X.env := by rfl) (hpl : (backTo pos (starEach [b, d] X.env)).any (·.1) = false := by rfl) : DI τ X Φ tg (.Call (.Name "range" p) [a, b, d] [] pos) (.rngd ca) :=
  di_rngd (p1 := ⟨0, 0, 0, 0⟩) (p2 := ⟨0, 0, 0, 0⟩) (p3 := ⟨0, 0, 0, 0⟩) (p4 := ⟨0, 0, 0, 0⟩) (j1 := none) (j2 := none) hm ha hb hc hg hs hs2 hs3 hpl
end
end MP
namespace MP
open PySem PySem.Spec PyProof.Rows L2
section
variable {τ : TZ} {X : Cx} {Φ : Fns} {a b d e o : Expr} {es : List Expr} {ca cb cd ce : CE} {cs : CEs} {pos apos cpos p2 : Pos} {f : Str} {l : List Nat} {t : List (List Nat)}
/-- what leaves the store as it is -/
abbrev St1 (Φ : Fns) (c : CE) : Prop := ∀ env S w S', ev Φ c env S = some (w, S') → S' = S
abbrev Sts (Φ : Fns) (c : CEs) : Prop := ∀ env S ws S', evs Φ c env S = some (ws, S') → S' = S
theorem sts_nil : Sts Φ .nil := fun env S ws S' h => by
  simp only [evs] at h
  cases h
  rfl
theorem sts_cons (ha : St1 Φ ca) (hb : Sts Φ cs) : Sts Φ (.cons ca cs) := fun env S ws S' h => by
  simp only [evs] at h
  split at h <;> try (cases h; done)
  rename_i x S1 e1
  split at h <;> try (cases h; done)
  rename_i xs S2 e2
  cases h
  exact (hb _ _ _ _ e2).trans (ha _ _ _ _ e1)
theorem st_tup (h : Sts Φ cs) : St1 Φ (.tup cs) := fun env S w S' q => by
  simp only [ev] at q
  split at q <;> try (cases q; done)
  rename_i xs S1 e1
  split at q <;> try (cases q; done)
  cases q
  exact h _ _ _ _ e1
theorem st_subI (ha : St1 Φ ca) (hb : St1 Φ cb) : St1 Φ (.bin .sub ca (.bi .neg (.cons cb .nil))) := fun env S w S' q => by
  simp only [ev, evs] at q
  split at q <;> try (cases q; done)
  rename_i x S1 e1
  split at q <;> try (cases q; done)
  rename_i y S2 e2
  split at e2 <;> try (cases e2; done)
  rename_i ys S3 e3
  split at e3 <;> try (cases e3; done)
  rename_i z S4 e4
  cases e3
  cases z <;> simp only [opI] at e2 <;> try (cases e2; done)
  cases e2
  cases x <;> simp only [opB] at q <;> try (cases q; done)
  cases q
  exact (hb _ _ _ _ e4).trans (ha _ _ _ _ e1)
/-- a sum of whole numbers, told as a difference -/
theorem de_addI (ha : DE τ X Φ a ca) (hb : DE τ X Φ b cb) : DE τ X Φ (.BinOp a .Add b pos) (.bin .sub ca (.bi .neg (.cons cb .nil))) := by
  refine peW (pe_op op_add ha hb) fun σ H Q h => ?_
  obtain ⟨μ, env, S, w, S', s, er, h1, h2⟩ := h
  simp only [ev, evs] at h1
  split at h1 <;> try (cases h1; done)
  rename_i x S1 e1
  split at h1 <;> try (cases h1; done)
  rename_i y S2 e2
  split at e2 <;> try (cases e2; done)
  rename_i ys S3 e3
  split at e3 <;> try (cases e3; done)
  rename_i z S4 e4
  cases e3
  cases z <;> simp only [opI] at e2 <;> try (cases e2; done)
  rename_i j
  cases e2
  cases x <;> simp only [opB] at h1 <;> try (cases h1; done)
  rename_i i
  cases h1
  refine ⟨μ, env, S, _, S1, s, er, e1, fun v μ1 H1 x1 s1 r1 => ⟨μ1, env, S1, _, S', s1, er.mono x1, e4, fun u μ2 H2 x2 s2 r2 => ?_⟩⟩
  cases r1
  cases r2
  refine ⟨i, j, rfl, rfl, ?_⟩
  have e0 : i + j = i - -j := by omega
  show Q (V.int (i + j)) H2
  rw [e0]
  exact h2 _ μ2 H2 (x1.trans x2) s2 (.int _)
/-- [*xs, y] -/
theorem de_starL {p : Pos} (ha : DE τ X Φ a ca) (hb : DE τ X Φ b cb) (hs : starEach [b] X.env = (false, eval b X.env) :: starEach [] X.env := by rfl) (hs1 : starEach [.Starred a p, b] X.env = (true, eval a X.env) :: starEach [b] X.env := by rfl)
    (hst : ∀ env S w S', ev Φ cb env S = some (w, S') → S' = S) : DE τ X Φ (.List [.Starred a p, b] pos) (.bi (.x .starL) (.cons ca (.cons cb .nil))) := by
  refine peW (pe_lst (StX.pa_star ha (pa_cons hb pa_nil hs) hs1)) fun σ H Q h => ?_
  obtain ⟨μ, env, S, w, S', s, er, h1, h2⟩ := h
  obtain ⟨x, S1, y, S2, e1, e2, e3⟩ := ev_2 h1
  have e12 := hst _ _ _ _ e2
  subst e12
  cases x <;> simp only [opI, opJ] at e3 <;> try (cases e3; done)
  rename_i k
  split at e3 <;> try (cases e3; done)
  rename_i z hz
  refine ⟨μ, env, S, _, _, s, er, e1, fun v μ1 H1 x1 s1 r1 => ?_⟩
  cases r1 with
  | ref hk hkl =>
    obtain ⟨vs, q, t⟩ := s1.rd hk hz
    refine ⟨_, _, rfl, .inr q, μ1, env, _, _, _, s1, er.mono x1, e2, fun u μ2 H2 x2 s2 r2 => ?_⟩
    exact (h2.mono (x1.trans x2)).new s2 ((t.mono x2).append (.cons r2 .nil)) e3
/-- o.f += e of numbers, o a slot -/
theorem ds_faug {i : Nat} {x : Str} {p p3 : Pos} (F : FldOk X.K t f) (ho : DE τ X Φ (.Name x p) (.var i)) (he : DE τ X Φ e ce) (hl : f.cps.toList = l := by decide +kernel) (ht : ∃ c0, t = [c0] := by exact ⟨_, rfl⟩) : DS τ X Φ (.AugAssign (.Attribute (.Name x p) f p3) .Add e pos) (.fset t (.var i) l (.bin .sub (.fld t (.var i) l) (.bi .neg (.cons ce .nil)))) := by
  refine psW (ps_fldaug ho he in_add) fun D σ H h => ?_
  obtain ⟨μ, env, S, r, s, er, h1, h2⟩ := h
  have hi : ∃ w0, env[i]? = some (some w0) := by
    simp only [ex, ev] at h1
    cases q : env[i]? with
    | none => rw [q] at h1; simp at h1
    | some o =>
      cases o with
      | none => rw [q] at h1; simp at h1
      | some w0 => exact ⟨w0, rfl⟩
  obtain ⟨w0, hw0⟩ := hi
  have hv0 : ∀ S, ev Φ (.var i) env S = some (w0, S) := fun S => by simp only [ev, hw0]
  unfold ex at h1
  split at h1 <;> try (cases h1; done)
  rename_i w S1 e1
  rw [hv0] at h1
  split at h1 <;> try (cases h1; done)
  rename_i kk S0 heq
  cases heq
  unfold ev at e1
  split at e1 <;> try (cases e1; done)
  rename_i u S2 e2
  unfold ev at e2
  rw [hv0] at e2
  simp only at e2
  split at e2 <;> try (cases e2; done)
  rename_i c fs e4
  split at e2 <;> try (cases e2; done)
  rename_i hct
  obtain ⟨u', e5, e6⟩ := Option.map_eq_some_iff.mp e2
  cases e6
  split at e1 <;> try (cases e1; done)
  rename_i y S4 e7
  obtain ⟨y0, S5, e8, e9⟩ := ev_1 e7
  cases y0 <;> simp only [opI] at e9 <;> try (cases e9; done)
  rename_i j
  cases e9
  cases u <;> simp only [opB] at e1 <;> try (cases e1; done)
  rename_i i0
  cases e1
  split at h1 <;> try (cases h1; done)
  rename_i c2 fs2 e10
  split at h1 <;> try (cases h1; done)
  rename_i hc
  cases h1
  refine ⟨μ, env, _, _, _, s, er, hv0 _, fun v μ1 H1 x1 s1 r1 => ?_⟩
  cases r1 with
  | oref hk hko =>
    obtain ⟨h0, C, dx, vs, ha, hcl, hv⟩ := s1.rdo hk e4
    obtain ⟨xx, ex_, ec⟩ := id hcl
    obtain ⟨cl, na⟩ := F xx C (by rw [ex_]; exact hct) ec
    obtain ⟨vf, q1, q2⟩ := (hv.look hl).1 _ e5
    cases q2
    refine ⟨_, C, dx, vs, _, rfl, ha, cl, na, q1, μ1, env, _, _, S1, s1, er.mono x1, e8, fun z μ2 H2 x2 s2 r2 => ?_⟩
    cases r2
    have hk2 := x2.pre _ _ hk
    obtain ⟨h02, C2, dx2, vs2, ha2, hcl2, hv2⟩ := s2.rdo hk2 e10
    have ecc : c2 = c := by
      obtain ⟨c0, rfl⟩ := ht
      exact (List.mem_singleton.mp hc.1).trans (List.mem_singleton.mp hct).symm
    subst ecc
    have eC : C2 = C := hcl2.one hcl
    subst eC
    refine ⟨_, _, rfl, rfl, dx2, vs2, ha2, by rw [hv2.len]; omega, ?_⟩
    have e0 : i0 + j = i0 - -j := by omega
    rw [e0]
    obtain ⟨s3, x3⟩ := s2.writeF hk2 h02 ha2 hcl2 (hv2.put hl (.int (i0 - -j)))
    exact h2 _ μ2 _ ((x1.trans x2).trans x3) s3 (er.mono ((x1.trans x2).trans x3))
end
end MP
namespace MP
open PySem PySem.Spec PyProof.Rows L2
/-! ### the law's own def, which has the cells that closures capture -/
/-- what is asked of the law's def at its call -/
def spW (K : Fg) (Φ : Fns) (f : Nat) : Sp := fun vs H Q _ => ∃ (a : Addr) (ns : List Int), vs = [.ref a] ∧ FzL K H a (ns.map V.int) ∧ LamX.Tabs K.T H ∧ (∃ S', Φ f [.rol (ns.map W.int)] [] = some (.bl true, S')) ∧ ∀ H', Q (.bl true) H'
/-- as fn_law, of any promise that the law's call meets -/
theorem fn_lawS {τ : TZ} {sp : Sp} {P : Program} {w : World} {K : PySem.W.Frag} {mg : Str → Option Value} {base : Heap} {k : Nat} {f : Addr} {fd : FuncData} {x : Str} {Φ : Fns} {i : Nat} (F : FnOk P w K mg base CX0 k f fd [x] sp) (ls : ∀ {H : Hp} {a : Addr} {ns : List Int} {Q : VK} {E : XK}, FzL K H a (ns.map V.int) → LamX.Tabs τ.T H → (∃ S', Φ i [.rol (ns.map W.int)] [] = some (.bl true, S')) → (∀ H', Q (.bl true) H') → sp [.ref a] H Q E) : FnOk P w K mg base CX0 k f fd [x] (spLaw K τ Φ i) := by
  refine ⟨fun vs H Q E ⟨a, ns, e, _⟩ => by rw [e]; rfl, fun A outer s H args us vs Q E hr e0 hb hv ⟨a, ns, e, hs, t, h, hq⟩ => ?_⟩
  subst e
  rcases hs with (q | ⟨o, q⟩) | q
  · obtain ⟨hz, its, n, rv, ho⟩ := e0.hok a _ q
    have nH : ∀ b u, H b = some u → (∀ vs, u ≠ .lst vs) → b ≠ a := fun b u e z y => by
      rw [y, q] at e
      exact z _ (Option.some.inj e).symm
    have nN : ∀ b, H b = none → b ≠ a := fun b e y => by
      rw [y, q] at e
      cases e
    let o : Obj := { cls := .type "list", data := .seq its.toArray n }
    have e1 : Env0 P w K mg base A outer s (upd H a (.frz o (.lst (ns.map V.int)))) := ⟨e0.frames, e0.mod, fun b ob e => ⟨(e0.bs b ob e).1, by rw [upd_ne (nN b (e0.bs b ob e).2)]; exact (e0.bs b ob e).2⟩, e0.bsz, e0.funs, fun b hb => by rw [upd_ne (nN b (e0.frf b hb))]; exact e0.frf b hb, fun b u e => by
      by_cases hba : b = a
      · subst hba
        rw [upd_same] at e
        cases e
        exact ⟨ho, hz, its, n, rv, ho⟩
      · rw [upd_ne hba] at e
        exact (e0.hok b u e).stay (fun _ _ _ z => z) (fun c z => by rw [upd_ne (nH c _ z (fun _ y => nomatch y))]; exact z) fun c xs z => by rw [upd_ne (nH c _ z (fun _ y => nomatch y))]; exact z, e0.bare⟩
    have t1 : LamX.Tabs τ.T (upd H a (.frz o (.lst (ns.map V.int)))) := tb_upd t fun u e => by
      rw [q] at e
      cases e
      exact ⟨st_lst.nb, st_lst.nc⟩
    refine codeAny_mono (F.run A outer s _ args us [.ref a] (fun v _ => v = .bl true) E hr e1 hb hv (ls (.inl ⟨o, upd_same⟩) t1 h fun _ => rfl)) fun r s' hc => ?_
    cases r with
    | error e => exact False.elim hc
    | ok fl =>
      cases fl with
      | next => exact False.elim hc
      | brk => exact False.elim hc
      | cont => exact False.elim hc
      | ret u =>
        obtain ⟨v, H1, os, bare, un, hok, rv', q'⟩ := hc
        have z1 := un.frzs a o (.lst (ns.map V.int)) upd_same
        have n1 : ∀ b u, H1 b = some u → (∀ ob u', u ≠ .frz ob u') → b ≠ a := fun b u e z y => by
          rw [y, z1] at e
          exact z _ _ (Option.some.inj e).symm
        refine ⟨v, upd H1 a (.lst (ns.map V.int)), os, bare, ⟨fun b ob e n1 n2 n3 => un.keep b ob e (by rw [upd_ne (nN b n1)]; exact n1) n2 n3, fun b ob e n1 n2 n3 => un.slot b ob e (by rw [upd_ne (nN b n1)]; exact n1) n2 n3, fun b ob e n1 n3 => by rw [upd_ne (nN b n1)]; exact un.free b ob e (by rw [upd_ne (nN b n1)]; exact n1) n3, un.there, fun b xs e => ?_, fun b ob u' e => ?_, fun b ps e => ?_⟩, fun b u' e => ?_, rv', ?_⟩
        · have nb := nH b _ e (fun _ y => nomatch y)
          rw [upd_ne nb]
          exact un.tups b xs (by rw [upd_ne nb]; exact e)
        · have nb := nH b _ e (fun _ y => nomatch y)
          rw [upd_ne nb]
          exact un.frzs b ob u' (by rw [upd_ne nb]; exact e)
        · have nb := nH b _ e (fun _ y => nomatch y)
          rw [upd_ne nb]
          exact un.tbls b ps (by rw [upd_ne nb]; exact e)
        · by_cases hba : b = a
          · subst hba
            rw [upd_same] at e
            cases e
            exact (hok b _ z1).2
          · rw [upd_ne hba] at e
            exact (hok b u' e).stay (fun _ _ _ z => z) (fun c z => by rw [upd_ne (n1 c _ z (fun _ _ y => nomatch y))]; exact z) fun c xs z => by rw [upd_ne (n1 c _ z (fun _ _ y => nomatch y))]; exact z
        · have q2 : v = .bl true := q'
          subst q2
          exact hq _
  · exact F.run A outer s H args us [.ref a] Q E hr e0 hb hv (ls (.inl ⟨o, q⟩) t h hq)
  · exact F.run A outer s H args us [.ref a] Q E hr e0 hb hv (ls (.inr q) t h hq)
section
variable {P : Program} {w : World} {K : PySem.W.Frag} {mg : Str → Option Value} {base : Heap} {τ : TZ} {x : Str} {st : Stmt} {f : Addr} {fd : FuncData} {N ps : List Str} {k i : Nat} {ds : Nat → Option Def} {body : CSs}
theorem fn_okC (l : Nat) (F : Fun K x x st f fd) (Sc : FnScope N ps (defScope st)) (hd : ds i = some ⟨1, N.length, body⟩) (hn : ps.length = 1) (q : Str) (hC : CodAt K mg base τ f q)
    (hbody : ∀ (cdv : Value) (A : Around) (outer : List PySem.Env) (s : Shared) (H : Hp) (E : XK), Room (l + 1) A → (x ++ ".<locals>." ++ "<lambda>" = q → ∀ C, LamAt { τ with C := C } (cxOf CX0 P w K mg base N x (defScope st) f cdv A outer s H E).nox) → (∀ env, Room l ((A.deeper (envOfC x (defScope st) s.heap.objs.size f cdv)).in1.in1.deeper env)) → Room l (A.deeper (envOfC x (defScope st) s.heap.objs.size f cdv)) →
      DSs { τ with C := (envOfC x (defScope st) s.heap.objs.size f cdv).cells } (cxOf CX0 P w K mg base N x (defScope st) f cdv A outer s H E).nox (callF ds k) (defBody st) body) : FnOk P w K mg base CX0 (l + 1) f fd ps (spW ⟨K, w, τ⟩ (callF ds (k + 1)) i) := by
  obtain ⟨oc, od, kV, doc, pm, an, cdv, ct, osl, rfl, lk, hcd⟩ := F.ex
  obtain ⟨c, P', h1, h2, h3, h4⟩ := hC
  have hc : cdv = .ref c := h1 _ _ lk rfl
  refine ⟨fun vs H Q E ⟨a, ns, e, _⟩ => by rw [e]; exact hn.symm, fun A outer s H args us vs Q E hr e0 hb rv h => ?_⟩
  obtain ⟨a, ns, e, hz, ht, ⟨S', g1⟩, g2⟩ := h
  subst e
  refine LamX.run_ofS lk hcd Sc hr e0 hb rv hn.symm fun hr2 => ⟨_, (hbody cdv A outer s H E hr (fun eq C => ⟨c, P', hc, h2, ?_, ?_⟩) (fun env => room_lam hr _ env) hr2).nox, ?_⟩
  · show (P', (x ++ ".<locals>.") ++ "<lambda>") ∈ τ.T
    rw [eq]
    exact h3
  · intro p hp e
    show p.2 = (x ++ ".<locals>.") ++ "<lambda>"
    rw [eq]
    exact h4 p hp e
  · have sr : SR (⟨K, w, { τ with C := (envOfC x (defScope st) s.heap.objs.size f cdv).cells }⟩ : KW) [] H [] := ⟨rfl, fun i j a h => by simp at h, fun k a o h => by simp at h, ht⟩
    have hv : VWs (⟨K, w, { τ with C := (envOfC x (defScope st) s.heap.objs.size f cdv).cells }⟩ : KW) [] H [.ref a] [.rol (ns.map W.int)] := .cons (.rol hz (VWs.ints ns)) .nil
    simp only [callF, hd] at g1
    split at g1
    · cases hr : exs (callF ds k) body (MP.start N.length [.rol (ns.map W.int)]) [] with
      | none =>
        rw [hr] at g1
        cases g1
      | some r =>
        rw [hr] at g1
        refine ⟨[], _, [], r, sr, hv.start, hr, ?_⟩
        cases r with
        | nx env S2 => cases g1
        | rt w2 S2 =>
          cases g1
          intro v μ' H' x' s' r'
          cases r'
          exact g2 H'
        | bk env S2 => cases g1
        | ct env S2 => cases g1
    · cases g1
theorem fn_law0 {y : Str} {Φ : Fns} (F : FnOk P w K mg base CX0 k f fd [y] (spW ⟨K, w, τ⟩ Φ i)) : FnOk P w K mg base CX0 k f fd [y] (spLaw K τ Φ i) := fn_lawS F fun hz t h hq => ⟨_, _, rfl, hz, t, h, hq⟩
end
end MP

/-! closures that may raise, methods that may raise -/
namespace MP
open PySem PySem.Spec PyProof.Rows L2
section
variable {X : Cx} {pins : List (Addr × Obj)} {σ : L2.St} {H : Hp} {s : Shared}
theorem run_fnRS {CX : CXT} {k : Nat} {f : Addr} {sp : Sp} {E : XK} {Q : VK} {us : List Value} {vs : List V} (F : FnR X.prog X.w X.K X.mg X.base CX k f sp) (hr : Room k X.A) (hx : PassesAt CX X σ E) (I : Inv X pins σ H s) (r : Vals vs us) (h : sp vs H Q E) :
    codeAny (model X.prog X.w) X.A (.call (.ref f) ⟨us, []⟩) (fun r s' => match r with | .ok (.ret v) => EP X pins σ Q v s' | .ok _ => False | .error e => X.xe e s') s := by
  refine codeAny_mono (F X.A X.stack s H us vs Q E hr I.env0 r h) fun r s' hq => ?_
  cases r with
  | error e => exact hx pins H s e s' I hq
  | ok fl =>
    cases fl with
    | ret u => exact I.after hq
    | next => exact False.elim hq
    | brk => exact False.elim hq
    | cont => exact False.elim hq
end
section
variable {P : Program} {w : World} {K : PySem.W.Frag} {mg : Str → Option Value} {base : Heap} {A : Around} {outer : List PySem.Env} {s s' : Shared} {H G : Hp} {cs : List Addr}
theorem mix_backX (e0 : Env0 P w K mg base A outer s H) (hc : ∀ b ∈ cs, MixAt s H G base outer b) {E E' : XK} {u : Value} (h : L2.CX P w outer (mixH cs G H) s E' u s') (q : ∀ cls d H', (∀ b ∈ cs, H' b = G b) → E' cls d H' → E cls d (mixH cs H H')) : L2.CX P w outer H s E u s' := by
  obtain ⟨a, B, H1, cls, d, eu, fl, hok, ub, na, os, bare, hE⟩ := h
  have nc : ∀ b u, H b = some u → (∀ o φ, u ≠ .frz o (.ext φ)) → b ∉ cs := fun b u e n hb => by
    obtain ⟨o, φ, z⟩ := (hc b hb).nH e
    exact n o φ z
  have eG : ∀ b ∈ cs, H1 b = G b := fun b hb => by
    obtain ⟨o, ho, _, h⟩ := (hc b hb).ob
    rcases h with h | ⟨u2, h, φ, h2, _⟩
    · rw [h]
      exact ub.free b o ho (by rw [mix_in hb]; exact h)
    · rw [h]
      subst h2
      exact ub.frzs b o _ (by rw [mix_in hb]; exact h)
  have nc1 : ∀ b u, H1 b = some u → (∀ o φ, u ≠ .frz o (.ext φ)) → b ∉ cs := fun b u e n hb => by
    rw [eG b hb] at e
    obtain ⟨o, φ, z⟩ := (hc b hb).nG e
    exact n o φ z
  have obk : ∀ b ∈ cs, ∀ o, s.heap.get? b = some o → B.get? b = some o := fun b hb o ho => by
    obtain ⟨o2, ho2, _, h⟩ := (hc b hb).ob
    rw [ho] at ho2
    cases ho2
    rcases h with h | ⟨u2, h, φ, h2, _⟩
    · exact ub.keep b o ho (by rw [mix_in hb]; exact h) (hc b hb).nf
    · have e1 : H1 b = some (.frz o (.ext φ)) := by rw [eG b hb, h, h2]
      exact (hok b _ e1).1
  have nca : a ∉ cs := fun hb => by
    obtain ⟨o, ho, _, _⟩ := (hc a hb).ob
    have := obk a hb o ho
    rw [fl.2.1] at this
    cases this
  refine ⟨a, B, mixH cs H H1, cls, d, eu, fl, fun b u e => ?_, ⟨fun b o ho n hf => ?_, fun b o ho hf => ub.slot b o ho hf, fun b o ho n => ?_, ub.there, fun b xs e => ?_, fun b o u e => ?_, fun b ps e => ?_⟩, by rw [mix_out nca]; exact na, os, bare, q _ _ H1 eG hE⟩
  · by_cases hb : b ∈ cs
    · rw [mix_in hb] at e
      obtain ⟨o, ho, h, _⟩ := (hc b hb).ob
      rcases h with h | ⟨φ, h⟩
      · rw [h] at e; cases e
      · rw [h] at e
        cases e
        obtain ⟨g1, g2, g3, g4⟩ := e0.hok b _ h
        exact ⟨obk b hb o ho, g4 _ _ g2 (fun o2 h2 => obk b hb o2 h2), ⟨o, obk b hb o ho⟩, g4⟩
    · rw [mix_out hb] at e
      exact (hok b u e).stay (fun _ _ _ z => z) (fun c z => by rw [mix_out (nc1 c _ z (fun _ _ y => nomatch y))]; exact z) fun c xs z => by rw [mix_out (nc1 c _ z (fun _ _ y => nomatch y))]; exact z
  · by_cases hb : b ∈ cs
    · exact obk b hb o ho
    · exact ub.keep b o ho (by rw [mix_out hb]; exact n) hf
  · by_cases hb : b ∈ cs
    · rw [mix_in hb]; exact n
    · rw [mix_out hb]; exact ub.free b o ho (by rw [mix_out hb]; exact n)
  · have hb := nc b _ e (fun _ _ y => nomatch y)
    rw [mix_out hb]
    exact ub.tups b xs (by rw [mix_out hb]; exact e)
  · by_cases hb : b ∈ cs
    · rw [mix_in hb]; exact e
    · rw [mix_out hb]; exact ub.frzs b o u (by rw [mix_out hb]; exact e)
  · have hb := nc b _ e (fun _ _ y => nomatch y)
    rw [mix_out hb]
    exact ub.tbls b ps (by rw [mix_out hb]; exact e)
theorem clo_callX {C : List (Str × Addr)} {nm : List Str} {q : Str} {scope : Scope} {params : Arguments} {body : Expr} {f c' : Addr} {pm ctv : Value} {x : Str} {v : V} {u : Value} {vz : List V} {t : TE} {Q : VK} {E : XK} (hN : (nm ++ [x]).Nodup) (L : LamQ nm scope x) (inj : ∀ y z c, C.lookup y = some c → C.lookup z = some c → y = z)
    (e0 : Env0 P w K mg base A outer s H) (hd : A.handled = none) (hdp : A.depth < recursionLimit) (cv : CellsV C H s.heap nm vz) (rv : RelV v u)
    (hf : s.heap.get? f = some (PySem.W.kla_obj "<lambda>" q params body scope (cloFrom C scope.names []) pm c' ctv)) (hc : H c' = some (LamX.CodeO c' q))
    (hb : bindArgs (PySem.W.kla_fn "<lambda>" q params body scope (cloFrom C scope.names []) pm (.ref c') ctv) ⟨[u], []⟩ = pure [(x, u)])
    (hbody : PE (cloCx P w K mg base (nm ++ [x]) C q scope f c' A outer s H E) body t) (h : t (cloSt vz v) H Q) :
    codeAny (model P w) A (.call (.ref f) ⟨[u], []⟩) (CR (L2.CX P w) outer P w H s Q E) s := by
  obtain ⟨⟨oc, vs, tq, hoc, hdc, hvc⟩, _, _⟩ := e0.hok c' _ hc
  have lim : s.heap.NoLimit := e0.mod.nolimit.keeps fun b o e => (e0.bs b o e).1
  refine PySem.W.kla_callFunE hdp hf rfl L.co L.gen rfl ⟨c', oc, vs, tq, rfl, hoc, hdc, hvc⟩ ?_
  rw [hb]
  refine wpAny_pure (wpAny_newFunctionEnv (fun y hy => (L.own y hy).1) (fun y hy => by
    obtain rfl : y = (x, u) := by simpa using hy
    exact L.par) (fun h₁ hns hsb => ⟨lim.fresh _ hsb, ?_⟩) L.kind)
  show codeAny _ _ (.expr body (cloEnv C q scope s.heap.objs.size f c')) _ _
  have kp : ∀ b o, s.heap.get? b = some o → h₁.get? b = some o := fun b o e => hsb.extBut b o (Nat.ne_of_lt (Heap.lt_size e)) (Heap.get?_push_of_some _ e)
  have J := clo_start (A := A) (outer := outer) (E := E) (q := q) (f := f) (c' := c') (tk := s.toks + ([(x, u)] : List (Str × Value)).length) hN L inj e0 hd cv rv hns kp
  refine PySem.W.kla_codeExpr (wpAny_mono (hbody.run [] _ _ H Q J h) (fun v s' hq => ?_) fun e s' hq => hq)
  obtain ⟨w', H', J', rv', q⟩ := hq
  exact ⟨w', H', J'.os, J'.bare, J'.base, J'.hok, rv', q⟩
end
/-- an error's row, where the cells stand otherwise -/
theorem ExcR.go {K K' : Fg} {μ : List Addr} {H H' : Hp} {cls : Value} {d : Option Addr} {c : List Nat} {fs : List (List Nat × W)} (ek : K'.k = K.k) (ew : K'.w = K.w) (k : Keeps H H') (r : ExcR K μ H cls d c fs) : ExcR K' μ H' cls d c fs :=
  ⟨by rw [ek]; exact r.cl, r.no, fun n w h => by
    obtain ⟨dd, gs, y, v, e1, e2, e3, e4, e5, e6⟩ := r.fl n w h
    exact ⟨dd, gs, y, v, e1, k _ _ e2 (fun _ _ z => nomatch z), e3, e4, e5, VW.go ek ew k e6⟩⟩
def spCloX (K : Fg) (Φ : Fns) (l : Nat) (f : Addr) : Sp := fun vs H Q E => vs.length = 1 ∧ ∃ d c' pm ctv, K.tz.lam l = some d ∧ H f = some (FnO f (PySem.W.kla_fn "<lambda>" d.q d.params d.body d.scope (cloFrom K.tz.C d.scope.names []) pm (.ref c') ctv)) ∧ H c' = some (LamX.CodeO c' d.q) ∧
  (∀ y z c, K.tz.C.lookup y = some c → K.tz.C.lookup z = some c → y = z) ∧ ∃ μ S ws zs w S', SR K μ H S ∧ VWs K μ H vs ws ∧ Fz K μ H K.tz.nm zs ∧ Φ l (zs ++ ws) (relock [] S) = some (w, S') ∧ Aft K μ H (relock zs S') w Q ∧ ExcP K μ H (relock zs S') w E
theorem clo_zeroX {τ : TZ} {P : Program} {w : World} {K : PySem.W.Frag} {mg : Str → Option Value} {base : Heap} {ds : Nat → Option Def} {k l : Nat} (f : Addr) : FnR P w K mg base (L2.CX P w) k f (spCloX ⟨K, w, τ⟩ (callF ds 0) l f) := by
  intro A outer s H us vs Q E hr e0 rv ⟨len, d', c', pm, ctv, hl', hf, hc, inj, μ, S, ws, zs, w', S', sr, vw, fz, hΦ, aft⟩
  cases hΦ
theorem clo_fnRX (rr : Nat) {τ : TZ} {P : Program} {w : World} {K : PySem.W.Frag} {mg : Str → Option Value} {base : Heap} {ds : Nat → Option Def} {k l : Nat} {d : LamD} {x : Str} {cb : CX} (hl : τ.lam l = some d) (hN : (τ.nm ++ [x]).Nodup) (L : LamQ τ.nm d.scope x)
    (hb : ∀ (cl : List (Str × Addr)) (pm cv ctv u : Value), bindArgs (PySem.W.kla_fn "<lambda>" d.q d.params d.body d.scope cl pm cv ctv) ⟨[u], []⟩ = pure [(x, u)]) (hd : ds l = some ⟨τ.nm.length + 1, τ.nm.length + 1, .cons (.retX cb) .nil⟩)
    (hbody : ∀ (A : Around) (outer : List PySem.Env) (s : Shared) (H : Hp) (f c' : Addr) (E : XK), Room rr (A.deeper (cloEnv τ.C d.q d.scope s.heap.objs.size f c')) → Takes (cloCx P w K mg base (τ.nm ++ [x]) τ.C d.q d.scope f c' A outer s H E) (fun cls d _ H => E cls d H) → DX (τ) (cloCx P w K mg base (τ.nm ++ [x]) τ.C d.q d.scope f c' A outer s H E) (callF ds k) (fun cls d _ H => E cls d H) d.body cb) (f : Addr) :
    FnR P w K mg base (L2.CX P w) (rr + 1) f (spCloX ⟨K, w, τ⟩ (callF ds (k + 1)) l f) := by
  intro A outer s H us vs Q E hr e0 rv ⟨len, d', c', pm, ctv, hl', hf, hc, inj, μ, S, ws, zs, w', S', sr, vw, fz, hΦ, aft, exp⟩
  have hl' : τ.lam l = some d' := hl'
  rw [hl] at hl'
  cases hl'
  obtain ⟨cs, vz, vzr, cH, cV⟩ := fz.cells
  have mx : ∀ b ∈ cs, MixAt s H (fun _ => none) base outer b := fun b hb => by
    obtain ⟨o, φ, e⟩ := cH b hb
    refine ⟨?_, fun z => ?_, o, (e0.hok b _ e).1, .inr ⟨φ, e⟩, .inl rfl⟩
    · cases q : base.get? b with
      | none => rfl
      | some o2 =>
        have := (e0.bs b o2 q).2
        rw [e] at this
        cases this
    · have := e0.frf b z
      rw [e] at this
      cases this
  have kk := mix_keeps mx
  have e0t := mix_env0 e0 mx
  have cells := cV P w s.heap cs e0.hok fun c hc => hc
  match vs, us, rv, len with
  | [v], [u], .cons rv1 .nil, _ =>
    match ws, vw with
    | [wa], .cons ra .nil =>
      have lz := vzr.length
      have lv := cells.len
      have fO := (e0.hok f _ hf).1
      simp only [callF, hd] at hΦ
      split at hΦ <;> try (cases hΦ; done)
      rename_i hlen
      have hret : ∃ S1, evx (callF ds k) cb ((zs ++ [wa]).map some) (relock [] S) = some (w', S1) ∧ S1 = S' := by
        have es : MP.start (τ.nm.length + 1) (zs ++ [wa]) = (zs ++ [wa]).map some := by
          unfold MP.start
          rw [hlen, Nat.sub_self]
          simp
        rw [es] at hΦ
        simp only [exs, ex] at hΦ
        cases e : evx (callF ds k) cb ((zs ++ [wa]).map some) (relock [] S) with
        | none => rw [e] at hΦ; simp [fin] at hΦ
        | some p =>
          obtain ⟨w2, S2⟩ := p
          rw [e] at hΦ
          simp [fin] at hΦ
          obtain ⟨rfl, rfl⟩ := hΦ
          exact ⟨_, rfl, rfl⟩
      obtain ⟨S1, he, rfl⟩ := hret
      have s0 : SR (⟨K, w, τ⟩ : KW) μ (mixH cs (fun _ => none) H) (relock [] S) := SR.go (K := ⟨K, w, τ⟩) rfl rfl rfl rfl rfl rfl kk (fun j l z hz hne => absurd (relock_clo hz) hne) (sr.relock [] fun z => absurd rfl z)
      have back : ∀ {μ' : List Addr} {H' : Hp}, (∀ b ∈ cs, H' b = none) → Ex (⟨K, w, τ⟩ : KW) μ (mixH cs (fun _ => none) H) μ' H' → SR (⟨K, w, τ⟩ : KW) μ' H' S1 → Ex (⟨K, w, τ⟩ : KW) μ H μ' (mixH cs H H') ∧ SR (⟨K, w, τ⟩ : KW) μ' (mixH cs H H') (relock zs S1) := fun {μ' H'} e x' s' => by
        have kb := mix_keepsB mx e
        have xx := ex_mix (K := ⟨K, w, τ⟩) (K' := ⟨K, w, τ⟩) rfl rfl mx e x' s'
        refine ⟨xx, ?_⟩
        have s2 : SR (⟨K, w, τ⟩ : KW) μ' H' (relock [] S1) := s'.relock [] fun z => absurd rfl z
        have s3 : SR (⟨K, w, τ⟩ : KW) μ' (mixH cs H H') (relock [] S1) := SR.go (K := ⟨K, w, τ⟩) rfl rfl rfl rfl rfl rfl kb (fun j l2 z hz hne => absurd (relock_clo hz) hne) s2
        have := s3.relock zs fun _ => fz.monoY xx.toEy
        rwa [relock_relock] at this
      have t : tDX (⟨K, w, τ⟩ : KW) (callF ds k) cb (fun cls d _ H' => (∀ b ∈ cs, H' b = none) → E cls d (mixH cs H H')) (cloSt vz v) (mixH cs (fun _ => none) H) (fun v H' => (∀ b ∈ cs, H' b = none) → Q v (mixH cs H H')) := by
        refine ⟨μ, (zs ++ [wa]).map some, relock [] S, w', S1, s0, ⟨by simp [lz], fun i w2 hi => ?_⟩, he, fun v2 μ' H' x' s' r' e => ?_, fun c fs q μ' H' cls d x' s' r' e => ?_⟩
        · have vv : VWs (⟨K, w, τ⟩ : KW) μ (mixH cs (fun _ => none) H) (vz ++ [v]) (zs ++ [wa]) := (VWs.go (K := ⟨K, w, τ⟩) (K' := ⟨K, w, τ⟩) rfl rfl kk vzr).append (.cons (VW.go (K := ⟨K, w, τ⟩) (K' := ⟨K, w, τ⟩) rfl rfl kk ra) .nil)
          rw [List.getElem?_map] at hi
          obtain ⟨w3, h3, h4⟩ := Option.map_eq_some_iff.mp hi
          cases h4
          obtain ⟨v3, h5, h6⟩ := vv.get h3
          refine ⟨v3, ?_, h6⟩
          have es : cloSt vz v = (vz ++ [v]).map some := by simp [cloSt]
          rw [es, List.getElem?_map, h5]
          rfl
        · obtain ⟨xx, ss⟩ := back e x' s'
          exact aft v2 μ' (mixH cs H H') xx ss (VW.go (K := ⟨K, w, τ⟩) (K' := ⟨K, w, τ⟩) rfl rfl (mix_keepsB mx e) r')
        · obtain ⟨xx, ss⟩ := back e x' s'
          exact exp c fs q μ' (mixH cs H H') cls d xx ss (ExcR.go (K := ⟨K, w, τ⟩) (K' := ⟨K, w, τ⟩) rfl rfl (mix_keepsB mx e) r')
      refine codeAny_mono (clo_callX (E := fun cls d H' => (∀ b ∈ cs, H' b = none) → E cls d (mixH cs H H')) hN L inj e0t hr.hd hr.depth cells rv1 fO (kk _ _ hc (fun _ _ z => nomatch z)) (hb _ _ _ _ _) (hbody A outer s _ f c' _ (hr.deeper _) (takes_of rfl rfl rfl rfl)) t) fun r s' hq => ?_
      cases r with
      | error e => exact mix_backX e0 mx hq fun cls d H' e q => q e
      | ok fl =>
        cases fl with
        | ret u => exact mix_back e0 mx hq fun v H' e q => q e
        | next => exact False.elim hq
        | brk => exact False.elim hq
        | cont => exact False.elim hq
section
variable {τ : TZ} {X : Cx} {Φ : Fns} {Z : WX} {a b d e : Expr} {es : List Expr} {ca cb cd ce : CE} {cx : CX} {pos apos : Pos}
/-- a closure that a slot holds is called, and may raise -/
theorem dx_callc {k j : Nat} {y : Str} {p : Pos} (tk : Takes X Z) (R : ∀ l f, τ.lam l ≠ none → FnR X.prog X.w X.K X.mg X.base (L2.CX X.prog X.w) k f (spCloX (kwOf τ X) Φ l f)) (hr : Room k X.A) (hN : X.N[j]? = some y) (ha : DE τ X Φ e ce)
    (hv : Vis X.env.scope y := by first | exact .inl rfl | exact .inr (.inl rfl) | exact .inr (.inr rfl)) (hdb : (y == ("__debug__" : Str)) = false := by decide) (hcd : (y == ("__classdict__" : Str)) = false := by decide)
    (he : starEach [e] X.env = (false, eval e X.env) :: starEach [] X.env := by rfl) (hpl : (backTo pos (starEach [] X.env)).any (·.1) = false := by rfl) : DX τ X Φ Z (.Call (.Name y p) [e] [] pos) (.callc j (.cons ce .nil)) := by
  refine ⟨fun pins s σ H Q I h => ?_⟩
  obtain ⟨μ, env, S, w, S', sr, er, h1, h2, h3⟩ := h
  simp only [evx] at h1
  split at h1 <;> try (cases h1; done)
  rename_i kk hj
  split at h1 <;> try (cases h1; done)
  rename_i xs S1 e1
  split at h1 <;> try (cases h1; done)
  rename_i l zs e2
  split at h1 <;> try (cases h1; done)
  rename_i hne0
  split at h1 <;> try (cases h1; done)
  rename_i w2 S2 e3
  cases h1
  obtain ⟨v, q1, q2⟩ := er.2 j _ hj
  cases q2 with
  | @lref a _ hk hfn =>
    refine wpAny_Call_Name_kw (thn ((pe_var (pos := p) (i := j) hN hv hdb hcd).run pins s σ H (fun v H1 => v = .ref a ∧ H1 = H) I ⟨.ref a, q1, rfl, rfl⟩) fun u s1 ⟨v, H1, I1, rx, ev_, eH⟩ => ?_)
    subst ev_
    subst eH
    obtain rfl : u = Value.ref a := rx
    have fnAt : ∀ {H2 : Hp} {s2 : Shared}, Inv X pins σ H2 s2 → (∃ fd, H2 a = some (FnO a fd)) → PySem.W.FnAt a s2.heap := fun {H2 s2} I2 ⟨fd, q⟩ => ⟨_, _, _, _, (I2.hok a _ q).1⟩
    have hA : tCons (tD (kwOf τ X) Φ ce) tNil σ H1 fun vs H2 => ∃ μ2, Ex (kwOf τ X) μ H1 μ2 H2 ∧ SR (kwOf τ X) μ2 H2 S1 ∧ VWs (kwOf τ X) μ2 H2 vs xs := by
      simp only [evs] at e1
      split at e1 <;> try (cases e1; done)
      rename_i x S3 e4
      cases e1
      exact ⟨μ, env, S, x, _, sr, er, e4, fun v μ1 H2 x1 s1 r1 => ⟨μ1, x1, s1, .cons r1 .nil⟩⟩
    refine PySem.W.callWith_F (first := []) (fnAt I1 hfn) (thn ((pa_cons ha pa_nil he).run pos pins s1 σ H1 _ I1 hA) fun us s2 ⟨vs, H2, I2, r, μ2, x2, sr2, rv⟩ => ⟨fnAt I2 (x2.kc _ _ hk hfn), ?_⟩) he hpl
    have hk2 := x2.pre _ _ hk
    have hS : S1[kk]? = some (.clo l zs) := by
      unfold rdC at e2
      split at e2 <;> try (cases e2; done)
      rename_i l2 z2 h
      cases e2
      exact h
    obtain ⟨d, c', pm, ctv, g1, g2, g3, g4, g5⟩ := sr2.at_ kk a _ hk2 hS
    have hne : τ.lam l ≠ none := fun z => by
      have g1 : τ.lam l = some d := g1
      rw [z] at g1
      cases g1
    have len1 : vs.length = 1 := by rw [rv.length, evs_len _ e1]; rfl
    exact wpAny_call (run_fnRS (CX := L2.CX X.prog X.w) (E := WE Z σ) (R l a hne) hr (passAt tk σ) I2 r ⟨len1, d, c', pm, ctv, g1, g2, g3, g4, μ2, S1, xs, zs, w, S2, sr2, rv, g5 (fun z => hne0 (by rw [z]; rfl)), e3, h2.mono x2, h3.mono x2⟩)
/-- e if d else (what may raise) -/
theorem dx_ite (hd : DT τ X Φ d cd) (ha : DE τ X Φ a ca) (hb : DX τ X Φ Z b cx) : DX τ X Φ Z (.IfExp d a b pos) (.ite cd ca cx) := by
  refine peW (pe_ifExp hd ha hb) fun σ H Q h => ?_
  obtain ⟨μ, env, S, w, S', s, er, h1, h2, h3⟩ := h
  simp only [evx] at h1
  split at h1
  · rename_i S1 e1
    refine ⟨μ, env, S, _, S1, s, er, e1, fun μ1 H1 x1 s1 => ?_⟩
    refine iteT ?_
    split at h1
    · cases h1
    · exact ⟨μ1, env, S1, w, S', s1, er.mono x1, h1, h2.mono x1⟩
  · rename_i S1 e1
    refine ⟨μ, env, S, _, S1, s, er, e1, fun μ1 H1 x1 s1 => ?_⟩
    refine iteF ?_
    exact ⟨μ1, env, S1, w, S', s1, er.mono x1, h1, h2.mono x1, h3.mono x1⟩
  · cases h1
/-- a method that may raise -/
structure MetX (P : Program) (w : World) (K : Fg) (mg : Str → Option Value) (base : Heap) (k : Nat) (Φ : Fns) (x m : Str) (i n : Nat) : Prop where
  ex : ∃ (C f : Addr) (fd : FuncData) (ps : List Str), Cls K.k C ∧ Meth K.k C m f ∧ PySem.W.nsIn K.k mainGlobals x = some (some (.ref C)) ∧ FnOk P w K.k mg base (L2.CX P w) k f fd ps (spX K Φ i (n + 1)) ∧ Binds K.k fd ps []
/-- y.m() -/
theorem dx_meth0 {k i j : Nat} {x m y : Str} {c lm : List Nat} {p : Pos} (tk : Takes X Z) (M : MetX X.prog X.w (kwOf τ X) X.mg X.base k Φ x m i 0) (hr : Room k X.A) (hN : X.N[j]? = some y) (hc : x.cps.toList = c := by decide +kernel) (hlm : m.cps.toList = lm := by decide +kernel)
    (hv : Vis X.env.scope y := by first | exact .inl rfl | exact .inr (.inl rfl) | exact .inr (.inr rfl)) (hd : (y == ("__debug__" : Str)) = false := by decide) (hcd : (y == ("__classdict__" : Str)) = false := by decide) {pl : Sem Bool}
    (ht : eval (.Call (.Attribute (.Name y p) m apos) [] [] pos) X.env = (do
      let ov ← eval (.Name y p) X.env
      standAt apos.atName
      let (f, first) ← holding [ov] (getMethod ov m pl)
      callWith pos f first (backTo pos (starEach [] X.env)) (backToKw pos (keywordEach [] X.env))) := by rfl) :
    DX τ X Φ Z (.Call (.Attribute (.Name y p) m apos) [] [] pos) (.meth [(c, i)] lm (.var j)) := by
  obtain ⟨C, g, fd, ps, cl, hm, hns, F, hb⟩ := M.ex
  refine ⟨fun pins s σ H Q I h => ?_⟩
  obtain ⟨μ, env, S, w, S', sr, er, h1, h2, h3⟩ := h
  simp only [evx, ev] at h1
  split at h1 <;> try (cases h1; done)
  rename_i kk S1 e1
  split at e1 <;> try (cases e1; done)
  rename_i wv hj
  cases e1
  split at h1 <;> try (cases h1; done)
  rename_i c' fs e2
  split at h1 <;> try (cases h1; done)
  rename_i g' e3
  split at h1 <;> try (cases h1; done)
  rename_i e4
  have hcc : c' = c ∧ g' = i := by
    by_cases z : c' = c
    · subst z
      simp at e3
      exact ⟨rfl, e3.symm⟩
    · have zz : (c' == c) = false := beq_eq_false_iff_ne.mpr z
      rw [List.lookup_cons, zz] at e3
      simp at e3
  obtain ⟨rfl, rfl⟩ := hcc
  obtain ⟨v, q1, q2⟩ := er.2 j _ hj
  cases q2 with
  | @oref a _ hk hko =>
    refine PySem.W.methodCall_KW (pl := pl) (thn ((pe_var (pos := p) (i := j) hN hv hd hcd).run pins s σ H (fun v H1 => v = .ref a ∧ H1 = H) I ⟨.ref a, q1, rfl, rfl⟩) fun u s1 ⟨v, H1, I1, rx, ev_, eH⟩ => ?_) ht
    subst ev_
    subst eH
    obtain rfl : u = Value.ref a := rx
    obtain ⟨h0, C', dx, vs, hh, hcl, hf⟩ := sr.rdo hk e2
    have eC : C' = C := hcl.one ⟨x, hc, hns⟩
    subst eC
    refine getmeth_ok I1 hh cl hm ((hf.look hlm).2 e4) ?_
    refine PySem.W.callWith_K0 (first := [.ref a]) I1.kIn hm.kp ?_
    exact run_fnS (E := WE Z) (us := [.ref a]) (vs := [.ref a]) F hr hb (passAt tk σ) I1 (.cons rfl .nil) ⟨rfl, μ, S, [.oref kk], w, S', sr, .cons (.oref hk hko) .nil, h1, h2, h3⟩
end
section
variable {τ : TZ} {X : Cx} {Φ : Fns} {cat : List (List Nat)} {i : Nat} {a : Addr} {cls : Value} {d : Option Addr} {es : List Expr} {cs : CEs} {pos : Pos}
theorem ee_tup {x1} (h : PA X es (tEA (kwOf τ X) Φ cat i a cls d cs)) : PE X (.Tuple es x1 pos) (tEE (kwOf τ X) Φ cat i a cls d (.tup cs)) := by
  refine peW (pe_tup h) fun σ H Q h => ?_
  obtain ⟨μ, env, S, w, S', c, fs, hd, s, er, h1, h2⟩ := h
  simp only [ev] at h1
  split at h1 <;> try (cases h1; done)
  rename_i xs S1 e1
  split at h1 <;> try (cases h1; done)
  rename_i hl
  cases h1
  refine ⟨μ, env, S, xs, _, c, fs, hd, s, er, e1, fun vs μ1 H1 x1 s1 r1 => ⟨?_, ?_⟩⟩
  · rw [r1.length]
    exact lim_ok hl
  · exact (h2.mono x1).tup s1 r1
end
section
variable {τ : TZ} {P : Program} {w : World} {K : PySem.W.Frag} {mg : Str → Option Value} {base : Heap} {x m q : Str} {st : Stmt} {ps : List Str} {k i n : Nat} {Φ : Fns}
theorem MtS.metX (M : MtS K x m q st) (hf : ∀ f fd, Fun K m q st f fd → FnOk P w K mg base (L2.CX P w) k f fd ps (spX ⟨K, w, τ⟩ Φ i (n + 1))) (hb : ∀ f fd, Fun K m q st f fd → Binds K fd ps []) : MetX P w ⟨K, w, τ⟩ mg base k Φ x m i n := by
  obtain ⟨C, f, fd, F, hc, hm, hn⟩ := M.ex
  exact ⟨C, f, fd, ps, hc, hm, hn, hf f fd F, hb f fd F⟩
end
section
variable {τ : TZ} {X : Cx} {Φ : Fns}
/-- f(y), the closures' cells still meanwhile -/
theorem de_fzcall {k i j : Nat} {x y : Str} {zs : List Nat} {p p2 pos : Pos} (L : LawC τ X zs) (G : Cal X.prog X.w (kwOf τ X) X.mg X.base k Φ x i 1) (hr : Room k X.A) (hN : X.N[j]? = some y) (hg : Gl X x := by rfl) (hdb : (x == ("__debug__" : Str)) = false := by decide)
    (hv : Vis X.env.scope y := by first | exact .inl rfl | exact .inr (.inl rfl) | exact .inr (.inr rfl)) (hd : (y == ("__debug__" : Str)) = false := by decide) (hcd : (y == ("__classdict__" : Str)) = false := by decide)
    (he : starEach [.Name y p2] X.env = (false, eval (.Name y p2) X.env) :: starEach [] X.env := by rfl) (hpl : (backTo pos (starEach [] X.env)).any (·.1) = false := by rfl) :
    DE τ X Φ (.Call (.Name x p) [.Name y p2] [] pos) (.fz zs (.call i (.cons (.var j) .nil))) := by
  obtain ⟨f, fd, ps, F, hm, hk, hb⟩ := G.ex
  refine ⟨fun pins s σ H Q I h => ?_⟩
  obtain ⟨μ, env, S, w, S', sr, er, h1, h2⟩ := h
  simp only [ev, evs] at h1
  split at h1 <;> try (cases h1; done)
  rename_i ws hws
  split at h1 <;> try (cases h1; done)
  rename_i wr Sr hr1
  cases h1
  have h1 := hr1
  split at h1 <;> try (cases h1; done)
  rename_i xs S1 e1
  split at e1 <;> try (cases e1; done)
  rename_i wv S2 e2
  cases e1
  split at e2 <;> try (cases e2; done)
  rename_i wv2 hj
  cases e2
  obtain ⟨v, q1, q2⟩ := er.2 j _ hj
  refine wpAny_Call_Name_kw (ld_glob I hg hm ?_ hdb)
  have hA : tCons (tVar j) tNil σ H fun vs H2 => vs = [v] ∧ H2 = H := ⟨v, q1, rfl, rfl⟩
  refine PySem.W.callWith_K (h₀ := X.base) I.ok.mod.kin hk (thn ((pa_cons (pe_var (pos := p2) (i := j) hN hv hd hcd) pa_nil he).run pos pins s σ H _ I hA) fun us s1 ⟨vs, H1, I1, r, ev_, eH⟩ => ⟨I1.kIn, ?_⟩) he hpl
  subst ev_
  subst eH
  obtain ⟨cs, lc⟩ := lc_of I1 er L.sl hws
  exact run_mix (us := us) (vs := [v]) (FnOk.raw F hb .nil) hr I1 r (lc.mix L.fn I1) (by
    show spD (kwOf τ X) Φ i 1 ([v] ++ []) _ _ E0
    exact spZ_law L I1 sr lc (.cons q2 .nil) rfl h1 h2)
end
end MP
/-! errors right over LookupError with a field that is a number, which the message shows -/
namespace MP
open PySem PySem.Spec PyProof.Rows L2 NdefX
def sp1LI (K : PySem.W.Frag) (C : Addr) (fl : Str) : Sp := fun vs H Q _ => ∃ (a : Addr) (y : Int), vs = [.ref a, .int y] ∧ H a = some (exo a C none) ∧ y.natAbs.log2 < 1920 ∧ ∀ d, H d = none → d ≠ a → Q .non (upd (upd H d (exd d [(fl, .int y)])) a (exo a C (some d)))
theorem js_cRI {s1 : Str} {y : Int} {σ : L2.St} {H : Hp} {Q : VK} {i : Nat} (h : s1.length ≤ 1000) (hs : σ[i]? = some (some (.int y))) (hy : y.natAbs.log2 < 1920) (q : ∀ z : Str, Q (.str z) H) : tJs [tC (.str s1), tFmtR (tVar i)] Str.empty σ H fun out H1 => Q (.str out) H1 := by
  have e0 : Str.empty.length ≤ 0 := by decide
  have l1 := app_len e0 h
  have l2 : (Str.ofString (toString y)).length ≤ 2000 := by
    rw [PySem.ofString_length]
    have := PySem.int_text_length_le (a := y) (k := y.natAbs.log2 + 1) (by omega) (by omega)
    omega
  refine ⟨s1, rfl, by rw [sizeLine_eq]; omega, .int y, hs, .inr ⟨y, rfl, hy, _, rfl, ?_, q _⟩⟩
  have := app_len l1 l2
  rw [sizeLine_eq]
  omega
section
variable {τ : TZ} {X : Cx} {Φ : Fns} {E : XK} {e : Expr} {ce : CE}
/-- raise C(e), e a number -/
theorem sx_raise1LI {x qual : Str} {c l : List Nat} {st : Stmt} {C f cda cc : Addr} {fd : FuncData} {k : Nat} {fl : Str} {p p1 pos : Pos} (tk : Takes X (fun cls d _ H => E cls d H)) (M : Mk1L X.prog X.K X.mg x qual st C f cda cc fd fl) (F : FnOk X.prog X.w X.K X.mg X.base CX0 1 f fd ["self", fl] (sp1LI X.K C fl)) (hb : Binds X.K fd ["self", fl] []) (hr : Room (k + 5) X.A) (he : DE τ X Φ e ce) (hint : ∀ (Φ : Fns) (env : Env) (S : Sto) (z : W) (S' : Sto), ev Φ ce env S = some (z, S') → ∃ z0 : Int, z = .int z0)
    (hc : x.cps.toList = c := by decide +kernel) (hl : fl.cps.toList = l := by decide +kernel) (hg : Gl X x := by rfl) (hcalm : X.calm = true := by rfl) (hdb : (x == ("__debug__" : Str)) = false := by decide)
    (hse : starEach [e] X.env = (false, eval e X.env) :: starEach [] X.env := by rfl) (hpl : (backTo p1 (starEach [] X.env)).any (·.1) = false := by rfl) : SX τ X Φ E (.Raise (some (.Call (.Name x p) [e] [] p1)) none pos) (.raise_ c [l] (.cons (.bi (.x .small) (.cons ce .nil)) .nil)) := by
  refine psW (ps_raise hcalm tk (pmkL M.ox M.iC M.tI F (hr.mono (by omega)) hb (fun _ _ _ _ _ _ _ h => h.elim) hg M.er.m (pa_cons he pa_nil hse) hdb hse hpl)) fun D σ H h => ?_
  obtain ⟨μ, env, S, r, s, er, e1, f1, f2⟩ := h
  simp only [ex] at e1
  split at e1
  · rename_i ws S1 e2
    simp only [evs] at e2
    split at e2
    · rename_i w S2 e3
      cases e2
      obtain ⟨z, S3, e4, e5⟩ := ev_one e3
      split at e1
      · cases e1
        have hz : ∃ z0 : Int, z = .int z0 := hint _ _ _ _ _ e4
        obtain ⟨z, rfl⟩ := hz
        simp only [opI, opJ] at e5
        split at e5
        · rename_i hsm
          cases e5
          refine ⟨μ, env, S, _, S1, s, er, e4, fun v μ1 H1 x1 s1 r1 => ?_⟩
          refine ⟨by simp, fun a ha => ?_⟩
          cases r1 with
          | int _ =>
            refine ⟨a, z, rfl, upd_same, hsm, fun d hd hda => ⟨rfl, d, _, upd_same, by rw [upd_ne hda]; exact upd_same, ?_, ?_⟩⟩
            · rw [upd_ne hda] at hd
              exact hd
            · have eh : upd (del (upd (upd (upd H1 a (exo a C none)) d (exd d [(fl, .int z)])) a (exo a C (some d))) a) d (.xd [(fl, .int z)]) = upd H1 d (.xd [(fl, .int z)]) := funext fun b => by
                by_cases h1 : b = d
                · rw [h1, upd_same, upd_same]
                · rw [upd_ne h1, upd_ne h1]
                  by_cases h2 : b = a
                  · rw [h2, del_same, ha]
                  · rw [del_ne h2, upd_ne h2, upd_ne h1, upd_ne h2]
              rw [eh]
              have hd1 : H1 d = none := by rw [upd_ne hda] at hd; exact hd
              refine f2 _ S1 rfl c [(l, .int z)] rfl μ1 _ (.ref C) (some d) (x1.trans (ex_fresh hd1)) (s1.fresh hd1) ⟨⟨x, C, hc, M.er.g, rfl⟩, (fun q => by cases q), fun n w' hl' => ?_⟩
              have hn : n = l ∧ w' = .int z := by
                simp only [List.lookup] at hl'
                split at hl'
                · rename_i q
                  cases hl'
                  exact ⟨by simpa using q, rfl⟩
                · cases hl'
              obtain ⟨rfl, rfl⟩ := hn
              refine ⟨d, [(fl, .int z)], fl, .int z, rfl, upd_same, fun k hk => ?_, hl, by simp [List.lookup], .int z⟩
              obtain ⟨u, hu, _⟩ := s1.trk hk
              rw [hd1] at hu
              cases hu
        · cases e5
      · cases e1
    · cases e2
  · cases e1
end
theorem hint_len {es : CEs} (Φ : Fns) (env : Env) (S : Sto) (z : W) (S' : Sto) (h : ev Φ (.bi .len es) env S = some (z, S')) : ∃ z0 : Int, z = .int z0 := by
  simp only [ev] at h
  split at h <;> try (cases h; done)
  rename_i xs S1 e1
  cases xs with
  | nil => simp only [opI] at h; cases h
  | cons x r =>
    cases r with
    | cons _ _ => cases x <;> simp only [opI] at h <;> cases h
    | nil =>
      cases x <;> simp only [opI] at h <;> try (cases h; done)
      all_goals first
        | (cases h; exact ⟨_, rfl⟩)
        | (split at h <;> first | (cases h; done) | (cases h; exact ⟨_, rfl⟩))
        | (obtain ⟨q, _, e⟩ := Option.map_eq_some_iff.mp h; cases e; exact ⟨_, rfl⟩)
end MP

namespace MP
/-! ### reading the reader: what holds of an answer -/
/-- an answer of which P holds -/
structure Wp {α : Type} (r : Option α) (P : α → Prop) : Prop where
  ex : ∃ a, r = some a ∧ P a
theorem wp_none {α : Type} (P : α → Prop) : Wp none P = False := eq_false fun h => by
  obtain ⟨a, h, _⟩ := h.ex
  cases h
theorem wp_some {α : Type} (a : α) (P : α → Prop) : Wp (some a) P = P a := propext ⟨fun h => by
  obtain ⟨b, h, q⟩ := h.ex
  cases h
  exact q, fun h => ⟨a, rfl, h⟩⟩
/-- the answer is some (w, S') of which P holds -/
def Is (r : R) (P : W → Sto → Prop) : Prop := Wp r fun p => P p.1 p.2
def IsA (r : Option (List W × Sto)) (P : List W → Sto → Prop) : Prop := Wp r fun p => P p.1 p.2
def IsP (r : Option (Option Int × Sto)) (P : Option Int → Sto → Prop) : Prop := Wp r fun p => P p.1 p.2
def IsI (r : Option (Src × Sto)) (P : Src → Sto → Prop) : Prop := Wp r fun p => P p.1 p.2
def IsB (r : Option Bool) (P : Bool → Prop) : Prop := Wp r P
/-- of a statement: what holds behind it, what of a returned value -/
def endS (N : Env → Sto → Prop) (Q : W → Sto → Prop) : Fl → Prop
  | .nx env S => N env S
  | .rt w S => Q w S
  | _ => False
def IsS (r : Option Fl) (N : Env → Sto → Prop) (Q : W → Sto → Prop) : Prop := Wp r (endS N Q)
@[simp] theorem is_some (w : W) (S : Sto) (P : W → Sto → Prop) : Is (some (w, S)) P = P w S := wp_some _ _
theorem is_none (P : W → Sto → Prop) : Is none P = False := wp_none _
theorem isA_some (w : List W) (S : Sto) (P : List W → Sto → Prop) : IsA (some (w, S)) P = P w S := wp_some _ _
theorem isA_none (P : List W → Sto → Prop) : IsA none P = False := wp_none _
theorem isP_some (w : Option Int) (S : Sto) (P : Option Int → Sto → Prop) : IsP (some (w, S)) P = P w S := wp_some _ _
theorem isP_none (P : Option Int → Sto → Prop) : IsP none P = False := wp_none _
theorem isI_some (w : Src) (S : Sto) (P : Src → Sto → Prop) : IsI (some (w, S)) P = P w S := wp_some _ _
theorem isI_none (P : Src → Sto → Prop) : IsI none P = False := wp_none _
@[simp] theorem isB_some (k : Bool) (P : Bool → Prop) : IsB (some k) P = P k := wp_some _ _
theorem isB_none (P : Bool → Prop) : IsB none P = False := wp_none _
theorem isS_nx (env : Env) (S : Sto) (N : Env → Sto → Prop) (Q : W → Sto → Prop) : IsS (some (.nx env S)) N Q = N env S := wp_some _ _
theorem isS_rt (w : W) (S : Sto) (N : Env → Sto → Prop) (Q : W → Sto → Prop) : IsS (some (.rt w S)) N Q = Q w S := wp_some _ _
theorem isS_bk (env : Env) (S : Sto) (N : Env → Sto → Prop) (Q : W → Sto → Prop) : IsS (some (.bk env S)) N Q = False := wp_some _ _
theorem isS_ct (env : Env) (S : Sto) (N : Env → Sto → Prop) (Q : W → Sto → Prop) : IsS (some (.ct env S)) N Q = False := wp_some _ _
theorem isS_none (N : Env → Sto → Prop) (Q : W → Sto → Prop) : IsS none N Q = False := wp_none _
/-- by a truth value -/
def ByB (w : W) (t f : Prop) : Prop := match w with
  | .bl true => t
  | .bl false => f
  | _ => False
theorem is_sq (q : W × Sto) (P : W → Sto → Prop) : Is (some q) P = P q.1 q.2 := wp_some _ _
theorem isA_sq (q : List W × Sto) (P : List W → Sto → Prop) : IsA (some q) P = P q.1 q.2 := wp_some _ _
theorem isP_sq (q : Option Int × Sto) (P : Option Int → Sto → Prop) : IsP (some q) P = P q.1 q.2 := wp_some _ _
theorem isI_sq (q : Src × Sto) (P : Src → Sto → Prop) : IsI (some q) P = P q.1 q.2 := wp_some _ _
theorem Is.imp {r : R} {P Q : W → Sto → Prop} (h : Is r P) (i : ∀ w S, P w S → Q w S) : Is r Q := by
  obtain ⟨a, h1, h2⟩ := h.ex
  exact ⟨a, h1, i _ _ h2⟩
theorem Is.ex {r : R} {P : W → Sto → Prop} (h : Is r P) : ∃ w S, r = some (w, S) ∧ P w S := by
  obtain ⟨a, h1, h2⟩ := Wp.ex h
  exact ⟨a.1, a.2, h1, h2⟩
theorem IsS.imp {r : Option Fl} {N N' : Env → Sto → Prop} {P Q : W → Sto → Prop} (h : IsS r N P) (j : ∀ w S, N w S → N' w S) (i : ∀ w S, P w S → Q w S) : IsS r N' Q := by
  obtain ⟨a, h1, h2⟩ := h.ex
  refine ⟨a, h1, ?_⟩
  cases a with
  | nx env S => exact j _ _ h2
  | rt w S => exact i _ _ h2
  | bk _ _ => exact h2.elim
  | ct _ _ => exact h2.elim
section
variable {Φ : Fns} {env : Env} {S : Sto} {P : W → Sto → Prop} {a b c d e : CE} {es : CEs} {N : Env → Sto → Prop}
@[simp] theorem w_var (i : Nat) : Is (ev Φ (.var i) env S) P = match env[i]? with | some (some w) => P w S | _ => False := by
  simp only [ev]
  cases env[i]? with
  | none => first | rfl | (simp only [is_none, is_sq, isA_none, isA_sq, isP_none, isP_sq, isI_none, isI_sq, isB_none, isB_some, isS_none, isS_nx, isS_rt, isS_bk, isS_ct, ByB, Option.map_none, Option.map_some]; done) | (simp only [is_none, is_sq, isA_none, isA_sq, isP_none, isP_sq, isI_none, isI_sq, isB_none, isB_some, isS_none, isS_nx, isS_rt, isS_bk, isS_ct, ByB, Option.map_none, Option.map_some]; rfl)
  | some o => cases o <;> first | rfl | (simp only [is_none, is_sq, isA_none, isA_sq, isP_none, isP_sq, isI_none, isI_sq, isB_none, isB_some, isS_none, isS_nx, isS_rt, isS_bk, isS_ct, ByB, Option.map_none, Option.map_some]; done) | (simp only [is_none, is_sq, isA_none, isA_sq, isP_none, isP_sq, isI_none, isI_sq, isB_none, isB_some, isS_none, isS_nx, isS_rt, isS_bk, isS_ct, ByB, Option.map_none, Option.map_some]; rfl)
@[simp] theorem w_c (w : W) : Is (ev Φ (.c w) env S) P = P w S := by simp only [ev]; first | rfl | (simp only [is_none, is_sq, isA_none, isA_sq, isP_none, isP_sq, isI_none, isI_sq, isB_none, isB_some, isS_none, isS_nx, isS_rt, isS_bk, isS_ct, ByB, Option.map_none, Option.map_some]; done) | (simp only [is_none, is_sq, isA_none, isA_sq, isP_none, isP_sq, isI_none, isI_sq, isB_none, isB_some, isS_none, isS_nx, isS_rt, isS_bk, isS_ct, ByB, Option.map_none, Option.map_some]; rfl)
@[simp] theorem w_bin (o : BO) : Is (ev Φ (.bin o a b) env S) P = Is (ev Φ a env S) fun x S1 => Is (ev Φ b env S1) fun y S2 => Is (opB o x y S2) P := by
  simp only [ev]
  cases ev Φ a env S with
  | none => first | rfl | (simp only [is_none, is_sq, isA_none, isA_sq, isP_none, isP_sq, isI_none, isI_sq, isB_none, isB_some, isS_none, isS_nx, isS_rt, isS_bk, isS_ct, ByB, Option.map_none, Option.map_some]; done) | (simp only [is_none, is_sq, isA_none, isA_sq, isP_none, isP_sq, isI_none, isI_sq, isB_none, isB_some, isS_none, isS_nx, isS_rt, isS_bk, isS_ct, ByB, Option.map_none, Option.map_some]; rfl)
  | some p =>
    obtain ⟨x, S1⟩ := p
    simp only [is_some]
    cases ev Φ b env S1 with
    | none => first | rfl | (simp only [is_none, is_sq, isA_none, isA_sq, isP_none, isP_sq, isI_none, isI_sq, isB_none, isB_some, isS_none, isS_nx, isS_rt, isS_bk, isS_ct, ByB, Option.map_none, Option.map_some]; done) | (simp only [is_none, is_sq, isA_none, isA_sq, isP_none, isP_sq, isI_none, isI_sq, isB_none, isB_some, isS_none, isS_nx, isS_rt, isS_bk, isS_ct, ByB, Option.map_none, Option.map_some]; rfl)
    | some q => first | rfl | (simp only [is_none, is_sq, isA_none, isA_sq, isP_none, isP_sq, isI_none, isI_sq, isB_none, isB_some, isS_none, isS_nx, isS_rt, isS_bk, isS_ct, ByB, Option.map_none, Option.map_some]; done) | (simp only [is_none, is_sq, isA_none, isA_sq, isP_none, isP_sq, isI_none, isI_sq, isB_none, isB_some, isS_none, isS_nx, isS_rt, isS_bk, isS_ct, ByB, Option.map_none, Option.map_some]; rfl)
@[simp] theorem w_cmp (o : CO) : Is (ev Φ (.cmp o a b) env S) P = Is (ev Φ a env S) fun x S1 => Is (ev Φ b env S1) fun y S2 => IsB (opC o x y S2) fun k => P (.bl k) S2 := by
  simp only [ev]
  cases ev Φ a env S with
  | none => first | rfl | (simp only [is_none, is_sq, isA_none, isA_sq, isP_none, isP_sq, isI_none, isI_sq, isB_none, isB_some, isS_none, isS_nx, isS_rt, isS_bk, isS_ct, ByB, Option.map_none, Option.map_some]; done) | (simp only [is_none, is_sq, isA_none, isA_sq, isP_none, isP_sq, isI_none, isI_sq, isB_none, isB_some, isS_none, isS_nx, isS_rt, isS_bk, isS_ct, ByB, Option.map_none, Option.map_some]; rfl)
  | some p =>
    obtain ⟨x, S1⟩ := p
    simp only [is_some]
    cases ev Φ b env S1 with
    | none => first | rfl | (simp only [is_none, is_sq, isA_none, isA_sq, isP_none, isP_sq, isI_none, isI_sq, isB_none, isB_some, isS_none, isS_nx, isS_rt, isS_bk, isS_ct, ByB, Option.map_none, Option.map_some]; done) | (simp only [is_none, is_sq, isA_none, isA_sq, isP_none, isP_sq, isI_none, isI_sq, isB_none, isB_some, isS_none, isS_nx, isS_rt, isS_bk, isS_ct, ByB, Option.map_none, Option.map_some]; rfl)
    | some q =>
      obtain ⟨y, S2⟩ := q
      simp only [is_some]
      cases opC o x y S2 <;> first | rfl | (simp only [is_none, is_sq, isA_none, isA_sq, isP_none, isP_sq, isI_none, isI_sq, isB_none, isB_some, isS_none, isS_nx, isS_rt, isS_bk, isS_ct, ByB, Option.map_none, Option.map_some]; done) | (simp only [is_none, is_sq, isA_none, isA_sq, isP_none, isP_sq, isI_none, isI_sq, isB_none, isB_some, isS_none, isS_nx, isS_rt, isS_bk, isS_ct, ByB, Option.map_none, Option.map_some]; rfl)
@[simp] theorem w_chain (o o' : CO) : Is (ev Φ (.chain o o' a b d) env S) P = Is (ev Φ a env S) fun x S1 => Is (ev Φ b env S1) fun y S2 => IsB (opC o x y S2) fun k => if k = true then Is (ev Φ d env S2) fun z S3 => IsB (opC o' y z S3) fun k => P (.bl k) S3 else P (.bl false) S2 := by
  simp only [ev]
  cases ev Φ a env S with
  | none => first | rfl | (simp only [is_none, is_sq, isA_none, isA_sq, isP_none, isP_sq, isI_none, isI_sq, isB_none, isB_some, isS_none, isS_nx, isS_rt, isS_bk, isS_ct, ByB, Option.map_none, Option.map_some]; done) | (simp only [is_none, is_sq, isA_none, isA_sq, isP_none, isP_sq, isI_none, isI_sq, isB_none, isB_some, isS_none, isS_nx, isS_rt, isS_bk, isS_ct, ByB, Option.map_none, Option.map_some]; rfl)
  | some p =>
    obtain ⟨x, S1⟩ := p
    simp only [is_some]
    cases ev Φ b env S1 with
    | none => first | rfl | (simp only [is_none, is_sq, isA_none, isA_sq, isP_none, isP_sq, isI_none, isI_sq, isB_none, isB_some, isS_none, isS_nx, isS_rt, isS_bk, isS_ct, ByB, Option.map_none, Option.map_some]; done) | (simp only [is_none, is_sq, isA_none, isA_sq, isP_none, isP_sq, isI_none, isI_sq, isB_none, isB_some, isS_none, isS_nx, isS_rt, isS_bk, isS_ct, ByB, Option.map_none, Option.map_some]; rfl)
    | some q =>
      obtain ⟨y, S2⟩ := q
      simp only [is_some]
      cases opC o x y S2 with
      | none => first | rfl | (simp only [is_none, is_sq, isA_none, isA_sq, isP_none, isP_sq, isI_none, isI_sq, isB_none, isB_some, isS_none, isS_nx, isS_rt, isS_bk, isS_ct, ByB, Option.map_none, Option.map_some]; done) | (simp only [is_none, is_sq, isA_none, isA_sq, isP_none, isP_sq, isI_none, isI_sq, isB_none, isB_some, isS_none, isS_nx, isS_rt, isS_bk, isS_ct, ByB, Option.map_none, Option.map_some]; rfl)
      | some k =>
        cases k with
        | false => first | rfl | (simp only [is_none, is_sq, isA_none, isA_sq, isP_none, isP_sq, isI_none, isI_sq, isB_none, isB_some, isS_none, isS_nx, isS_rt, isS_bk, isS_ct, ByB, Option.map_none, Option.map_some]; done) | (simp only [is_none, is_sq, isA_none, isA_sq, isP_none, isP_sq, isI_none, isI_sq, isB_none, isB_some, isS_none, isS_nx, isS_rt, isS_bk, isS_ct, ByB, Option.map_none, Option.map_some]; rfl)
        | true =>
          simp only [isB_some, if_true]
          cases ev Φ d env S2 with
          | none => first | rfl | (simp only [is_none, is_sq, isA_none, isA_sq, isP_none, isP_sq, isI_none, isI_sq, isB_none, isB_some, isS_none, isS_nx, isS_rt, isS_bk, isS_ct, ByB, Option.map_none, Option.map_some]; done) | (simp only [is_none, is_sq, isA_none, isA_sq, isP_none, isP_sq, isI_none, isI_sq, isB_none, isB_some, isS_none, isS_nx, isS_rt, isS_bk, isS_ct, ByB, Option.map_none, Option.map_some]; rfl)
          | some r =>
            obtain ⟨z, S3⟩ := r
            simp only [is_some]
            cases opC o' y z S3 <;> first | rfl | (simp only [is_none, is_sq, isA_none, isA_sq, isP_none, isP_sq, isI_none, isI_sq, isB_none, isB_some, isS_none, isS_nx, isS_rt, isS_bk, isS_ct, ByB, Option.map_none, Option.map_some]; done) | (simp only [is_none, is_sq, isA_none, isA_sq, isP_none, isP_sq, isI_none, isI_sq, isB_none, isB_some, isS_none, isS_nx, isS_rt, isS_bk, isS_ct, ByB, Option.map_none, Option.map_some]; rfl)
@[simp] theorem byB_true (t f : Prop) : ByB (.bl true) t f = t := rfl
@[simp] theorem byB_false (t f : Prop) : ByB (.bl false) t f = f := rfl
theorem byB_dec (k : Bool) (t f : Prop) (h1 : k = true → t) (h2 : k = false → f) : ByB (.bl k) t f := by
  cases k with
  | true => exact h1 rfl
  | false => exact h2 rfl
@[simp] theorem w_and : Is (ev Φ (.and a b) env S) P = Is (ev Φ a env S) fun x S1 => ByB x (Is (ev Φ b env S1) P) (P (.bl false) S1) := by
  simp only [ev]
  cases ev Φ a env S with
  | none => first | rfl | (simp only [is_none, is_sq, isA_none, isA_sq, isP_none, isP_sq, isI_none, isI_sq, isB_none, isB_some, isS_none, isS_nx, isS_rt, isS_bk, isS_ct, ByB, Option.map_none, Option.map_some]; done) | (simp only [is_none, is_sq, isA_none, isA_sq, isP_none, isP_sq, isI_none, isI_sq, isB_none, isB_some, isS_none, isS_nx, isS_rt, isS_bk, isS_ct, ByB, Option.map_none, Option.map_some]; rfl)
  | some p =>
    obtain ⟨x, S1⟩ := p
    cases x with
    | bl k => cases k <;> first | rfl | (simp only [is_none, is_sq, isA_none, isA_sq, isP_none, isP_sq, isI_none, isI_sq, isB_none, isB_some, isS_none, isS_nx, isS_rt, isS_bk, isS_ct, ByB, Option.map_none, Option.map_some]; done) | (simp only [is_none, is_sq, isA_none, isA_sq, isP_none, isP_sq, isI_none, isI_sq, isB_none, isB_some, isS_none, isS_nx, isS_rt, isS_bk, isS_ct, ByB, Option.map_none, Option.map_some]; rfl)
    | _ => first | rfl | (simp only [is_none, is_sq, isA_none, isA_sq, isP_none, isP_sq, isI_none, isI_sq, isB_none, isB_some, isS_none, isS_nx, isS_rt, isS_bk, isS_ct, ByB, Option.map_none, Option.map_some]; done) | (simp only [is_none, is_sq, isA_none, isA_sq, isP_none, isP_sq, isI_none, isI_sq, isB_none, isB_some, isS_none, isS_nx, isS_rt, isS_bk, isS_ct, ByB, Option.map_none, Option.map_some]; rfl)
@[simp] theorem w_or : Is (ev Φ (.or a b) env S) P = Is (ev Φ a env S) fun x S1 => ByB x (P (.bl true) S1) (Is (ev Φ b env S1) P) := by
  simp only [ev]
  cases ev Φ a env S with
  | none => first | rfl | (simp only [is_none, is_sq, isA_none, isA_sq, isP_none, isP_sq, isI_none, isI_sq, isB_none, isB_some, isS_none, isS_nx, isS_rt, isS_bk, isS_ct, ByB, Option.map_none, Option.map_some]; done) | (simp only [is_none, is_sq, isA_none, isA_sq, isP_none, isP_sq, isI_none, isI_sq, isB_none, isB_some, isS_none, isS_nx, isS_rt, isS_bk, isS_ct, ByB, Option.map_none, Option.map_some]; rfl)
  | some p =>
    obtain ⟨x, S1⟩ := p
    cases x with
    | bl k => cases k <;> first | rfl | (simp only [is_none, is_sq, isA_none, isA_sq, isP_none, isP_sq, isI_none, isI_sq, isB_none, isB_some, isS_none, isS_nx, isS_rt, isS_bk, isS_ct, ByB, Option.map_none, Option.map_some]; done) | (simp only [is_none, is_sq, isA_none, isA_sq, isP_none, isP_sq, isI_none, isI_sq, isB_none, isB_some, isS_none, isS_nx, isS_rt, isS_bk, isS_ct, ByB, Option.map_none, Option.map_some]; rfl)
    | _ => first | rfl | (simp only [is_none, is_sq, isA_none, isA_sq, isP_none, isP_sq, isI_none, isI_sq, isB_none, isB_some, isS_none, isS_nx, isS_rt, isS_bk, isS_ct, ByB, Option.map_none, Option.map_some]; done) | (simp only [is_none, is_sq, isA_none, isA_sq, isP_none, isP_sq, isI_none, isI_sq, isB_none, isB_some, isS_none, isS_nx, isS_rt, isS_bk, isS_ct, ByB, Option.map_none, Option.map_some]; rfl)
@[simp] theorem w_ite : Is (ev Φ (.ite c a b) env S) P = Is (ev Φ c env S) fun x S1 => ByB x (Is (ev Φ a env S1) P) (Is (ev Φ b env S1) P) := by
  simp only [ev]
  cases ev Φ c env S with
  | none => first | rfl | (simp only [is_none, is_sq, isA_none, isA_sq, isP_none, isP_sq, isI_none, isI_sq, isB_none, isB_some, isS_none, isS_nx, isS_rt, isS_bk, isS_ct, ByB, Option.map_none, Option.map_some]; done) | (simp only [is_none, is_sq, isA_none, isA_sq, isP_none, isP_sq, isI_none, isI_sq, isB_none, isB_some, isS_none, isS_nx, isS_rt, isS_bk, isS_ct, ByB, Option.map_none, Option.map_some]; rfl)
  | some p =>
    obtain ⟨x, S1⟩ := p
    cases x with
    | bl k => cases k <;> first | rfl | (simp only [is_none, is_sq, isA_none, isA_sq, isP_none, isP_sq, isI_none, isI_sq, isB_none, isB_some, isS_none, isS_nx, isS_rt, isS_bk, isS_ct, ByB, Option.map_none, Option.map_some]; done) | (simp only [is_none, is_sq, isA_none, isA_sq, isP_none, isP_sq, isI_none, isI_sq, isB_none, isB_some, isS_none, isS_nx, isS_rt, isS_bk, isS_ct, ByB, Option.map_none, Option.map_some]; rfl)
    | _ => first | rfl | (simp only [is_none, is_sq, isA_none, isA_sq, isP_none, isP_sq, isI_none, isI_sq, isB_none, isB_some, isS_none, isS_nx, isS_rt, isS_bk, isS_ct, ByB, Option.map_none, Option.map_some]; done) | (simp only [is_none, is_sq, isA_none, isA_sq, isP_none, isP_sq, isI_none, isI_sq, isB_none, isB_some, isS_none, isS_nx, isS_rt, isS_bk, isS_ct, ByB, Option.map_none, Option.map_some]; rfl)
@[simp] theorem w_not : Is (ev Φ (.not a) env S) P = Is (ev Φ a env S) fun x S1 => ByB x (P (.bl false) S1) (P (.bl true) S1) := by
  simp only [ev]
  cases ev Φ a env S with
  | none => first | rfl | (simp only [is_none, is_sq, isA_none, isA_sq, isP_none, isP_sq, isI_none, isI_sq, isB_none, isB_some, isS_none, isS_nx, isS_rt, isS_bk, isS_ct, ByB, Option.map_none, Option.map_some]; done) | (simp only [is_none, is_sq, isA_none, isA_sq, isP_none, isP_sq, isI_none, isI_sq, isB_none, isB_some, isS_none, isS_nx, isS_rt, isS_bk, isS_ct, ByB, Option.map_none, Option.map_some]; rfl)
  | some p =>
    obtain ⟨x, S1⟩ := p
    cases x with
    | bl k => cases k <;> first | rfl | (simp only [is_none, is_sq, isA_none, isA_sq, isP_none, isP_sq, isI_none, isI_sq, isB_none, isB_some, isS_none, isS_nx, isS_rt, isS_bk, isS_ct, ByB, Option.map_none, Option.map_some]; done) | (simp only [is_none, is_sq, isA_none, isA_sq, isP_none, isP_sq, isI_none, isI_sq, isB_none, isB_some, isS_none, isS_nx, isS_rt, isS_bk, isS_ct, ByB, Option.map_none, Option.map_some]; rfl)
    | _ => first | rfl | (simp only [is_none, is_sq, isA_none, isA_sq, isP_none, isP_sq, isI_none, isI_sq, isB_none, isB_some, isS_none, isS_nx, isS_rt, isS_bk, isS_ct, ByB, Option.map_none, Option.map_some]; done) | (simp only [is_none, is_sq, isA_none, isA_sq, isP_none, isP_sq, isI_none, isI_sq, isB_none, isB_some, isS_none, isS_nx, isS_rt, isS_bk, isS_ct, ByB, Option.map_none, Option.map_some]; rfl)
@[simp] theorem w_nil {P : List W → Sto → Prop} : IsA (evs Φ .nil env S) P = P [] S := by simp only [evs]; first | rfl | (simp only [is_none, is_sq, isA_none, isA_sq, isP_none, isP_sq, isI_none, isI_sq, isB_none, isB_some, isS_none, isS_nx, isS_rt, isS_bk, isS_ct, ByB, Option.map_none, Option.map_some]; done) | (simp only [is_none, is_sq, isA_none, isA_sq, isP_none, isP_sq, isI_none, isI_sq, isB_none, isB_some, isS_none, isS_nx, isS_rt, isS_bk, isS_ct, ByB, Option.map_none, Option.map_some]; rfl)
@[simp] theorem w_cons {P : List W → Sto → Prop} : IsA (evs Φ (.cons e es) env S) P = Is (ev Φ e env S) fun x S1 => IsA (evs Φ es env S1) fun xs S2 => P (x :: xs) S2 := by
  simp only [evs]
  cases ev Φ e env S with
  | none => first | rfl | (simp only [is_none, is_sq, isA_none, isA_sq, isP_none, isP_sq, isI_none, isI_sq, isB_none, isB_some, isS_none, isS_nx, isS_rt, isS_bk, isS_ct, ByB, Option.map_none, Option.map_some]; done) | (simp only [is_none, is_sq, isA_none, isA_sq, isP_none, isP_sq, isI_none, isI_sq, isB_none, isB_some, isS_none, isS_nx, isS_rt, isS_bk, isS_ct, ByB, Option.map_none, Option.map_some]; rfl)
  | some p =>
    obtain ⟨x, S1⟩ := p
    simp only [is_some]
    cases evs Φ es env S1 with
    | none => first | rfl | (simp only [is_none, is_sq, isA_none, isA_sq, isP_none, isP_sq, isI_none, isI_sq, isB_none, isB_some, isS_none, isS_nx, isS_rt, isS_bk, isS_ct, ByB, Option.map_none, Option.map_some]; done) | (simp only [is_none, is_sq, isA_none, isA_sq, isP_none, isP_sq, isI_none, isI_sq, isB_none, isB_some, isS_none, isS_nx, isS_rt, isS_bk, isS_ct, ByB, Option.map_none, Option.map_some]; rfl)
    | some q => first | rfl | (simp only [is_none, is_sq, isA_none, isA_sq, isP_none, isP_sq, isI_none, isI_sq, isB_none, isB_some, isS_none, isS_nx, isS_rt, isS_bk, isS_ct, ByB, Option.map_none, Option.map_some]; done) | (simp only [is_none, is_sq, isA_none, isA_sq, isP_none, isP_sq, isI_none, isI_sq, isB_none, isB_some, isS_none, isS_nx, isS_rt, isS_bk, isS_ct, ByB, Option.map_none, Option.map_some]; rfl)
@[simp] theorem w_tup : Is (ev Φ (.tup es) env S) P = IsA (evs Φ es env S) fun xs S1 => xs.length ≤ LIM ∧ P (.tup xs) S1 := by
  simp only [ev]
  cases evs Φ es env S with
  | none => first | rfl | (simp only [is_none, is_sq, isA_none, isA_sq, isP_none, isP_sq, isI_none, isI_sq, isB_none, isB_some, isS_none, isS_nx, isS_rt, isS_bk, isS_ct, ByB, Option.map_none, Option.map_some]; done) | (simp only [is_none, is_sq, isA_none, isA_sq, isP_none, isP_sq, isI_none, isI_sq, isB_none, isB_some, isS_none, isS_nx, isS_rt, isS_bk, isS_ct, ByB, Option.map_none, Option.map_some]; rfl)
  | some p =>
    obtain ⟨xs, S1⟩ := p
    simp only [isA_some]
    by_cases h : xs.length ≤ LIM
    · simp only [h, if_true, true_and]; first | rfl | (simp only [is_none, is_sq, isA_none, isA_sq, isP_none, isP_sq, isI_none, isI_sq, isB_none, isB_some, isS_none, isS_nx, isS_rt, isS_bk, isS_ct, ByB, Option.map_none, Option.map_some]; done) | (simp only [is_none, is_sq, isA_none, isA_sq, isP_none, isP_sq, isI_none, isI_sq, isB_none, isB_some, isS_none, isS_nx, isS_rt, isS_bk, isS_ct, ByB, Option.map_none, Option.map_some]; rfl)
    · simp only [h, if_false, false_and]; first | rfl | (simp only [is_none, is_sq, isA_none, isA_sq, isP_none, isP_sq, isI_none, isI_sq, isB_none, isB_some, isS_none, isS_nx, isS_rt, isS_bk, isS_ct, ByB, Option.map_none, Option.map_some]; done) | (simp only [is_none, is_sq, isA_none, isA_sq, isP_none, isP_sq, isI_none, isI_sq, isB_none, isB_some, isS_none, isS_nx, isS_rt, isS_bk, isS_ct, ByB, Option.map_none, Option.map_some]; rfl)
theorem w_new (xs : List W) : Is (new S xs) P = (xs.length ≤ LIM ∧ P (.ref S.length) (S ++ [.lst xs])) := by
  unfold new
  by_cases h : xs.length ≤ LIM
  · simp only [h, if_true, true_and]; first | rfl | (simp only [is_none, is_sq, isA_none, isA_sq, isP_none, isP_sq, isI_none, isI_sq, isB_none, isB_some, isS_none, isS_nx, isS_rt, isS_bk, isS_ct, ByB, Option.map_none, Option.map_some]; done) | (simp only [is_none, is_sq, isA_none, isA_sq, isP_none, isP_sq, isI_none, isI_sq, isB_none, isB_some, isS_none, isS_nx, isS_rt, isS_bk, isS_ct, ByB, Option.map_none, Option.map_some]; rfl)
  · simp only [h, if_false, false_and]; first | rfl | (simp only [is_none, is_sq, isA_none, isA_sq, isP_none, isP_sq, isI_none, isI_sq, isB_none, isB_some, isS_none, isS_nx, isS_rt, isS_bk, isS_ct, ByB, Option.map_none, Option.map_some]; done) | (simp only [is_none, is_sq, isA_none, isA_sq, isP_none, isP_sq, isI_none, isI_sq, isB_none, isB_some, isS_none, isS_nx, isS_rt, isS_bk, isS_ct, ByB, Option.map_none, Option.map_some]; rfl)
@[simp] theorem w_lst : Is (ev Φ (.lst es) env S) P = IsA (evs Φ es env S) fun xs S1 => xs.length ≤ LIM ∧ P (.ref S1.length) (S1 ++ [.lst xs]) := by
  simp only [ev]
  cases evs Φ es env S with
  | none => first | rfl | (simp only [is_none, is_sq, isA_none, isA_sq, isP_none, isP_sq, isI_none, isI_sq, isB_none, isB_some, isS_none, isS_nx, isS_rt, isS_bk, isS_ct, ByB, Option.map_none, Option.map_some]; done) | (simp only [is_none, is_sq, isA_none, isA_sq, isP_none, isP_sq, isI_none, isI_sq, isB_none, isB_some, isS_none, isS_nx, isS_rt, isS_bk, isS_ct, ByB, Option.map_none, Option.map_some]; rfl)
  | some p =>
    obtain ⟨xs, S1⟩ := p
    simp only [isA_some, w_new]
@[simp] theorem w_ix : Is (ev Φ (.ix a b) env S) P = Is (ev Φ a env S) fun x S1 => Is (ev Φ b env S1) fun y S2 => Is (opIx x y S2) P := by
  simp only [ev]
  cases ev Φ a env S with
  | none => first | rfl | (simp only [is_none, is_sq, isA_none, isA_sq, isP_none, isP_sq, isI_none, isI_sq, isB_none, isB_some, isS_none, isS_nx, isS_rt, isS_bk, isS_ct, ByB, Option.map_none, Option.map_some]; done) | (simp only [is_none, is_sq, isA_none, isA_sq, isP_none, isP_sq, isI_none, isI_sq, isB_none, isB_some, isS_none, isS_nx, isS_rt, isS_bk, isS_ct, ByB, Option.map_none, Option.map_some]; rfl)
  | some p =>
    obtain ⟨x, S1⟩ := p
    simp only [is_some]
    cases ev Φ b env S1 with
    | none => first | rfl | (simp only [is_none, is_sq, isA_none, isA_sq, isP_none, isP_sq, isI_none, isI_sq, isB_none, isB_some, isS_none, isS_nx, isS_rt, isS_bk, isS_ct, ByB, Option.map_none, Option.map_some]; done) | (simp only [is_none, is_sq, isA_none, isA_sq, isP_none, isP_sq, isI_none, isI_sq, isB_none, isB_some, isS_none, isS_nx, isS_rt, isS_bk, isS_ct, ByB, Option.map_none, Option.map_some]; rfl)
    | some q => first | rfl | (simp only [is_none, is_sq, isA_none, isA_sq, isP_none, isP_sq, isI_none, isI_sq, isB_none, isB_some, isS_none, isS_nx, isS_rt, isS_bk, isS_ct, ByB, Option.map_none, Option.map_some]; done) | (simp only [is_none, is_sq, isA_none, isA_sq, isP_none, isP_sq, isI_none, isI_sq, isB_none, isB_some, isS_none, isS_nx, isS_rt, isS_bk, isS_ct, ByB, Option.map_none, Option.map_some]; rfl)
@[simp] theorem w_no {P : Option Int → Sto → Prop} : IsP (evp Φ .no env S) P = P none S := by simp only [evp]; first | rfl | (simp only [is_none, is_sq, isA_none, isA_sq, isP_none, isP_sq, isI_none, isI_sq, isB_none, isB_some, isS_none, isS_nx, isS_rt, isS_bk, isS_ct, ByB, Option.map_none, Option.map_some]; done) | (simp only [is_none, is_sq, isA_none, isA_sq, isP_none, isP_sq, isI_none, isI_sq, isB_none, isB_some, isS_none, isS_nx, isS_rt, isS_bk, isS_ct, ByB, Option.map_none, Option.map_some]; rfl)
@[simp] theorem w_yes {P : Option Int → Sto → Prop} : IsP (evp Φ (.yes e) env S) P = Is (ev Φ e env S) fun x S1 => match x with | .int i => P (some i) S1 | _ => False := by
  simp only [evp]
  cases ev Φ e env S with
  | none => first | rfl | (simp only [is_none, is_sq, isA_none, isA_sq, isP_none, isP_sq, isI_none, isI_sq, isB_none, isB_some, isS_none, isS_nx, isS_rt, isS_bk, isS_ct, ByB, Option.map_none, Option.map_some]; done) | (simp only [is_none, is_sq, isA_none, isA_sq, isP_none, isP_sq, isI_none, isI_sq, isB_none, isB_some, isS_none, isS_nx, isS_rt, isS_bk, isS_ct, ByB, Option.map_none, Option.map_some]; rfl)
  | some p =>
    obtain ⟨x, S1⟩ := p
    cases x <;> first | rfl | (simp only [is_none, is_sq, isA_none, isA_sq, isP_none, isP_sq, isI_none, isI_sq, isB_none, isB_some, isS_none, isS_nx, isS_rt, isS_bk, isS_ct, ByB, Option.map_none, Option.map_some]; done) | (simp only [is_none, is_sq, isA_none, isA_sq, isP_none, isP_sq, isI_none, isI_sq, isB_none, isB_some, isS_none, isS_nx, isS_rt, isS_bk, isS_ct, ByB, Option.map_none, Option.map_some]; rfl)
@[simp] theorem w_sl {l h : CP} : Is (ev Φ (.sl a l h) env S) P = Is (ev Φ a env S) fun x S1 => IsP (evp Φ l env S1) fun lo S2 => IsP (evp Φ h env S2) fun hi S3 => Is (opSl x lo hi S3) P := by
  simp only [ev]
  cases ev Φ a env S with
  | none => first | rfl | (simp only [is_none, is_sq, isA_none, isA_sq, isP_none, isP_sq, isI_none, isI_sq, isB_none, isB_some, isS_none, isS_nx, isS_rt, isS_bk, isS_ct, ByB, Option.map_none, Option.map_some]; done) | (simp only [is_none, is_sq, isA_none, isA_sq, isP_none, isP_sq, isI_none, isI_sq, isB_none, isB_some, isS_none, isS_nx, isS_rt, isS_bk, isS_ct, ByB, Option.map_none, Option.map_some]; rfl)
  | some p =>
    obtain ⟨x, S1⟩ := p
    simp only [is_some]
    cases evp Φ l env S1 with
    | none => first | rfl | (simp only [is_none, is_sq, isA_none, isA_sq, isP_none, isP_sq, isI_none, isI_sq, isB_none, isB_some, isS_none, isS_nx, isS_rt, isS_bk, isS_ct, ByB, Option.map_none, Option.map_some]; done) | (simp only [is_none, is_sq, isA_none, isA_sq, isP_none, isP_sq, isI_none, isI_sq, isB_none, isB_some, isS_none, isS_nx, isS_rt, isS_bk, isS_ct, ByB, Option.map_none, Option.map_some]; rfl)
    | some q =>
      obtain ⟨lo, S2⟩ := q
      simp only [isP_some]
      cases evp Φ h env S2 with
      | none => first | rfl | (simp only [is_none, is_sq, isA_none, isA_sq, isP_none, isP_sq, isI_none, isI_sq, isB_none, isB_some, isS_none, isS_nx, isS_rt, isS_bk, isS_ct, ByB, Option.map_none, Option.map_some]; done) | (simp only [is_none, is_sq, isA_none, isA_sq, isP_none, isP_sq, isI_none, isI_sq, isB_none, isB_some, isS_none, isS_nx, isS_rt, isS_bk, isS_ct, ByB, Option.map_none, Option.map_some]; rfl)
      | some r => first | rfl | (simp only [is_none, is_sq, isA_none, isA_sq, isP_none, isP_sq, isI_none, isI_sq, isB_none, isB_some, isS_none, isS_nx, isS_rt, isS_bk, isS_ct, ByB, Option.map_none, Option.map_some]; done) | (simp only [is_none, is_sq, isA_none, isA_sq, isP_none, isP_sq, isI_none, isI_sq, isB_none, isB_some, isS_none, isS_nx, isS_rt, isS_bk, isS_ct, ByB, Option.map_none, Option.map_some]; rfl)
@[simp] theorem w_call (f : Nat) : Is (ev Φ (.call f es) env S) P = IsA (evs Φ es env S) fun xs S1 => Is (Φ f xs S1) P := by
  simp only [ev]
  cases evs Φ es env S with
  | none => first | rfl | (simp only [is_none, is_sq, isA_none, isA_sq, isP_none, isP_sq, isI_none, isI_sq, isB_none, isB_some, isS_none, isS_nx, isS_rt, isS_bk, isS_ct, ByB, Option.map_none, Option.map_some]; done) | (simp only [is_none, is_sq, isA_none, isA_sq, isP_none, isP_sq, isI_none, isI_sq, isB_none, isB_some, isS_none, isS_nx, isS_rt, isS_bk, isS_ct, ByB, Option.map_none, Option.map_some]; rfl)
  | some p => first | rfl | (simp only [is_none, is_sq, isA_none, isA_sq, isP_none, isP_sq, isI_none, isI_sq, isB_none, isB_some, isS_none, isS_nx, isS_rt, isS_bk, isS_ct, ByB, Option.map_none, Option.map_some]; done) | (simp only [is_none, is_sq, isA_none, isA_sq, isP_none, isP_sq, isI_none, isI_sq, isB_none, isB_some, isS_none, isS_nx, isS_rt, isS_bk, isS_ct, ByB, Option.map_none, Option.map_some]; rfl)
theorem w_callv (f : Nat) {x : List Nat} {j : Nat} (hv : env[j]? = some (some (.fn x))) : Is (ev Φ (.callv f x j es) env S) P = IsA (evs Φ es env S) fun xs S1 => Is (Φ f xs S1) P := by
  simp only [ev, hv, if_true]
  cases evs Φ es env S with
  | none => first | rfl | (simp only [is_none, is_sq, isA_none, isA_sq]; done) | (simp only [is_none, is_sq, isA_none, isA_sq]; rfl)
  | some p => first | rfl | (simp only [is_none, is_sq, isA_none, isA_sq]; done) | (simp only [is_none, is_sq, isA_none, isA_sq]; rfl)
@[simp] theorem w_bi (f : BI) : Is (ev Φ (.bi f es) env S) P = IsA (evs Φ es env S) fun xs S1 => Is (opI f xs S1) P := by
  simp only [ev]
  cases evs Φ es env S with
  | none => first | rfl | (simp only [is_none, is_sq, isA_none, isA_sq, isP_none, isP_sq, isI_none, isI_sq, isB_none, isB_some, isS_none, isS_nx, isS_rt, isS_bk, isS_ct, ByB, Option.map_none, Option.map_some]; done) | (simp only [is_none, is_sq, isA_none, isA_sq, isP_none, isP_sq, isI_none, isI_sq, isB_none, isB_some, isS_none, isS_nx, isS_rt, isS_bk, isS_ct, ByB, Option.map_none, Option.map_some]; rfl)
  | some p => first | rfl | (simp only [is_none, is_sq, isA_none, isA_sq, isP_none, isP_sq, isI_none, isI_sq, isB_none, isB_some, isS_none, isS_nx, isS_rt, isS_bk, isS_ct, ByB, Option.map_none, Option.map_some]; done) | (simp only [is_none, is_sq, isA_none, isA_sq, isP_none, isP_sq, isI_none, isI_sq, isB_none, isB_some, isS_none, isS_nx, isS_rt, isS_bk, isS_ct, ByB, Option.map_none, Option.map_some]; rfl)
/-! sources -/
@[simp] theorem w_val {P : Src → Sto → Prop} : IsI (evi Φ (.val e) env S) P = Is (ev Φ e env S) fun x S1 => P (.seq x) S1 := by
  simp only [evi]
  cases ev Φ e env S with
  | none => first | rfl | (simp only [is_none, is_sq, isA_none, isA_sq, isP_none, isP_sq, isI_none, isI_sq, isB_none, isB_some, isS_none, isS_nx, isS_rt, isS_bk, isS_ct, ByB, Option.map_none, Option.map_some]; done) | (simp only [is_none, is_sq, isA_none, isA_sq, isP_none, isP_sq, isI_none, isI_sq, isB_none, isB_some, isS_none, isS_nx, isS_rt, isS_bk, isS_ct, ByB, Option.map_none, Option.map_some]; rfl)
  | some p => first | rfl | (simp only [is_none, is_sq, isA_none, isA_sq, isP_none, isP_sq, isI_none, isI_sq, isB_none, isB_some, isS_none, isS_nx, isS_rt, isS_bk, isS_ct, ByB, Option.map_none, Option.map_some]; done) | (simp only [is_none, is_sq, isA_none, isA_sq, isP_none, isP_sq, isI_none, isI_sq, isB_none, isB_some, isS_none, isS_nx, isS_rt, isS_bk, isS_ct, ByB, Option.map_none, Option.map_some]; rfl)
@[simp] theorem w_rng1 {P : Src → Sto → Prop} : IsI (evi Φ (.rng1 e) env S) P = Is (ev Φ e env S) fun x S1 => match x with | .int j => rngOk j = true ∧ P (.rng 0 j.toNat) S1 | _ => False := by
  simp only [evi]
  cases ev Φ e env S with
  | none => first | rfl | (simp only [is_none, is_sq, isA_none, isA_sq, isP_none, isP_sq, isI_none, isI_sq, isB_none, isB_some, isS_none, isS_nx, isS_rt, isS_bk, isS_ct, ByB, Option.map_none, Option.map_some]; done) | (simp only [is_none, is_sq, isA_none, isA_sq, isP_none, isP_sq, isI_none, isI_sq, isB_none, isB_some, isS_none, isS_nx, isS_rt, isS_bk, isS_ct, ByB, Option.map_none, Option.map_some]; rfl)
  | some p =>
    obtain ⟨x, S1⟩ := p
    cases x with
    | int j =>
      by_cases h : rngOk j = true
      · simp only [h, if_true, is_some, true_and]; first | rfl | (simp only [is_none, is_sq, isA_none, isA_sq, isP_none, isP_sq, isI_none, isI_sq, isB_none, isB_some, isS_none, isS_nx, isS_rt, isS_bk, isS_ct, ByB, Option.map_none, Option.map_some]; done) | (simp only [is_none, is_sq, isA_none, isA_sq, isP_none, isP_sq, isI_none, isI_sq, isB_none, isB_some, isS_none, isS_nx, isS_rt, isS_bk, isS_ct, ByB, Option.map_none, Option.map_some]; rfl)
      · simp only [is_some]; rw [if_neg h, isI_none]; simp only [eq_false h, false_and]
    | _ => first | rfl | (simp only [is_none, is_sq, isA_none, isA_sq, isP_none, isP_sq, isI_none, isI_sq, isB_none, isB_some, isS_none, isS_nx, isS_rt, isS_bk, isS_ct, ByB, Option.map_none, Option.map_some]; done) | (simp only [is_none, is_sq, isA_none, isA_sq, isP_none, isP_sq, isI_none, isI_sq, isB_none, isB_some, isS_none, isS_nx, isS_rt, isS_bk, isS_ct, ByB, Option.map_none, Option.map_some]; rfl)
@[simp] theorem w_rngd {P : Src → Sto → Prop} : IsI (evi Φ (.rngd e) env S) P = Is (ev Φ e env S) fun x S1 => match x with | .int j => rngOk j = true ∧ P (.rngd j (j + 1).toNat) S1 | _ => False := by
  simp only [evi]
  cases ev Φ e env S with
  | none => first | rfl | (simp only [is_none, is_sq, isA_none, isA_sq, isP_none, isP_sq, isI_none, isI_sq, isB_none, isB_some, isS_none, isS_nx, isS_rt, isS_bk, isS_ct, ByB, Option.map_none, Option.map_some]; done) | (simp only [is_none, is_sq, isA_none, isA_sq, isP_none, isP_sq, isI_none, isI_sq, isB_none, isB_some, isS_none, isS_nx, isS_rt, isS_bk, isS_ct, ByB, Option.map_none, Option.map_some]; rfl)
  | some p =>
    obtain ⟨x, S1⟩ := p
    cases x with
    | int j =>
      by_cases h : rngOk j = true
      · simp only [h, if_true, is_some, true_and]; first | rfl | (simp only [is_none, is_sq, isA_none, isA_sq, isP_none, isP_sq, isI_none, isI_sq, isB_none, isB_some, isS_none, isS_nx, isS_rt, isS_bk, isS_ct, ByB, Option.map_none, Option.map_some]; done) | (simp only [is_none, is_sq, isA_none, isA_sq, isP_none, isP_sq, isI_none, isI_sq, isB_none, isB_some, isS_none, isS_nx, isS_rt, isS_bk, isS_ct, ByB, Option.map_none, Option.map_some]; rfl)
      · simp only [is_some]; rw [if_neg h, isI_none]; simp only [eq_false h, false_and]
    | _ => first | rfl | (simp only [is_none, is_sq, isA_none, isA_sq, isP_none, isP_sq, isI_none, isI_sq, isB_none, isB_some, isS_none, isS_nx, isS_rt, isS_bk, isS_ct, ByB, Option.map_none, Option.map_some]; done) | (simp only [is_none, is_sq, isA_none, isA_sq, isP_none, isP_sq, isI_none, isI_sq, isB_none, isB_some, isS_none, isS_nx, isS_rt, isS_bk, isS_ct, ByB, Option.map_none, Option.map_some]; rfl)
@[simp] theorem w_fz {zs : List Nat} : Is (ev Φ (.fz zs e) env S) P = match slotsOf env zs with | some ws => Is (ev Φ e env (relock ws S)) fun w S' => P w (relock [] S') | none => False := by
  simp only [ev]
  cases slotsOf env zs with
  | none => exact is_none _
  | some ws =>
    simp only
    cases ev Φ e env (relock ws S) with
    | none => rw [is_none, is_none]
    | some r => rw [is_sq, is_sq]
@[simp] theorem w_lam {l : Nat} : Is (ev Φ (.lam l) env S) P = P (.lref S.length) (S ++ [.clo l []]) := by
  simp only [ev]
  exact is_some _ _ _
@[simp] theorem w_rng2 {P : Src → Sto → Prop} : IsI (evi Φ (.rng2 a b) env S) P = Is (ev Φ a env S) fun x S1 => match x with
    | .int i => Is (ev Φ b env S1) fun y S2 => match y with | .int j => (rngOk i && rngOk j) = true ∧ P (.rng i (j - i).toNat) S2 | _ => False
    | _ => False := by
  simp only [evi]
  cases ev Φ a env S with
  | none => first | rfl | (simp only [is_none, is_sq, isA_none, isA_sq, isP_none, isP_sq, isI_none, isI_sq, isB_none, isB_some, isS_none, isS_nx, isS_rt, isS_bk, isS_ct, ByB, Option.map_none, Option.map_some]; done) | (simp only [is_none, is_sq, isA_none, isA_sq, isP_none, isP_sq, isI_none, isI_sq, isB_none, isB_some, isS_none, isS_nx, isS_rt, isS_bk, isS_ct, ByB, Option.map_none, Option.map_some]; rfl)
  | some p =>
    obtain ⟨x, S1⟩ := p
    cases x with
    | int i =>
      simp only [is_some]
      cases ev Φ b env S1 with
      | none => first | rfl | (simp only [is_none, is_sq, isA_none, isA_sq, isP_none, isP_sq, isI_none, isI_sq, isB_none, isB_some, isS_none, isS_nx, isS_rt, isS_bk, isS_ct, ByB, Option.map_none, Option.map_some]; done) | (simp only [is_none, is_sq, isA_none, isA_sq, isP_none, isP_sq, isI_none, isI_sq, isB_none, isB_some, isS_none, isS_nx, isS_rt, isS_bk, isS_ct, ByB, Option.map_none, Option.map_some]; rfl)
      | some q =>
        obtain ⟨y, S2⟩ := q
        cases y with
        | int j =>
          by_cases h : (rngOk i && rngOk j) = true
          · simp only [h, if_true, is_some, true_and]; first | rfl | (simp only [is_none, is_sq, isA_none, isA_sq, isP_none, isP_sq, isI_none, isI_sq, isB_none, isB_some, isS_none, isS_nx, isS_rt, isS_bk, isS_ct, ByB, Option.map_none, Option.map_some]; done) | (simp only [is_none, is_sq, isA_none, isA_sq, isP_none, isP_sq, isI_none, isI_sq, isB_none, isB_some, isS_none, isS_nx, isS_rt, isS_bk, isS_ct, ByB, Option.map_none, Option.map_some]; rfl)
          · simp only [is_some]; rw [if_neg h, isI_none]; simp only [eq_false h, false_and]
        | _ => first | rfl | (simp only [is_none, is_sq, isA_none, isA_sq, isP_none, isP_sq, isI_none, isI_sq, isB_none, isB_some, isS_none, isS_nx, isS_rt, isS_bk, isS_ct, ByB, Option.map_none, Option.map_some]; done) | (simp only [is_none, is_sq, isA_none, isA_sq, isP_none, isP_sq, isI_none, isI_sq, isB_none, isB_some, isS_none, isS_nx, isS_rt, isS_bk, isS_ct, ByB, Option.map_none, Option.map_some]; rfl)
    | _ => first | rfl | (simp only [is_none, is_sq, isA_none, isA_sq, isP_none, isP_sq, isI_none, isI_sq, isB_none, isB_some, isS_none, isS_nx, isS_rt, isS_bk, isS_ct, ByB, Option.map_none, Option.map_some]; done) | (simp only [is_none, is_sq, isA_none, isA_sq, isP_none, isP_sq, isI_none, isI_sq, isB_none, isB_some, isS_none, isS_nx, isS_rt, isS_bk, isS_ct, ByB, Option.map_none, Option.map_some]; rfl)
/-! ### statements -/
@[simp] theorem w_enum {P : Src → Sto → Prop} : IsI (evi Φ (.enum e) env S) P = Is (ev Φ e env S) fun x S1 => match x with | .tup z => P (.seq (.tup (enumT 0 z))) S1 | .str z => P (.seq (.tup (enumT 0 (sgns z)))) S1 | _ => False := by
  simp only [evi]
  cases ev Φ e env S with
  | none => first | rfl | (simp only [is_none, is_sq, isA_none, isA_sq, isP_none, isP_sq, isI_none, isI_sq, isB_none, isB_some, isS_none, isS_nx, isS_rt, isS_bk, isS_ct, ByB, Option.map_none, Option.map_some]; done) | (simp only [is_none, is_sq, isA_none, isA_sq, isP_none, isP_sq, isI_none, isI_sq, isB_none, isB_some, isS_none, isS_nx, isS_rt, isS_bk, isS_ct, ByB, Option.map_none, Option.map_some]; rfl)
  | some q =>
    obtain ⟨x, S1⟩ := q
    cases x <;> first | rfl | (simp only [is_none, is_sq, isA_none, isA_sq, isP_none, isP_sq, isI_none, isI_sq, isB_none, isB_some, isS_none, isS_nx, isS_rt, isS_bk, isS_ct, ByB, Option.map_none, Option.map_some]; done) | (simp only [is_none, is_sq, isA_none, isA_sq, isP_none, isP_sq, isI_none, isI_sq, isB_none, isB_some, isS_none, isS_nx, isS_rt, isS_bk, isS_ct, ByB, Option.map_none, Option.map_some]; rfl)
@[simp] theorem w_zip {P : Src → Sto → Prop} : IsI (evi Φ (.zip a b) env S) P = Is (ev Φ a env S) fun x S1 => match x with | .tup z => (Is (ev Φ b env S1) fun y S2 => match y with | .tup u => P (.seq (.tup (zipT z u))) S2 | _ => False) | .str z => (Is (ev Φ b env S1) fun y S2 => match y with | .str u => P (.seq (.tup (zipT (sgns z) (sgns u)))) S2 | _ => False) | .ref z => (Is (ev Φ b env S1) fun y S2 => match y with | .ref u => P (.zipL z u) S2 | _ => False) | _ => False := by
  simp only [evi]
  cases ev Φ a env S with
  | none => first | rfl | (simp only [is_none, is_sq, isA_none, isA_sq, isP_none, isP_sq, isI_none, isI_sq, isB_none, isB_some, isS_none, isS_nx, isS_rt, isS_bk, isS_ct, ByB, Option.map_none, Option.map_some]; done) | (simp only [is_none, is_sq, isA_none, isA_sq, isP_none, isP_sq, isI_none, isI_sq, isB_none, isB_some, isS_none, isS_nx, isS_rt, isS_bk, isS_ct, ByB, Option.map_none, Option.map_some]; rfl)
  | some q =>
    obtain ⟨x, S1⟩ := q
    cases x with
    | tup z =>
      simp only [is_some]
      cases ev Φ b env S1 with
      | none => first | rfl | (simp only [is_none, is_sq, isA_none, isA_sq, isP_none, isP_sq, isI_none, isI_sq, isB_none, isB_some, isS_none, isS_nx, isS_rt, isS_bk, isS_ct, ByB, Option.map_none, Option.map_some]; done) | (simp only [is_none, is_sq, isA_none, isA_sq, isP_none, isP_sq, isI_none, isI_sq, isB_none, isB_some, isS_none, isS_nx, isS_rt, isS_bk, isS_ct, ByB, Option.map_none, Option.map_some]; rfl)
      | some r =>
        obtain ⟨y, S2⟩ := r
        cases y <;> first | rfl | (simp only [is_none, is_sq, isA_none, isA_sq, isP_none, isP_sq, isI_none, isI_sq, isB_none, isB_some, isS_none, isS_nx, isS_rt, isS_bk, isS_ct, ByB, Option.map_none, Option.map_some]; done) | (simp only [is_none, is_sq, isA_none, isA_sq, isP_none, isP_sq, isI_none, isI_sq, isB_none, isB_some, isS_none, isS_nx, isS_rt, isS_bk, isS_ct, ByB, Option.map_none, Option.map_some]; rfl)
    | str z =>
      simp only [is_some]
      cases ev Φ b env S1 with
      | none => first | rfl | (simp only [is_none, is_sq, isA_none, isA_sq, isP_none, isP_sq, isI_none, isI_sq, isB_none, isB_some, isS_none, isS_nx, isS_rt, isS_bk, isS_ct, ByB, Option.map_none, Option.map_some]; done) | (simp only [is_none, is_sq, isA_none, isA_sq, isP_none, isP_sq, isI_none, isI_sq, isB_none, isB_some, isS_none, isS_nx, isS_rt, isS_bk, isS_ct, ByB, Option.map_none, Option.map_some]; rfl)
      | some r =>
        obtain ⟨y, S2⟩ := r
        cases y <;> first | rfl | (simp only [is_none, is_sq, isA_none, isA_sq, isP_none, isP_sq, isI_none, isI_sq, isB_none, isB_some, isS_none, isS_nx, isS_rt, isS_bk, isS_ct, ByB, Option.map_none, Option.map_some]; done) | (simp only [is_none, is_sq, isA_none, isA_sq, isP_none, isP_sq, isI_none, isI_sq, isB_none, isB_some, isS_none, isS_nx, isS_rt, isS_bk, isS_ct, ByB, Option.map_none, Option.map_some]; rfl)
    | ref z =>
      simp only [is_some]
      cases ev Φ b env S1 with
      | none => first | rfl | (simp only [is_none, is_sq, isA_none, isA_sq, isP_none, isP_sq, isI_none, isI_sq, isB_none, isB_some, isS_none, isS_nx, isS_rt, isS_bk, isS_ct, ByB, Option.map_none, Option.map_some]; done) | (simp only [is_none, is_sq, isA_none, isA_sq, isP_none, isP_sq, isI_none, isI_sq, isB_none, isB_some, isS_none, isS_nx, isS_rt, isS_bk, isS_ct, ByB, Option.map_none, Option.map_some]; rfl)
      | some r =>
        obtain ⟨y, S2⟩ := r
        cases y <;> first | rfl | (simp only [is_none, is_sq, isA_none, isA_sq, isP_none, isP_sq, isI_none, isI_sq, isB_none, isB_some, isS_none, isS_nx, isS_rt, isS_bk, isS_ct, ByB, Option.map_none, Option.map_some]; done) | (simp only [is_none, is_sq, isA_none, isA_sq, isP_none, isP_sq, isI_none, isI_sq, isB_none, isB_some, isS_none, isS_nx, isS_rt, isS_bk, isS_ct, ByB, Option.map_none, Option.map_some]; rfl)
    | _ => first | rfl | (simp only [is_none, is_sq, isA_none, isA_sq, isP_none, isP_sq, isI_none, isI_sq, isB_none, isB_some, isS_none, isS_nx, isS_rt, isS_bk, isS_ct, ByB, Option.map_none, Option.map_some]; done) | (simp only [is_none, is_sq, isA_none, isA_sq, isP_none, isP_sq, isI_none, isI_sq, isB_none, isB_some, isS_none, isS_nx, isS_rt, isS_bk, isS_ct, ByB, Option.map_none, Option.map_some]; rfl)
@[simp] theorem s_nil {Q : W → Sto → Prop} : IsS (exs Φ .nil env S) N Q = N env S := by simp only [exs]; first | rfl | (simp only [is_none, is_sq, isA_none, isA_sq, isP_none, isP_sq, isI_none, isI_sq, isB_none, isB_some, isS_none, isS_nx, isS_rt, isS_bk, isS_ct, ByB, Option.map_none, Option.map_some]; done) | (simp only [is_none, is_sq, isA_none, isA_sq, isP_none, isP_sq, isI_none, isI_sq, isB_none, isB_some, isS_none, isS_nx, isS_rt, isS_bk, isS_ct, ByB, Option.map_none, Option.map_some]; rfl)
@[simp] theorem s_cons {Q : W → Sto → Prop} {s : CS} {ss : CSs} : IsS (exs Φ (.cons s ss) env S) N Q = IsS (ex Φ s env S) (fun env' S' => IsS (exs Φ ss env' S') N Q) Q := by
  simp only [exs]
  cases ex Φ s env S with
  | none => first | rfl | (simp only [is_none, is_sq, isA_none, isA_sq, isP_none, isP_sq, isI_none, isI_sq, isB_none, isB_some, isS_none, isS_nx, isS_rt, isS_bk, isS_ct, ByB, Option.map_none, Option.map_some]; done) | (simp only [is_none, is_sq, isA_none, isA_sq, isP_none, isP_sq, isI_none, isI_sq, isB_none, isB_some, isS_none, isS_nx, isS_rt, isS_bk, isS_ct, ByB, Option.map_none, Option.map_some]; rfl)
  | some f => cases f <;> first | rfl | (simp only [is_none, is_sq, isA_none, isA_sq, isP_none, isP_sq, isI_none, isI_sq, isB_none, isB_some, isS_none, isS_nx, isS_rt, isS_bk, isS_ct, ByB, Option.map_none, Option.map_some]; done) | (simp only [is_none, is_sq, isA_none, isA_sq, isP_none, isP_sq, isI_none, isI_sq, isB_none, isB_some, isS_none, isS_nx, isS_rt, isS_bk, isS_ct, ByB, Option.map_none, Option.map_some]; rfl)
@[simp] theorem s_ret {Q : W → Sto → Prop} : IsS (ex Φ (.ret e) env S) N Q = Is (ev Φ e env S) Q := by
  simp only [ex]
  cases ev Φ e env S with
  | none => first | rfl | (simp only [is_none, is_sq, isA_none, isA_sq, isP_none, isP_sq, isI_none, isI_sq, isB_none, isB_some, isS_none, isS_nx, isS_rt, isS_bk, isS_ct, ByB, Option.map_none, Option.map_some]; done) | (simp only [is_none, is_sq, isA_none, isA_sq, isP_none, isP_sq, isI_none, isI_sq, isB_none, isB_some, isS_none, isS_nx, isS_rt, isS_bk, isS_ct, ByB, Option.map_none, Option.map_some]; rfl)
  | some p => first | rfl | (simp only [is_none, is_sq, isA_none, isA_sq, isP_none, isP_sq, isI_none, isI_sq, isB_none, isB_some, isS_none, isS_nx, isS_rt, isS_bk, isS_ct, ByB, Option.map_none, Option.map_some]; done) | (simp only [is_none, is_sq, isA_none, isA_sq, isP_none, isP_sq, isI_none, isI_sq, isB_none, isB_some, isS_none, isS_nx, isS_rt, isS_bk, isS_ct, ByB, Option.map_none, Option.map_some]; rfl)
@[simp] theorem s_expr {Q : W → Sto → Prop} : IsS (ex Φ (.expr e) env S) N Q = Is (ev Φ e env S) fun _ S' => N env S' := by
  simp only [ex]
  cases ev Φ e env S with
  | none => first | rfl | (simp only [is_none, is_sq, isA_none, isA_sq, isP_none, isP_sq, isI_none, isI_sq, isB_none, isB_some, isS_none, isS_nx, isS_rt, isS_bk, isS_ct, ByB, Option.map_none, Option.map_some]; done) | (simp only [is_none, is_sq, isA_none, isA_sq, isP_none, isP_sq, isI_none, isI_sq, isB_none, isB_some, isS_none, isS_nx, isS_rt, isS_bk, isS_ct, ByB, Option.map_none, Option.map_some]; rfl)
  | some p => first | rfl | (simp only [is_none, is_sq, isA_none, isA_sq, isP_none, isP_sq, isI_none, isI_sq, isB_none, isB_some, isS_none, isS_nx, isS_rt, isS_bk, isS_ct, ByB, Option.map_none, Option.map_some]; done) | (simp only [is_none, is_sq, isA_none, isA_sq, isP_none, isP_sq, isI_none, isI_sq, isB_none, isB_some, isS_none, isS_nx, isS_rt, isS_bk, isS_ct, ByB, Option.map_none, Option.map_some]; rfl)
@[simp] theorem s_set {Q : W → Sto → Prop} {ts : List Nat} : IsS (ex Φ (.set ts e) env S) N Q = Is (ev Φ e env S) fun w S' => match bindT S' env ts w with | some env' => N env' S' | none => False := by
  simp only [ex]
  cases ev Φ e env S with
  | none => first | rfl | (simp only [is_none, is_sq, isA_none, isA_sq, isP_none, isP_sq, isI_none, isI_sq, isB_none, isB_some, isS_none, isS_nx, isS_rt, isS_bk, isS_ct, ByB, Option.map_none, Option.map_some]; done) | (simp only [is_none, is_sq, isA_none, isA_sq, isP_none, isP_sq, isI_none, isI_sq, isB_none, isB_some, isS_none, isS_nx, isS_rt, isS_bk, isS_ct, ByB, Option.map_none, Option.map_some]; rfl)
  | some p =>
    obtain ⟨w, S1⟩ := p
    simp only [is_some]
    cases bindT S1 env ts w <;> first | rfl | (simp only [is_none, is_sq, isA_none, isA_sq, isP_none, isP_sq, isI_none, isI_sq, isB_none, isB_some, isS_none, isS_nx, isS_rt, isS_bk, isS_ct, ByB, Option.map_none, Option.map_some]; done) | (simp only [is_none, is_sq, isA_none, isA_sq, isP_none, isP_sq, isI_none, isI_sq, isB_none, isB_some, isS_none, isS_nx, isS_rt, isS_bk, isS_ct, ByB, Option.map_none, Option.map_some]; rfl)
@[simp] theorem s_if {Q : W → Sto → Prop} {A B : CSs} : IsS (ex Φ (.ifs c A B) env S) N Q = Is (ev Φ c env S) fun x S1 => ByB x (IsS (exs Φ A env S1) N Q) (IsS (exs Φ B env S1) N Q) := by
  simp only [ex]
  cases ev Φ c env S with
  | none => first | rfl | (simp only [is_none, is_sq, isA_none, isA_sq, isP_none, isP_sq, isI_none, isI_sq, isB_none, isB_some, isS_none, isS_nx, isS_rt, isS_bk, isS_ct, ByB, Option.map_none, Option.map_some]; done) | (simp only [is_none, is_sq, isA_none, isA_sq, isP_none, isP_sq, isI_none, isI_sq, isB_none, isB_some, isS_none, isS_nx, isS_rt, isS_bk, isS_ct, ByB, Option.map_none, Option.map_some]; rfl)
  | some p =>
    obtain ⟨x, S1⟩ := p
    cases x with
    | bl k => cases k <;> first | rfl | (simp only [is_none, is_sq, isA_none, isA_sq, isP_none, isP_sq, isI_none, isI_sq, isB_none, isB_some, isS_none, isS_nx, isS_rt, isS_bk, isS_ct, ByB, Option.map_none, Option.map_some]; done) | (simp only [is_none, is_sq, isA_none, isA_sq, isP_none, isP_sq, isI_none, isI_sq, isB_none, isB_some, isS_none, isS_nx, isS_rt, isS_bk, isS_ct, ByB, Option.map_none, Option.map_some]; rfl)
    | _ => first | rfl | (simp only [is_none, is_sq, isA_none, isA_sq, isP_none, isP_sq, isI_none, isI_sq, isB_none, isB_some, isS_none, isS_nx, isS_rt, isS_bk, isS_ct, ByB, Option.map_none, Option.map_some]; done) | (simp only [is_none, is_sq, isA_none, isA_sq, isP_none, isP_sq, isI_none, isI_sq, isB_none, isB_some, isS_none, isS_nx, isS_rt, isS_bk, isS_ct, ByB, Option.map_none, Option.map_some]; rfl)
@[simp] theorem s_pass {Q : W → Sto → Prop} : IsS (ex Φ .pass env S) N Q = N env S := by simp only [ex]; first | rfl | (simp only [is_none, is_sq, isA_none, isA_sq, isP_none, isP_sq, isI_none, isI_sq, isB_none, isB_some, isS_none, isS_nx, isS_rt, isS_bk, isS_ct, ByB, Option.map_none, Option.map_some]; done) | (simp only [is_none, is_sq, isA_none, isA_sq, isP_none, isP_sq, isI_none, isI_sq, isB_none, isB_some, isS_none, isS_nx, isS_rt, isS_bk, isS_ct, ByB, Option.map_none, Option.map_some]; rfl)
@[simp] theorem s_setix {Q : W → Sto → Prop} {o i : CE} : IsS (ex Φ (.setix o i e) env S) N Q = Is (ev Φ e env S) fun w S1 => Is (ev Φ o env S1) fun x S2 => match x with
    | .ref k => Is (ev Φ i env S2) fun y S3 => match y with
      | .int j => match rdL S3 k with
        | some xs => match ixN xs.length j with
          | some n => N env (S3.set k (.lst (xs.set n w)))
          | none => False
        | none => False
      | _ => False
    | _ => False := by
  simp only [ex]
  cases ev Φ e env S with
  | none => first | rfl | (simp only [is_none, is_sq, isA_none, isA_sq, isP_none, isP_sq, isI_none, isI_sq, isB_none, isB_some, isS_none, isS_nx, isS_rt, isS_bk, isS_ct, ByB, Option.map_none, Option.map_some]; done) | (simp only [is_none, is_sq, isA_none, isA_sq, isP_none, isP_sq, isI_none, isI_sq, isB_none, isB_some, isS_none, isS_nx, isS_rt, isS_bk, isS_ct, ByB, Option.map_none, Option.map_some]; rfl)
  | some p =>
    obtain ⟨w, S1⟩ := p
    simp only [is_some]
    cases ev Φ o env S1 with
    | none => first | rfl | (simp only [is_none, is_sq, isA_none, isA_sq, isP_none, isP_sq, isI_none, isI_sq, isB_none, isB_some, isS_none, isS_nx, isS_rt, isS_bk, isS_ct, ByB, Option.map_none, Option.map_some]; done) | (simp only [is_none, is_sq, isA_none, isA_sq, isP_none, isP_sq, isI_none, isI_sq, isB_none, isB_some, isS_none, isS_nx, isS_rt, isS_bk, isS_ct, ByB, Option.map_none, Option.map_some]; rfl)
    | some q =>
      obtain ⟨x, S2⟩ := q
      cases x with
      | ref k =>
        simp only [is_some]
        cases ev Φ i env S2 with
        | none => first | rfl | (simp only [is_none, is_sq, isA_none, isA_sq, isP_none, isP_sq, isI_none, isI_sq, isB_none, isB_some, isS_none, isS_nx, isS_rt, isS_bk, isS_ct, ByB, Option.map_none, Option.map_some]; done) | (simp only [is_none, is_sq, isA_none, isA_sq, isP_none, isP_sq, isI_none, isI_sq, isB_none, isB_some, isS_none, isS_nx, isS_rt, isS_bk, isS_ct, ByB, Option.map_none, Option.map_some]; rfl)
        | some r =>
          obtain ⟨y, S3⟩ := r
          cases y with
          | int j =>
            simp only [is_some, rdM]
            cases rdL S3 k with
            | none => first | rfl | (simp only [is_none, is_sq, isA_none, isA_sq, isP_none, isP_sq, isI_none, isI_sq, isB_none, isB_some, isS_none, isS_nx, isS_rt, isS_bk, isS_ct, ByB, Option.map_none, Option.map_some]; done) | (simp only [is_none, is_sq, isA_none, isA_sq, isP_none, isP_sq, isI_none, isI_sq, isB_none, isB_some, isS_none, isS_nx, isS_rt, isS_bk, isS_ct, ByB, Option.map_none, Option.map_some]; rfl)
            | some xs =>
              simp only
              cases ixN xs.length j <;> first | rfl | (simp only [is_none, is_sq, isA_none, isA_sq, isP_none, isP_sq, isI_none, isI_sq, isB_none, isB_some, isS_none, isS_nx, isS_rt, isS_bk, isS_ct, ByB, Option.map_none, Option.map_some]; done) | (simp only [is_none, is_sq, isA_none, isA_sq, isP_none, isP_sq, isI_none, isI_sq, isB_none, isB_some, isS_none, isS_nx, isS_rt, isS_bk, isS_ct, ByB, Option.map_none, Option.map_some]; rfl)
          | _ => first | rfl | (simp only [is_none, is_sq, isA_none, isA_sq, isP_none, isP_sq, isI_none, isI_sq, isB_none, isB_some, isS_none, isS_nx, isS_rt, isS_bk, isS_ct, ByB, Option.map_none, Option.map_some]; done) | (simp only [is_none, is_sq, isA_none, isA_sq, isP_none, isP_sq, isI_none, isI_sq, isB_none, isB_some, isS_none, isS_nx, isS_rt, isS_bk, isS_ct, ByB, Option.map_none, Option.map_some]; rfl)
      | _ => first | rfl | (simp only [is_none, is_sq, isA_none, isA_sq, isP_none, isP_sq, isI_none, isI_sq, isB_none, isB_some, isS_none, isS_nx, isS_rt, isS_bk, isS_ct, ByB, Option.map_none, Option.map_some]; done) | (simp only [is_none, is_sq, isA_none, isA_sq, isP_none, isP_sq, isI_none, isI_sq, isB_none, isB_some, isS_none, isS_nx, isS_rt, isS_bk, isS_ct, ByB, Option.map_none, Option.map_some]; rfl)
@[simp] theorem s_app {Q : W → Sto → Prop} {o : CE} : IsS (ex Φ (.app o e) env S) N Q = Is (ev Φ o env S) fun x S1 => match x with
    | .ref k => Is (ev Φ e env S1) fun w S2 => match rdL S2 k with
      | some xs => xs.length < LIM ∧ N env (S2.set k (.lst (xs ++ [w])))
      | none => False
    | _ => False := by
  simp only [ex]
  cases ev Φ o env S with
  | none => first | rfl | (simp only [is_none, is_sq, isA_none, isA_sq, isP_none, isP_sq, isI_none, isI_sq, isB_none, isB_some, isS_none, isS_nx, isS_rt, isS_bk, isS_ct, ByB, Option.map_none, Option.map_some]; done) | (simp only [is_none, is_sq, isA_none, isA_sq, isP_none, isP_sq, isI_none, isI_sq, isB_none, isB_some, isS_none, isS_nx, isS_rt, isS_bk, isS_ct, ByB, Option.map_none, Option.map_some]; rfl)
  | some q =>
    obtain ⟨x, S2⟩ := q
    cases x with
    | ref k =>
      simp only [is_some]
      cases ev Φ e env S2 with
      | none => first | rfl | (simp only [is_none, is_sq, isA_none, isA_sq, isP_none, isP_sq, isI_none, isI_sq, isB_none, isB_some, isS_none, isS_nx, isS_rt, isS_bk, isS_ct, ByB, Option.map_none, Option.map_some]; done) | (simp only [is_none, is_sq, isA_none, isA_sq, isP_none, isP_sq, isI_none, isI_sq, isB_none, isB_some, isS_none, isS_nx, isS_rt, isS_bk, isS_ct, ByB, Option.map_none, Option.map_some]; rfl)
      | some r =>
        obtain ⟨y, S3⟩ := r
        simp only [is_some, rdM]
        cases rdL S3 k with
        | none => first | rfl | (simp only [is_none, is_sq, isA_none, isA_sq, isP_none, isP_sq, isI_none, isI_sq, isB_none, isB_some, isS_none, isS_nx, isS_rt, isS_bk, isS_ct, ByB, Option.map_none, Option.map_some]; done) | (simp only [is_none, is_sq, isA_none, isA_sq, isP_none, isP_sq, isI_none, isI_sq, isB_none, isB_some, isS_none, isS_nx, isS_rt, isS_bk, isS_ct, ByB, Option.map_none, Option.map_some]; rfl)
        | some xs =>
          simp only
          by_cases h : xs.length < LIM
          · simp only [h, if_true, true_and]; first | rfl | (simp only [is_none, is_sq, isA_none, isA_sq, isP_none, isP_sq, isI_none, isI_sq, isB_none, isB_some, isS_none, isS_nx, isS_rt, isS_bk, isS_ct, ByB, Option.map_none, Option.map_some]; done) | (simp only [is_none, is_sq, isA_none, isA_sq, isP_none, isP_sq, isI_none, isI_sq, isB_none, isB_some, isS_none, isS_nx, isS_rt, isS_bk, isS_ct, ByB, Option.map_none, Option.map_some]; rfl)
          · simp only [h, if_false, false_and]; first | rfl | (simp only [is_none, is_sq, isA_none, isA_sq, isP_none, isP_sq, isI_none, isI_sq, isB_none, isB_some, isS_none, isS_nx, isS_rt, isS_bk, isS_ct, ByB, Option.map_none, Option.map_some]; done) | (simp only [is_none, is_sq, isA_none, isA_sq, isP_none, isP_sq, isI_none, isI_sq, isB_none, isB_some, isS_none, isS_nx, isS_rt, isS_bk, isS_ct, ByB, Option.map_none, Option.map_some]; rfl)
    | _ => first | rfl | (simp only [is_none, is_sq, isA_none, isA_sq, isP_none, isP_sq, isI_none, isI_sq, isB_none, isB_some, isS_none, isS_nx, isS_rt, isS_bk, isS_ct, ByB, Option.map_none, Option.map_some]; done) | (simp only [is_none, is_sq, isA_none, isA_sq, isP_none, isP_sq, isI_none, isI_sq, isB_none, isB_some, isS_none, isS_nx, isS_rt, isS_bk, isS_ct, ByB, Option.map_none, Option.map_some]; rfl)
theorem seqW_ref (k : Nat) : seqW S (.ref k) = rdL S k := rfl
theorem seqW_tup (xs : List W) : seqW S (.tup xs) = some xs := rfl
@[simp] theorem s_ext {Q : W → Sto → Prop} {o : CE} : IsS (ex Φ (.ext o e) env S) N Q = Is (ev Φ o env S) fun x S1 => match x with
    | .ref k => Is (ev Φ e env S1) fun w S2 => match rdL S2 k, seqW S2 w with
        | some xs, some ys => xs.length + ys.length ≤ LIM ∧ N env (S2.set k (.lst (xs ++ ys)))
        | _, _ => False
    | _ => False := by
  simp only [ex]
  cases ev Φ o env S with
  | none => first | rfl | (simp only [is_none, is_sq, isA_none, isA_sq, isP_none, isP_sq, isI_none, isI_sq, isB_none, isB_some, isS_none, isS_nx, isS_rt, isS_bk, isS_ct, ByB, Option.map_none, Option.map_some]; done) | (simp only [is_none, is_sq, isA_none, isA_sq, isP_none, isP_sq, isI_none, isI_sq, isB_none, isB_some, isS_none, isS_nx, isS_rt, isS_bk, isS_ct, ByB, Option.map_none, Option.map_some]; rfl)
  | some q =>
    obtain ⟨x, S2⟩ := q
    cases x with
    | ref k =>
      simp only [is_some]
      cases ev Φ e env S2 with
      | none => first | rfl | (simp only [is_none, is_sq, isA_none, isA_sq, isP_none, isP_sq, isI_none, isI_sq, isB_none, isB_some, isS_none, isS_nx, isS_rt, isS_bk, isS_ct, ByB, Option.map_none, Option.map_some]; done) | (simp only [is_none, is_sq, isA_none, isA_sq, isP_none, isP_sq, isI_none, isI_sq, isB_none, isB_some, isS_none, isS_nx, isS_rt, isS_bk, isS_ct, ByB, Option.map_none, Option.map_some]; rfl)
      | some r =>
        obtain ⟨y, S3⟩ := r
        simp only [is_some, rdM]
        cases rdL S3 k with
        | none => first | rfl | (simp only [is_none, is_sq, isA_none, isA_sq, isP_none, isP_sq, isI_none, isI_sq, isB_none, isB_some, isS_none, isS_nx, isS_rt, isS_bk, isS_ct, ByB, Option.map_none, Option.map_some]; done) | (simp only [is_none, is_sq, isA_none, isA_sq, isP_none, isP_sq, isI_none, isI_sq, isB_none, isB_some, isS_none, isS_nx, isS_rt, isS_bk, isS_ct, ByB, Option.map_none, Option.map_some]; rfl)
        | some xs =>
          cases seqW S3 y with
          | none => first | rfl | (simp only [is_none, is_sq, isA_none, isA_sq, isP_none, isP_sq, isI_none, isI_sq, isB_none, isB_some, isS_none, isS_nx, isS_rt, isS_bk, isS_ct, ByB, Option.map_none, Option.map_some]; done) | (simp only [is_none, is_sq, isA_none, isA_sq, isP_none, isP_sq, isI_none, isI_sq, isB_none, isB_some, isS_none, isS_nx, isS_rt, isS_bk, isS_ct, ByB, Option.map_none, Option.map_some]; rfl)
          | some ys =>
            simp only
            by_cases h : xs.length + ys.length ≤ LIM
            · simp only [h, if_true, true_and]; first | rfl | (simp only [is_none, is_sq, isA_none, isA_sq, isP_none, isP_sq, isI_none, isI_sq, isB_none, isB_some, isS_none, isS_nx, isS_rt, isS_bk, isS_ct, ByB, Option.map_none, Option.map_some]; done) | (simp only [is_none, is_sq, isA_none, isA_sq, isP_none, isP_sq, isI_none, isI_sq, isB_none, isB_some, isS_none, isS_nx, isS_rt, isS_bk, isS_ct, ByB, Option.map_none, Option.map_some]; rfl)
            · simp only [h, if_false, false_and]; first | rfl | (simp only [is_none, is_sq, isA_none, isA_sq, isP_none, isP_sq, isI_none, isI_sq, isB_none, isB_some, isS_none, isS_nx, isS_rt, isS_bk, isS_ct, ByB, Option.map_none, Option.map_some]; done) | (simp only [is_none, is_sq, isA_none, isA_sq, isP_none, isP_sq, isI_none, isI_sq, isB_none, isB_some, isS_none, isS_nx, isS_rt, isS_bk, isS_ct, ByB, Option.map_none, Option.map_some]; rfl)
    | _ => first | rfl | (simp only [is_none, is_sq, isA_none, isA_sq, isP_none, isP_sq, isI_none, isI_sq, isB_none, isB_some, isS_none, isS_nx, isS_rt, isS_bk, isS_ct, ByB, Option.map_none, Option.map_some]; done) | (simp only [is_none, is_sq, isA_none, isA_sq, isP_none, isP_sq, isI_none, isI_sq, isB_none, isB_some, isS_none, isS_nx, isS_rt, isS_bk, isS_ct, ByB, Option.map_none, Option.map_some]; rfl)
end
/-! ### loops by what holds between their turns -/
theorem w_for {Φ : Fns} {env : Env} {S : Sto} {N : Env → Sto → Prop} {Q : W → Sto → Prop} {ts : List Nat} {s : CI} {b : CSs} {n : Nat} (Inv : Nat → Env → Sto → Prop)
    (h : IsI (evi Φ s env S) fun J S1 => J.len S1 = some n ∧ Inv 0 env S1 ∧ (∀ i env S, i < n → Inv i env S → ∃ x env', J.item S i = some x ∧ bindT S env ts x = some env' ∧ IsS (exs Φ b env' S) (Inv (i + 1)) Q) ∧ ∀ env S, Inv n env S → (∃ n', n' ≤ n ∧ J.len S = some n') ∧ N env S) :
    IsS (ex Φ (.for_ ts s b) env S) N Q := by
  rw [ex_for_eq]
  cases he : evi Φ s env S with
  | none => rw [he, isI_none] at h; exact h.elim
  | some p =>
    obtain ⟨J, S1⟩ := p
    rw [he, isI_some] at h
    obtain ⟨h1, h2, h3, h4⟩ := h
    simp only [h1]
    have go : ∀ m i env S, i + m = n → Inv i env S → IsS (forGo (turnF Φ ts b J) i m env S) (Inv n) Q := by
      intro m
      induction m with
      | zero =>
        intro i env S him hi
        have e : i = n := by omega
        subst e
        rw [forGo, isS_nx]
        exact hi
      | succ m ih =>
        intro i env S him hi
        obtain ⟨x, env', e1, e2, e3⟩ := h3 i env S (by omega) hi
        simp only [forGo, turnF, e1, e2]
        cases hr : exs Φ b env' S with
        | none => rw [hr, isS_none] at e3; exact e3.elim
        | some f =>
          rw [hr] at e3
          cases f with
          | nx env2 S2 => rw [isS_nx] at e3; exact ih (i + 1) env2 S2 (by omega) e3
          | rt w S2 => rw [isS_rt] at e3; simp only [isS_rt]; exact e3
          | bk _ _ => rw [isS_bk] at e3; exact e3.elim
          | ct _ _ => rw [isS_ct] at e3; exact e3.elim
    have r := go n 0 env S1 (by omega) h2
    revert r
    generalize forGo (turnF Φ ts b J) 0 n env S1 = q
    intro r
    cases q with
    | none => rw [isS_none] at r; exact r.elim
    | some f =>
      cases f with
      | nx env2 S2 =>
        rw [isS_nx] at r
        obtain ⟨⟨n', a1, a2⟩, a3⟩ := h4 env2 S2 r
        simp only [a2, a1, if_true, isS_nx]
        exact a3
      | rt w S2 => rw [isS_rt] at r; simp only [isS_rt]; exact r
      | bk _ _ => rw [isS_bk] at r; exact r.elim
      | ct _ _ => rw [isS_ct] at r; exact r.elim
theorem w_comp {Φ : Fns} {env : Env} {S : Sto} {P : W → Sto → Prop} {vs ts : List Nat} {s : CI} {t e : CE} {n : Nat} (hn : n ≤ LIM) (Inv : Nat → List W → Sto → Prop)
    (h : IsI (evi Φ s env S) fun J S1 => J.len S1 = some n ∧ Inv 0 [] S1 ∧ (∀ i acc S, i < n → Inv i acc S → ∃ x env', J.item S i = some x ∧ bindT S (wipe env vs) ts x = some env' ∧ Is (ev Φ t env' S) fun k S' => ByB k (Is (ev Φ e env' S') fun w S2 => Inv (i + 1) (acc ++ [w]) S2) (Inv (i + 1) acc S')) ∧
      ∀ acc S, acc.length ≤ n → Inv n acc S → (∃ n', n' ≤ n ∧ J.len S = some n') ∧ P (.ref S.length) (S ++ [.lst acc])) :
    Is (ev Φ (.comp vs ts s t e) env S) P := by
  rw [ev_comp_eq]
  cases he : evi Φ s env S with
  | none => rw [he, isI_none] at h; exact h.elim
  | some p =>
    obtain ⟨J, S1⟩ := p
    rw [he, isI_some] at h
    obtain ⟨h1, h2, h3, h4⟩ := h
    simp only [h1]
    have go : ∀ m i acc S, i + m = n → acc.length ≤ i → Inv i acc S → ∃ acc' S', compGo (turnC Φ vs ts t e env J) i m acc S = some (acc', S') ∧ acc'.length ≤ n ∧ Inv n acc' S' := by
      intro m
      induction m with
      | zero =>
        intro i acc S him hl hi
        have e : i = n := by omega
        subst e
        exact ⟨acc, S, rfl, hl, hi⟩
      | succ m ih =>
        intro i acc S him hl hi
        obtain ⟨x, env', e1, e2, e3⟩ := h3 i acc S (by omega) hi
        obtain ⟨k, S', e4, e5⟩ := Is.ex e3
        simp only [compGo, turnC, e1, e2, e4]
        cases k with
        | bl k =>
          cases k with
          | true =>
            rw [byB_true] at e5
            obtain ⟨w, S2, e6, e7⟩ := Is.ex e5
            simp only [e6]
            rw [if_pos (by omega)]
            exact ih (i + 1) _ S2 (by omega) (by rw [List.length_append, List.length_singleton]; omega) e7
          | false => exact ih (i + 1) _ S' (by omega) (by omega) e5
        | _ => exact e5.elim
    obtain ⟨acc', S', r1, r2, r3⟩ := go n 0 [] S1 (by omega) (by simp) h2
    obtain ⟨⟨n', a1, a2⟩, a3⟩ := h4 acc' S' r2 r3
    simp only [r1, a2, a1, if_true]
    rw [w_new]
    exact ⟨by omega, a3⟩
/-! ### calls -/
theorem w_while {Φ : Fns} {N : Env → Sto → Prop} {Q : W → Sto → Prop} {n : Nat} {t : CE} {b : CSs} (Inv : Nat → Env → Sto → Prop)
    (step : ∀ m env S, Inv m env S → Is (ev Φ t env S) fun x S1 => ByB x (∃ m', m = m' + 1 ∧ IsS (exs Φ b env S1) (Inv m') Q) (N env S1)) :
    ∀ (M : Nat) {env : Env} {S : Sto}, Inv M env S → M < n → IsS (ex Φ (.whl n t b) env S) N Q := by
  have go : ∀ (n M : Nat) (env : Env) (S : Sto), Inv M env S → M < n → IsS (whlGo (ev Φ t) (exs Φ b) n env S) N Q := by
    intro n
    induction n with
    | zero => intro M env S _ h; omega
    | succ n ih =>
      intro M env S h0 hM
      obtain ⟨x, S1, e1, h1⟩ := (step M env S h0).ex
      rw [whlGo, e1]
      cases x with
      | bl c =>
        cases c with
        | true =>
          obtain ⟨m', rfl, h2⟩ := h1
          obtain ⟨r, e2, h3⟩ := Wp.ex h2
          simp only [e2]
          cases r with
          | nx env' S' => exact ih m' env' S' h3 (by omega)
          | rt w S' => exact ⟨_, rfl, h3⟩
          | bk _ _ => exact h3.elim
          | ct _ _ => exact h3.elim
        | false => exact ⟨_, rfl, h1⟩
      | _ => exact h1.elim
  intro M env S h0 hM
  exact go n M env S h0 hM
theorem w_callF {ds : Nat → Option Def} {k f : Nat} {ws : List W} {S : Sto} {P : W → Sto → Prop} {d : Def} (hd : ds f = some d) (hn : ws.length = d.ar) (h : IsS (exs (callF ds k) d.body (start d.sl ws) S) (fun _ S' => P .non S') P) : Is (callF ds (k + 1) f ws S) P := by
  simp only [callF, hd, hn, if_true]
  revert h
  cases exs (callF ds k) d.body (start d.sl ws) S with
  | none => intro h; rw [isS_none] at h; exact h.elim
  | some f =>
    cases f with
    | nx env S2 => intro h; rw [isS_nx] at h; simp only [fin, is_some]; exact h
    | rt w S2 => intro h; rw [isS_rt] at h; simp only [fin, is_some]; exact h
    | bk _ _ => intro h; rw [isS_bk] at h; exact h.elim
    | ct _ _ => intro h; rw [isS_ct] at h; exact h.elim

/-! ### the store -/
/-- all that stood in the store stands -/
def Kp (S S' : Sto) : Prop := S.length ≤ S'.length ∧ ∀ k, k < S.length → S'[k]? = S[k]?
theorem Kp.refl (S : Sto) : Kp S S := ⟨Nat.le_refl _, fun _ _ => rfl⟩
theorem Kp.trans {S S1 S2 : Sto} (a : Kp S S1) (b : Kp S1 S2) : Kp S S2 := ⟨Nat.le_trans a.1 b.1, fun k h => (b.2 k (Nat.lt_of_lt_of_le h a.1)).trans (a.2 k h)⟩
theorem Kp.app (S T : Sto) : Kp S (S ++ T) := ⟨by rw [List.length_append]; omega, fun k h => List.getElem?_append_left h⟩
theorem Kp.get {S S' : Sto} (h : Kp S S') {k : Nat} {o : SO} (e : S[k]? = some o) : S'[k]? = some o := (h.2 k (List.getElem?_eq_some_iff.mp e).1).trans e
theorem Kp.snoc {S S' : Sto} (h : Kp S S') (o : SO) : Kp S (S' ++ [o]) := h.trans (.app _ _)
@[simp] theorem rdL_new (S : Sto) (xs : List W) : rdL (S ++ [.lst xs]) S.length = some xs := by
  unfold rdL
  rw [List.getElem?_append_right (Nat.le_refl _), Nat.sub_self]
  rfl
theorem rdL_of {S : Sto} {k : Nat} {xs : List W} (h : S[k]? = some (.lst xs)) : rdL S k = some xs := by
  unfold rdL
  rw [h]
theorem rdL_iff {S : Sto} {k : Nat} {xs : List W} : rdL S k = some xs ↔ S[k]? = some (.lst xs) := by
  constructor
  · intro h
    unfold rdL at h
    split at h
    · rename_i e
      cases h
      exact e
    · cases h
  · exact rdL_of
end MP
namespace MP
/-! ### what a source has -/
def Src.items (S : Sto) : Src → Option (List W)
  | .rng lo n => some ((List.range n).map fun i => .int (lo + (i : Nat)))
  | .rngd lo n => some ((List.range n).map fun i => .int (lo - (i : Nat)))
  | .seq (.tup xs) => some xs
  | .seq (.str xs) => some (xs.map fun c => .str [c])
  | .seq (.ref k) => rdL S k
  | .seq _ => none
  | .zipL k l => match rdL S k, rdL S l with
    | some x, some y => some (zipT x y)
    | _, _ => none
theorem items_len {J : Src} {S : Sto} {its : List W} (h : J.items S = some its) : J.len S = some its.length := by
  cases J with
  | rng lo n => simp only [Src.items] at h; cases h; simp [Src.len]
  | rngd lo n => simp only [Src.items] at h; cases h; simp [Src.len]
  | seq w => cases w <;> simp only [Src.items] at h <;> first | (cases h; simp [Src.len]; done) | (simp [Src.len, h]; done) | cases h
  | zipL k l =>
    simp only [Src.items] at h
    simp only [Src.len]
    split at h
    · rename_i x y e1 e2
      cases h
      simp only [e1, e2]
    · cases h
theorem items_at {J : Src} {S : Sto} {its : List W} (h : J.items S = some its) (i : Nat) : J.item S i = its[i]? := by
  cases J with
  | rng lo n =>
    simp only [Src.items] at h
    cases h
    simp only [Src.item]
    by_cases hi : i < n
    · simp [hi]
    · simp [hi]
  | rngd lo n =>
    simp only [Src.items] at h
    cases h
    simp only [Src.item]
    by_cases hi : i < n
    · simp [hi]
    · simp [hi]
  | seq w => cases w <;> simp only [Src.items] at h <;> first | (cases h; simp [Src.item]; done) | (simp [Src.item, h]; done) | cases h
  | zipL k l =>
    simp only [Src.items] at h
    simp only [Src.item]
    split at h
    · rename_i x y e1 e2
      cases h
      simp only [e1, e2]
    · cases h
/-- a comprehension whose turns leave the store as it is -/
theorem w_compP {Φ : Fns} {env : Env} {S : Sto} {P : W → Sto → Prop} {vs ts : List Nat} {s : CI} {t e : CE} (its : List W) (p : W → Bool) (f : W → W) (hl : its.length ≤ LIM)
    (h : IsI (evi Φ s env S) fun J S1 => J.items S1 = some its ∧ (∀ x ∈ its, ∃ env', bindT S1 (wipe env vs) ts x = some env' ∧ Is (ev Φ t env' S1) fun k S' => k = .bl (p x) ∧ S' = S1 ∧ (p x = true → Is (ev Φ e env' S1) fun w S2 => w = f x ∧ S2 = S1)) ∧
      P (.ref S1.length) (S1 ++ [.lst ((its.filter p).map f)])) : Is (ev Φ (.comp vs ts s t e) env S) P := by
  cases he : evi Φ s env S with
  | none => rw [he, isI_none] at h; exact h.elim
  | some q =>
    obtain ⟨J, S1⟩ := q
    rw [he, isI_some] at h
    obtain ⟨h1, h2, h3⟩ := h
    refine w_comp (n := its.length) hl (fun i acc S' => acc = ((its.take i).filter p).map f ∧ S' = S1) ?_
    rw [he, isI_some]
    refine ⟨items_len h1, ⟨by simp, rfl⟩, fun i acc S' hi hI => ?_, fun acc S' _ hI => ?_⟩
    · obtain ⟨rfl, rfl⟩ := hI
      have hx : its[i]? = some its[i] := List.getElem?_eq_getElem hi
      obtain ⟨env', b1, b2⟩ := h2 its[i] (List.getElem_mem hi)
      refine ⟨its[i], env', by rw [items_at h1, hx], b1, b2.imp fun k S2 hk => ?_⟩
      obtain ⟨rfl, rfl, h5⟩ := hk
      have ht : its.take (i + 1) = its.take i ++ [its[i]] := by rw [List.take_add_one, hx]; rfl
      cases hp : p its[i] with
      | true =>
        rw [byB_true]
        refine (h5 hp).imp fun w S3 hw => ?_
        obtain ⟨rfl, rfl⟩ := hw
        refine ⟨?_, rfl⟩
        rw [ht, List.filter_append, List.map_append]
        simp [hp]
      | false =>
        rw [byB_false]
        refine ⟨?_, rfl⟩
        rw [ht, List.filter_append, List.map_append]
        simp [hp]
    · obtain ⟨rfl, rfl⟩ := hI
      rw [List.take_length]
      exact ⟨⟨_, Nat.le_refl _, items_len h1⟩, h3⟩
end MP
namespace MP
section
variable {S : Sto} {P : W → Sto → Prop} {Q : Bool → Prop} {i j : Int} {x y : List Nat} {a b : Bool} {u v : List W} {k l : Nat} {w : W}
theorem isI_ite (c : Prop) [Decidable c] (r : W × Sto) : Is (if c then some r else none) P = (c ∧ P r.1 r.2) := by
  by_cases h : c
  · simp only [h, if_true, true_and]; first | rfl | (simp only [is_none, is_sq, isB_none, isB_some, Option.map_none, Option.map_some]; done) | (simp only [is_none, is_sq, isB_none, isB_some, Option.map_none, Option.map_some]; rfl)
  · simp only [h, if_false, false_and]; first | rfl | (simp only [is_none, is_sq, isB_none, isB_some, Option.map_none, Option.map_some]; done) | (simp only [is_none, is_sq, isB_none, isB_some, Option.map_none, Option.map_some]; rfl)
theorem o_addI : Is (opB .add (.int i) (.int j) S) P = P (.int (i + j)) S := is_some _ _ _
theorem o_addS : Is (opB .add (.str x) (.str y) S) P = (x.length + y.length ≤ LIM ∧ P (.str (x ++ y)) S) := by simp only [opB]; exact isI_ite _ _
theorem o_addT : Is (opB .add (.tup u) (.tup v) S) P = (u.length + v.length ≤ LIM ∧ P (.tup (u ++ v)) S) := by simp only [opB]; exact isI_ite _ _
theorem o_addL : Is (opB .add (.ref k) (.ref l) S) P = match rdL S k, rdL S l with | some u, some v => (u ++ v).length ≤ LIM ∧ P (.ref S.length) (S ++ [.lst (u ++ v)]) | _, _ => False := by
  simp only [opB, rdM]
  cases rdL S k with
  | none => first | rfl | (simp only [is_none, is_sq, isB_none, isB_some, Option.map_none, Option.map_some]; done) | (simp only [is_none, is_sq, isB_none, isB_some, Option.map_none, Option.map_some]; rfl)
  | some u =>
    cases rdL S l with
    | none => first | rfl | (simp only [is_none, is_sq, isB_none, isB_some, Option.map_none, Option.map_some]; done) | (simp only [is_none, is_sq, isB_none, isB_some, Option.map_none, Option.map_some]; rfl)
    | some v => exact w_new _
theorem o_sub : Is (opB .sub (.int i) (.int j) S) P = P (.int (i - j)) S := is_some _ _ _
theorem o_mulI : Is (opB .mul (.int i) (.int j) S) P = (((-(2 ^ 64) < i ∧ i < 2 ^ 64) ∨ (-(2 ^ 64) < j ∧ j < 2 ^ 64)) ∧ P (.int (i * j)) S) := by simp only [opB]; exact isI_ite _ _
theorem o_mulS : Is (opB .mul (.str x) (.int j) S) P = ((j ≤ 1000000 ∧ -1000000 ≤ j ∧ x.length * j.toNat ≤ LIM) ∧ P (.str (List.replicate j.toNat x).flatten) S) := by simp only [opB]; exact isI_ite _ _
theorem o_mulL : Is (opB .mul (.ref k) (.int j) S) P = match rdL S k with | some x => (j ≤ 1000000 ∧ -1000000 ≤ j ∧ x.length * j.toNat ≤ LIM) ∧ (List.replicate j.toNat x).flatten.length ≤ LIM ∧ P (.ref S.length) (S ++ [.lst (List.replicate j.toNat x).flatten]) | none => False := by
  simp only [opB, rdM]
  cases rdL S k with
  | none => first | rfl | (simp only [is_none, is_sq, isB_none, isB_some, Option.map_none, Option.map_some]; done) | (simp only [is_none, is_sq, isB_none, isB_some, Option.map_none, Option.map_some]; rfl)
  | some u =>
    simp only
    by_cases h : j ≤ 1000000 ∧ -1000000 ≤ j ∧ u.length * j.toNat ≤ LIM
    · rw [if_pos h, w_new]
      simp only [h, true_and, and_self]
    · rw [if_neg h]
      simp only [eq_false h, false_and]
      first | rfl | (simp only [is_none, is_sq, isB_none, isB_some, Option.map_none, Option.map_some]; done) | (simp only [is_none, is_sq, isB_none, isB_some, Option.map_none, Option.map_some]; rfl)
theorem o_fdiv : Is (opB .fdiv (.int i) (.int j) S) P = ((0 < j ∧ j < 1073741824) ∧ P (.int (i / j)) S) := by simp only [opB]; exact isI_ite _ _
theorem o_mod : Is (opB .mod (.int i) (.int j) S) P = (0 < j ∧ P (.int (i % j)) S) := by simp only [opB]; exact isI_ite _ _
theorem o_pow : Is (opB .pow (.int i) (.int j) S) P = ((0 ≤ j ∧ j ≤ 1000000 ∧ i.natAbs < 2 ^ 64) ∧ P (.int (i ^ j.toNat)) S) := by simp only [opB]; exact isI_ite _ _
theorem c_ltI : IsB (opC .lt (.int i) (.int j) S) Q = Q (decide (i < j)) := isB_some _ _
theorem c_ltS : IsB (opC .lt (.str x) (.str y) S) Q = Q (decide (x < y)) := isB_some _ _
theorem c_leS : IsB (opC .le (.str x) (.str y) S) Q = Q (!decide (y < x)) := isB_some _ _
theorem c_le : IsB (opC .le (.int i) (.int j) S) Q = Q (decide (i ≤ j)) := isB_some _ _
theorem c_gt : IsB (opC .gt (.int i) (.int j) S) Q = Q (decide (j < i)) := isB_some _ _
theorem c_ge : IsB (opC .ge (.int i) (.int j) S) Q = Q (decide (j ≤ i)) := isB_some _ _
theorem c_eq (x y : W) : IsB (opC .eq x y S) Q = IsB (eqW S x y) Q := rfl
theorem c_ne (x y : W) : IsB (opC .ne x y S) Q = IsB (eqW S x y) fun k => Q (!k) := by
  simp only [opC]
  cases eqW S x y <;> first | rfl | (simp only [is_none, is_sq, isB_none, isB_some, Option.map_none, Option.map_some]; done) | (simp only [is_none, is_sq, isB_none, isB_some, Option.map_none, Option.map_some]; rfl)
theorem e_ii : eqW S (.int i) (.int j) = some (decide (i = j)) := rfl
theorem e_ss : eqW S (.str x) (.str y) = some (decide (x = y)) := rfl
theorem e_bb : eqW S (.bl a) (.bl b) = some (decide (a = b)) := rfl
theorem c_inS (c : Nat) : IsB (opC .isIn (.str [c]) (.str x) S) Q = Q (decide (c ∈ x)) := isB_some _ _
theorem c_notS (c : Nat) : IsB (opC .notIn (.str [c]) (.str x) S) Q = Q (!decide (c ∈ x)) := isB_some _ _
theorem i_str : Is (opIx (.str x) (.int i) S) P = (x.length ≤ LIM ∧ match atI x i with | some c => P (.str [c]) S | none => False) := by
  simp only [opIx]
  by_cases h : x.length ≤ LIM
  · simp only [h, if_true, true_and]
    cases atI x i <;> first | rfl | (simp only [is_none, is_sq, isB_none, isB_some, Option.map_none, Option.map_some]; done) | (simp only [is_none, is_sq, isB_none, isB_some, Option.map_none, Option.map_some]; rfl)
  · simp only [h, if_false, false_and]
    first | rfl | (simp only [is_none, is_sq, isB_none, isB_some, Option.map_none, Option.map_some]; done) | (simp only [is_none, is_sq, isB_none, isB_some, Option.map_none, Option.map_some]; rfl)
theorem i_tup : Is (opIx (.tup u) (.int i) S) P = match atI u i with | some c => P c S | none => False := by
  simp only [opIx]
  cases atI u i <;> first | rfl | (simp only [is_none, is_sq, isB_none, isB_some, Option.map_none, Option.map_some]; done) | (simp only [is_none, is_sq, isB_none, isB_some, Option.map_none, Option.map_some]; rfl)
theorem i_ref : Is (opIx (.ref k) (.int i) S) P = match rdL S k with | some u => (match atI u i with | some c => P c S | none => False) | none => False := by
  simp only [opIx]
  cases rdL S k with
  | none => first | rfl | (simp only [is_none, is_sq, isB_none, isB_some, Option.map_none, Option.map_some]; done) | (simp only [is_none, is_sq, isB_none, isB_some, Option.map_none, Option.map_some]; rfl)
  | some u =>
    simp only
    cases atI u i <;> first | rfl | (simp only [is_none, is_sq, isB_none, isB_some, Option.map_none, Option.map_some]; done) | (simp only [is_none, is_sq, isB_none, isB_some, Option.map_none, Option.map_some]; rfl)
theorem atI_lit {α : Type} (xs : List α) (n : Nat) : atI xs (n : Int) = xs[n]? := by
  unfold atI ixN
  rw [if_pos (by omega)]
  by_cases h : n < xs.length
  · rw [if_pos (by omega)]
    simp
  · rw [if_neg (by omega), List.getElem?_eq_none (by omega)]
    first | rfl | (simp only [is_none, is_sq, isB_none, isB_some, Option.map_none, Option.map_some]; done) | (simp only [is_none, is_sq, isB_none, isB_some, Option.map_none, Option.map_some]; rfl)
theorem atI_0 {α : Type} (xs : List α) : atI xs 0 = xs[0]? := atI_lit xs 0
theorem atI_1 {α : Type} (xs : List α) : atI xs 1 = xs[1]? := atI_lit xs 1
theorem atI_2 {α : Type} (xs : List α) : atI xs 2 = xs[2]? := atI_lit xs 2
theorem atI_3 {α : Type} (xs : List α) : atI xs 3 = xs[3]? := atI_lit xs 3
theorem atI_nn {α : Type} (xs : List α) (h : 0 ≤ i) : atI xs i = xs[i.toNat]? := by
  obtain ⟨n, rfl⟩ : ∃ n : Nat, i = (n : Int) := ⟨i.toNat, by omega⟩
  rw [atI_lit]
  simp
theorem ixN_nn {n : Nat} (h : 0 ≤ i) (h2 : i < n) : ixN n i = some i.toNat := by
  unfold ixN
  rw [if_pos h, if_pos h2]
theorem ixN_1 {n : Nat} : ixN (n + 1 + 1) 1 = some 1 := ixN_nn (by omega) (by omega)
variable {lo hi : Option Int}
theorem l_str : Is (opSl (.str x) lo hi S) P = (x.length ≤ LIM ∧ P (.str (cut x lo hi)) S) := by simp only [opSl]; exact isI_ite _ _
theorem l_tup : Is (opSl (.tup u) lo hi S) P = P (.tup (cut u lo hi)) S := is_some _ _ _
theorem l_rol : Is (opSl (.rol u) lo hi S) P = ((cut u lo hi).length ≤ LIM ∧ P (.ref S.length) (S ++ [.lst (cut u lo hi)])) := by simp only [opSl]; exact w_new _
theorem l_ref : Is (opSl (.ref k) lo hi S) P = match rdL S k with | some u => (cut u lo hi).length ≤ LIM ∧ P (.ref S.length) (S ++ [.lst (cut u lo hi)]) | none => False := by
  simp only [opSl]
  cases rdL S k with
  | none => first | rfl | (simp only [is_none, is_sq, isB_none, isB_some, Option.map_none, Option.map_some]; done) | (simp only [is_none, is_sq, isB_none, isB_some, Option.map_none, Option.map_some]; rfl)
  | some u => exact w_new _
theorem b_lenS : Is (opI .len [.str x] S) P = (x.length ≤ LIM ∧ P (.int x.length) S) := by simp only [opI]; exact isI_ite _ _
theorem b_lenT : Is (opI .len [.tup u] S) P = P (.int u.length) S := is_some _ _ _
theorem b_lenR : Is (opI .len [.ref k] S) P = match rdL S k with | some u => P (.int u.length) S | none => False := by
  simp only [opI]
  cases rdL S k <;> first | rfl | (simp only [is_none, is_sq, isB_none, isB_some, Option.map_none, Option.map_some]; done) | (simp only [is_none, is_sq, isB_none, isB_some, Option.map_none, Option.map_some]; rfl)
theorem b_abs : Is (opI .abs [.int i] S) P = P (.int (if i < 0 then -i else i)) S := is_some _ _ _
theorem b_tupR : Is (opI .tuple [.ref k] S) P = match rdL S k with | some u => P (.tup u) S | none => False := by
  simp only [opI]
  cases rdL S k <;> first | rfl | (simp only [is_none, is_sq, isB_none, isB_some, Option.map_none, Option.map_some]; done) | (simp only [is_none, is_sq, isB_none, isB_some, Option.map_none, Option.map_some]; rfl)
theorem b_tupT : Is (opI .tuple [.tup u] S) P = P (.tup u) S := is_some _ _ _
theorem b_listR : Is (opI .list [.ref k] S) P = match rdL S k with | some u => u.length ≤ LIM ∧ P (.ref S.length) (S ++ [.lst u]) | none => False := by
  simp only [opI]
  cases rdL S k with
  | none => first | rfl | (simp only [is_none, is_sq, isB_none, isB_some, Option.map_none, Option.map_some]; done) | (simp only [is_none, is_sq, isB_none, isB_some, Option.map_none, Option.map_some]; rfl)
  | some u => exact w_new _
theorem b_listT : Is (opI .list [.tup u] S) P = (u.length ≤ LIM ∧ P (.ref S.length) (S ++ [.lst u])) := by simp only [opI]; exact w_new _
theorem b_all : Is (opI .all [.ref k] S) P = match rdL S k with | some u => (match bls u with | some bs => P (.bl (bs.all id)) S | none => False) | none => False := by
  simp only [opI]
  cases rdL S k with
  | none => first | rfl | (simp only [is_none, is_sq, isB_none, isB_some, Option.map_none, Option.map_some]; done) | (simp only [is_none, is_sq, isB_none, isB_some, Option.map_none, Option.map_some]; rfl)
  | some u =>
    simp only
    cases bls u <;> first | rfl | (simp only [is_none, is_sq, isB_none, isB_some, Option.map_none, Option.map_some]; done) | (simp only [is_none, is_sq, isB_none, isB_some, Option.map_none, Option.map_some]; rfl)
theorem b_any : Is (opI .any [.ref k] S) P = match rdL S k with | some u => (match bls u with | some bs => P (.bl (bs.any id)) S | none => False) | none => False := by
  simp only [opI]
  cases rdL S k with
  | none => first | rfl | (simp only [is_none, is_sq, isB_none, isB_some, Option.map_none, Option.map_some]; done) | (simp only [is_none, is_sq, isB_none, isB_some, Option.map_none, Option.map_some]; rfl)
  | some u =>
    simp only
    cases bls u <;> first | rfl | (simp only [is_none, is_sq, isB_none, isB_some, Option.map_none, Option.map_some]; done) | (simp only [is_none, is_sq, isB_none, isB_some, Option.map_none, Option.map_some]; rfl)
theorem b_intI : Is (opI .int [.int i] S) P = P (.int i) S := is_some _ _ _
theorem b_intB : Is (opI .int [.bl a] S) P = P (.int (if a then 1 else 0)) S := is_some _ _ _
theorem b_isiN (t : Nat) : Is (opI (.isi t) [.non] S) P = P (.bl (isT t .non)) S := is_some _ _ _
theorem b_isiB (t : Nat) (a : Bool) : Is (opI (.isi t) [(.bl a)] S) P = P (.bl (isT t (.bl a))) S := is_some _ _ _
theorem b_isiI (t : Nat) (i : Int) : Is (opI (.isi t) [(.int i)] S) P = P (.bl (isT t (.int i))) S := is_some _ _ _
theorem b_isiS (t : Nat) (x : List Nat) : Is (opI (.isi t) [(.str x)] S) P = P (.bl (isT t (.str x))) S := is_some _ _ _
theorem b_isiT (t : Nat) (u : List W) : Is (opI (.isi t) [(.tup u)] S) P = P (.bl (isT t (.tup u))) S := is_some _ _ _
theorem b_isiR (t : Nat) (k : Nat) : Is (opI (.isi t) [(.ref k)] S) P = P (.bl (isT t (.ref k))) S := is_some _ _ _
theorem b_isiL (t : Nat) (u : List W) : Is (opI (.isi t) [(.rol u)] S) P = P (.bl (isT t (.rol u))) S := is_some _ _ _
theorem b_isN : Is (opI .isN [w] S) P = P (.bl (isNon w)) S := is_some _ _ _
theorem b_notN : Is (opI .notN [w] S) P = P (.bl (!isNon w)) S := is_some _ _ _
theorem b_iaddI : Is (opI .iadd [.int i, .int j] S) P = P (.int (i + j)) S := is_some _ _ _
theorem b_iaddS : Is (opI .iadd [.str x, .str y] S) P = (x.length + y.length ≤ LIM ∧ P (.str (x ++ y)) S) := by simp only [opI]; exact isI_ite _ _
theorem b_isub : Is (opI .isub [.int i, .int j] S) P = P (.int (i - j)) S := is_some _ _ _
theorem b_neg : Is (opI .neg [.int i] S) P = P (.int (-i)) S := is_some _ _ _
theorem b_rev : Is (opI .rev [.ref k] S) P = match rdL S k with | some u => u.reverse.length ≤ LIM ∧ P (.ref S.length) (S ++ [.lst u.reverse]) | none => False := by
  simp only [opI]
  cases rdL S k with
  | none => first | rfl | (simp only [is_none, is_sq, isB_none, isB_some, Option.map_none, Option.map_some]; done) | (simp only [is_none, is_sq, isB_none, isB_some, Option.map_none, Option.map_some]; rfl)
  | some u => exact w_new _
theorem b_join : Is (opI .join [.str x, .ref k] S) P = match rdL S k with | some u => (match txts u with | some ys => lens ys + ys.length * x.length ≤ LIM ∧ P (.str (joinL x ys)) S | none => False) | none => False := by
  simp only [opI]
  cases rdL S k with
  | none => first | rfl | (simp only [is_none, is_sq, isB_none, isB_some, Option.map_none, Option.map_some]; done) | (simp only [is_none, is_sq, isB_none, isB_some, Option.map_none, Option.map_some]; rfl)
  | some u =>
    simp only
    cases txts u with
    | none => first | rfl | (simp only [is_none, is_sq, isB_none, isB_some, Option.map_none, Option.map_some]; done) | (simp only [is_none, is_sq, isB_none, isB_some, Option.map_none, Option.map_some]; rfl)
    | some ys => exact isI_ite _ _
theorem t_str : isT 0 (.str x) = true := rfl
/-! == of a list of texts and an empty list -/
theorem dats_len {f : W → Option D} : ∀ {ws : List W} {ds : List D}, dats f ws = some ds → ds.length = ws.length
  | [], ds, h => by cases h; rfl
  | w :: ws, ds, h => by
    unfold dats at h
    split at h
    · rename_i d ds' h1 h2
      cases h
      rw [List.length_cons, List.length_cons, dats_len h2]
    · cases h
theorem eqvs_nil (ds : List D) : D.eqvs ds [] = ds.isEmpty := by cases ds <;> simp [D.eqvs]
theorem eqW_nil {S : Sto} {a b : Nat} {ws : List W} {ds : List D} (ha : rdL S a = some ws) (hd : dats (dat S 59) ws = some ds) (hb : rdL S b = some []) : eqW S (.ref a) (.ref b) = some ws.isEmpty := by
  have e1 : dat S 60 (.ref a) = some (.lst ds) := by simp only [dat, ha, hd]; rfl
  have e2 : dat S 60 (.ref b) = some (.lst []) := by simp only [dat, hb, dats]; rfl
  simp only [eqW, e1, e2, D.eqv, eqvs_nil]
  have := dats_len hd
  cases ds <;> cases ws <;> simp_all
/-! the store behind a step -/
theorem rdL_set_same {xs ys : List W} (h : rdL S k = some xs) : rdL (S.set k (.lst ys)) k = some ys := by
  rw [rdL_iff] at *
  rw [List.getElem?_set_self (List.getElem?_eq_some_iff.mp h).1]
theorem rdL_set_ne {o : SO} (h : k ≠ l) : rdL (S.set k o) l = rdL S l := by
  unfold rdL
  rw [List.getElem?_set_ne h]
end
end MP
/-! what holds of answers: defs that raise, dicts that are asked -/
namespace MP
section
variable {Φ : Fns} {env : Env} {S : Sto} {P : W → Sto → Prop} {a b c d e : CE} {es : CEs} {N : Env → Sto → Prop} {Q : W → Sto → Prop} {x : CX} {xs : CEXs}
/-- a tuple of values, or what was raised -/
def ByX (w : W) (t : List W → Prop) (r : List Nat → List (List Nat × W) → Prop) : Prop := match w with
  | .tup xs => t xs
  | .exc c fs => r c fs
  | _ => False
@[simp] theorem byX_tup (xs : List W) (t : List W → Prop) (r : List Nat → List (List Nat × W) → Prop) : ByX (.tup xs) t r = t xs := rfl
@[simp] theorem byX_exc (c : List Nat) (fs : List (List Nat × W)) (t : List W → Prop) (r : List Nat → List (List Nat × W) → Prop) : ByX (.exc c fs) t r = r c fs := rfl
/-- a value, or what was raised -/
def ByV (w : W) (t : Prop) (r : List Nat → List (List Nat × W) → Prop) : Prop := match w with
  | .exc c fs => r c fs
  | _ => t
@[simp] theorem byV_exc (c : List Nat) (fs : List (List Nat × W)) (t : Prop) (r : List Nat → List (List Nat × W) → Prop) : ByV (.exc c fs) t r = r c fs := rfl
@[simp] theorem byV_tup (xs : List W) (t : Prop) (r : List Nat → List (List Nat × W) → Prop) : ByV (.tup xs) t r = t := rfl
@[simp] theorem byV_str (xs : List Nat) (t : Prop) (r : List Nat → List (List Nat × W) → Prop) : ByV (.str xs) t r = t := rfl
@[simp] theorem byV_int (i : Int) (t : Prop) (r : List Nat → List (List Nat × W) → Prop) : ByV (.int i) t r = t := rfl
@[simp] theorem byV_bl (i : Bool) (t : Prop) (r : List Nat → List (List Nat × W) → Prop) : ByV (.bl i) t r = t := rfl
@[simp] theorem byV_non (t : Prop) (r : List Nat → List (List Nat × W) → Prop) : ByV .non t r = t := rfl
@[simp] theorem byV_ref (k : Nat) (t : Prop) (r : List Nat → List (List Nat × W) → Prop) : ByV (.ref k) t r = t := rfl
@[simp] theorem x_call (f : Nat) : Is (evx Φ (.call f xs) env S) P = Is (evsx Φ xs env S) fun w S1 => ByX w (fun ws => Is (Φ f ws S1) P) fun c fs => P (.exc c fs) S1 := by
  simp only [evx]
  cases evsx Φ xs env S with
  | none => simp only [is_none]
  | some q =>
    obtain ⟨w, S1⟩ := q
    simp only [is_sq]
    cases w <;> simp only [ByX, is_none, is_sq]
@[simp] theorem x_tup : Is (evx Φ (.tup xs) env S) P = Is (evsx Φ xs env S) fun w S1 => ByX w (fun ws => ws.length ≤ LIM ∧ P (.tup ws) S1) fun c fs => P (.exc c fs) S1 := by
  simp only [evx]
  cases evsx Φ xs env S with
  | none => simp only [is_none]
  | some q =>
    obtain ⟨w, S1⟩ := q
    simp only [is_sq]
    cases w <;> simp only [ByX, is_none, is_sq]
    rename_i ws
    by_cases h : ws.length ≤ LIM
    · simp only [h, if_true, is_sq, true_and]
    · simp only [h, if_false, is_none, false_and]
theorem x_callc {j kk : Nat} {es : CEs} (hj : env[j]? = some (some (.lref kk))) : Is (evx Φ (.callc j es) env S) P = IsA (evs Φ es env S) fun xs S1 => match rdC S1 kk with | some q => q.2.isEmpty = false ∧ Is (Φ q.1 (q.2 ++ xs) (relock [] S1)) fun w S2 => P w (relock q.2 S2) | none => False := by
  simp only [evx, hj]
  cases evs Φ es env S with
  | none => rw [is_none, isA_none]
  | some p =>
    obtain ⟨xs, S1⟩ := p
    simp only [isA_some]
    cases rdC S1 kk with
    | none => rw [is_none]
    | some q =>
      obtain ⟨l, zs⟩ := q
      simp only
      cases hz : zs.isEmpty with
      | true => simp [is_none]
      | false =>
        simp only [Bool.false_eq_true, if_false, true_and]
        cases Φ l (zs ++ xs) (relock [] S1) with
        | none => rw [is_none, is_none]
        | some r => rw [is_sq, is_sq]
@[simp] theorem x_ite {c e : CE} {x : CX} : Is (evx Φ (.ite c e x) env S) P = Is (ev Φ c env S) fun k S1 => ByB k (Is (ev Φ e env S1) fun w S2 => ByV w (P w S2) fun _ _ => False) (Is (evx Φ x env S1) P) := by
  simp only [evx]
  cases ev Φ c env S with
  | none => simp only [is_none]
  | some q =>
    obtain ⟨k, S1⟩ := q
    simp only [is_sq]
    cases k with
    | bl b =>
      cases b with
      | false => rfl
      | true =>
        simp only [ByB]
        cases ev Φ e env S1 with
        | none => simp only [is_none]
        | some r =>
          obtain ⟨w, S2⟩ := r
          simp only [is_sq]
          cases w <;> simp only [ByV, is_none, is_sq]
    | _ => simp only [ByB, is_none]
@[simp] theorem xs_nil : Is (evsx Φ .nil env S) P = P (.tup []) S := by simp only [evsx, is_sq]
@[simp] theorem xs_ok : Is (evsx Φ (.ok e xs) env S) P = Is (ev Φ e env S) fun u S1 => Is (evsx Φ xs env S1) fun w S2 => ByX w (fun ws => P (.tup (u :: ws)) S2) fun c fs => P (.exc c fs) S2 := by
  simp only [evsx]
  cases ev Φ e env S with
  | none => simp only [is_none]
  | some q =>
    obtain ⟨u, S1⟩ := q
    simp only [is_sq]
    cases evsx Φ xs env S1 with
    | none => simp only [is_none]
    | some r =>
      obtain ⟨w, S2⟩ := r
      simp only [is_sq]
      cases w <;> simp only [ByX, is_none, is_sq]
@[simp] theorem xs_may : Is (evsx Φ (.may x xs) env S) P = Is (evx Φ x env S) fun u S1 => ByV u (Is (evsx Φ xs env S1) fun w S2 => ByX w (fun ws => P (.tup (u :: ws)) S2) fun c fs => P (.exc c fs) S2) fun c fs => P (.exc c fs) S1 := by
  simp only [evsx]
  cases evx Φ x env S with
  | none => simp only [is_none]
  | some q =>
    obtain ⟨u, S1⟩ := q
    simp only [is_sq]
    cases u <;> simp only [ByV, is_sq] <;>
    · cases evsx Φ xs env S1 with
      | none => simp only [is_none]
      | some r =>
        obtain ⟨w, S2⟩ := r
        simp only [is_sq]
        cases w <;> simp only [ByX, is_none, is_sq]
@[simp] theorem s_raise {cn : List Nat} {ns : List (List Nat)} : IsS (ex Φ (.raise_ cn ns es) env S) N Q = IsA (evs Φ es env S) fun ws S1 => ns.length = ws.length ∧ Q (.exc cn (ns.zip ws)) S1 := by
  simp only [ex]
  cases evs Φ es env S with
  | none => simp only [isA_none, isS_none]
  | some q =>
    obtain ⟨ws, S1⟩ := q
    simp only [isA_sq]
    by_cases h : ns.length = ws.length
    · simp only [h, if_true, isS_rt, true_and]
    · simp only [h, if_false, isS_none, false_and]
@[simp] theorem s_retX : IsS (ex Φ (.retX x) env S) N Q = Is (evx Φ x env S) Q := by
  simp only [ex]
  cases evx Φ x env S with
  | none => simp only [is_none, isS_none]
  | some q =>
    obtain ⟨w, S1⟩ := q
    simp only [is_sq, isS_rt]
@[simp] theorem s_exprX : IsS (ex Φ (.exprX x) env S) N Q = Is (evx Φ x env S) fun w S1 => ByV w (N env S1) fun c fs => Q (.exc c fs) S1 := by
  simp only [ex]
  cases evx Φ x env S with
  | none => simp only [is_none, isS_none]
  | some q =>
    obtain ⟨w, S1⟩ := q
    simp only [is_sq]
    cases w <;> simp only [ByV, isS_rt, isS_nx]
@[simp] theorem s_setX {ts : List Nat} : IsS (ex Φ (.setX ts x) env S) N Q = Is (evx Φ x env S) fun w S1 => ByV w (match bindT S1 env ts w with | some env' => N env' S1 | none => False) fun c fs => Q (.exc c fs) S1 := by
  simp only [ex]
  cases evx Φ x env S with
  | none => simp only [is_none, isS_none]
  | some q =>
    obtain ⟨w, S1⟩ := q
    simp only [is_sq]
    cases w <;> simp only [ByV, isS_rt] <;>
    · cases bindT S1 env ts _ with
      | none => simp only [Option.map_none, isS_none]
      | some env' => simp only [Option.map_some, isS_nx]
theorem s_gone {i : Nat} {r : Option Fl} : IsS (gone i r) N Q = IsS r (fun env' S' => N (env'.set i none) S') Q := by
  cases r with
  | none => simp only [gone, isS_none]
  | some f => cases f <;> simp only [gone, isS_nx, isS_rt, isS_bk, isS_ct]
@[simp] theorem h_nil {cn : List Nat} {fs : List (List Nat × W)} : IsS (exh Φ cn fs .nil env S) N Q = False := by simp only [exh, isS_none]
@[simp] theorem h_cons {cn : List Nat} {fs : List (List Nat × W)} {cat : List (List Nat)} {i : Nat} {b : CSs} {hs : CHs} : IsS (exh Φ cn fs (.cons cat i b hs) env S) N Q = if cn ∈ cat then IsS (exs (withX Φ cn fs) b (env.set i none) S) (fun env' S' => N (env'.set i none) S') Q else IsS (exh Φ cn fs hs env S) N Q := by
  simp only [exh]
  by_cases h : cn ∈ cat
  · simp only [h, if_true, s_gone]
  · simp only [h, if_false]
@[simp] theorem s_tryX {ts : List Nat} {hs : CHs} : IsS (ex Φ (.tryX ts x hs) env S) N Q = Is (evx Φ x env S) fun w S1 => ByV w (if ts.isEmpty then N env S1 else match bindT S1 env ts w with | some env' => N env' S1 | none => False) fun c fs => IsS (exh Φ c fs hs env S1) N Q := by
  simp only [ex]
  cases evx Φ x env S with
  | none => simp only [is_none, isS_none]
  | some q =>
    obtain ⟨w, S1⟩ := q
    simp only [is_sq]
    cases w <;> simp only [ByV] <;>
    · unfold landX
      by_cases h : ts.isEmpty = true
      · simp only [h, if_true, isS_nx]
      · simp only [h, if_false]
        cases bindT S1 env ts _ with
        | none => simp [isS_none]
        | some env' => simp [isS_nx]
theorem w_fldX {cn : List Nat} {fs : List (List Nat × W)} {n : List Nat} {w : W} (h : fs.lookup n = some w) : Is (withX Φ cn fs 99999 [.str n] S) P = P w S := by
  simp only [withX, h]
  rw [if_neg (by decide)]
  simp only [if_true, Option.map_some, is_sq]
/-! dicts that are asked -/
end
end MP
namespace Pg
open MP
/-- Walk.__init__: 0 self, 1 edges, 2 depth -/
def b_Walk___init__ : CSs := (.cons (.fset [[87, 97, 108, 107]] (.var 0) [101, 100, 103, 101, 115] (.var 1)) (.cons (.fset [[87, 97, 108, 107]] (.var 0) [100, 101, 112, 116, 104] (.var 2)) (.cons (.fset [[87, 97, 108, 107]] (.var 0) [116, 114, 97, 105, 108] (.c .non)) (.cons (.fset [[87, 97, 108, 107]] (.var 0) [111, 118, 101, 114] (.c (.bl false))) (.cons (.fset [[87, 97, 108, 107]] (.var 0) [97, 115, 107, 101, 100] (.c (.int 0))) .nil)))))
/-- Walk.more: 0 self, 1 begun, 2 trail, 3 edges, 4 number -/
def b_Walk_more : CSs := (.cons (.ifs (.fld [[87, 97, 108, 107]] (.var 0) [111, 118, 101, 114]) (.cons (.ret (.c .non)) .nil) .nil) (.cons (.set [1] (.ite (.bi .isN (.cons (.fld [[87, 97, 108, 107]] (.var 0) [116, 114, 97, 105, 108]) .nil)) (.lst .nil) (.call 1088 (.cons (.fld [[87, 97, 108, 107]] (.var 0) [116, 114, 97, 105, 108]) .nil)))) (.cons (.setX [2] (.ite (.bi .isN (.cons (.var 1) .nil)) (.c .non) (.call 1089 (.ok (.var 1) (.ok (.fld [[87, 97, 108, 107]] (.var 0) [101, 100, 103, 101, 115]) (.ok (.fld [[87, 97, 108, 107]] (.var 0) [100, 101, 112, 116, 104]) .nil)))))) (.cons (.ifs (.bi .isN (.cons (.var 2) .nil)) (.cons (.fset [[87, 97, 108, 107]] (.var 0) [111, 118, 101, 114] (.c (.bl true))) (.cons (.ret (.c .non)) .nil)) .nil) (.cons (.fset [[87, 97, 108, 107]] (.var 0) [97, 115, 107, 101, 100] (.bin .sub (.fld [[87, 97, 108, 107]] (.var 0) [97, 115, 107, 101, 100]) (.bi .neg (.cons (.bin .sub (.fld [[87, 97, 108, 107]] (.var 0) [100, 101, 112, 116, 104]) (.bi .len (.cons (.var 1) .nil))) .nil)))) (.cons (.fset [[87, 97, 108, 107]] (.var 0) [116, 114, 97, 105, 108] (.var 2)) (.cons (.ret (.bi .tuple (.cons (.comp [3, 4] [3, 4] (.val (.var 2)) (.c (.bl true)) (.ix (.ix (.var 3) (.var 4)) (.c (.int 0)))) .nil))) .nil)))))))
/-- turned_off: 0 trail, 1 at, 2 edges, 3 number -/
def b_turned_off : CSs := (.cons (.for_ [1] (.rngd (.bin .sub (.bi .len (.cons (.var 0) .nil)) (.c (.int 1)))) (.cons (.set [2, 3] (.ix (.var 0) (.var 1))) (.cons (.ifs (.cmp .lt (.bin .add (.var 3) (.c (.int 1))) (.bi .len (.cons (.var 2) .nil))) (.cons (.ret (.bi (.x .starL) (.cons (.sl (.var 0) .no (.yes (.var 1))) (.cons (.tup (.cons (.var 2) (.cons (.bin .sub (.var 3) (.bi .neg (.cons (.c (.int 1)) .nil))) .nil))) .nil)))) .nil) .nil) .nil))) (.cons (.ret (.c .non)) .nil))
/-- lengthened: 0 trail, 1 ask, 2 depth, 3 node, 4 edges -/
def b_lengthened : CSs := (.cons (.set [0] (.bi .list (.cons (.var 0) .nil))) (.cons (.set [3] (.call 1090 (.cons (.var 0) .nil))) (.cons (.whl 100000 (.cmp .lt (.bi .len (.cons (.var 0) .nil)) (.var 2)) (.cons (.setX [4] (.callc 1 (.cons (.var 3) .nil))) (.cons (.ifs (.cmp .eq (.bi .len (.cons (.var 4) .nil)) (.c (.int 0))) (.cons (.ret (.c .non)) .nil) .nil) (.cons (.app (.var 0) (.tup (.cons (.var 4) (.cons (.c (.int 0)) .nil)))) (.cons (.set [3] (.ix (.ix (.var 4) (.c (.int 0))) (.c (.int 1)))) .nil))))) (.cons (.ret (.var 0)) .nil))))
/-- node_behind: 0 trail, 1 edges, 2 number -/
def b_node_behind : CSs := (.cons (.ifs (.cmp .eq (.bi .len (.cons (.var 0) .nil)) (.c (.int 0))) (.cons (.ret (.c .non)) .nil) .nil) (.cons (.set [1, 2] (.ix (.var 0) (.bi .neg (.cons (.c (.int 1)) .nil)))) (.cons (.ret (.ix (.ix (.var 1) (.var 2)) (.c (.int 1)))) .nil)))
/-- _law_deck: 0 _law_script, 1 _law_cell -/
def b_law_deck : CSs := (.cons (.ret (.lst (.cons (.comp [1] [1] (.val (.sl (.var 0) .no (.yes (.c (.int 63))))) (.c (.bl true)) (.bi .abs (.cons (.var 1) .nil))) (.cons (.c (.int 0)) .nil)))) .nil)
/-- _law_draw: 0 _law_deck_here, 1 _law_many, 2 _law_cell, 3 _law_place -/
def b_law_draw : CSs := (.cons (.setix (.var 0) (.c (.int 1)) (.bin .add (.ix (.var 0) (.c (.int 1))) (.c (.int 1)))) (.cons (.set [2] (.c (.int 0))) (.cons (.set [3] (.bi .neg (.cons (.c (.int 1)) .nil))) (.cons (.ifs (.cmp .gt (.bi .len (.cons (.ix (.var 0) (.c (.int 0))) .nil)) (.c (.int 0))) (.cons (.set [3] (.bin .mod (.ix (.var 0) (.c (.int 1))) (.bi .len (.cons (.ix (.var 0) (.c (.int 0))) .nil)))) (.cons (.set [2] (.ix (.ix (.var 0) (.c (.int 0))) (.var 3))) .nil)) .nil) (.cons (.ifs (.cmp .ge (.var 2) (.bin .pow (.c (.int 10)) (.c (.int 18)))) (.cons (.setix (.ix (.var 0) (.c (.int 0))) (.var 3) (.bin .fdiv (.var 2) (.var 1))) (.cons (.ret (.bin .mod (.var 2) (.var 1))) .nil)) .nil) (.cons (.ret (.bin .mod (.bin .mod (.bin .pow (.bin .add (.bin .add (.bin .mod (.var 2) (.c (.int 2147483587))) (.bin .mul (.c (.int 7919)) (.ix (.var 0) (.c (.int 1))))) (.c (.int 1))) (.c (.int 5))) (.c (.int 2147483647))) (.var 1))) .nil))))))
/-- _law_tree: 0 _law_deck_here, 1 _law_depth, 2 _law_most, 3 _law_tree_here, 4 _law_nodes, 5 _law_count, 6 _law_level, 7 _law_later, 8 _law_node, 9 _law_many, 10 _law_edges, 11 _law_k -/
def b_law_tree : CSs := (.cons (.set [3] (.bi (.x .gnew) .nil)) (.cons (.set [4] (.lst (.cons (.c .non) .nil))) (.cons (.set [5] (.c (.int 0))) (.cons (.for_ [6] (.rng1 (.var 1)) (.cons (.set [7] (.lst .nil)) (.cons (.for_ [8] (.val (.var 4)) (.cons (.set [9] (.c (.int 1))) (.cons (.ifs (.cmp .lt (.bin .add (.bi .len (.cons (.var 4) .nil)) (.bi .len (.cons (.var 7) .nil))) (.var 2)) (.cons (.set [9] (.bin .add (.c (.int 1)) (.call 4 (.cons (.var 0) (.cons (.c (.int 3)) .nil))))) .nil) .nil) (.cons (.set [10] (.lst .nil)) (.cons (.for_ [11] (.rng1 (.var 9)) (.cons (.app (.var 10) (.tup (.cons (.call 4 (.cons (.var 0) (.cons (.c (.int 3)) .nil))) (.cons (.var 5) .nil)))) (.cons (.app (.var 7) (.var 5)) (.cons (.set [5] (.bin .add (.var 5) (.c (.int 1)))) .nil)))) (.cons (.expr (.bi (.x .gset) (.cons (.bi .tuple (.cons (.var 10) .nil)) (.cons (.var 3) (.cons (.var 8) .nil))))) .nil)))))) (.cons (.set [4] (.var 7)) .nil)))) (.cons (.ret (.var 3)) .nil)))))
/-- _law_ways: 0 _law_tree_here, 1 _law_depth, 2 _law_found, 3 _law_level, 4 _law_longer, 5 _law_labels, 6 _law_nodes, 7 _law_label, 8 _law_node -/
def b_law_ways : CSs := (.cons (.set [2] (.lst (.cons (.tup (.cons (.tup .nil) (.cons (.tup (.cons (.c .non) .nil)) .nil))) .nil))) (.cons (.for_ [3] (.rng1 (.var 1)) (.cons (.set [4] (.lst .nil)) (.cons (.for_ [5, 6] (.val (.var 2)) (.cons (.set [4] (.bin .add (.var 4) (.comp [7, 8] [7, 8] (.val (.bi (.x .gix) (.cons (.var 0) (.cons (.ix (.var 6) (.bi .neg (.cons (.c (.int 1)) .nil))) .nil)))) (.c (.bl true)) (.tup (.cons (.bin .add (.var 5) (.tup (.cons (.var 7) .nil))) (.cons (.bin .add (.var 6) (.tup (.cons (.var 8) .nil))) .nil)))))) .nil)) (.cons (.set [2] (.var 4)) .nil)))) (.cons (.ret (.comp [5, 6] [5, 6] (.val (.var 2)) (.c (.bl true)) (.tup (.cons (.var 5) (.cons (.sl (.var 6) .no (.yes (.var 1))) .nil))))) .nil)))
/-- _law_alike: 0 _law_found, 1 _law_due, 2 _law_one, 3 _law_other -/
def b_law_alike : CSs := (.cons (.ifs (.or (.not (.bi (.isi 3) (.cons (.var 0) .nil))) (.cmp .ne (.bi .len (.cons (.var 0) .nil)) (.bi .len (.cons (.var 1) .nil)))) (.cons (.ret (.c (.bl false))) .nil) .nil) (.cons (.ret (.cmp .eq (.comp [2, 3] [2, 3] (.zip (.var 0) (.var 1)) (.or (.bi (.isi 2) (.cons (.var 2) .nil)) (.cmp .ne (.var 2) (.var 3))) (.c (.int 1))) (.lst .nil))) .nil))
/-- _law_failing: 0 _law_log, 1 _law_tree_here, 2 _law_fails, 3 _law_kind, 4 _law_node -/
def b_law_failing : CSs := (.cons (.app (.var 0) (.var 4)) (.cons (.ifs (.and (.cmp .isIn (.bi .len (.cons (.var 0) .nil)) (.var 2)) (.cmp .eq (.var 3) (.c (.int 0)))) (.cons (.raise_ [85, 110, 114, 101, 97, 100] [[112, 108, 97, 99, 101]] (.cons (.bi (.x .small) (.cons (.bi .len (.cons (.var 0) .nil)) .nil)) .nil)) .nil) .nil) (.cons (.ifs (.cmp .isIn (.bi .len (.cons (.var 0) .nil)) (.var 2)) (.cons (.raise_ [78, 111, 78, 97, 109, 101] [[110, 97, 109, 101]] (.cons (.bi (.x .small) (.cons (.bi .len (.cons (.var 0) .nil)) .nil)) .nil)) .nil) .nil) (.cons (.ret (.bi (.x .gix) (.cons (.var 1) (.cons (.var 4) .nil)))) .nil))))
/-- _law_more: 0 _law_walk, 1 _law_found, 2 error -/
def b_law_more : CSs := (.cons (.set [1] (.tup (.cons (.c (.str [114, 97, 105, 115, 101, 100])) (.cons (.bi .neg (.cons (.c (.int 1)) .nil)) .nil)))) (.cons (.tryX [1] (.tup (.ok (.c (.str [116, 111, 108, 100])) (.may (.meth [([87, 97, 108, 107], 1087)] [109, 111, 114, 101] (.var 0)) .nil))) (.cons [[85, 110, 114, 101, 97, 100]] 2 (.cons (.set [1] (.tup (.cons (.c (.str [114, 97, 105, 115, 101, 100])) (.cons (.call 99999 (.cons (.c (.str [112, 108, 97, 99, 101])) .nil)) .nil)))) .nil) (.cons [[78, 111, 78, 97, 109, 101]] 2 (.cons (.set [1] (.tup (.cons (.c (.str [114, 97, 105, 115, 101, 100])) (.cons (.call 99999 (.cons (.c (.str [110, 97, 109, 101])) .nil)) .nil)))) .nil) .nil))) (.cons (.ret (.var 1)) .nil)))
/-- law: 0 _law_script, 1 _law_deck_here, 2 _law_fails, 3 _law_kind, 4 _law_depth, 5 _law_tree_here, 6 _law_due, 7 _law_log, 8 _law_walk, 9 _law_at, 10 _law_turn, 11 _law_node, 12 _law_many, 13 _law_k, 14 _law_word, 15 _law_found, 16 _law_labels, 17 _law_nodes -/
def b_law_v143 : CSs := (.cons (.set [1] (.call 3 (.cons (.var 0) .nil))) (.cons (.set [2] (.comp [13] [13] (.rng1 (.call 4 (.cons (.var 1) (.cons (.c (.int 5)) .nil)))) (.c (.bl true)) (.bin .add (.c (.int 1)) (.call 4 (.cons (.var 1) (.cons (.c (.int 12)) .nil)))))) (.cons (.set [3] (.call 4 (.cons (.var 1) (.cons (.c (.int 2)) .nil)))) (.cons (.set [4] (.bin .add (.c (.int 1)) (.call 4 (.cons (.var 1) (.cons (.c (.int 5)) .nil))))) (.cons (.set [5] (.call 692 (.cons (.var 1) (.cons (.var 4) (.cons (.bin .add (.c (.int 4)) (.call 4 (.cons (.var 1) (.cons (.c (.int 8)) .nil)))) .nil))))) (.cons (.set [6] (.comp [16, 17] [16, 17] (.val (.call 693 (.cons (.var 5) (.cons (.var 4) .nil)))) (.c (.bl true)) (.var 16))) (.cons (.set [7] (.lst .nil)) (.cons (.set [8] (.mk [87, 97, 108, 107] 1086 (.cons (.lam 9001) (.cons (.var 4) .nil)))) (.cons (.set [9] (.c (.int 0))) (.cons (.for_ [10] (.rng1 (.bin .add (.bin .add (.bi .len (.cons (.var 6) .nil)) (.bi .len (.cons (.var 2) .nil))) (.c (.int 2)))) (.cons (.set [12] (.bi .len (.cons (.var 7) .nil))) (.cons (.set [14, 15] (.fz [7, 5, 2, 3] (.call 699 (.cons (.var 8) .nil)))) (.cons (.ifs (.cmp .gt (.bin .sub (.bi .len (.cons (.var 7) .nil)) (.var 12)) (.var 4)) (.cons (.ret (.c (.bl false))) .nil) .nil) (.cons (.ifs (.cmp .eq (.var 14) (.c (.str [114, 97, 105, 115, 101, 100]))) (.cons (.ifs (.or (.cmp .ne (.var 15) (.bi .len (.cons (.var 7) .nil))) (.cmp .notIn (.var 15) (.var 2))) (.cons (.ret (.c (.bl false))) .nil) .nil) .nil) (.cons (.ifs (.and (.cmp .lt (.var 9) (.bi .len (.cons (.var 6) .nil))) (.not (.call 694 (.cons (.var 15) (.cons (.ix (.var 6) (.var 9)) .nil))))) (.cons (.ret (.c (.bl false))) .nil) .nil) (.cons (.ifs (.and (.cmp .ge (.var 9) (.bi .len (.cons (.var 6) .nil))) (.bi .notN (.cons (.var 15) .nil))) (.cons (.ret (.c (.bl false))) .nil) .nil) (.cons (.set [9] (.bin .add (.var 9) (.c (.int 1)))) .nil)))) .nil))))) (.cons (.ret (.cmp .gt (.var 9) (.bi .len (.cons (.var 6) .nil)))) .nil)))))))))))
def e_lam9001 : CX := (.call 698 (.ok (.var 0) (.ok (.var 1) (.ok (.var 2) (.ok (.var 3) (.ok (.var 4) .nil))))))
def ds : Nat → Option Def
  | 9001 => some ⟨5, 5, .cons (.retX e_lam9001) .nil⟩
  | 1086 => some ⟨3, 3, b_Walk___init__⟩
  | 1087 => some ⟨1, 5, b_Walk_more⟩
  | 1088 => some ⟨1, 4, b_turned_off⟩
  | 1089 => some ⟨3, 5, b_lengthened⟩
  | 1090 => some ⟨1, 3, b_node_behind⟩
  | 3 => some ⟨1, 2, b_law_deck⟩
  | 4 => some ⟨2, 4, b_law_draw⟩
  | 692 => some ⟨3, 12, b_law_tree⟩
  | 693 => some ⟨2, 9, b_law_ways⟩
  | 694 => some ⟨2, 4, b_law_alike⟩
  | 698 => some ⟨5, 5, b_law_failing⟩
  | 699 => some ⟨1, 3, b_law_more⟩
  | 1093 => some ⟨1, 18, b_law_v143⟩
  | _ => none
abbrev n_Walk___init__ : Nat := 1086
abbrev n_Walk_more : Nat := 1087
abbrev n_turned_off : Nat := 1088
abbrev n_lengthened : Nat := 1089
abbrev n_node_behind : Nat := 1090
abbrev n_law_deck : Nat := 3
abbrev n_law_draw : Nat := 4
abbrev n_law_tree : Nat := 692
abbrev n_law_ways : Nat := 693
abbrev n_law_alike : Nat := 694
abbrev n_law_failing : Nat := 698
abbrev n_law_more : Nat := 699
abbrev n_law_v143 : Nat := 1093
end Pg
namespace Pg
open MP
/-- the deck stands at d, its cells at c; at most n draws so far -/
structure Dk (d c n : Nat) (S : Sto) : Prop where
  ne : d ≠ c
  hd : ∃ cnt : Int, 0 ≤ cnt ∧ cnt ≤ n ∧ S[d]? = some (.lst [.ref c, .int cnt])
  hc : ∃ cells : List Int, cells.length ≤ 63 ∧ (∀ x ∈ cells, 0 ≤ x) ∧ S[c]? = some (.lst (cells.map W.int))
/-- all but the deck stands -/
def Kx (d c : Nat) (S S' : Sto) : Prop := S.length ≤ S'.length ∧ ∀ k, k < S.length → k ≠ d → k ≠ c → S'[k]? = S[k]?
theorem Kx.refl (d c : Nat) (S : Sto) : Kx d c S S := ⟨Nat.le_refl _, fun _ _ _ _ => rfl⟩
theorem Kx.trans {d c : Nat} {S S1 S2 : Sto} (a : Kx d c S S1) (b : Kx d c S1 S2) : Kx d c S S2 := ⟨Nat.le_trans a.1 b.1, fun k h h1 h2 => (b.2 k (Nat.lt_of_lt_of_le h a.1) h1 h2).trans (a.2 k h h1 h2)⟩
theorem Kx.of {d c : Nat} {S S' : Sto} (h : Kp S S') : Kx d c S S' := ⟨h.1, fun k hk _ _ => h.2 k hk⟩
theorem Kx.get {d c : Nat} {S S' : Sto} (h : Kx d c S S') {k : Nat} {o : SO} (e : S[k]? = some o) (h1 : k ≠ d) (h2 : k ≠ c) : S'[k]? = some o := (h.2 k (List.getElem?_eq_some_iff.mp e).1 h1 h2).trans e
theorem Dk.mono {d c n m : Nat} {S : Sto} (h : Dk d c n S) (hm : n ≤ m) : Dk d c m S := by
  obtain ⟨cnt, a, b, e⟩ := h.hd
  exact ⟨h.ne, ⟨cnt, a, by omega, e⟩, h.hc⟩
theorem Dk.kp {d c n : Nat} {S S' : Sto} (h : Dk d c n S) (k : Kp S S') : Dk d c n S' := by
  obtain ⟨cnt, a, b, e⟩ := h.hd
  obtain ⟨cs, x, y, z⟩ := h.hc
  exact ⟨h.ne, ⟨cnt, a, b, k.get e⟩, ⟨cs, x, y, k.get z⟩⟩
theorem Dk.lt {d c n : Nat} {S : Sto} (h : Dk d c n S) : d < S.length ∧ c < S.length := by
  obtain ⟨cnt, a, b, e⟩ := h.hd
  obtain ⟨cs, x, y, z⟩ := h.hc
  exact ⟨(List.getElem?_eq_some_iff.mp e).1, (List.getElem?_eq_some_iff.mp z).1⟩
section
variable {ds : Nat → Option Def}
theorem deck_spec (hds : ds 3 = some ⟨1, 2, b_law_deck⟩) (k : Nat) (S : Sto) (ns : List Int) (hl : ns.length ≤ 63) : Is (callF ds (k + 1) 3 [.rol (ns.map .int)] S) fun w S' => w = .ref (S.length + 2) ∧ Dk (S.length + 2) (S.length + 1) 0 S' ∧ Kp S S' := by
  refine w_callF hds rfl ?_
  simp only [b_law_deck, w_var, w_c, w_bin, w_cmp, w_chain, w_and, w_or, w_ite, w_not, w_nil, w_cons, w_tup, w_lst, w_ix, w_no, w_yes, w_sl, w_call, w_bi, w_val, w_rng1, w_rng2, s_nil, s_cons, s_ret, s_expr, s_set, s_if, s_pass, s_setix, s_app, s_ext, o_addI, o_addS, o_addT, o_addL, o_sub, o_mulI, o_mulS, o_mulL, o_fdiv, o_mod, o_pow, c_ltI, c_ltS, c_le, c_gt, c_ge, c_eq, c_ne, e_ii, e_ss, e_bb, c_inS, c_notS, i_str, i_tup, i_ref, l_str, l_tup, l_rol, l_ref, b_lenS, b_lenT, b_lenR, b_abs, b_tupR, b_tupT, b_listR, b_listT, b_all, b_any, b_intI, b_intB, b_isiN, b_isiB, b_isiI, b_isiS, b_isiT, b_isiR, b_isiL, b_isN, b_notN, b_neg, b_rev, b_join, t_str, is_some, isB_some, byB_true, byB_false, start, wipe, bindT, List.map_cons, List.map_nil, List.cons_append, List.nil_append, List.append_nil, List.getElem?_cons_zero, List.getElem?_cons_succ, List.length_cons, List.length_nil, List.set_cons_zero, List.set_cons_succ, atI_0, atI_1, atI_2, atI_3, List.replicate, Nat.zero_add, Nat.reduceAdd, Nat.reduceSub, seqW_ref, seqW_tup, c_leS, b_iaddI, b_iaddS, b_isub, w_enum, w_rngd, w_lam, x_ite, w_zip, w_callv, s_setX, s_retX, s_exprX, s_raise, x_call, x_tup, xs_nil, xs_ok, xs_may, byX_tup, byX_exc, byV_tup, byV_str, byV_int, byV_bl, byV_non, byV_ref, byV_exc]
  have hcut : cut (ns.map W.int) none (some 63) = ns.map W.int := by
    unfold cut
    simp only [sIx]
    rw [List.length_map]
    simp only [List.drop_zero, Nat.sub_zero]
    rw [if_neg (by decide)]
    exact List.take_of_length_le (by rw [List.length_map]; omega)
  refine w_compP (ns.map .int) (fun _ => true) (fun w => match w with | .int i => .int (if i < 0 then -i else i) | w => w) (by rw [List.length_map]; simp only [LIM]; omega) ?_
  try simp only [w_var, w_c, w_bin, w_cmp, w_chain, w_and, w_or, w_ite, w_not, w_nil, w_cons, w_tup, w_lst, w_ix, w_no, w_yes, w_sl, w_call, w_bi, w_val, w_rng1, w_rng2, s_nil, s_cons, s_ret, s_expr, s_set, s_if, s_pass, s_setix, s_app, s_ext, o_addI, o_addS, o_addT, o_addL, o_sub, o_mulI, o_mulS, o_mulL, o_fdiv, o_mod, o_pow, c_ltI, c_ltS, c_le, c_gt, c_ge, c_eq, c_ne, e_ii, e_ss, e_bb, c_inS, c_notS, i_str, i_tup, i_ref, l_str, l_tup, l_rol, l_ref, b_lenS, b_lenT, b_lenR, b_abs, b_tupR, b_tupT, b_listR, b_listT, b_all, b_any, b_intI, b_intB, b_isiN, b_isiB, b_isiI, b_isiS, b_isiT, b_isiR, b_isiL, b_isN, b_notN, b_neg, b_rev, b_join, t_str, is_some, isB_some, byB_true, byB_false, start, wipe, bindT, List.map_cons, List.map_nil, List.cons_append, List.nil_append, List.append_nil, List.getElem?_cons_zero, List.getElem?_cons_succ, List.length_cons, List.length_nil, List.set_cons_zero, List.set_cons_succ, atI_0, atI_1, atI_2, atI_3, List.replicate, Nat.zero_add, Nat.reduceAdd, Nat.reduceSub, seqW_ref, seqW_tup, c_leS, b_iaddI, b_iaddS, b_isub, w_enum, w_rngd, w_lam, x_ite, w_zip, w_callv, s_setX, s_retX, s_exprX, s_raise, x_call, x_tup, xs_nil, xs_ok, xs_may, byX_tup, byX_exc, byV_tup, byV_str, byV_int, byV_bl, byV_non, byV_ref, byV_exc, hcut, Src.items]
  refine ⟨by rw [List.length_map]; simp only [LIM]; omega, rdL_new _ _, fun x hx => ?_, ?_⟩
  · obtain ⟨i, hi, rfl⟩ := List.mem_map.mp hx
    refine ⟨_, rfl, ?_⟩
    try simp only [w_var, w_c, w_bin, w_cmp, w_chain, w_and, w_or, w_ite, w_not, w_nil, w_cons, w_tup, w_lst, w_ix, w_no, w_yes, w_sl, w_call, w_bi, w_val, w_rng1, w_rng2, s_nil, s_cons, s_ret, s_expr, s_set, s_if, s_pass, s_setix, s_app, s_ext, o_addI, o_addS, o_addT, o_addL, o_sub, o_mulI, o_mulS, o_mulL, o_fdiv, o_mod, o_pow, c_ltI, c_ltS, c_le, c_gt, c_ge, c_eq, c_ne, e_ii, e_ss, e_bb, c_inS, c_notS, i_str, i_tup, i_ref, l_str, l_tup, l_rol, l_ref, b_lenS, b_lenT, b_lenR, b_abs, b_tupR, b_tupT, b_listR, b_listT, b_all, b_any, b_intI, b_intB, b_isiN, b_isiB, b_isiI, b_isiS, b_isiT, b_isiR, b_isiL, b_isN, b_notN, b_neg, b_rev, b_join, t_str, is_some, isB_some, byB_true, byB_false, start, wipe, bindT, List.map_cons, List.map_nil, List.cons_append, List.nil_append, List.append_nil, List.getElem?_cons_zero, List.getElem?_cons_succ, List.length_cons, List.length_nil, List.set_cons_zero, List.set_cons_succ, atI_0, atI_1, atI_2, atI_3, List.replicate, Nat.zero_add, Nat.reduceAdd, Nat.reduceSub, seqW_ref, seqW_tup, c_leS, b_iaddI, b_iaddS, b_isub, w_enum, w_rngd, w_lam, x_ite, w_zip, w_callv, s_setX, s_retX, s_exprX, s_raise, x_call, x_tup, xs_nil, xs_ok, xs_may, byX_tup, byX_exc, byV_tup, byV_str, byV_int, byV_bl, byV_non, byV_ref, byV_exc]
    exact ⟨trivial, trivial, fun _ => ⟨trivial, trivial⟩⟩
  · refine ⟨by simp [LIM], by simp, ⟨by omega, ⟨0, by omega, by omega, ?_⟩, ⟨ns.map fun i => if i < 0 then -i else i, by simpa using hl, fun x hx => ?_, ?_⟩⟩, ?_⟩
    · rw [List.getElem?_append_right (by simp)]
      simp
    · obtain ⟨i, hi, rfl⟩ := List.mem_map.mp hx
      split <;> omega
    · rw [List.getElem?_append_left (by simp), List.getElem?_append_right (by simp)]
      simp [List.map_map, List.filter_eq_self.mpr]
    · exact ((Kp.app S _).snoc _).snoc _
theorem draw_spec (hds : ds 4 = some ⟨2, 4, b_law_draw⟩) (k : Nat) {S : Sto} {d c n : Nat} (h : Dk d c n S) (hn : n ≤ 1000000000) (m : Int) (hm : 0 < m) (hm2 : m < 1073741824) :
    Is (callF ds (k + 1) 4 [.ref d, .int m] S) fun w S' => ∃ v : Int, w = .int v ∧ 0 ≤ v ∧ v < m ∧ Dk d c (n + 1) S' ∧ Kx d c S S' ∧ S'.length = S.length := by
  refine w_callF hds rfl ?_
  obtain ⟨cnt, c1, c2, c3⟩ := h.hd
  obtain ⟨cs, d1, d2, d3⟩ := h.hc
  obtain ⟨hdl, hcl⟩ := h.lt
  have hne := h.ne
  have e1 : rdL S d = some [.ref c, .int cnt] := rdL_of c3
  have e2 : rdL (S.set d (.lst [.ref c, .int (cnt + 1)])) d = some [.ref c, .int (cnt + 1)] := rdL_set_same e1
  have e3 : rdL (S.set d (.lst [.ref c, .int (cnt + 1)])) c = some (cs.map W.int) := by
    rw [rdL_set_ne hne]
    exact rdL_of d3
  simp only [b_law_draw, w_var, w_c, w_bin, w_cmp, w_chain, w_and, w_or, w_ite, w_not, w_nil, w_cons, w_tup, w_lst, w_ix, w_no, w_yes, w_sl, w_call, w_bi, w_val, w_rng1, w_rng2, s_nil, s_cons, s_ret, s_expr, s_set, s_if, s_pass, s_setix, s_app, s_ext, o_addI, o_addS, o_addT, o_addL, o_sub, o_mulI, o_mulS, o_mulL, o_fdiv, o_mod, o_pow, c_ltI, c_ltS, c_le, c_gt, c_ge, c_eq, c_ne, e_ii, e_ss, e_bb, c_inS, c_notS, i_str, i_tup, i_ref, l_str, l_tup, l_rol, l_ref, b_lenS, b_lenT, b_lenR, b_abs, b_tupR, b_tupT, b_listR, b_listT, b_all, b_any, b_intI, b_intB, b_isiN, b_isiB, b_isiI, b_isiS, b_isiT, b_isiR, b_isiL, b_isN, b_notN, b_neg, b_rev, b_join, t_str, is_some, isB_some, byB_true, byB_false, start, wipe, bindT, List.map_cons, List.map_nil, List.cons_append, List.nil_append, List.append_nil, List.getElem?_cons_zero, List.getElem?_cons_succ, List.length_cons, List.length_nil, List.set_cons_zero, List.set_cons_succ, atI_0, atI_1, atI_2, atI_3, List.replicate, Nat.zero_add, Nat.reduceAdd, Nat.reduceSub, seqW_ref, seqW_tup, c_leS, b_iaddI, b_iaddS, b_isub, w_enum, w_rngd, w_lam, x_ite, w_zip, w_callv, s_setX, s_retX, s_exprX, s_raise, x_call, x_tup, xs_nil, xs_ok, xs_may, byX_tup, byX_exc, byV_tup, byV_str, byV_int, byV_bl, byV_non, byV_ref, byV_exc, e1, ixN_1]
  generalize hS1 : S.set d (.lst [.ref c, .int (cnt + 1)]) = S1 at *
  have l1 : S1.length = S.length := by rw [← hS1, List.length_set]
  have kx1 : Kx d c S S1 := ⟨by omega, fun j hj h1 _ => by rw [← hS1, List.getElem?_set_ne (fun e => h1 e.symm)]⟩
  have dk1 : Dk d c (n + 1) S1 := ⟨hne, ⟨cnt + 1, by omega, by omega, rdL_iff.mp e2⟩, ⟨cs, d1, d2, rdL_iff.mp e3⟩⟩
  have pw : ∀ cell : Int, (cell % 2147483587 + 7919 * (cnt + 1) + 1).natAbs < 2 ^ 64 := by
    intro cell
    have a1 : 0 ≤ cell % 2147483587 := Int.emod_nonneg _ (by omega)
    have a2 : cell % 2147483587 < 2147483587 := Int.emod_lt_of_pos _ (by omega)
    omega
  try simp only [w_var, w_c, w_bin, w_cmp, w_chain, w_and, w_or, w_ite, w_not, w_nil, w_cons, w_tup, w_lst, w_ix, w_no, w_yes, w_sl, w_call, w_bi, w_val, w_rng1, w_rng2, s_nil, s_cons, s_ret, s_expr, s_set, s_if, s_pass, s_setix, s_app, s_ext, o_addI, o_addS, o_addT, o_addL, o_sub, o_mulI, o_mulS, o_mulL, o_fdiv, o_mod, o_pow, c_ltI, c_ltS, c_le, c_gt, c_ge, c_eq, c_ne, e_ii, e_ss, e_bb, c_inS, c_notS, i_str, i_tup, i_ref, l_str, l_tup, l_rol, l_ref, b_lenS, b_lenT, b_lenR, b_abs, b_tupR, b_tupT, b_listR, b_listT, b_all, b_any, b_intI, b_intB, b_isiN, b_isiB, b_isiI, b_isiS, b_isiT, b_isiR, b_isiL, b_isN, b_notN, b_neg, b_rev, b_join, t_str, is_some, isB_some, byB_true, byB_false, start, wipe, bindT, List.map_cons, List.map_nil, List.cons_append, List.nil_append, List.append_nil, List.getElem?_cons_zero, List.getElem?_cons_succ, List.length_cons, List.length_nil, List.set_cons_zero, List.set_cons_succ, atI_0, atI_1, atI_2, atI_3, List.replicate, Nat.zero_add, Nat.reduceAdd, Nat.reduceSub, seqW_ref, seqW_tup, c_leS, b_iaddI, b_iaddS, b_isub, w_enum, w_rngd, w_lam, x_ite, w_zip, w_callv, s_setX, s_retX, s_exprX, s_raise, x_call, x_tup, xs_nil, xs_ok, xs_may, byX_tup, byX_exc, byV_tup, byV_str, byV_int, byV_bl, byV_non, byV_ref, byV_exc, e2, e3, List.length_map]
  refine byB_dec _ _ _ (fun hk => ?_) (fun hk => ?_)
  · have hlen : (0 : Int) < cs.length := of_decide_eq_true hk
    refine ⟨hlen, ?_⟩
    have p1 : 0 ≤ (cnt + 1) % (cs.length : Int) := Int.emod_nonneg _ (by omega)
    have p2 : (cnt + 1) % (cs.length : Int) < cs.length := Int.emod_lt_of_pos _ hlen
    rw [atI_nn _ p1, List.getElem?_map, List.getElem?_eq_getElem (by omega)]
    generalize hcell : cs[((cnt + 1) % (cs.length : Int)).toNat]'(by omega) = cell
    have hc0 : 0 ≤ cell := by rw [← hcell]; exact d2 _ (List.getElem_mem _)
    try simp only [w_var, w_c, w_bin, w_cmp, w_chain, w_and, w_or, w_ite, w_not, w_nil, w_cons, w_tup, w_lst, w_ix, w_no, w_yes, w_sl, w_call, w_bi, w_val, w_rng1, w_rng2, s_nil, s_cons, s_ret, s_expr, s_set, s_if, s_pass, s_setix, s_app, s_ext, o_addI, o_addS, o_addT, o_addL, o_sub, o_mulI, o_mulS, o_mulL, o_fdiv, o_mod, o_pow, c_ltI, c_ltS, c_le, c_gt, c_ge, c_eq, c_ne, e_ii, e_ss, e_bb, c_inS, c_notS, i_str, i_tup, i_ref, l_str, l_tup, l_rol, l_ref, b_lenS, b_lenT, b_lenR, b_abs, b_tupR, b_tupT, b_listR, b_listT, b_all, b_any, b_intI, b_intB, b_isiN, b_isiB, b_isiI, b_isiS, b_isiT, b_isiR, b_isiL, b_isN, b_notN, b_neg, b_rev, b_join, t_str, is_some, isB_some, byB_true, byB_false, start, wipe, bindT, List.map_cons, List.map_nil, List.cons_append, List.nil_append, List.append_nil, List.getElem?_cons_zero, List.getElem?_cons_succ, List.length_cons, List.length_nil, List.set_cons_zero, List.set_cons_succ, atI_0, atI_1, atI_2, atI_3, List.replicate, Nat.zero_add, Nat.reduceAdd, Nat.reduceSub, seqW_ref, seqW_tup, c_leS, b_iaddI, b_iaddS, b_isub, w_enum, w_rngd, w_lam, x_ite, w_zip, w_callv, s_setX, s_retX, s_exprX, s_raise, x_call, x_tup, xs_nil, xs_ok, xs_may, byX_tup, byX_exc, byV_tup, byV_str, byV_int, byV_bl, byV_non, byV_ref, byV_exc, e2, e3, List.length_map, Option.map_some]
    refine ⟨⟨by decide, by decide, by decide⟩, byB_dec _ _ _ (fun hg => ?_) (fun hg => ?_)⟩
    · refine ⟨⟨hm, hm2⟩, ?_⟩
      rw [ixN_nn p1 p2]
      refine ⟨hm, _, rfl, Int.emod_nonneg _ (by omega), Int.emod_lt_of_pos _ hm, ⟨hne, ⟨cnt + 1, by omega, by omega, ?_⟩, ⟨cs.set ((cnt + 1) % (cs.length : Int)).toNat (cell / m), by rw [List.length_set]; exact d1, fun x hx => ?_, ?_⟩⟩, ?_, ?_⟩
      · rw [List.getElem?_set_ne (Ne.symm hne)]
        exact rdL_iff.mp e2
      · rcases List.mem_or_eq_of_mem_set hx with q | q
        · exact d2 x q
        · rw [q]
          exact Int.ediv_nonneg hc0 (by omega)
      · rw [List.getElem?_set_self (by omega), List.map_set]
      · refine kx1.trans ⟨by rw [List.length_set]; exact Nat.le_refl _, fun j hj _ h2 => by rw [List.getElem?_set_ne (fun e => h2 e.symm)]⟩
      · rw [List.length_set]
        exact l1
    · exact ⟨by decide, .inl ⟨by decide, by decide⟩, ⟨by decide, by decide, pw cell⟩, by decide, hm, _, rfl, Int.emod_nonneg _ (by omega), Int.emod_lt_of_pos _ hm, dk1, kx1, l1⟩
  · refine ⟨⟨by decide, by decide, by decide⟩, byB_dec _ _ _ (fun hg => absurd (of_decide_eq_true hg) (by decide)) (fun hg => ?_)⟩
    exact ⟨by decide, .inl ⟨by decide, by decide⟩, ⟨by decide, by decide, pw 0⟩, by decide, hm, _, rfl, Int.emod_nonneg _ (by omega), Int.emod_lt_of_pos _ hm, dk1, kx1, l1⟩
theorem draw_w (h4 : ds 4 = some ⟨2, 4, b_law_draw⟩) (k : Nat) {S S0 : Sto} {d c n : Nat} (h : Dk d c n S) (hk : Kx d c S0 S) (hn : n ≤ 1000000000) (m : Int) (hm : 0 < m) (hm2 : m < 1073741824) {P : W → Sto → Prop}
    (go : ∀ (v : Int) S', 0 ≤ v → v < m → Dk d c (n + 1) S' → Kx d c S0 S' → Kx d c S S' → P (.int v) S') : Is (callF ds (k + 1) 4 [.ref d, .int m] S) P :=
  (draw_spec h4 k h hn m hm hm2).imp fun w S' hw => by
    obtain ⟨v, rfl, v1, v2, v3, v4, v5⟩ := hw
    exact go v S' v1 v2 v3 (hk.trans v4) v4
/-- a list that was laid behind the deck is read further on -/
theorem rd_kx {d c j : Nat} {S S' : Sto} {xs : List W} (h : rdL S j = some xs) (k : Kx d c S S') (h1 : j ≠ d) (h2 : j ≠ c) : rdL S' j = some xs := rdL_of (k.get (rdL_iff.mp h) h1 h2)
/-- signs that a text of the laws has -/
def Sg (x : List Nat) : Prop := ∀ c ∈ x, c < 128
end
end Pg
namespace MP
theorem w_compX {Φ : Fns} {env : Env} {S : Sto} {P : W → Sto → Prop} {vs ts : List Nat} {s : CI} {t e : CE}
    (h : IsI (evi Φ s env S) fun J S1 => ∃ (n : Nat) (Inv : Nat → List W → Sto → Prop), n ≤ LIM ∧ J.len S1 = some n ∧ Inv 0 [] S1 ∧ (∀ i acc S', i < n → Inv i acc S' → ∃ x env', J.item S' i = some x ∧ bindT S' (wipe env vs) ts x = some env' ∧ Is (ev Φ t env' S') fun k S2 => ByB k (Is (ev Φ e env' S2) fun w S3 => Inv (i + 1) (acc ++ [w]) S3) (Inv (i + 1) acc S2)) ∧ ∀ acc S', acc.length ≤ n → Inv n acc S' → (∃ n', n' ≤ n ∧ J.len S' = some n') ∧ P (.ref S'.length) (S' ++ [.lst acc])) :
    Is (ev Φ (.comp vs ts s t e) env S) P := by
  cases he : evi Φ s env S with
  | none => rw [he, isI_none] at h; exact h.elim
  | some p =>
    obtain ⟨J, S1⟩ := p
    rw [he, isI_some] at h
    obtain ⟨n, Inv, hn, h⟩ := h
    exact w_comp (n := n) hn Inv (by rw [he, isI_some]; exact h)
end MP
namespace Pg
open MP
/-! what holds of answers: comprehensions of two fors, of dicts keyed by data, sorted by keys -/
section
variable {Φ : Fns} {env : Env} {S : Sto} {P : W → Sto → Prop}
end
section
variable {S : Sto} {P : W → Sto → Prop} {k : Nat}
end
end Pg
namespace Pg
open MP
/-! instances of classes: made, their fields, methods, == -/
/-- a field of what is there -/
def fldW (t : List (List Nat)) (f : List Nat) (x : W) (S : Sto) : R := match x with
  | .oref k => match rdO S k with
    | some (c, fs) => if c ∈ t then (fs.lookup f).map fun w => (w, S) else none
    | none => none
  | _ => none
def methW (Φ : Fns) (t : List (List Nat × Nat)) (m : List Nat) (es : CEs) (env : Env) (x : W) (S : Sto) : R := match x with
  | .oref k => match rdO S k with
    | some (c, fs) => match t.lookup c with
      | some f => if fs.lookup m = none then (match evs Φ es env S with
        | some (xs, S2) => Φ f (.oref k :: xs) S2
        | none => none) else none
      | none => none
    | none => none
  | _ => none
def oeqF (Φ : Fns) (t : List (List Nat × Nat)) (neg : Bool) (x y : W) (S : Sto) : R := match oeqW S t x y with
  | some (f, ws) => match Φ f ws S with
    | some (.bl r, S3) => some (.bl (r != neg), S3)
    | _ => none
  | none => none
def Fset (t : List (List Nat)) (f : List Nat) (x w : W) (S : Sto) (N : Sto → Prop) : Prop := match x with
  | .oref k => match rdO S k with
    | some (c, fs) => c ∈ t ∧ fs.length < 900 ∧ N (S.set k (.obj c (putO f w fs)))
    | none => False
  | _ => False
section
variable {Φ : Fns} {env : Env} {S : Sto} {P : W → Sto → Prop} {N : Env → Sto → Prop} {Q : W → Sto → Prop} {a b o e : CE} {es : CEs}
theorem w_mk {c : List Nat} {f : Nat} : Is (ev Φ (.mk c f es) env S) P = IsA (evs Φ es env S) fun xs S1 => Is (Φ f (.oref S1.length :: xs) (mkO c S1)) fun w S2 => w = .non ∧ P (.oref S1.length) S2 := by
  simp only [ev]
  cases evs Φ es env S with
  | none => simp only [isA_none, is_none]
  | some q =>
    obtain ⟨xs, S1⟩ := q
    simp only [isA_sq]
    cases Φ f (.oref S1.length :: xs) (mkO c S1) with
    | none => simp only [is_none]
    | some r =>
      obtain ⟨w, S2⟩ := r
      simp only [is_sq]
      cases w <;> simp [is_none, is_sq]
theorem w_fld {t : List (List Nat)} {f : List Nat} : Is (ev Φ (.fld t e f) env S) P = Is (ev Φ e env S) fun x S1 => Is (fldW t f x S1) P := by
  simp only [ev]
  cases ev Φ e env S with
  | none => simp only [is_none]
  | some q =>
    obtain ⟨x, S1⟩ := q
    simp only [is_sq]
    cases x <;> rfl
theorem s_fset {t : List (List Nat)} {f : List Nat} : IsS (ex Φ (.fset t o f e) env S) N Q = Is (ev Φ e env S) fun w S1 => Is (ev Φ o env S1) fun x S2 => Fset t f x w S2 (N env) := by
  simp only [ex]
  cases ev Φ e env S with
  | none => simp only [is_none, isS_none]
  | some q =>
    obtain ⟨w, S1⟩ := q
    simp only [is_sq]
    cases ev Φ o env S1 with
    | none => simp only [is_none, isS_none]
    | some q =>
      obtain ⟨x, S2⟩ := q
      simp only [is_sq]
      cases x <;> simp only [Fset, isS_none]
      rename_i k
      cases rdO S2 k with
      | none => simp only [isS_none]
      | some z =>
        obtain ⟨c, fs⟩ := z
        simp only
        by_cases h : c ∈ t ∧ fs.length < 900
        · rw [if_pos h, isS_nx]
          simp only [h.1, h.2, true_and]
        · rw [if_neg h, isS_none]
          exact (eq_false fun q => h ⟨q.1, q.2.1⟩).symm
theorem rdO_of {k : Nat} {c : List Nat} {fs : List (List Nat × W)} (h : S[k]? = some (.obj c fs)) : rdO S k = some (c, fs) := by
  unfold rdO
  rw [h]
theorem b_fld {t : List (List Nat)} {f : List Nat} {k : Nat} {c : List Nat} {fs : List (List Nat × W)} {w : W} (h : S[k]? = some (.obj c fs)) (hc : c ∈ t) (hf : fs.lookup f = some w) : Is (fldW t f (.oref k) S) P = P w S := by
  simp only [fldW, rdO_of h, hc, if_true, hf, Option.map_some, is_sq]
theorem b_meth {t : List (List Nat × Nat)} {m : List Nat} {k f : Nat} {c : List Nat} {fs : List (List Nat × W)} (h : S[k]? = some (.obj c fs)) (ht : t.lookup c = some f) (hm : fs.lookup m = none) : Is (methW Φ t m es env (.oref k) S) P = IsA (evs Φ es env S) fun xs S2 => Is (Φ f (.oref k :: xs) S2) P := by
  simp only [methW, rdO_of h, ht, hm, if_true]
  cases evs Φ es env S with
  | none => simp only [isA_none, is_none]
  | some q => simp only [isA_sq]
theorem b_fset {t : List (List Nat)} {f : List Nat} {k : Nat} {c : List Nat} {fs : List (List Nat × W)} {w : W} {M : Sto → Prop} (h : S[k]? = some (.obj c fs)) (hc : c ∈ t) (hl : fs.length < 900) : Fset t f (.oref k) w S M = M (S.set k (.obj c (putO f w fs))) := by
  simp only [Fset, rdO_of h, hc, hl, true_and]
end
end Pg
namespace Pg
open MP
/-! trees and their ways -/
abbrev Nd := Option Nat
abbrev Eg := List (Int × Nat)
abbrev Pth := List (Eg × Nat)
def nW : Nd → W
  | none => .non
  | some n => .int (n : Nat)
def nK : Nd → HK
  | none => .non
  | some n => .int (n : Nat)
def eW (e : Int × Nat) : W := .tup [.int e.1, .int (e.2 : Nat)]
def egW (es : Eg) : W := .tup (es.map eW)
def stW (p : Eg × Nat) : W := .tup [egW p.1, .int (p.2 : Nat)]
/-- the node where a path ends -/
def nb (p : Pth) : Nd := match p.getLast? with
  | some (es, i) => es[i]?.map (·.2)
  | none => none
def kids (f : Nd → Option Eg) (n : Nd) : Eg := (f n).getD []
/-- what stands beside, from the i-th on -/
def sib (p : Pth) (es : Eg) (i : Nat) : List Pth := ((List.range es.length).drop i).map fun k => p ++ [(es, k)]
def stp (f : Nd → Option Eg) (p : Pth) : List Pth := sib p (kids f (nb p)) 0
def expd (f : Nd → Option Eg) : Nat → List Pth → List Pth
  | 0, L => L
  | m + 1, L => expd f m (L.flatMap (stp f))
theorem expd_nil (f : Nd → Option Eg) : ∀ m, expd f m [] = []
  | 0 => rfl
  | m + 1 => expd_nil f m
theorem expd_app (f : Nd → Option Eg) : ∀ m A B, expd f m (A ++ B) = expd f m A ++ expd f m B
  | 0, A, B => rfl
  | m + 1, A, B => by
    show expd f m ((A ++ B).flatMap _) = _
    rw [List.flatMap_append, expd_app f m]
    rfl
theorem expd_succ (f : Nd → Option Eg) : ∀ m L, expd f (m + 1) L = (expd f m L).flatMap (stp f)
  | 0, L => rfl
  | m + 1, L => by
    show expd f (m + 1) (L.flatMap (stp f)) = (expd f m (L.flatMap (stp f))).flatMap (stp f)
    exact expd_succ f m _
theorem sib_lt {p : Pth} {es : Eg} {i : Nat} (h : i < es.length) : sib p es i = (p ++ [(es, i)]) :: sib p es (i + 1) := by
  unfold sib
  rw [List.drop_eq_getElem_cons (by simpa using h)]
  simp
theorem sib_ge {p : Pth} {es : Eg} {i : Nat} (h : es.length ≤ i) : sib p es i = [] := by
  unfold sib
  rw [List.drop_of_length_le (by simpa using h)]
  rfl
/-- what comes behind a path, told backwards -/
def aft (f : Nd → Option Eg) (d : Nat) : Pth → List Pth
  | [] => []
  | (es, i) :: r => expd f (d - (r.length + 1)) (sib r.reverse es (i + 1)) ++ aft f d r
/-- what is still to come where a path is begun -/
def wit (f : Nd → Option Eg) (d : Nat) (p : Pth) : List Pth := expd f (d - p.length) [p] ++ aft f d p.reverse
/-- the tree goes on to this depth -/
def Gd (f : Nd → Option Eg) : Nat → Nd → Prop
  | 0, _ => True
  | d + 1, n => ∃ es, f n = some es ∧ es ≠ [] ∧ ∀ e ∈ es, Gd f d (some e.2)
/-- a path of the tree -/
def GT (f : Nd → Option Eg) (d : Nat) (p : Pth) : Prop := p.length ≤ d ∧ ∀ k (h : k < p.length), p[k].2 < p[k].1.length ∧ ∀ e ∈ p[k].1, Gd f (d - (k + 1)) (some e.2)
theorem GT.nil (f : Nd → Option Eg) (d : Nat) : GT f d [] := ⟨Nat.zero_le _, fun k h => by simp at h⟩
theorem GT.take {f : Nd → Option Eg} {d : Nat} {p : Pth} (h : GT f d p) (n : Nat) : GT f d (p.take n) := by
  refine ⟨by rw [List.length_take]; have := h.1; omega, fun k hk => ?_⟩
  rw [List.length_take] at hk
  rw [List.getElem_take]
  exact h.2 k (by omega)
theorem GT.snoc {f : Nd → Option Eg} {d : Nat} {p : Pth} {es : Eg} {i : Nat} (h : GT f d p) (hd : p.length < d) (hi : i < es.length) (hg : ∀ e ∈ es, Gd f (d - (p.length + 1)) (some e.2)) : GT f d (p ++ [(es, i)]) := by
  refine ⟨by simp; omega, fun k hk => ?_⟩
  by_cases q : k < p.length
  · rw [List.getElem_append_left q]
    exact h.2 k q
  · have e : k = p.length := by
      rw [List.length_append, List.length_singleton] at hk
      omega
    subst e
    simp only [List.getElem_concat_length]
    exact ⟨hi, hg⟩
theorem nb_snoc (p : Pth) (es : Eg) (i : Nat) : nb (p ++ [(es, i)]) = es[i]?.map (·.2) := by
  unfold nb
  rw [List.getLast?_concat]
theorem GT.nb {f : Nd → Option Eg} {d : Nat} {p : Pth} (h : GT f d p) (h0 : Gd f d none) : Gd f (d - p.length) (Pg.nb p) := by
  rcases List.eq_nil_or_concat p with e | ⟨q, x, e⟩
  · subst e
    exact h0
  · subst e
    obtain ⟨es, i⟩ := x
    rw [List.concat_eq_append] at h ⊢
    have hh := h.2 q.length (by simp)
    simp only [List.getElem_concat_length] at hh
    rw [nb_snoc, List.getElem?_eq_getElem hh.1, List.length_append, List.length_singleton]
    exact hh.2 _ (List.getElem_mem _)
theorem wit_down {f : Nd → Option Eg} {d : Nat} {p : Pth} {es : Eg} (hd : p.length < d) (he : f (nb p) = some es) (hn : es ≠ []) : wit f d p = wit f d (p ++ [(es, 0)]) := by
  unfold wit
  have e1 : d - p.length = (d - (p.length + 1)) + 1 := by omega
  rw [e1]
  show expd f _ (List.flatMap (stp f) [p]) ++ _ = _
  rw [List.flatMap_cons, List.flatMap_nil, List.append_nil]
  unfold stp kids
  rw [he, Option.getD_some, sib_lt (List.length_pos_iff.mpr hn), List.reverse_append, List.reverse_singleton, List.singleton_append]
  show _ = _ ++ (expd f _ _ ++ _)
  rw [List.length_reverse, List.reverse_reverse, List.length_append, List.length_singleton, ← List.append_assoc, ← expd_app]
  rfl
theorem wit_full {f : Nd → Option Eg} {d : Nat} {p : Pth} (h : p.length = d) : wit f d p = p :: aft f d p.reverse := by
  unfold wit
  rw [h, Nat.sub_self]
  rfl
theorem aft_turn {f : Nd → Option Eg} {d : Nat} {p : Pth} {es : Eg} {i : Nat} (h : i + 1 < es.length) : aft f d (p ++ [(es, i)]).reverse = wit f d (p ++ [(es, i + 1)]) := by
  unfold wit
  rw [List.reverse_append, List.reverse_append, List.reverse_singleton, List.reverse_singleton, List.singleton_append, List.singleton_append]
  show expd f _ _ ++ _ = _ ++ (expd f _ _ ++ _)
  rw [List.length_reverse, List.reverse_reverse, sib_lt h, List.length_append, List.length_singleton, ← List.append_assoc, ← expd_app]
  rfl
theorem aft_back {f : Nd → Option Eg} {d : Nat} {p : Pth} {es : Eg} {i : Nat} (h : es.length ≤ i + 1) : aft f d (p ++ [(es, i)]).reverse = aft f d p.reverse := by
  rw [List.reverse_append, List.reverse_singleton, List.singleton_append]
  show expd f _ _ ++ _ = _
  rw [List.reverse_reverse, sib_ge h, expd_nil]
  rfl
/-- what is written along a path -/
def lb (p : Pth) : List Int := p.map fun q => ((q.1[q.2]?).getD (0, 0)).1
theorem lb_snoc (p : Pth) (es : Eg) (i : Nat) (h : i < es.length) : lb (p ++ [(es, i)]) = lb p ++ [es[i].1] := by
  unfold lb
  rw [List.map_append, List.map_singleton, List.getElem?_eq_getElem h]
  rfl
/-! stores whose closures see these values -/
theorem relock_app (ws : List W) (S T : Sto) : relock ws (S ++ T) = relock ws S ++ relock ws T := List.map_append
theorem relock_set (ws : List W) (S : Sto) (k : Nat) (o : SO) : relock ws (S.set k o) = (relock ws S).set k (relock1 ws o) := List.map_set
theorem relock_at (ws : List W) (S : Sto) (k : Nat) : (relock ws S)[k]? = S[k]?.map (relock1 ws) := List.getElem?_map
theorem relock_relock (ws vs : List W) (S : Sto) : relock ws (relock vs S) = relock ws S := by
  unfold relock
  rw [List.map_map]
  exact List.map_congr_left fun x _ => by cases x <;> rfl
theorem relock_len (ws : List W) (S : Sto) : (relock ws S).length = S.length := List.length_map _
def Lk (ws : List W) (S : Sto) : Prop := relock ws S = S
theorem Lk.self (ws : List W) (S : Sto) : Lk ws (relock ws S) := relock_relock ws ws S
theorem Lk.lst {ws : List W} {S : Sto} (h : Lk ws S) (xs : List W) : Lk ws (S ++ [.lst xs]) := by
  unfold Lk at *
  rw [relock_app, h]
  rfl
theorem Lk.setL {ws : List W} {S : Sto} (h : Lk ws S) (k : Nat) (xs : List W) : Lk ws (S.set k (.lst xs)) := by
  unfold Lk at *
  rw [relock_set, h]
  rfl
theorem Lk.setO {ws : List W} {S : Sto} (h : Lk ws S) (k : Nat) (c : List Nat) (fs : List (List Nat × W)) : Lk ws (S.set k (.obj c fs)) := by
  unfold Lk at *
  rw [relock_set, h]
  rfl
end Pg
namespace Pg
open MP
theorem atI_m1 {α : Type} (xs : List α) : atI xs (-1) = xs.getLast? := by
  unfold atI ixN
  rw [if_neg (by decide)]
  cases xs with
  | nil => rfl
  | cons x r =>
    rw [if_pos (by simp; omega), List.getLast?_eq_getElem?]
    simp only [Option.bind_some, List.length_cons]
    congr 1
    omega
theorem atI_nat {α : Type} (xs : List α) (i : Nat) : atI xs ((i : Nat) : Int) = xs[i]? := by
  rw [atI_nn _ (by omega)]
  rfl
theorem cut_to {α : Type} (xs : List α) (n : Nat) : cut xs none (some (n : Int)) = xs.take n := by
  unfold cut
  simp only [sIx]
  rw [if_neg (by omega), List.drop_zero, Nat.sub_zero, Int.toNat_natCast]
  rcases Nat.le_total n xs.length with h | h
  · rw [Nat.min_eq_left h]
  · rw [Nat.min_eq_right h, List.take_length, List.take_of_length_le h]
theorem b_starL {S : Sto} {P : W → Sto → Prop} {k : Nat} {z : List W} {x : W} (h : rdL S k = some z) : Is (opI (.x .starL) [.ref k, x] S) P = ((z ++ [x]).length ≤ LIM ∧ P (.ref S.length) (S ++ [.lst (z ++ [x])])) := by
  have e : opI (.x .starL) [.ref k, x] S = new S (z ++ [x]) := by
    show (match rdL S k with | some z => new S (z ++ [x]) | none => none) = _
    rw [h]
  rw [e, w_new]
section
variable {ds : Nat → Option Def}
theorem behind_w (h1090 : ds 1090 = some ⟨1, 3, b_node_behind⟩) (k : Nat) {S : Sto} {j d : Nat} {f : Nd → Option Eg} {p : Pth} (h : rdL S j = some (p.map stW)) (g : GT f d p) {P : W → Sto → Prop} (hp : P (nW (nb p)) S) : Is (callF ds (k + 1) 1090 [.ref j] S) P := by
  refine w_callF h1090 rfl ?_
  simp only [b_node_behind, w_var, w_c, w_bin, w_cmp, w_chain, w_and, w_or, w_ite, w_not, w_nil, w_cons, w_tup, w_lst, w_ix, w_no, w_yes, w_sl, w_call, w_bi, w_val, w_rng1, w_rng2, s_nil, s_cons, s_ret, s_expr, s_set, s_if, s_pass, s_setix, s_app, s_ext, o_addI, o_addS, o_addT, o_addL, o_sub, o_mulI, o_mulS, o_mulL, o_fdiv, o_mod, o_pow, c_ltI, c_ltS, c_le, c_gt, c_ge, c_eq, c_ne, e_ii, e_ss, e_bb, c_inS, c_notS, i_str, i_tup, i_ref, l_str, l_tup, l_rol, l_ref, b_lenS, b_lenT, b_lenR, b_abs, b_tupR, b_tupT, b_listR, b_listT, b_all, b_any, b_intI, b_intB, b_isiN, b_isiB, b_isiI, b_isiS, b_isiT, b_isiR, b_isiL, b_isN, b_notN, b_neg, b_rev, b_join, t_str, is_some, isB_some, byB_true, byB_false, start, wipe, bindT, List.map_cons, List.map_nil, List.cons_append, List.nil_append, List.append_nil, List.getElem?_cons_zero, List.getElem?_cons_succ, List.length_cons, List.length_nil, List.set_cons_zero, List.set_cons_succ, atI_0, atI_1, atI_2, atI_3, List.replicate, Nat.zero_add, Nat.reduceAdd, Nat.reduceSub, seqW_ref, seqW_tup, c_leS, b_iaddI, b_iaddS, b_isub, w_enum, w_rngd, w_lam, x_ite, w_zip, w_callv, s_setX, s_retX, s_exprX, s_raise, x_call, x_tup, xs_nil, xs_ok, xs_may, byX_tup, byX_exc, byV_tup, byV_str, byV_int, byV_bl, byV_non, byV_ref, byV_exc, h, List.length_map]
  rcases List.eq_nil_or_concat p with e | ⟨q, x, e⟩
  · subst e
    exact byB_dec _ _ _ (fun _ => hp) (fun q => by simp at q)
  · subst e
    obtain ⟨es, i⟩ := x
    rw [List.concat_eq_append] at h g hp ⊢
    have hh := g.2 q.length (by simp)
    simp only [List.getElem_concat_length] at hh
    refine byB_dec _ _ _ (fun z => by simp at z; omega) (fun _ => ?_)
    rw [atI_m1, List.map_append, List.map_singleton, List.getLast?_concat]
    simp only [stW, w_var, w_c, w_bin, w_cmp, w_chain, w_and, w_or, w_ite, w_not, w_nil, w_cons, w_tup, w_lst, w_ix, w_no, w_yes, w_sl, w_call, w_bi, w_val, w_rng1, w_rng2, s_nil, s_cons, s_ret, s_expr, s_set, s_if, s_pass, s_setix, s_app, s_ext, o_addI, o_addS, o_addT, o_addL, o_sub, o_mulI, o_mulS, o_mulL, o_fdiv, o_mod, o_pow, c_ltI, c_ltS, c_le, c_gt, c_ge, c_eq, c_ne, e_ii, e_ss, e_bb, c_inS, c_notS, i_str, i_tup, i_ref, l_str, l_tup, l_rol, l_ref, b_lenS, b_lenT, b_lenR, b_abs, b_tupR, b_tupT, b_listR, b_listT, b_all, b_any, b_intI, b_intB, b_isiN, b_isiB, b_isiI, b_isiS, b_isiT, b_isiR, b_isiL, b_isN, b_notN, b_neg, b_rev, b_join, t_str, is_some, isB_some, byB_true, byB_false, start, wipe, bindT, List.map_cons, List.map_nil, List.cons_append, List.nil_append, List.append_nil, List.getElem?_cons_zero, List.getElem?_cons_succ, List.length_cons, List.length_nil, List.set_cons_zero, List.set_cons_succ, atI_0, atI_1, atI_2, atI_3, List.replicate, Nat.zero_add, Nat.reduceAdd, Nat.reduceSub, seqW_ref, seqW_tup, c_leS, b_iaddI, b_iaddS, b_isub, w_enum, w_rngd, w_lam, x_ite, w_zip, w_callv, s_setX, s_retX, s_exprX, s_raise, x_call, x_tup, xs_nil, xs_ok, xs_may, byX_tup, byX_exc, byV_tup, byV_str, byV_int, byV_bl, byV_non, byV_ref, byV_exc]
    simp only [egW, w_var, w_c, w_bin, w_cmp, w_chain, w_and, w_or, w_ite, w_not, w_nil, w_cons, w_tup, w_lst, w_ix, w_no, w_yes, w_sl, w_call, w_bi, w_val, w_rng1, w_rng2, s_nil, s_cons, s_ret, s_expr, s_set, s_if, s_pass, s_setix, s_app, s_ext, o_addI, o_addS, o_addT, o_addL, o_sub, o_mulI, o_mulS, o_mulL, o_fdiv, o_mod, o_pow, c_ltI, c_ltS, c_le, c_gt, c_ge, c_eq, c_ne, e_ii, e_ss, e_bb, c_inS, c_notS, i_str, i_tup, i_ref, l_str, l_tup, l_rol, l_ref, b_lenS, b_lenT, b_lenR, b_abs, b_tupR, b_tupT, b_listR, b_listT, b_all, b_any, b_intI, b_intB, b_isiN, b_isiB, b_isiI, b_isiS, b_isiT, b_isiR, b_isiL, b_isN, b_notN, b_neg, b_rev, b_join, t_str, is_some, isB_some, byB_true, byB_false, start, wipe, bindT, List.map_cons, List.map_nil, List.cons_append, List.nil_append, List.append_nil, List.getElem?_cons_zero, List.getElem?_cons_succ, List.length_cons, List.length_nil, List.set_cons_zero, List.set_cons_succ, atI_0, atI_1, atI_2, atI_3, List.replicate, Nat.zero_add, Nat.reduceAdd, Nat.reduceSub, seqW_ref, seqW_tup, c_leS, b_iaddI, b_iaddS, b_isub, w_enum, w_rngd, w_lam, x_ite, w_zip, w_callv, s_setX, s_retX, s_exprX, s_raise, x_call, x_tup, xs_nil, xs_ok, xs_may, byX_tup, byX_exc, byV_tup, byV_str, byV_int, byV_bl, byV_non, byV_ref, byV_exc, bindL, atI_nat, List.getElem?_map, List.getElem?_eq_getElem hh.1, Option.map_some, eW]
    rw [nb_snoc, List.getElem?_eq_getElem hh.1] at hp
    exact hp
/-- what turned_off answers -/
inductive Tof (f : Nd → Option Eg) (d : Nat) (p : Pth) (ws : List W) (S : Sto) : W → Sto → Prop
  | no {S' : Sto} : aft f d p.reverse = [] → Tof f d p ws S .non S'
  | yes {S' : Sto} {j : Nat} {q : Pth} : rdL S' j = some (q.map stW) → S.length ≤ j → GT f d q → aft f d p.reverse = wit f d q → Tof f d p ws S (.ref j) S'
theorem off_w (h1088 : ds 1088 = some ⟨1, 4, b_turned_off⟩) (k : Nat) {S : Sto} {j d : Nat} {f : Nd → Option Eg} {p : Pth} {ws : List W} (h : rdL S j = some (p.map stW)) (g : GT f d p) (hd : d ≤ 1000) (lk : Lk ws S) : Is (callF ds (k + 1) 1088 [.ref j] S) fun w S' => Tof f d p ws S w S' ∧ Kp S S' ∧ Lk ws S' := by
  refine w_callF h1088 rfl ?_
  have pl := g.1
  simp only [b_turned_off, w_var, w_c, w_bin, w_cmp, w_chain, w_and, w_or, w_ite, w_not, w_nil, w_cons, w_tup, w_lst, w_ix, w_no, w_yes, w_sl, w_call, w_bi, w_val, w_rng1, w_rng2, s_nil, s_cons, s_ret, s_expr, s_set, s_if, s_pass, s_setix, s_app, s_ext, o_addI, o_addS, o_addT, o_addL, o_sub, o_mulI, o_mulS, o_mulL, o_fdiv, o_mod, o_pow, c_ltI, c_ltS, c_le, c_gt, c_ge, c_eq, c_ne, e_ii, e_ss, e_bb, c_inS, c_notS, i_str, i_tup, i_ref, l_str, l_tup, l_rol, l_ref, b_lenS, b_lenT, b_lenR, b_abs, b_tupR, b_tupT, b_listR, b_listT, b_all, b_any, b_intI, b_intB, b_isiN, b_isiB, b_isiI, b_isiS, b_isiT, b_isiR, b_isiL, b_isN, b_notN, b_neg, b_rev, b_join, t_str, is_some, isB_some, byB_true, byB_false, start, wipe, bindT, List.map_cons, List.map_nil, List.cons_append, List.nil_append, List.append_nil, List.getElem?_cons_zero, List.getElem?_cons_succ, List.length_cons, List.length_nil, List.set_cons_zero, List.set_cons_succ, atI_0, atI_1, atI_2, atI_3, List.replicate, Nat.zero_add, Nat.reduceAdd, Nat.reduceSub, seqW_ref, seqW_tup, c_leS, b_iaddI, b_iaddS, b_isub, w_enum, w_rngd, w_lam, x_ite, w_zip, w_callv, s_setX, s_retX, s_exprX, s_raise, x_call, x_tup, xs_nil, xs_ok, xs_may, byX_tup, byX_exc, byV_tup, byV_str, byV_int, byV_bl, byV_non, byV_ref, byV_exc, h, List.length_map]
  refine w_for (n := p.length) (fun i env' S' => S' = S ∧ (∃ a b c, env' = [some (.ref j), a, b, c]) ∧ i ≤ p.length ∧ aft f d p.reverse = aft f d (p.take (p.length - i)).reverse) ?_
  try simp only [w_var, w_c, w_bin, w_cmp, w_chain, w_and, w_or, w_ite, w_not, w_nil, w_cons, w_tup, w_lst, w_ix, w_no, w_yes, w_sl, w_call, w_bi, w_val, w_rng1, w_rng2, s_nil, s_cons, s_ret, s_expr, s_set, s_if, s_pass, s_setix, s_app, s_ext, o_addI, o_addS, o_addT, o_addL, o_sub, o_mulI, o_mulS, o_mulL, o_fdiv, o_mod, o_pow, c_ltI, c_ltS, c_le, c_gt, c_ge, c_eq, c_ne, e_ii, e_ss, e_bb, c_inS, c_notS, i_str, i_tup, i_ref, l_str, l_tup, l_rol, l_ref, b_lenS, b_lenT, b_lenR, b_abs, b_tupR, b_tupT, b_listR, b_listT, b_all, b_any, b_intI, b_intB, b_isiN, b_isiB, b_isiI, b_isiS, b_isiT, b_isiR, b_isiL, b_isN, b_notN, b_neg, b_rev, b_join, t_str, is_some, isB_some, byB_true, byB_false, start, wipe, bindT, List.map_cons, List.map_nil, List.cons_append, List.nil_append, List.append_nil, List.getElem?_cons_zero, List.getElem?_cons_succ, List.length_cons, List.length_nil, List.set_cons_zero, List.set_cons_succ, atI_0, atI_1, atI_2, atI_3, List.replicate, Nat.zero_add, Nat.reduceAdd, Nat.reduceSub, seqW_ref, seqW_tup, c_leS, b_iaddI, b_iaddS, b_isub, w_enum, w_rngd, w_lam, x_ite, w_zip, w_callv, s_setX, s_retX, s_exprX, s_raise, x_call, x_tup, xs_nil, xs_ok, xs_may, byX_tup, byX_exc, byV_tup, byV_str, byV_int, byV_bl, byV_non, byV_ref, byV_exc, h, List.length_map]
  refine ⟨by unfold rngOk; simp; omega, by simp [Src.len], ⟨trivial, ⟨_, _, _, rfl⟩, by omega, by rw [Nat.sub_zero, List.take_length]⟩, fun i env' S' hi hI => ?_, fun env' S' hI => ?_⟩
  · obtain ⟨rfl, ⟨a, b, c, rfl⟩, hi2, ha⟩ := hI
    refine ⟨_, _, by simp only [Src.item]; rw [if_pos (by omega)], rfl, ?_⟩
    have ei : ((p.length : Int) - 1 - (i : Int)) = ((p.length - 1 - i : Nat) : Int) := by omega
    have hq : p.length - 1 - i < p.length := by omega
    have hh := g.2 _ hq
    try simp only [w_var, w_c, w_bin, w_cmp, w_chain, w_and, w_or, w_ite, w_not, w_nil, w_cons, w_tup, w_lst, w_ix, w_no, w_yes, w_sl, w_call, w_bi, w_val, w_rng1, w_rng2, s_nil, s_cons, s_ret, s_expr, s_set, s_if, s_pass, s_setix, s_app, s_ext, o_addI, o_addS, o_addT, o_addL, o_sub, o_mulI, o_mulS, o_mulL, o_fdiv, o_mod, o_pow, c_ltI, c_ltS, c_le, c_gt, c_ge, c_eq, c_ne, e_ii, e_ss, e_bb, c_inS, c_notS, i_str, i_tup, i_ref, l_str, l_tup, l_rol, l_ref, b_lenS, b_lenT, b_lenR, b_abs, b_tupR, b_tupT, b_listR, b_listT, b_all, b_any, b_intI, b_intB, b_isiN, b_isiB, b_isiI, b_isiS, b_isiT, b_isiR, b_isiL, b_isN, b_notN, b_neg, b_rev, b_join, t_str, is_some, isB_some, byB_true, byB_false, start, wipe, bindT, List.map_cons, List.map_nil, List.cons_append, List.nil_append, List.append_nil, List.getElem?_cons_zero, List.getElem?_cons_succ, List.length_cons, List.length_nil, List.set_cons_zero, List.set_cons_succ, atI_0, atI_1, atI_2, atI_3, List.replicate, Nat.zero_add, Nat.reduceAdd, Nat.reduceSub, seqW_ref, seqW_tup, c_leS, b_iaddI, b_iaddS, b_isub, w_enum, w_rngd, w_lam, x_ite, w_zip, w_callv, s_setX, s_retX, s_exprX, s_raise, x_call, x_tup, xs_nil, xs_ok, xs_may, byX_tup, byX_exc, byV_tup, byV_str, byV_int, byV_bl, byV_non, byV_ref, byV_exc, h, ei, atI_nat, List.getElem?_map, List.getElem?_eq_getElem hq, Option.map_some]
    have et : p.take (p.length - i) = p.take (p.length - 1 - i) ++ [p[p.length - 1 - i]] := by
      rw [List.take_append_getElem]
      congr 1
      omega
    rw [et] at ha
    generalize hx : p[p.length - 1 - i] = x at hh ha
    obtain ⟨es, m⟩ := x
    simp only [stW, w_var, w_c, w_bin, w_cmp, w_chain, w_and, w_or, w_ite, w_not, w_nil, w_cons, w_tup, w_lst, w_ix, w_no, w_yes, w_sl, w_call, w_bi, w_val, w_rng1, w_rng2, s_nil, s_cons, s_ret, s_expr, s_set, s_if, s_pass, s_setix, s_app, s_ext, o_addI, o_addS, o_addT, o_addL, o_sub, o_mulI, o_mulS, o_mulL, o_fdiv, o_mod, o_pow, c_ltI, c_ltS, c_le, c_gt, c_ge, c_eq, c_ne, e_ii, e_ss, e_bb, c_inS, c_notS, i_str, i_tup, i_ref, l_str, l_tup, l_rol, l_ref, b_lenS, b_lenT, b_lenR, b_abs, b_tupR, b_tupT, b_listR, b_listT, b_all, b_any, b_intI, b_intB, b_isiN, b_isiB, b_isiI, b_isiS, b_isiT, b_isiR, b_isiL, b_isN, b_notN, b_neg, b_rev, b_join, t_str, is_some, isB_some, byB_true, byB_false, start, wipe, bindT, List.map_cons, List.map_nil, List.cons_append, List.nil_append, List.append_nil, List.getElem?_cons_zero, List.getElem?_cons_succ, List.length_cons, List.length_nil, List.set_cons_zero, List.set_cons_succ, atI_0, atI_1, atI_2, atI_3, List.replicate, Nat.zero_add, Nat.reduceAdd, Nat.reduceSub, seqW_ref, seqW_tup, c_leS, b_iaddI, b_iaddS, b_isub, w_enum, w_rngd, w_lam, x_ite, w_zip, w_callv, s_setX, s_retX, s_exprX, s_raise, x_call, x_tup, xs_nil, xs_ok, xs_may, byX_tup, byX_exc, byV_tup, byV_str, byV_int, byV_bl, byV_non, byV_ref, byV_exc]
    simp only [egW, w_var, w_c, w_bin, w_cmp, w_chain, w_and, w_or, w_ite, w_not, w_nil, w_cons, w_tup, w_lst, w_ix, w_no, w_yes, w_sl, w_call, w_bi, w_val, w_rng1, w_rng2, s_nil, s_cons, s_ret, s_expr, s_set, s_if, s_pass, s_setix, s_app, s_ext, o_addI, o_addS, o_addT, o_addL, o_sub, o_mulI, o_mulS, o_mulL, o_fdiv, o_mod, o_pow, c_ltI, c_ltS, c_le, c_gt, c_ge, c_eq, c_ne, e_ii, e_ss, e_bb, c_inS, c_notS, i_str, i_tup, i_ref, l_str, l_tup, l_rol, l_ref, b_lenS, b_lenT, b_lenR, b_abs, b_tupR, b_tupT, b_listR, b_listT, b_all, b_any, b_intI, b_intB, b_isiN, b_isiB, b_isiI, b_isiS, b_isiT, b_isiR, b_isiL, b_isN, b_notN, b_neg, b_rev, b_join, t_str, is_some, isB_some, byB_true, byB_false, start, wipe, bindT, List.map_cons, List.map_nil, List.cons_append, List.nil_append, List.append_nil, List.getElem?_cons_zero, List.getElem?_cons_succ, List.length_cons, List.length_nil, List.set_cons_zero, List.set_cons_succ, atI_0, atI_1, atI_2, atI_3, List.replicate, Nat.zero_add, Nat.reduceAdd, Nat.reduceSub, seqW_ref, seqW_tup, c_leS, b_iaddI, b_iaddS, b_isub, w_enum, w_rngd, w_lam, x_ite, w_zip, w_callv, s_setX, s_retX, s_exprX, s_raise, x_call, x_tup, xs_nil, xs_ok, xs_may, byX_tup, byX_exc, byV_tup, byV_str, byV_int, byV_bl, byV_non, byV_ref, byV_exc, bindL, List.length_map]
    refine byB_dec _ _ _ (fun z => ?_) (fun z => ?_)
    · have hm : m + 1 < es.length := by
        have := of_decide_eq_true z
        omega
      try simp only [w_var, w_c, w_bin, w_cmp, w_chain, w_and, w_or, w_ite, w_not, w_nil, w_cons, w_tup, w_lst, w_ix, w_no, w_yes, w_sl, w_call, w_bi, w_val, w_rng1, w_rng2, s_nil, s_cons, s_ret, s_expr, s_set, s_if, s_pass, s_setix, s_app, s_ext, o_addI, o_addS, o_addT, o_addL, o_sub, o_mulI, o_mulS, o_mulL, o_fdiv, o_mod, o_pow, c_ltI, c_ltS, c_le, c_gt, c_ge, c_eq, c_ne, e_ii, e_ss, e_bb, c_inS, c_notS, i_str, i_tup, i_ref, l_str, l_tup, l_rol, l_ref, b_lenS, b_lenT, b_lenR, b_abs, b_tupR, b_tupT, b_listR, b_listT, b_all, b_any, b_intI, b_intB, b_isiN, b_isiB, b_isiI, b_isiS, b_isiT, b_isiR, b_isiL, b_isN, b_notN, b_neg, b_rev, b_join, t_str, is_some, isB_some, byB_true, byB_false, start, wipe, bindT, List.map_cons, List.map_nil, List.cons_append, List.nil_append, List.append_nil, List.getElem?_cons_zero, List.getElem?_cons_succ, List.length_cons, List.length_nil, List.set_cons_zero, List.set_cons_succ, atI_0, atI_1, atI_2, atI_3, List.replicate, Nat.zero_add, Nat.reduceAdd, Nat.reduceSub, seqW_ref, seqW_tup, c_leS, b_iaddI, b_iaddS, b_isub, w_enum, w_rngd, w_lam, x_ite, w_zip, w_callv, s_setX, s_retX, s_exprX, s_raise, x_call, x_tup, xs_nil, xs_ok, xs_may, byX_tup, byX_exc, byV_tup, byV_str, byV_int, byV_bl, byV_non, byV_ref, byV_exc, h]
      have hc : cut (p.map stW) none (some ((p.length - 1 - i : Nat) : Int)) = (p.take (p.length - 1 - i)).map stW := by
        rw [cut_to, List.map_take]
      rw [hc]
      have g1 := g.take (p.length - 1 - i)
      have hl1 : (p.take (p.length - 1 - i)).length = p.length - 1 - i := by rw [List.length_take]; omega
      refine ⟨by rw [List.length_map, hl1]; simp only [LIM]; omega, ?_⟩
      rw [b_starL (rdL_new _ _)]
      refine ⟨by decide, by rw [List.length_append, List.length_map, hl1]; simp only [LIM, List.length_singleton]; omega, ?_⟩
      refine ⟨?_, ((Kp.refl _).snoc _).snoc _, (lk.lst _).lst _⟩
      have e1 : List.map stW (p.take (p.length - 1 - i)) ++ [W.tup [W.tup (es.map eW), W.int ((m : Int) - -1)]] = (p.take (p.length - 1 - i) ++ [(es, m + 1)]).map stW := by
        rw [List.map_append, List.map_singleton]
        simp [stW, egW]
      rw [e1]
      refine .yes (rdL_new _ _) (by simp) (g1.snoc (by omega) hm fun e he => ?_) (ha.trans (aft_turn hm))
      rw [hl1]
      exact hh.2 e he
    · have hm : es.length ≤ m + 1 := by
        have := of_decide_eq_false z
        omega
      refine ⟨trivial, ⟨_, _, _, rfl⟩, by omega, ha.trans ?_⟩
      rw [aft_back hm, show p.length - 1 - i = p.length - (i + 1) by omega]
  · obtain ⟨rfl, ⟨a, b, c, rfl⟩, hi2, ha⟩ := hI
    refine ⟨⟨_, Nat.le_refl _, by simp [Src.len]⟩, ?_⟩
    try simp only [w_var, w_c, w_bin, w_cmp, w_chain, w_and, w_or, w_ite, w_not, w_nil, w_cons, w_tup, w_lst, w_ix, w_no, w_yes, w_sl, w_call, w_bi, w_val, w_rng1, w_rng2, s_nil, s_cons, s_ret, s_expr, s_set, s_if, s_pass, s_setix, s_app, s_ext, o_addI, o_addS, o_addT, o_addL, o_sub, o_mulI, o_mulS, o_mulL, o_fdiv, o_mod, o_pow, c_ltI, c_ltS, c_le, c_gt, c_ge, c_eq, c_ne, e_ii, e_ss, e_bb, c_inS, c_notS, i_str, i_tup, i_ref, l_str, l_tup, l_rol, l_ref, b_lenS, b_lenT, b_lenR, b_abs, b_tupR, b_tupT, b_listR, b_listT, b_all, b_any, b_intI, b_intB, b_isiN, b_isiB, b_isiI, b_isiS, b_isiT, b_isiR, b_isiL, b_isN, b_notN, b_neg, b_rev, b_join, t_str, is_some, isB_some, byB_true, byB_false, start, wipe, bindT, List.map_cons, List.map_nil, List.cons_append, List.nil_append, List.append_nil, List.getElem?_cons_zero, List.getElem?_cons_succ, List.length_cons, List.length_nil, List.set_cons_zero, List.set_cons_succ, atI_0, atI_1, atI_2, atI_3, List.replicate, Nat.zero_add, Nat.reduceAdd, Nat.reduceSub, seqW_ref, seqW_tup, c_leS, b_iaddI, b_iaddS, b_isub, w_enum, w_rngd, w_lam, x_ite, w_zip, w_callv, s_setX, s_retX, s_exprX, s_raise, x_call, x_tup, xs_nil, xs_ok, xs_may, byX_tup, byX_exc, byV_tup, byV_str, byV_int, byV_bl, byV_non, byV_ref, byV_exc]
    rw [Nat.sub_self, List.take_zero] at ha
    exact ⟨.no ha, .refl _, lk⟩
end
end Pg
namespace Pg
open MP
/-- the dict where the tree stands -/
def TrAt (S : Sto) (T : Nat) (f : Nd → Option Eg) : Prop := ∃ kvs, S[T]? = some (.dd kvs) ∧ ∀ n es, f n = some es → kvs.lookup (nK n) = some (egW es)
theorem TrAt.kp {S S' : Sto} {T : Nat} {f : Nd → Option Eg} (h : TrAt S T f) (k : Kp S S') : TrAt S' T f := by
  obtain ⟨kvs, a, b⟩ := h
  exact ⟨kvs, k.get a, b⟩
theorem TrAt.relock {S : Sto} {T : Nat} {f : Nd → Option Eg} (h : TrAt S T f) (ws : List W) : TrAt (relock ws S) T f := by
  obtain ⟨kvs, a, b⟩ := h
  exact ⟨kvs, by rw [relock_at, a]; rfl, b⟩
theorem hkOf_nW (n : Nd) : hkOf 8 (nW n) = some (nK n) := by cases n <;> rfl
theorem b_gix {S : Sto} {P : W → Sto → Prop} {T : Nat} {f : Nd → Option Eg} {n : Nd} {es : Eg} (h : TrAt S T f) (e : f n = some es) : Is (opI (.x .gix) [.gref T, nW n] S) P = P (egW es) S := by
  obtain ⟨kvs, a, b⟩ := h
  have r : rdG S T = some kvs := by unfold rdG; rw [a]
  have e : opI (.x .gix) [.gref T, nW n] S = some (egW es, S) := by
    show (match rdG S T, hkOf 8 (nW n) with | some kvs, some h => (kvs.lookup h).map fun v => (v, S) | _, _ => none) = _
    rw [r, hkOf_nW]
    simp only
    rw [b n es e]
    rfl
  rw [e, is_some]
/-- all but i stands -/
def Ko (i : Nat) (S S' : Sto) : Prop := S.length ≤ S'.length ∧ ∀ k, k < S.length → k ≠ i → S'[k]? = S[k]?
theorem Ko.of {i : Nat} {S S' : Sto} (h : Kp S S') : Ko i S S' := ⟨h.1, fun k hk _ => h.2 k hk⟩
theorem Ko.trans {i : Nat} {S S1 S2 : Sto} (a : Ko i S S1) (b : Ko i S1 S2) : Ko i S S2 := ⟨Nat.le_trans a.1 b.1, fun k hk h => (b.2 k (Nat.lt_of_lt_of_le hk a.1) h).trans (a.2 k hk h)⟩
theorem Ko.set {i : Nat} (S : Sto) (o : SO) : Ko i S (S.set i o) := ⟨by rw [List.length_set]; exact Nat.le_refl _, fun k _ h => List.getElem?_set_ne (Ne.symm h)⟩
theorem Ko.get {i : Nat} {S S' : Sto} (h : Ko i S S') {k : Nat} {o : SO} (e : S[k]? = some o) (h1 : k ≠ i) : S'[k]? = some o := (h.2 k (List.getElem?_eq_some_iff.mp e).1 h1).trans e
theorem Ko.setN {i j : Nat} {S S' : Sto} (h : Ko i S S') (hj : S.length ≤ j) (o : SO) : Ko i S (S'.set j o) := ⟨by rw [List.length_set]; exact h.1, fun k hk h1 => by
  rw [List.getElem?_set_ne (by omega)]
  exact h.2 k hk h1⟩
theorem Ko.rd {i j : Nat} {S S' : Sto} {xs : List W} (h : Ko i S S') (e : rdL S j = some xs) (h1 : j ≠ i) : rdL S' j = some xs := rdL_of (h.get (rdL_iff.mp e) h1)
theorem ne_lst {S : Sto} {i j : Nat} {xs : List W} {o : SO} (h : rdL S i = some xs) (e : S[j]? = some o) (n : ∀ ys, o ≠ .lst ys) : j ≠ i := fun z => by
  subst z
  rw [rdL_iff, e] at h
  cases h
  exact n _ rfl
theorem TrAt.ne {S : Sto} {T i : Nat} {f : Nd → Option Eg} {xs : List W} (h : TrAt S T f) (e : rdL S i = some xs) : T ≠ i := by
  obtain ⟨kvs, a, _⟩ := h
  exact ne_lst e a fun _ z => by cases z
theorem TrAt.ko {S S' : Sto} {T i : Nat} {f : Nd → Option Eg} (h : TrAt S T f) (k : Ko i S S') (n : T ≠ i) : TrAt S' T f := by
  obtain ⟨kvs, a, b⟩ := h
  exact ⟨kvs, k.get a n, b⟩
theorem log_small {i : Int} (h : 0 ≤ i) (h2 : i ≤ 1000000) : i.natAbs.log2 < 1920 := by
  by_cases hz : i.natAbs = 0
  · rw [hz]; decide
  · exact (Nat.log2_lt hz).mpr (Nat.lt_of_lt_of_le (show i.natAbs < 2 ^ 20 by omega) (Nat.pow_le_pow_right (by decide) (by decide)))
theorem b_smallI {i : Int} {S : Sto} {P : W → Sto → Prop} (h : i.natAbs.log2 < 1920) : Is (opI (.x .small) [.int i] S) P = P (.int i) S := by
  simp only [opI, opJ, h, if_true, is_some]
theorem dats_iff {f : W → Option D} : ∀ {ws : List W} {ds : List D}, dats f ws = some ds ↔ ws.map f = ds.map some
  | [], ds => by cases ds <;> simp [dats]
  | w :: r, ds => by
    cases ds with
    | nil =>
      simp only [dats, List.map_cons, List.map_nil, reduceCtorEq, iff_false]
      split <;> simp
    | cons d ds =>
      have ih := dats_iff (f := f) (ws := r) (ds := ds)
      simp only [dats, List.map_cons, List.cons.injEq]
      rw [← ih]
      constructor
      · intro h
        split at h
        · rename_i a b e1 e2
          cases h
          exact ⟨e1, e2⟩
        · cases h
      · rintro ⟨e1, e2⟩
        simp only [e1, e2]
theorem dats_ints {S : Sto} {n : Nat} (l : List Int) : dats (dat S n) (l.map W.int) = some (l.map D.int) := by
  rw [dats_iff, List.map_map, List.map_map]
  exact List.map_congr_left fun c _ => by cases n <;> rfl
theorem any_ints (x : Int) (L : List Int) : ((L.map D.int).any fun z => D.eqv z (.int x)) = decide (x ∈ L) := by
  induction L with
  | nil => simp
  | cons s L ih =>
    simp only [List.map_cons, List.any_cons, ih, D.eqv]
    by_cases h : s = x
    · subst h; simp
    · have h' : ¬ x = s := fun e => h e.symm
      by_cases h2 : x ∈ L <;> simp [h, h', h2]
theorem isin_int {S : Sto} {k : Nat} {x : Int} {L : List Int} (h : rdL S k = some (L.map .int)) : opC .isIn (.int x) (.ref k) S = some (decide (x ∈ L)) := by
  have h1 : dat S 60 (.int x) = some (.int x) := rfl
  have h2 := dats_ints (S := S) (n := 59) L
  simp only [opC, inW, h1, h, h2, any_ints, Option.map_some]
theorem notin_int {S : Sto} {k : Nat} {x : Int} {L : List Int} (h : rdL S k = some (L.map .int)) : opC .notIn (.int x) (.ref k) S = some (!decide (x ∈ L)) := by
  have h1 : dat S 60 (.int x) = some (.int x) := rfl
  have h2 := dats_ints (S := S) (n := 59) L
  simp only [opC, inW, h1, h, h2, any_ints, Option.map_some]
abbrev cU : List Nat := [85, 110, 114, 101, 97, 100]
abbrev cN : List Nat := [78, 111, 78, 97, 109, 101]
abbrev fP : List Nat := [112, 108, 97, 99, 101]
abbrev fN : List Nat := [110, 97, 109, 101]
/-- what is raised, by the kind -/
def erW (kd : Int) (n : Nat) : W := if kd = 0 then .exc cU [(fP, .int (n : Nat))] else .exc cN [(fN, .int (n : Nat))]
/-- the closure that writes down what is asked, and may raise -/
structure Ask7 (ds : Nat → Option Def) : Prop where
  l : ds 9001 = some ⟨5, 5, .cons (.retX e_lam9001) .nil⟩
  w : ds 698 = some ⟨5, 5, b_law_failing⟩
/-- the captured values -/
def zv (G T F : Nat) (kd : Int) : List W := [.ref G, .gref T, .ref F, .int kd]
section
variable {ds : Nat → Option Def}
theorem ask7_w (hl : Ask7 ds) (k : Nat) {S : Sto} {T G F : Nat} {kd : Int} {f : Nd → Option Eg} {n : Nd} {es : Eg} {lg : List Nd} {F0 : List Int} (h : TrAt S T f) (e : f n = some es) (hG : rdL S G = some (lg.map nW)) (hF : rdL S F = some (F0.map .int)) (nF : F ≠ G) (hg : lg.length < 900000) {P : W → Sto → Prop}
    (hp : ((lg.length + 1 : Nat) : Int) ∉ F0 → P (egW es) (S.set G (.lst ((lg ++ [n]).map nW)))) (hr : ((lg.length + 1 : Nat) : Int) ∈ F0 → P (erW kd (lg.length + 1)) (S.set G (.lst ((lg ++ [n]).map nW)))) : Is (callF ds (k + 2) 9001 (zv G T F kd ++ [nW n]) S) P := by
  refine w_callF (k := k + 1) hl.l rfl ?_
  simp only [e_lam9001, zv, w_var, w_c, w_bin, w_cmp, w_chain, w_and, w_or, w_ite, w_not, w_nil, w_cons, w_tup, w_lst, w_ix, w_no, w_yes, w_sl, w_call, w_bi, w_val, w_rng1, w_rng2, s_nil, s_cons, s_ret, s_expr, s_set, s_if, s_pass, s_setix, s_app, s_ext, o_addI, o_addS, o_addT, o_addL, o_sub, o_mulI, o_mulS, o_mulL, o_fdiv, o_mod, o_pow, c_ltI, c_ltS, c_le, c_gt, c_ge, c_eq, c_ne, e_ii, e_ss, e_bb, c_inS, c_notS, i_str, i_tup, i_ref, l_str, l_tup, l_rol, l_ref, b_lenS, b_lenT, b_lenR, b_abs, b_tupR, b_tupT, b_listR, b_listT, b_all, b_any, b_intI, b_intB, b_isiN, b_isiB, b_isiI, b_isiS, b_isiT, b_isiR, b_isiL, b_isN, b_notN, b_neg, b_rev, b_join, t_str, is_some, isB_some, byB_true, byB_false, start, wipe, bindT, List.map_cons, List.map_nil, List.cons_append, List.nil_append, List.append_nil, List.getElem?_cons_zero, List.getElem?_cons_succ, List.length_cons, List.length_nil, List.set_cons_zero, List.set_cons_succ, atI_0, atI_1, atI_2, atI_3, List.replicate, Nat.zero_add, Nat.reduceAdd, Nat.reduceSub, seqW_ref, seqW_tup, c_leS, b_iaddI, b_iaddS, b_isub, w_enum, w_rngd, w_lam, x_ite, w_zip, w_callv, s_setX, s_retX, s_exprX, s_raise, x_call, x_tup, xs_nil, xs_ok, xs_may, byX_tup, byX_exc, byV_tup, byV_str, byV_int, byV_bl, byV_non, byV_ref, byV_exc]
  refine w_callF hl.w rfl ?_
  have em : lg.map nW ++ [nW n] = (lg ++ [n]).map nW := by simp
  have hG2 : rdL (S.set G (.lst ((lg ++ [n]).map nW))) G = some ((lg ++ [n]).map nW) := rdL_set_same hG
  have hF2 : rdL (S.set G (.lst ((lg ++ [n]).map nW))) F = some (F0.map .int) := by
    rw [rdL_set_ne (Ne.symm nF)]
    exact hF
  have tr2 : TrAt (S.set G (.lst ((lg ++ [n]).map nW))) T f := h.ko (.set _ _) (h.ne hG)
  have ll : ((lg ++ [n]).map nW).length = lg.length + 1 := by simp
  simp only [b_law_failing, w_var, w_c, w_bin, w_cmp, w_chain, w_and, w_or, w_ite, w_not, w_nil, w_cons, w_tup, w_lst, w_ix, w_no, w_yes, w_sl, w_call, w_bi, w_val, w_rng1, w_rng2, s_nil, s_cons, s_ret, s_expr, s_set, s_if, s_pass, s_setix, s_app, s_ext, o_addI, o_addS, o_addT, o_addL, o_sub, o_mulI, o_mulS, o_mulL, o_fdiv, o_mod, o_pow, c_ltI, c_ltS, c_le, c_gt, c_ge, c_eq, c_ne, e_ii, e_ss, e_bb, c_inS, c_notS, i_str, i_tup, i_ref, l_str, l_tup, l_rol, l_ref, b_lenS, b_lenT, b_lenR, b_abs, b_tupR, b_tupT, b_listR, b_listT, b_all, b_any, b_intI, b_intB, b_isiN, b_isiB, b_isiI, b_isiS, b_isiT, b_isiR, b_isiL, b_isN, b_notN, b_neg, b_rev, b_join, t_str, is_some, isB_some, byB_true, byB_false, start, wipe, bindT, List.map_cons, List.map_nil, List.cons_append, List.nil_append, List.append_nil, List.getElem?_cons_zero, List.getElem?_cons_succ, List.length_cons, List.length_nil, List.set_cons_zero, List.set_cons_succ, atI_0, atI_1, atI_2, atI_3, List.replicate, Nat.zero_add, Nat.reduceAdd, Nat.reduceSub, seqW_ref, seqW_tup, c_leS, b_iaddI, b_iaddS, b_isub, w_enum, w_rngd, w_lam, x_ite, w_zip, w_callv, s_setX, s_retX, s_exprX, s_raise, x_call, x_tup, xs_nil, xs_ok, xs_may, byX_tup, byX_exc, byV_tup, byV_str, byV_int, byV_bl, byV_non, byV_ref, byV_exc, hG, em, hG2, ll]
  refine ⟨by rw [List.length_map]; simp only [LIM]; omega, ?_⟩
  generalize S.set G (.lst ((lg ++ [n]).map nW)) = S2 at *
  simp only [isin_int hF2, w_var, w_c, w_bin, w_cmp, w_chain, w_and, w_or, w_ite, w_not, w_nil, w_cons, w_tup, w_lst, w_ix, w_no, w_yes, w_sl, w_call, w_bi, w_val, w_rng1, w_rng2, s_nil, s_cons, s_ret, s_expr, s_set, s_if, s_pass, s_setix, s_app, s_ext, o_addI, o_addS, o_addT, o_addL, o_sub, o_mulI, o_mulS, o_mulL, o_fdiv, o_mod, o_pow, c_ltI, c_ltS, c_le, c_gt, c_ge, c_eq, c_ne, e_ii, e_ss, e_bb, c_inS, c_notS, i_str, i_tup, i_ref, l_str, l_tup, l_rol, l_ref, b_lenS, b_lenT, b_lenR, b_abs, b_tupR, b_tupT, b_listR, b_listT, b_all, b_any, b_intI, b_intB, b_isiN, b_isiB, b_isiI, b_isiS, b_isiT, b_isiR, b_isiL, b_isN, b_notN, b_neg, b_rev, b_join, t_str, is_some, isB_some, byB_true, byB_false, start, wipe, bindT, List.map_cons, List.map_nil, List.cons_append, List.nil_append, List.append_nil, List.getElem?_cons_zero, List.getElem?_cons_succ, List.length_cons, List.length_nil, List.set_cons_zero, List.set_cons_succ, atI_0, atI_1, atI_2, atI_3, List.replicate, Nat.zero_add, Nat.reduceAdd, Nat.reduceSub, seqW_ref, seqW_tup, c_leS, b_iaddI, b_iaddS, b_isub, w_enum, w_rngd, w_lam, x_ite, w_zip, w_callv, s_setX, s_retX, s_exprX, s_raise, x_call, x_tup, xs_nil, xs_ok, xs_may, byX_tup, byX_exc, byV_tup, byV_str, byV_int, byV_bl, byV_non, byV_ref, byV_exc, hG2, ll]
  by_cases hm : ((lg.length + 1 : Nat) : Int) ∈ F0
  · have hr := hr hm
    have hm2 : decide (((lg.length + 1 : Nat) : Int) ∈ F0) = true := decide_eq_true hm
    rw [hm2]
    try simp only [w_var, w_c, w_bin, w_cmp, w_chain, w_and, w_or, w_ite, w_not, w_nil, w_cons, w_tup, w_lst, w_ix, w_no, w_yes, w_sl, w_call, w_bi, w_val, w_rng1, w_rng2, s_nil, s_cons, s_ret, s_expr, s_set, s_if, s_pass, s_setix, s_app, s_ext, o_addI, o_addS, o_addT, o_addL, o_sub, o_mulI, o_mulS, o_mulL, o_fdiv, o_mod, o_pow, c_ltI, c_ltS, c_le, c_gt, c_ge, c_eq, c_ne, e_ii, e_ss, e_bb, c_inS, c_notS, i_str, i_tup, i_ref, l_str, l_tup, l_rol, l_ref, b_lenS, b_lenT, b_lenR, b_abs, b_tupR, b_tupT, b_listR, b_listT, b_all, b_any, b_intI, b_intB, b_isiN, b_isiB, b_isiI, b_isiS, b_isiT, b_isiR, b_isiL, b_isN, b_notN, b_neg, b_rev, b_join, t_str, is_some, isB_some, byB_true, byB_false, start, wipe, bindT, List.map_cons, List.map_nil, List.cons_append, List.nil_append, List.append_nil, List.getElem?_cons_zero, List.getElem?_cons_succ, List.length_cons, List.length_nil, List.set_cons_zero, List.set_cons_succ, atI_0, atI_1, atI_2, atI_3, List.replicate, Nat.zero_add, Nat.reduceAdd, Nat.reduceSub, seqW_ref, seqW_tup, c_leS, b_iaddI, b_iaddS, b_isub, w_enum, w_rngd, w_lam, x_ite, w_zip, w_callv, s_setX, s_retX, s_exprX, s_raise, x_call, x_tup, xs_nil, xs_ok, xs_may, byX_tup, byX_exc, byV_tup, byV_str, byV_int, byV_bl, byV_non, byV_ref, byV_exc, hG2, ll]
    by_cases hk : kd = 0
    · rw [show decide (kd = 0) = true from decide_eq_true hk]
      try simp only [w_var, w_c, w_bin, w_cmp, w_chain, w_and, w_or, w_ite, w_not, w_nil, w_cons, w_tup, w_lst, w_ix, w_no, w_yes, w_sl, w_call, w_bi, w_val, w_rng1, w_rng2, s_nil, s_cons, s_ret, s_expr, s_set, s_if, s_pass, s_setix, s_app, s_ext, o_addI, o_addS, o_addT, o_addL, o_sub, o_mulI, o_mulS, o_mulL, o_fdiv, o_mod, o_pow, c_ltI, c_ltS, c_le, c_gt, c_ge, c_eq, c_ne, e_ii, e_ss, e_bb, c_inS, c_notS, i_str, i_tup, i_ref, l_str, l_tup, l_rol, l_ref, b_lenS, b_lenT, b_lenR, b_abs, b_tupR, b_tupT, b_listR, b_listT, b_all, b_any, b_intI, b_intB, b_isiN, b_isiB, b_isiI, b_isiS, b_isiT, b_isiR, b_isiL, b_isN, b_notN, b_neg, b_rev, b_join, t_str, is_some, isB_some, byB_true, byB_false, start, wipe, bindT, List.map_cons, List.map_nil, List.cons_append, List.nil_append, List.append_nil, List.getElem?_cons_zero, List.getElem?_cons_succ, List.length_cons, List.length_nil, List.set_cons_zero, List.set_cons_succ, atI_0, atI_1, atI_2, atI_3, List.replicate, Nat.zero_add, Nat.reduceAdd, Nat.reduceSub, seqW_ref, seqW_tup, c_leS, b_iaddI, b_iaddS, b_isub, w_enum, w_rngd, w_lam, x_ite, w_zip, w_callv, s_setX, s_retX, s_exprX, s_raise, x_call, x_tup, xs_nil, xs_ok, xs_may, byX_tup, byX_exc, byV_tup, byV_str, byV_int, byV_bl, byV_non, byV_ref, byV_exc, hG2, ll]
      rw [b_smallI (log_small (by omega) (by omega))]
      unfold erW at hr
      rw [if_pos hk] at hr
      exact ⟨trivial, hr⟩
    · rw [show decide (kd = 0) = false from decide_eq_false hk]
      try simp only [w_var, w_c, w_bin, w_cmp, w_chain, w_and, w_or, w_ite, w_not, w_nil, w_cons, w_tup, w_lst, w_ix, w_no, w_yes, w_sl, w_call, w_bi, w_val, w_rng1, w_rng2, s_nil, s_cons, s_ret, s_expr, s_set, s_if, s_pass, s_setix, s_app, s_ext, o_addI, o_addS, o_addT, o_addL, o_sub, o_mulI, o_mulS, o_mulL, o_fdiv, o_mod, o_pow, c_ltI, c_ltS, c_le, c_gt, c_ge, c_eq, c_ne, e_ii, e_ss, e_bb, c_inS, c_notS, i_str, i_tup, i_ref, l_str, l_tup, l_rol, l_ref, b_lenS, b_lenT, b_lenR, b_abs, b_tupR, b_tupT, b_listR, b_listT, b_all, b_any, b_intI, b_intB, b_isiN, b_isiB, b_isiI, b_isiS, b_isiT, b_isiR, b_isiL, b_isN, b_notN, b_neg, b_rev, b_join, t_str, is_some, isB_some, byB_true, byB_false, start, wipe, bindT, List.map_cons, List.map_nil, List.cons_append, List.nil_append, List.append_nil, List.getElem?_cons_zero, List.getElem?_cons_succ, List.length_cons, List.length_nil, List.set_cons_zero, List.set_cons_succ, atI_0, atI_1, atI_2, atI_3, List.replicate, Nat.zero_add, Nat.reduceAdd, Nat.reduceSub, seqW_ref, seqW_tup, c_leS, b_iaddI, b_iaddS, b_isub, w_enum, w_rngd, w_lam, x_ite, w_zip, w_callv, s_setX, s_retX, s_exprX, s_raise, x_call, x_tup, xs_nil, xs_ok, xs_may, byX_tup, byX_exc, byV_tup, byV_str, byV_int, byV_bl, byV_non, byV_ref, byV_exc, hG2, ll, hm2]
      rw [b_smallI (log_small (by omega) (by omega))]
      unfold erW at hr
      rw [if_neg hk] at hr
      exact ⟨trivial, hr⟩
  · have hp := hp hm
    have hm2 : decide (((lg.length + 1 : Nat) : Int) ∈ F0) = false := decide_eq_false hm
    rw [hm2]
    try simp only [w_var, w_c, w_bin, w_cmp, w_chain, w_and, w_or, w_ite, w_not, w_nil, w_cons, w_tup, w_lst, w_ix, w_no, w_yes, w_sl, w_call, w_bi, w_val, w_rng1, w_rng2, s_nil, s_cons, s_ret, s_expr, s_set, s_if, s_pass, s_setix, s_app, s_ext, o_addI, o_addS, o_addT, o_addL, o_sub, o_mulI, o_mulS, o_mulL, o_fdiv, o_mod, o_pow, c_ltI, c_ltS, c_le, c_gt, c_ge, c_eq, c_ne, e_ii, e_ss, e_bb, c_inS, c_notS, i_str, i_tup, i_ref, l_str, l_tup, l_rol, l_ref, b_lenS, b_lenT, b_lenR, b_abs, b_tupR, b_tupT, b_listR, b_listT, b_all, b_any, b_intI, b_intB, b_isiN, b_isiB, b_isiI, b_isiS, b_isiT, b_isiR, b_isiL, b_isN, b_notN, b_neg, b_rev, b_join, t_str, is_some, isB_some, byB_true, byB_false, start, wipe, bindT, List.map_cons, List.map_nil, List.cons_append, List.nil_append, List.append_nil, List.getElem?_cons_zero, List.getElem?_cons_succ, List.length_cons, List.length_nil, List.set_cons_zero, List.set_cons_succ, atI_0, atI_1, atI_2, atI_3, List.replicate, Nat.zero_add, Nat.reduceAdd, Nat.reduceSub, seqW_ref, seqW_tup, c_leS, b_iaddI, b_iaddS, b_isub, w_enum, w_rngd, w_lam, x_ite, w_zip, w_callv, s_setX, s_retX, s_exprX, s_raise, x_call, x_tup, xs_nil, xs_ok, xs_may, byX_tup, byX_exc, byV_tup, byV_str, byV_int, byV_bl, byV_non, byV_ref, byV_exc, hG2, ll, hm2]
    rw [b_gix tr2 e]
    exact hp
/-- what lengthened answers -/
inductive Len (f : Nd → Option Eg) (d G : Nat) (kd : Int) (F0 : List Int) (lg : List Nd) (p : Pth) (S : Sto) : W → Sto → Prop
  | rs {S' : Sto} {ask : List Nd} : 0 < ask.length → ask.length ≤ d → (((lg ++ ask).length : Nat) : Int) ∈ F0 → rdL S' G = some ((lg ++ ask).map nW) → Len f d G kd F0 lg p S (erW kd (lg ++ ask).length) S'
  | yes {S' : Sto} {j : Nat} {q : Pth} {ask : List Nd} : rdL S' j = some (q.map stW) → S.length ≤ j → GT f d q → q.length = d → wit f d p = wit f d q → ask.length ≤ d → rdL S' G = some ((lg ++ ask).map nW) → Len f d G kd F0 lg p S (.ref j) S'
theorem byV_er {kd : Int} {n : Nat} {t : Prop} {r : List Nat → List (List Nat × W) → Prop} (h : ∀ c fs, erW kd n = .exc c fs → r c fs) : ByV (erW kd n) t r := by
  unfold erW at *
  split
  · rename_i q
    simp only [q, if_true] at h
    exact h _ _ rfl
  · rename_i q
    simp only [q, if_false] at h
    exact h _ _ rfl
theorem len_w (h1090 : ds 1090 = some ⟨1, 3, b_node_behind⟩) (h1089 : ds 1089 = some ⟨3, 5, b_lengthened⟩) (hl : Ask7 ds) (k : Nat) {S : Sto} {j c T G F d : Nat} {kd : Int} {F0 : List Int} {f : Nd → Option Eg} {p : Pth} {lg : List Nd} (h : rdL S j = some (p.map stW)) (g : GT f d p) (hd : d ≤ 1000) (lk : Lk (zv G T F kd) S) (hc : S[c]? = some (.clo 9001 (zv G T F kd))) (tr : TrAt S T f) (hG : rdL S G = some (lg.map nW)) (hF : rdL S F = some (F0.map .int)) (nF : F ≠ G) (hg : lg.length ≤ 100000) (ok : Gd f (d - p.length) (nb p)) :
    Is (callF ds (k + 3) 1089 [.ref j, .lref c, .int (d : Nat)] S) fun w S' => Len f d G kd F0 lg p S w S' ∧ Ko G S S' ∧ Lk (zv G T F kd) S' := by
  refine w_callF (k := k + 2) h1089 rfl ?_
  have pl := g.1
  have gl : G < S.length := (List.getElem?_eq_some_iff.mp (rdL_iff.mp hG)).1
  have nT := tr.ne hG
  have nc : c ≠ G := ne_lst hG hc fun _ z => by cases z
  simp only [b_lengthened, w_var, w_c, w_bin, w_cmp, w_chain, w_and, w_or, w_ite, w_not, w_nil, w_cons, w_tup, w_lst, w_ix, w_no, w_yes, w_sl, w_call, w_bi, w_val, w_rng1, w_rng2, s_nil, s_cons, s_ret, s_expr, s_set, s_if, s_pass, s_setix, s_app, s_ext, o_addI, o_addS, o_addT, o_addL, o_sub, o_mulI, o_mulS, o_mulL, o_fdiv, o_mod, o_pow, c_ltI, c_ltS, c_le, c_gt, c_ge, c_eq, c_ne, e_ii, e_ss, e_bb, c_inS, c_notS, i_str, i_tup, i_ref, l_str, l_tup, l_rol, l_ref, b_lenS, b_lenT, b_lenR, b_abs, b_tupR, b_tupT, b_listR, b_listT, b_all, b_any, b_intI, b_intB, b_isiN, b_isiB, b_isiI, b_isiS, b_isiT, b_isiR, b_isiL, b_isN, b_notN, b_neg, b_rev, b_join, t_str, is_some, isB_some, byB_true, byB_false, start, wipe, bindT, List.map_cons, List.map_nil, List.cons_append, List.nil_append, List.append_nil, List.getElem?_cons_zero, List.getElem?_cons_succ, List.length_cons, List.length_nil, List.set_cons_zero, List.set_cons_succ, atI_0, atI_1, atI_2, atI_3, List.replicate, Nat.zero_add, Nat.reduceAdd, Nat.reduceSub, seqW_ref, seqW_tup, c_leS, b_iaddI, b_iaddS, b_isub, w_enum, w_rngd, w_lam, x_ite, w_zip, w_callv, s_setX, s_retX, s_exprX, s_raise, x_call, x_tup, xs_nil, xs_ok, xs_may, byX_tup, byX_exc, byV_tup, byV_str, byV_int, byV_bl, byV_non, byV_ref, byV_exc, h]
  refine ⟨by rw [List.length_map]; simp only [LIM]; omega, ?_⟩
  refine behind_w h1090 (k + 1) (rdL_new _ _) g ?_
  try simp only [w_var, w_c, w_bin, w_cmp, w_chain, w_and, w_or, w_ite, w_not, w_nil, w_cons, w_tup, w_lst, w_ix, w_no, w_yes, w_sl, w_call, w_bi, w_val, w_rng1, w_rng2, s_nil, s_cons, s_ret, s_expr, s_set, s_if, s_pass, s_setix, s_app, s_ext, o_addI, o_addS, o_addT, o_addL, o_sub, o_mulI, o_mulS, o_mulL, o_fdiv, o_mod, o_pow, c_ltI, c_ltS, c_le, c_gt, c_ge, c_eq, c_ne, e_ii, e_ss, e_bb, c_inS, c_notS, i_str, i_tup, i_ref, l_str, l_tup, l_rol, l_ref, b_lenS, b_lenT, b_lenR, b_abs, b_tupR, b_tupT, b_listR, b_listT, b_all, b_any, b_intI, b_intB, b_isiN, b_isiB, b_isiI, b_isiS, b_isiT, b_isiR, b_isiL, b_isN, b_notN, b_neg, b_rev, b_join, t_str, is_some, isB_some, byB_true, byB_false, start, wipe, bindT, List.map_cons, List.map_nil, List.cons_append, List.nil_append, List.append_nil, List.getElem?_cons_zero, List.getElem?_cons_succ, List.length_cons, List.length_nil, List.set_cons_zero, List.set_cons_succ, atI_0, atI_1, atI_2, atI_3, List.replicate, Nat.zero_add, Nat.reduceAdd, Nat.reduceSub, seqW_ref, seqW_tup, c_leS, b_iaddI, b_iaddS, b_isub, w_enum, w_rngd, w_lam, x_ite, w_zip, w_callv, s_setX, s_retX, s_exprX, s_raise, x_call, x_tup, xs_nil, xs_ok, xs_may, byX_tup, byX_exc, byV_tup, byV_str, byV_int, byV_bl, byV_non, byV_ref, byV_exc]
  refine w_while (fun m env' S' => ∃ (a : Option W) (q : Pth) (ask : List Nd), env' = [some (.ref S.length), some (.lref c), some (.int (d : Nat)), some (nW (nb q)), a] ∧ rdL S' S.length = some (q.map stW) ∧ GT f d q ∧ wit f d p = wit f d q ∧ m = d - q.length ∧ Ko G S S' ∧ Lk (zv G T F kd) S' ∧ ask.length ≤ q.length ∧ rdL S' G = some ((lg ++ ask).map nW) ∧ Gd f (d - q.length) (nb q)) (fun m env' S' hI => ?_) (d - p.length) ⟨_, p, [], rfl, rdL_new _ _, g, rfl, rfl, .of (.app _ _), lk.lst _, Nat.zero_le _, ?_, ok⟩ (by omega)
  rotate_left
  · rw [List.append_nil]
    exact rdL_of ((Kp.app S _).get (rdL_iff.mp hG))
  obtain ⟨a, q, ask, rfl, hq, gq, wq, hm, ko, lq, al, hG1, oq⟩ := hI
  have ql := gq.1
  try simp only [w_var, w_c, w_bin, w_cmp, w_chain, w_and, w_or, w_ite, w_not, w_nil, w_cons, w_tup, w_lst, w_ix, w_no, w_yes, w_sl, w_call, w_bi, w_val, w_rng1, w_rng2, s_nil, s_cons, s_ret, s_expr, s_set, s_if, s_pass, s_setix, s_app, s_ext, o_addI, o_addS, o_addT, o_addL, o_sub, o_mulI, o_mulS, o_mulL, o_fdiv, o_mod, o_pow, c_ltI, c_ltS, c_le, c_gt, c_ge, c_eq, c_ne, e_ii, e_ss, e_bb, c_inS, c_notS, i_str, i_tup, i_ref, l_str, l_tup, l_rol, l_ref, b_lenS, b_lenT, b_lenR, b_abs, b_tupR, b_tupT, b_listR, b_listT, b_all, b_any, b_intI, b_intB, b_isiN, b_isiB, b_isiI, b_isiS, b_isiT, b_isiR, b_isiL, b_isN, b_notN, b_neg, b_rev, b_join, t_str, is_some, isB_some, byB_true, byB_false, start, wipe, bindT, List.map_cons, List.map_nil, List.cons_append, List.nil_append, List.append_nil, List.getElem?_cons_zero, List.getElem?_cons_succ, List.length_cons, List.length_nil, List.set_cons_zero, List.set_cons_succ, atI_0, atI_1, atI_2, atI_3, List.replicate, Nat.zero_add, Nat.reduceAdd, Nat.reduceSub, seqW_ref, seqW_tup, c_leS, b_iaddI, b_iaddS, b_isub, w_enum, w_rngd, w_lam, x_ite, w_zip, w_callv, s_setX, s_retX, s_exprX, s_raise, x_call, x_tup, xs_nil, xs_ok, xs_may, byX_tup, byX_exc, byV_tup, byV_str, byV_int, byV_bl, byV_non, byV_ref, byV_exc, hq, List.length_map]
  refine byB_dec _ _ _ (fun z => ?_) (fun z => ?_)
  · have hlt : q.length < d := by
      have := of_decide_eq_true z
      omega
    refine ⟨d - (q.length + 1), by omega, ?_⟩
    try simp only [w_var, w_c, w_bin, w_cmp, w_chain, w_and, w_or, w_ite, w_not, w_nil, w_cons, w_tup, w_lst, w_ix, w_no, w_yes, w_sl, w_call, w_bi, w_val, w_rng1, w_rng2, s_nil, s_cons, s_ret, s_expr, s_set, s_if, s_pass, s_setix, s_app, s_ext, o_addI, o_addS, o_addT, o_addL, o_sub, o_mulI, o_mulS, o_mulL, o_fdiv, o_mod, o_pow, c_ltI, c_ltS, c_le, c_gt, c_ge, c_eq, c_ne, e_ii, e_ss, e_bb, c_inS, c_notS, i_str, i_tup, i_ref, l_str, l_tup, l_rol, l_ref, b_lenS, b_lenT, b_lenR, b_abs, b_tupR, b_tupT, b_listR, b_listT, b_all, b_any, b_intI, b_intB, b_isiN, b_isiB, b_isiI, b_isiS, b_isiT, b_isiR, b_isiL, b_isN, b_notN, b_neg, b_rev, b_join, t_str, is_some, isB_some, byB_true, byB_false, start, wipe, bindT, List.map_cons, List.map_nil, List.cons_append, List.nil_append, List.append_nil, List.getElem?_cons_zero, List.getElem?_cons_succ, List.length_cons, List.length_nil, List.set_cons_zero, List.set_cons_succ, atI_0, atI_1, atI_2, atI_3, List.replicate, Nat.zero_add, Nat.reduceAdd, Nat.reduceSub, seqW_ref, seqW_tup, c_leS, b_iaddI, b_iaddS, b_isub, w_enum, w_rngd, w_lam, x_ite, w_zip, w_callv, s_setX, s_retX, s_exprX, s_raise, x_call, x_tup, xs_nil, xs_ok, xs_may, byX_tup, byX_exc, byV_tup, byV_str, byV_int, byV_bl, byV_non, byV_ref, byV_exc]
    rw [x_callc (kk := c) rfl]
    try simp only [w_var, w_c, w_bin, w_cmp, w_chain, w_and, w_or, w_ite, w_not, w_nil, w_cons, w_tup, w_lst, w_ix, w_no, w_yes, w_sl, w_call, w_bi, w_val, w_rng1, w_rng2, s_nil, s_cons, s_ret, s_expr, s_set, s_if, s_pass, s_setix, s_app, s_ext, o_addI, o_addS, o_addT, o_addL, o_sub, o_mulI, o_mulS, o_mulL, o_fdiv, o_mod, o_pow, c_ltI, c_ltS, c_le, c_gt, c_ge, c_eq, c_ne, e_ii, e_ss, e_bb, c_inS, c_notS, i_str, i_tup, i_ref, l_str, l_tup, l_rol, l_ref, b_lenS, b_lenT, b_lenR, b_abs, b_tupR, b_tupT, b_listR, b_listT, b_all, b_any, b_intI, b_intB, b_isiN, b_isiB, b_isiI, b_isiS, b_isiT, b_isiR, b_isiL, b_isN, b_notN, b_neg, b_rev, b_join, t_str, is_some, isB_some, byB_true, byB_false, start, wipe, bindT, List.map_cons, List.map_nil, List.cons_append, List.nil_append, List.append_nil, List.getElem?_cons_zero, List.getElem?_cons_succ, List.length_cons, List.length_nil, List.set_cons_zero, List.set_cons_succ, atI_0, atI_1, atI_2, atI_3, List.replicate, Nat.zero_add, Nat.reduceAdd, Nat.reduceSub, seqW_ref, seqW_tup, c_leS, b_iaddI, b_iaddS, b_isub, w_enum, w_rngd, w_lam, x_ite, w_zip, w_callv, s_setX, s_retX, s_exprX, s_raise, x_call, x_tup, xs_nil, xs_ok, xs_may, byX_tup, byX_exc, byV_tup, byV_str, byV_int, byV_bl, byV_non, byV_ref, byV_exc]
    have hc1 : rdC S' c = some (9001, zv G T F kd) := by unfold rdC; rw [ko.get hc nc]
    rw [hc1]
    refine ⟨rfl, ?_⟩
    have hf := oq
    rw [show d - q.length = (d - (q.length + 1)) + 1 by omega] at hf
    obtain ⟨es, he, ne, hg2⟩ := hf
    have rk : ∀ {v : Nat} {xs : List W}, rdL S' v = some xs → rdL (relock [] S') v = some xs := fun {v xs} e => by
      rw [rdL_iff, relock_at, rdL_iff.mp e]
      rfl
    have lal : (lg ++ ask).length ≤ 102000 := by
      rw [List.length_append]
      omega
    have ns : S.length ≠ G := by omega
    have back : relock (zv G T F kd) ((relock [] S').set G (.lst ((lg ++ ask ++ [nb q]).map nW))) = S'.set G (.lst ((lg ++ ask ++ [nb q]).map nW)) := by
      rw [relock_set, relock_relock, show relock (zv G T F kd) S' = S' from lq]
      rfl
    have hq3 : rdL (S'.set G (.lst ((lg ++ ask ++ [nb q]).map nW))) S.length = some (q.map stW) := by
      rw [rdL_set_ne ns.symm]
      exact hq
    have hG3 : rdL (S'.set G (.lst ((lg ++ ask ++ [nb q]).map nW))) G = some ((lg ++ ask ++ [nb q]).map nW) := rdL_set_same hG1
    have ko3 : Ko G S (S'.set G (.lst ((lg ++ ask ++ [nb q]).map nW))) := ko.trans (.set _ _)
    have lq3 := lq.setL G ((lg ++ ask ++ [nb q]).map nW)
    have la1 : (lg ++ ask).length + 1 = (lg ++ (ask ++ [nb q])).length := by simp; omega
    refine ask7_w hl k ((tr.ko ko nT).relock []) he (rk hG1) (rk (ko.rd hF nF)) nF (by omega) (fun hn => ?_) (fun hy => ?_)
    · rw [back]
      generalize S'.set G (.lst ((lg ++ ask ++ [nb q]).map nW)) = S3 at *
      have hpos : 0 < es.length := List.length_pos_iff.mpr ne
      simp only [egW, w_var, w_c, w_bin, w_cmp, w_chain, w_and, w_or, w_ite, w_not, w_nil, w_cons, w_tup, w_lst, w_ix, w_no, w_yes, w_sl, w_call, w_bi, w_val, w_rng1, w_rng2, s_nil, s_cons, s_ret, s_expr, s_set, s_if, s_pass, s_setix, s_app, s_ext, o_addI, o_addS, o_addT, o_addL, o_sub, o_mulI, o_mulS, o_mulL, o_fdiv, o_mod, o_pow, c_ltI, c_ltS, c_le, c_gt, c_ge, c_eq, c_ne, e_ii, e_ss, e_bb, c_inS, c_notS, i_str, i_tup, i_ref, l_str, l_tup, l_rol, l_ref, b_lenS, b_lenT, b_lenR, b_abs, b_tupR, b_tupT, b_listR, b_listT, b_all, b_any, b_intI, b_intB, b_isiN, b_isiB, b_isiI, b_isiS, b_isiT, b_isiR, b_isiL, b_isN, b_notN, b_neg, b_rev, b_join, t_str, is_some, isB_some, byB_true, byB_false, start, wipe, bindT, List.map_cons, List.map_nil, List.cons_append, List.nil_append, List.append_nil, List.getElem?_cons_zero, List.getElem?_cons_succ, List.length_cons, List.length_nil, List.set_cons_zero, List.set_cons_succ, atI_0, atI_1, atI_2, atI_3, List.replicate, Nat.zero_add, Nat.reduceAdd, Nat.reduceSub, seqW_ref, seqW_tup, c_leS, b_iaddI, b_iaddS, b_isub, w_enum, w_rngd, w_lam, x_ite, w_zip, w_callv, s_setX, s_retX, s_exprX, s_raise, x_call, x_tup, xs_nil, xs_ok, xs_may, byX_tup, byX_exc, byV_tup, byV_str, byV_int, byV_bl, byV_non, byV_ref, byV_exc, List.length_map]
      refine byB_dec _ _ _ (fun z => ?_) (fun z => ?_)
      · have := of_decide_eq_true z
        omega
      · try simp only [w_var, w_c, w_bin, w_cmp, w_chain, w_and, w_or, w_ite, w_not, w_nil, w_cons, w_tup, w_lst, w_ix, w_no, w_yes, w_sl, w_call, w_bi, w_val, w_rng1, w_rng2, s_nil, s_cons, s_ret, s_expr, s_set, s_if, s_pass, s_setix, s_app, s_ext, o_addI, o_addS, o_addT, o_addL, o_sub, o_mulI, o_mulS, o_mulL, o_fdiv, o_mod, o_pow, c_ltI, c_ltS, c_le, c_gt, c_ge, c_eq, c_ne, e_ii, e_ss, e_bb, c_inS, c_notS, i_str, i_tup, i_ref, l_str, l_tup, l_rol, l_ref, b_lenS, b_lenT, b_lenR, b_abs, b_tupR, b_tupT, b_listR, b_listT, b_all, b_any, b_intI, b_intB, b_isiN, b_isiB, b_isiI, b_isiS, b_isiT, b_isiR, b_isiL, b_isN, b_notN, b_neg, b_rev, b_join, t_str, is_some, isB_some, byB_true, byB_false, start, wipe, bindT, List.map_cons, List.map_nil, List.cons_append, List.nil_append, List.append_nil, List.getElem?_cons_zero, List.getElem?_cons_succ, List.length_cons, List.length_nil, List.set_cons_zero, List.set_cons_succ, atI_0, atI_1, atI_2, atI_3, List.replicate, Nat.zero_add, Nat.reduceAdd, Nat.reduceSub, seqW_ref, seqW_tup, c_leS, b_iaddI, b_iaddS, b_isub, w_enum, w_rngd, w_lam, x_ite, w_zip, w_callv, s_setX, s_retX, s_exprX, s_raise, x_call, x_tup, xs_nil, xs_ok, xs_may, byX_tup, byX_exc, byV_tup, byV_str, byV_int, byV_bl, byV_non, byV_ref, byV_exc, hq3, atI_nat, List.getElem?_map, List.getElem?_eq_getElem hpos, Option.map_some, eW]
        have e1 : List.map stW q ++ [W.tup [W.tup (es.map eW), W.int 0]] = (q ++ [(es, 0)]).map stW := by
          rw [List.map_append, List.map_singleton]
          simp [stW, egW]
        rw [e1]
        have nq : nb (q ++ [(es, 0)]) = some es[0].2 := by rw [nb_snoc, List.getElem?_eq_getElem hpos]; rfl
        refine ⟨by decide, by rw [List.length_map]; simp only [LIM]; omega, _, q ++ [(es, 0)], ask ++ [nb q], by rw [nq]; rfl, rdL_set_same hq3, gq.snoc hlt hpos hg2, wq.trans (wit_down hlt he ne), by simp, ko3.setN (Nat.le_refl _) _, lq3.setL _ _, by simp; omega, ?_, ?_⟩
        · rw [rdL_set_ne (by omega), hG3, List.append_assoc]
        · rw [nq, List.length_append, List.length_singleton]
          exact hg2 _ (List.getElem_mem _)
    · rw [back, la1]
      rw [la1] at hy
      rw [List.append_assoc] at hG3 ko3 lq3
      rw [List.append_assoc]
      have L : Len f d G kd F0 lg p S (erW kd (lg ++ (ask ++ [nb q])).length) (S'.set G (.lst ((lg ++ (ask ++ [nb q])).map nW))) := .rs (by simp) (by simp; omega) hy hG3
      refine byV_er fun c fs e => ?_
      rw [e] at L
      exact ⟨L, ko3, lq3⟩
  · have hlen : q.length = d := by
      have := of_decide_eq_false z
      omega
    try simp only [w_var, w_c, w_bin, w_cmp, w_chain, w_and, w_or, w_ite, w_not, w_nil, w_cons, w_tup, w_lst, w_ix, w_no, w_yes, w_sl, w_call, w_bi, w_val, w_rng1, w_rng2, s_nil, s_cons, s_ret, s_expr, s_set, s_if, s_pass, s_setix, s_app, s_ext, o_addI, o_addS, o_addT, o_addL, o_sub, o_mulI, o_mulS, o_mulL, o_fdiv, o_mod, o_pow, c_ltI, c_ltS, c_le, c_gt, c_ge, c_eq, c_ne, e_ii, e_ss, e_bb, c_inS, c_notS, i_str, i_tup, i_ref, l_str, l_tup, l_rol, l_ref, b_lenS, b_lenT, b_lenR, b_abs, b_tupR, b_tupT, b_listR, b_listT, b_all, b_any, b_intI, b_intB, b_isiN, b_isiB, b_isiI, b_isiS, b_isiT, b_isiR, b_isiL, b_isN, b_notN, b_neg, b_rev, b_join, t_str, is_some, isB_some, byB_true, byB_false, start, wipe, bindT, List.map_cons, List.map_nil, List.cons_append, List.nil_append, List.append_nil, List.getElem?_cons_zero, List.getElem?_cons_succ, List.length_cons, List.length_nil, List.set_cons_zero, List.set_cons_succ, atI_0, atI_1, atI_2, atI_3, List.replicate, Nat.zero_add, Nat.reduceAdd, Nat.reduceSub, seqW_ref, seqW_tup, c_leS, b_iaddI, b_iaddS, b_isub, w_enum, w_rngd, w_lam, x_ite, w_zip, w_callv, s_setX, s_retX, s_exprX, s_raise, x_call, x_tup, xs_nil, xs_ok, xs_may, byX_tup, byX_exc, byV_tup, byV_str, byV_int, byV_bl, byV_non, byV_ref, byV_exc]
    exact ⟨.yes hq (by omega) gq hlen wq (by omega) hG1, ko, lq⟩
end
end Pg
namespace Pg
open MP
abbrev tW : List Nat := [87, 97, 108, 107]
abbrev fE : List Nat := [101, 100, 103, 101, 115]
abbrev fD : List Nat := [100, 101, 112, 116, 104]
abbrev fT : List Nat := [116, 114, 97, 105, 108]
abbrev fO : List Nat := [111, 118, 101, 114]
abbrev fA : List Nat := [97, 115, 107, 101, 100]
def wkO (c d : Nat) (t : W) (o : Bool) (a : Int) : SO := .obj tW [(fE, .lref c), (fD, .int (d : Nat)), (fT, t), (fO, .bl o), (fA, .int a)]
/-- a walk, and what it is still to tell -/
inductive Wk (S : Sto) (i c d : Nat) (f : Nd → Option Eg) : List Pth → Prop
  | fresh {a : Int} : S[i]? = some (wkO c d .non false a) → Wk S i c d f (expd f d [[]])
  | given {a : Int} {j : Nat} {p : Pth} : S[i]? = some (wkO c d (.ref j) false a) → i ≠ j → rdL S j = some (p.map stW) → GT f d p → p.length = d → Wk S i c d f (aft f d p.reverse)
  | over {a : Int} {t : W} : S[i]? = some (wkO c d t true a) → Wk S i c d f []
/-- all but i and g stands -/
def K2 (i g : Nat) (S S' : Sto) : Prop := S.length ≤ S'.length ∧ ∀ k, k < S.length → k ≠ i → k ≠ g → S'[k]? = S[k]?
theorem K2.of {i g : Nat} {S S' : Sto} (h : Kp S S') : K2 i g S S' := ⟨h.1, fun k hk _ _ => h.2 k hk⟩
theorem K2.ko {i g : Nat} {S S' : Sto} (h : Ko g S S') : K2 i g S S' := ⟨h.1, fun k hk _ h2 => h.2 k hk h2⟩
theorem K2.ko1 {i g : Nat} {S S' : Sto} (h : Ko i S S') : K2 i g S S' := ⟨h.1, fun k hk h1 _ => h.2 k hk h1⟩
theorem K2.trans {i g : Nat} {S S1 S2 : Sto} (a : K2 i g S S1) (b : K2 i g S1 S2) : K2 i g S S2 := ⟨Nat.le_trans a.1 b.1, fun k hk h h2 => (b.2 k (Nat.lt_of_lt_of_le hk a.1) h h2).trans (a.2 k hk h h2)⟩
theorem K2.get {i g : Nat} {S S' : Sto} (h : K2 i g S S') {k : Nat} {o : SO} (e : S[k]? = some o) (h1 : k ≠ i) (h2 : k ≠ g) : S'[k]? = some o := (h.2 k (List.getElem?_eq_some_iff.mp e).1 h1 h2).trans e
/-- what more answers: nothing is left, or the first of what is left, or an error -/
inductive Mo (c d G : Nat) (kd : Int) (F0 : List Int) (f : Nd → Option Eg) (i : Nat) (lg : List Nd) : List Pth → W → Sto → Prop
  | no {S' : Sto} : Wk S' i c d f [] → rdL S' G = some (lg.map nW) → Mo c d G kd F0 f i lg [] .non S'
  | yes {S' : Sto} {p : Pth} {R : List Pth} {ask : List Nd} : Wk S' i c d f R → ask.length ≤ d → rdL S' G = some ((lg ++ ask).map nW) → Mo c d G kd F0 f i lg (p :: R) (.tup ((lb p).map .int)) S'
  | rs {S' : Sto} {R : List Pth} {ask : List Nd} : Wk S' i c d f R → 0 < ask.length → ask.length ≤ d → (((lg ++ ask).length : Nat) : Int) ∈ F0 → rdL S' G = some ((lg ++ ask).map nW) → Mo c d G kd F0 f i lg R (erW kd (lg ++ ask).length) S'
structure WkC (ds : Nat → Option Def) : Prop where
  h1086 : ds 1086 = some ⟨3, 3, b_Walk___init__⟩
  h1087 : ds 1087 = some ⟨1, 5, b_Walk_more⟩
  h1088 : ds 1088 = some ⟨1, 4, b_turned_off⟩
  h1089 : ds 1089 = some ⟨3, 5, b_lengthened⟩
  h1090 : ds 1090 = some ⟨1, 3, b_node_behind⟩
section
variable {ds : Nat → Option Def}
/-- the tail of more: what is told -/
theorem mo_tail {Φ : Fns} {env : Env} {S : Sto} {P : W → Sto → Prop} {p : Pth} {j : Nat} (he : ∃ a b c e, env = [a, b, some (.ref j), c, e]) (h : rdL S j = some (p.map stW)) (hp : p.length ≤ 1000) (hi : ∀ k (h : k < p.length), p[k].2 < p[k].1.length) (go : ∀ S', Kp S S' → (∀ ws, Lk ws S → Lk ws S') → P (.tup ((lb p).map .int)) S') :
    Is (ev Φ (.comp [3, 4] [3, 4] (.val (.var 2)) (.c (.bl true)) (.ix (.ix (.var 3) (.var 4)) (.c (.int 0)))) env S) fun x S1 => Is (opI .tuple [x] S1) P := by
  obtain ⟨a, b, c, e, rfl⟩ := he
  refine w_comp (n := p.length) (by simp only [LIM]; omega) (fun i acc S' => acc = ((lb p).take i).map W.int ∧ S' = S) ?_
  try simp only [w_var, w_c, w_bin, w_cmp, w_chain, w_and, w_or, w_ite, w_not, w_nil, w_cons, w_tup, w_lst, w_ix, w_no, w_yes, w_sl, w_call, w_bi, w_val, w_rng1, w_rng2, s_nil, s_cons, s_ret, s_expr, s_set, s_if, s_pass, s_setix, s_app, s_ext, o_addI, o_addS, o_addT, o_addL, o_sub, o_mulI, o_mulS, o_mulL, o_fdiv, o_mod, o_pow, c_ltI, c_ltS, c_le, c_gt, c_ge, c_eq, c_ne, e_ii, e_ss, e_bb, c_inS, c_notS, i_str, i_tup, i_ref, l_str, l_tup, l_rol, l_ref, b_lenS, b_lenT, b_lenR, b_abs, b_tupR, b_tupT, b_listR, b_listT, b_all, b_any, b_intI, b_intB, b_isiN, b_isiB, b_isiI, b_isiS, b_isiT, b_isiR, b_isiL, b_isN, b_notN, b_neg, b_rev, b_join, t_str, is_some, isB_some, byB_true, byB_false, start, wipe, bindT, List.map_cons, List.map_nil, List.cons_append, List.nil_append, List.append_nil, List.getElem?_cons_zero, List.getElem?_cons_succ, List.length_cons, List.length_nil, List.set_cons_zero, List.set_cons_succ, atI_0, atI_1, atI_2, atI_3, List.replicate, Nat.zero_add, Nat.reduceAdd, Nat.reduceSub, seqW_ref, seqW_tup, c_leS, b_iaddI, b_iaddS, b_isub, w_enum, w_rngd, w_lam, x_ite, w_zip, w_callv, s_setX, s_retX, s_exprX, s_raise, x_call, x_tup, xs_nil, xs_ok, xs_may, byX_tup, byX_exc, byV_tup, byV_str, byV_int, byV_bl, byV_non, byV_ref, byV_exc]
  refine ⟨by simp [Src.len, h], ⟨rfl, trivial⟩, fun i acc S' hl hI => ?_, fun acc S' _ hI => ?_⟩
  · obtain ⟨rfl, rfl⟩ := hI
    have hh := hi i hl
    generalize hx : p[i] = x at hh
    obtain ⟨es, m⟩ := x
    refine ⟨stW (es, m), _, by simp [Src.item, h, hl, hx], rfl, ?_⟩
    simp only [stW, egW, w_var, w_c, w_bin, w_cmp, w_chain, w_and, w_or, w_ite, w_not, w_nil, w_cons, w_tup, w_lst, w_ix, w_no, w_yes, w_sl, w_call, w_bi, w_val, w_rng1, w_rng2, s_nil, s_cons, s_ret, s_expr, s_set, s_if, s_pass, s_setix, s_app, s_ext, o_addI, o_addS, o_addT, o_addL, o_sub, o_mulI, o_mulS, o_mulL, o_fdiv, o_mod, o_pow, c_ltI, c_ltS, c_le, c_gt, c_ge, c_eq, c_ne, e_ii, e_ss, e_bb, c_inS, c_notS, i_str, i_tup, i_ref, l_str, l_tup, l_rol, l_ref, b_lenS, b_lenT, b_lenR, b_abs, b_tupR, b_tupT, b_listR, b_listT, b_all, b_any, b_intI, b_intB, b_isiN, b_isiB, b_isiI, b_isiS, b_isiT, b_isiR, b_isiL, b_isN, b_notN, b_neg, b_rev, b_join, t_str, is_some, isB_some, byB_true, byB_false, start, wipe, bindT, List.map_cons, List.map_nil, List.cons_append, List.nil_append, List.append_nil, List.getElem?_cons_zero, List.getElem?_cons_succ, List.length_cons, List.length_nil, List.set_cons_zero, List.set_cons_succ, atI_0, atI_1, atI_2, atI_3, List.replicate, Nat.zero_add, Nat.reduceAdd, Nat.reduceSub, seqW_ref, seqW_tup, c_leS, b_iaddI, b_iaddS, b_isub, w_enum, w_rngd, w_lam, x_ite, w_zip, w_callv, s_setX, s_retX, s_exprX, s_raise, x_call, x_tup, xs_nil, xs_ok, xs_may, byX_tup, byX_exc, byV_tup, byV_str, byV_int, byV_bl, byV_non, byV_ref, byV_exc, bindL, atI_nat, List.getElem?_map, List.getElem?_eq_getElem hh, Option.map_some, eW]
    have e : (lb p).take (i + 1) = (lb p).take i ++ [es[m].1] := by
      have q : i < (lb p).length := by simp [lb, hl]
      rw [← List.take_append_getElem q]
      congr 2
      simp [lb, hx, List.getElem?_eq_getElem hh]
    rw [e, List.map_append]
    exact ⟨rfl, trivial⟩
  · obtain ⟨rfl, rfl⟩ := hI
    refine ⟨⟨_, Nat.le_refl _, by simp [Src.len, h]⟩, ?_⟩
    try simp only [w_var, w_c, w_bin, w_cmp, w_chain, w_and, w_or, w_ite, w_not, w_nil, w_cons, w_tup, w_lst, w_ix, w_no, w_yes, w_sl, w_call, w_bi, w_val, w_rng1, w_rng2, s_nil, s_cons, s_ret, s_expr, s_set, s_if, s_pass, s_setix, s_app, s_ext, o_addI, o_addS, o_addT, o_addL, o_sub, o_mulI, o_mulS, o_mulL, o_fdiv, o_mod, o_pow, c_ltI, c_ltS, c_le, c_gt, c_ge, c_eq, c_ne, e_ii, e_ss, e_bb, c_inS, c_notS, i_str, i_tup, i_ref, l_str, l_tup, l_rol, l_ref, b_lenS, b_lenT, b_lenR, b_abs, b_tupR, b_tupT, b_listR, b_listT, b_all, b_any, b_intI, b_intB, b_isiN, b_isiB, b_isiI, b_isiS, b_isiT, b_isiR, b_isiL, b_isN, b_notN, b_neg, b_rev, b_join, t_str, is_some, isB_some, byB_true, byB_false, start, wipe, bindT, List.map_cons, List.map_nil, List.cons_append, List.nil_append, List.append_nil, List.getElem?_cons_zero, List.getElem?_cons_succ, List.length_cons, List.length_nil, List.set_cons_zero, List.set_cons_succ, atI_0, atI_1, atI_2, atI_3, List.replicate, Nat.zero_add, Nat.reduceAdd, Nat.reduceSub, seqW_ref, seqW_tup, c_leS, b_iaddI, b_iaddS, b_isub, w_enum, w_rngd, w_lam, x_ite, w_zip, w_callv, s_setX, s_retX, s_exprX, s_raise, x_call, x_tup, xs_nil, xs_ok, xs_may, byX_tup, byX_exc, byV_tup, byV_str, byV_int, byV_bl, byV_non, byV_ref, byV_exc, rdL_new]
    have e : (lb p).take p.length = lb p := List.take_of_length_le (by simp [lb])
    rw [e]
    exact go _ (.app _ _) fun ws l => l.lst _
end
end Pg
namespace Pg
open MP
def tl1 : CSs → CSs
  | .cons _ r => r
  | .nil => .nil
def hd1 : CSs → CS
  | .cons s _ => s
  | .nil => .pass
section
variable {ds : Nat → Option Def}
theorem Wk.k2 {S S' : Sto} {i g c d : Nat} {f : Nd → Option Eg} {R : List Pth} (h : Wk S i c d f R) (k : Ko g S S') {xs : List W} (hg : rdL S g = some xs) (hj : ∀ j a (p : Pth), S[i]? = some (wkO c d (.ref j) false a) → rdL S j = some (p.map stW) → j ≠ g) : Wk S' i c d f R := by
  have ni : ∀ {o : SO}, S[i]? = some o → (∀ ys, o ≠ .lst ys) → i ≠ g := fun e n => ne_lst hg e n
  cases h with
  | fresh e => exact .fresh (k.get e (ni e fun _ z => by cases z))
  | given e n2 hp g2 l => exact .given (k.get e (ni e fun _ z => by cases z)) n2 (k.rd hp (hj _ _ _ e hp)) g2 l
  | over e => exact .over (k.get e (ni e fun _ z => by cases z))
theorem mo3_w (C : WkC ds) (hl : Ask7 ds) (k : Nat) {S : Sto} {i c T G F d j : Nat} {kd : Int} {F0 : List Int} {f : Nd → Option Eg} {q : Pth} {R : List Pth} {t : W} {a : Int} {lg : List Nd} (hd : d ≤ 1000) (ho : S[i]? = some (wkO c d t false a)) (hw : Wk S i c d f R) (hw2 : ∀ j a (p : Pth), S[i]? = some (wkO c d (.ref j) false a) → rdL S j = some (p.map stW) → j ≠ G) (hR : R = wit f d q) (hq : rdL S j = some (q.map stW)) (g : GT f d q) (lk : Lk (zv G T F kd) S) (hc : S[c]? = some (.clo 9001 (zv G T F kd))) (tr : TrAt S T f) (hG : rdL S G = some (lg.map nW)) (hF : rdL S F = some (F0.map .int)) (nF : F ≠ G) (hg : lg.length ≤ 100000) (nj : j ≠ G) (ok : Gd f d none) {N : Env → Sto → Prop} (o2 o3 o4 : Option W) :
    IsS (exs (callF ds (k + 3)) (tl1 (tl1 b_Walk_more)) [some (.oref i), some (.ref j), o2, o3, o4] S) N fun w S' => Mo c d G kd F0 f i lg R w S' ∧ K2 i G S S' ∧ Lk (zv G T F kd) S' := by
  have ni : i ≠ G := ne_lst hG ho fun _ z => by cases z
  simp only [b_Walk_more, tl1, w_var, w_c, w_bin, w_cmp, w_chain, w_and, w_or, w_ite, w_not, w_nil, w_cons, w_tup, w_lst, w_ix, w_no, w_yes, w_sl, w_call, w_bi, w_val, w_rng1, w_rng2, s_nil, s_cons, s_ret, s_expr, s_set, s_if, s_pass, s_setix, s_app, s_ext, o_addI, o_addS, o_addT, o_addL, o_sub, o_mulI, o_mulS, o_mulL, o_fdiv, o_mod, o_pow, c_ltI, c_ltS, c_le, c_gt, c_ge, c_eq, c_ne, e_ii, e_ss, e_bb, c_inS, c_notS, i_str, i_tup, i_ref, l_str, l_tup, l_rol, l_ref, b_lenS, b_lenT, b_lenR, b_abs, b_tupR, b_tupT, b_listR, b_listT, b_all, b_any, b_intI, b_intB, b_isiN, b_isiB, b_isiI, b_isiS, b_isiT, b_isiR, b_isiL, b_isN, b_notN, b_neg, b_rev, b_join, t_str, is_some, isB_some, byB_true, byB_false, start, wipe, bindT, List.map_cons, List.map_nil, List.cons_append, List.nil_append, List.append_nil, List.getElem?_cons_zero, List.getElem?_cons_succ, List.length_cons, List.length_nil, List.set_cons_zero, List.set_cons_succ, atI_0, atI_1, atI_2, atI_3, List.replicate, Nat.zero_add, Nat.reduceAdd, Nat.reduceSub, seqW_ref, seqW_tup, c_leS, b_iaddI, b_iaddS, b_isub, w_enum, w_rngd, w_lam, x_ite, w_zip, w_callv, s_setX, s_retX, s_exprX, s_raise, x_call, x_tup, xs_nil, xs_ok, xs_may, byX_tup, byX_exc, byV_tup, byV_str, byV_int, byV_bl, byV_non, byV_ref, byV_exc, w_fld, isNon]
  rw [b_fld ho (by decide) rfl, b_fld ho (by decide) rfl]
  refine (len_w C.h1090 C.h1089 hl k hq g hd lk hc tr hG hF nF hg (g.nb ok)).imp fun w S1 hw1 => ?_
  obtain ⟨L, kp, lk1⟩ := hw1
  have ho1 := kp.get ho ni
  have il1 : i < S1.length := (List.getElem?_eq_some_iff.mp ho1).1
  cases L with
  | @rs _ ask h1 h2 h3 h4 =>
    have M : Mo c d G kd F0 f i lg R (erW kd (lg ++ ask).length) S1 := .rs (hw.k2 kp hG hw2) h1 h2 h3 h4
    refine byV_er fun c0 fs e => ?_
    rw [e] at M
    exact ⟨M, .ko kp, lk1⟩
  | @yes _ j1 q1 ask hq1 hj1 g1 l1 e1 al e4 =>
    try simp only [w_var, w_c, w_bin, w_cmp, w_chain, w_and, w_or, w_ite, w_not, w_nil, w_cons, w_tup, w_lst, w_ix, w_no, w_yes, w_sl, w_call, w_bi, w_val, w_rng1, w_rng2, s_nil, s_cons, s_ret, s_expr, s_set, s_if, s_pass, s_setix, s_app, s_ext, o_addI, o_addS, o_addT, o_addL, o_sub, o_mulI, o_mulS, o_mulL, o_fdiv, o_mod, o_pow, c_ltI, c_ltS, c_le, c_gt, c_ge, c_eq, c_ne, e_ii, e_ss, e_bb, c_inS, c_notS, i_str, i_tup, i_ref, l_str, l_tup, l_rol, l_ref, b_lenS, b_lenT, b_lenR, b_abs, b_tupR, b_tupT, b_listR, b_listT, b_all, b_any, b_intI, b_intB, b_isiN, b_isiB, b_isiI, b_isiS, b_isiT, b_isiR, b_isiL, b_isN, b_notN, b_neg, b_rev, b_join, t_str, is_some, isB_some, byB_true, byB_false, start, wipe, bindT, List.map_cons, List.map_nil, List.cons_append, List.nil_append, List.append_nil, List.getElem?_cons_zero, List.getElem?_cons_succ, List.length_cons, List.length_nil, List.set_cons_zero, List.set_cons_succ, atI_0, atI_1, atI_2, atI_3, List.replicate, Nat.zero_add, Nat.reduceAdd, Nat.reduceSub, seqW_ref, seqW_tup, c_leS, b_iaddI, b_iaddS, b_isub, w_enum, w_rngd, w_lam, x_ite, w_zip, w_callv, s_setX, s_retX, s_exprX, s_raise, x_call, x_tup, xs_nil, xs_ok, xs_may, byX_tup, byX_exc, byV_tup, byV_str, byV_int, byV_bl, byV_non, byV_ref, byV_exc, s_fset, w_fld, isNon]
    rw [b_fld ho1 (by decide) rfl, b_fld ho1 (by decide) rfl]
    try simp only [w_var, w_c, w_bin, w_cmp, w_chain, w_and, w_or, w_ite, w_not, w_nil, w_cons, w_tup, w_lst, w_ix, w_no, w_yes, w_sl, w_call, w_bi, w_val, w_rng1, w_rng2, s_nil, s_cons, s_ret, s_expr, s_set, s_if, s_pass, s_setix, s_app, s_ext, o_addI, o_addS, o_addT, o_addL, o_sub, o_mulI, o_mulS, o_mulL, o_fdiv, o_mod, o_pow, c_ltI, c_ltS, c_le, c_gt, c_ge, c_eq, c_ne, e_ii, e_ss, e_bb, c_inS, c_notS, i_str, i_tup, i_ref, l_str, l_tup, l_rol, l_ref, b_lenS, b_lenT, b_lenR, b_abs, b_tupR, b_tupT, b_listR, b_listT, b_all, b_any, b_intI, b_intB, b_isiN, b_isiB, b_isiI, b_isiS, b_isiT, b_isiR, b_isiL, b_isN, b_notN, b_neg, b_rev, b_join, t_str, is_some, isB_some, byB_true, byB_false, start, wipe, bindT, List.map_cons, List.map_nil, List.cons_append, List.nil_append, List.append_nil, List.getElem?_cons_zero, List.getElem?_cons_succ, List.length_cons, List.length_nil, List.set_cons_zero, List.set_cons_succ, atI_0, atI_1, atI_2, atI_3, List.replicate, Nat.zero_add, Nat.reduceAdd, Nat.reduceSub, seqW_ref, seqW_tup, c_leS, b_iaddI, b_iaddS, b_isub, w_enum, w_rngd, w_lam, x_ite, w_zip, w_callv, s_setX, s_retX, s_exprX, s_raise, x_call, x_tup, xs_nil, xs_ok, xs_may, byX_tup, byX_exc, byV_tup, byV_str, byV_int, byV_bl, byV_non, byV_ref, byV_exc]
    rw [kp.rd hq nj]
    simp only
    rw [b_fset ho1 (by decide) (by simp)]
    have ho2 : (S1.set i (.obj tW (putO fA (.int (a - -((d : Int) - ((q.map stW).length : Int)))) [(fE, .lref c), (fD, .int (d : Nat)), (fT, t), (fO, .bl false), (fA, .int a)])))[i]? = some (wkO c d t false (a - -((d : Int) - ((q.map stW).length : Int)))) := by
      rw [List.getElem?_set_self il1]
      rfl
    rw [b_fset ho2 (by decide) (by simp), List.set_set]
    generalize a - -((d : Int) - ((q.map stW).length : Int)) = a2 at *
    have ne : i ≠ j1 := by
      intro e
      subst e
      rw [rdL_iff, ho1] at hq1
      cases hq1
    have hq2 : rdL (S1.set i (wkO c d (.ref j1) false a2)) j1 = some (q1.map stW) := by
      rw [rdL_set_ne ne]
      exact hq1
    have hG2 : rdL (S1.set i (wkO c d (.ref j1) false a2)) G = some ((lg ++ ask).map nW) := by
      rw [rdL_set_ne ni]
      exact e4
    refine mo_tail ⟨_, _, _, _, rfl⟩ hq2 (by omega) (fun k h => (g1.2 k h).1) fun S' k2 l2 => ?_
    rw [hR, e1, wit_full l1]
    refine ⟨.yes (.given (a := a2) (k2.get ?_) ne (rdL_of (k2.get (rdL_iff.mp hq2))) g1 l1) al (rdL_of (k2.get (rdL_iff.mp hG2))), ((K2.ko kp).trans (.ko1 (.set _ _))).trans (.of k2), l2 _ (lk1.setO _ _ _)⟩
    rw [List.getElem?_set_self il1]
    rfl
/-- the trail's list is not the log -/
def TrlNe (S : Sto) (i c d G : Nat) : Prop := ∀ j a (p : Pth), S[i]? = some (wkO c d (.ref j) false a) → rdL S j = some (p.map stW) → j ≠ G
theorem Wk.kp {S S' : Sto} {i c d : Nat} {f : Nd → Option Eg} {R : List Pth} (h : Wk S i c d f R) (k : Kp S S') : Wk S' i c d f R := by
  cases h with
  | fresh e => exact .fresh (k.get e)
  | given e n2 hp g l => exact .given (k.get e) n2 (rdL_of (k.get (rdL_iff.mp hp))) g l
  | over e => exact .over (k.get e)
/-- the next way is told -/
theorem more_w (C : WkC ds) (hl : Ask7 ds) (k : Nat) {S : Sto} {i c T G F d : Nat} {kd : Int} {F0 : List Int} {f : Nd → Option Eg} {R : List Pth} {lg : List Nd} (hd : d ≤ 1000) (wk : Wk S i c d f R) (tn : TrlNe S i c d G) (lk : Lk (zv G T F kd) S) (hc : S[c]? = some (.clo 9001 (zv G T F kd))) (tr : TrAt S T f) (hG : rdL S G = some (lg.map nW)) (hF : rdL S F = some (F0.map .int)) (nF : F ≠ G) (hg : lg.length ≤ 100000) (ok : Gd f d none) :
    Is (callF ds (k + 4) 1087 [.oref i] S) fun w S' => Mo c d G kd F0 f i lg R w S' ∧ K2 i G S S' ∧ Lk (zv G T F kd) S' := by
  refine w_callF (k := k + 3) C.h1087 rfl ?_
  have gl : G < S.length := (List.getElem?_eq_some_iff.mp (rdL_iff.mp hG)).1
  have eb : b_Walk_more = .cons (hd1 b_Walk_more) (.cons (hd1 (tl1 b_Walk_more)) (tl1 (tl1 b_Walk_more))) := rfl
  rw [eb]
  generalize hT : tl1 (tl1 b_Walk_more) = tl
  cases wk with
  | @over a t ho =>
    simp only [b_Walk_more, hd1, tl1, w_var, w_c, w_bin, w_cmp, w_chain, w_and, w_or, w_ite, w_not, w_nil, w_cons, w_tup, w_lst, w_ix, w_no, w_yes, w_sl, w_call, w_bi, w_val, w_rng1, w_rng2, s_nil, s_cons, s_ret, s_expr, s_set, s_if, s_pass, s_setix, s_app, s_ext, o_addI, o_addS, o_addT, o_addL, o_sub, o_mulI, o_mulS, o_mulL, o_fdiv, o_mod, o_pow, c_ltI, c_ltS, c_le, c_gt, c_ge, c_eq, c_ne, e_ii, e_ss, e_bb, c_inS, c_notS, i_str, i_tup, i_ref, l_str, l_tup, l_rol, l_ref, b_lenS, b_lenT, b_lenR, b_abs, b_tupR, b_tupT, b_listR, b_listT, b_all, b_any, b_intI, b_intB, b_isiN, b_isiB, b_isiI, b_isiS, b_isiT, b_isiR, b_isiL, b_isN, b_notN, b_neg, b_rev, b_join, t_str, is_some, isB_some, byB_true, byB_false, start, wipe, bindT, List.map_cons, List.map_nil, List.cons_append, List.nil_append, List.append_nil, List.getElem?_cons_zero, List.getElem?_cons_succ, List.length_cons, List.length_nil, List.set_cons_zero, List.set_cons_succ, atI_0, atI_1, atI_2, atI_3, List.replicate, Nat.zero_add, Nat.reduceAdd, Nat.reduceSub, seqW_ref, seqW_tup, c_leS, b_iaddI, b_iaddS, b_isub, w_enum, w_rngd, w_lam, x_ite, w_zip, w_callv, s_setX, s_retX, s_exprX, s_raise, x_call, x_tup, xs_nil, xs_ok, xs_may, byX_tup, byX_exc, byV_tup, byV_str, byV_int, byV_bl, byV_non, byV_ref, byV_exc, w_fld]
    rw [b_fld ho (by decide) rfl]
    try simp only [w_var, w_c, w_bin, w_cmp, w_chain, w_and, w_or, w_ite, w_not, w_nil, w_cons, w_tup, w_lst, w_ix, w_no, w_yes, w_sl, w_call, w_bi, w_val, w_rng1, w_rng2, s_nil, s_cons, s_ret, s_expr, s_set, s_if, s_pass, s_setix, s_app, s_ext, o_addI, o_addS, o_addT, o_addL, o_sub, o_mulI, o_mulS, o_mulL, o_fdiv, o_mod, o_pow, c_ltI, c_ltS, c_le, c_gt, c_ge, c_eq, c_ne, e_ii, e_ss, e_bb, c_inS, c_notS, i_str, i_tup, i_ref, l_str, l_tup, l_rol, l_ref, b_lenS, b_lenT, b_lenR, b_abs, b_tupR, b_tupT, b_listR, b_listT, b_all, b_any, b_intI, b_intB, b_isiN, b_isiB, b_isiI, b_isiS, b_isiT, b_isiR, b_isiL, b_isN, b_notN, b_neg, b_rev, b_join, t_str, is_some, isB_some, byB_true, byB_false, start, wipe, bindT, List.map_cons, List.map_nil, List.cons_append, List.nil_append, List.append_nil, List.getElem?_cons_zero, List.getElem?_cons_succ, List.length_cons, List.length_nil, List.set_cons_zero, List.set_cons_succ, atI_0, atI_1, atI_2, atI_3, List.replicate, Nat.zero_add, Nat.reduceAdd, Nat.reduceSub, seqW_ref, seqW_tup, c_leS, b_iaddI, b_iaddS, b_isub, w_enum, w_rngd, w_lam, x_ite, w_zip, w_callv, s_setX, s_retX, s_exprX, s_raise, x_call, x_tup, xs_nil, xs_ok, xs_may, byX_tup, byX_exc, byV_tup, byV_str, byV_int, byV_bl, byV_non, byV_ref, byV_exc]
    exact ⟨.no (.over ho) hG, .of (.refl _), lk⟩
  | @fresh a ho =>
    simp only [b_Walk_more, hd1, tl1, w_var, w_c, w_bin, w_cmp, w_chain, w_and, w_or, w_ite, w_not, w_nil, w_cons, w_tup, w_lst, w_ix, w_no, w_yes, w_sl, w_call, w_bi, w_val, w_rng1, w_rng2, s_nil, s_cons, s_ret, s_expr, s_set, s_if, s_pass, s_setix, s_app, s_ext, o_addI, o_addS, o_addT, o_addL, o_sub, o_mulI, o_mulS, o_mulL, o_fdiv, o_mod, o_pow, c_ltI, c_ltS, c_le, c_gt, c_ge, c_eq, c_ne, e_ii, e_ss, e_bb, c_inS, c_notS, i_str, i_tup, i_ref, l_str, l_tup, l_rol, l_ref, b_lenS, b_lenT, b_lenR, b_abs, b_tupR, b_tupT, b_listR, b_listT, b_all, b_any, b_intI, b_intB, b_isiN, b_isiB, b_isiI, b_isiS, b_isiT, b_isiR, b_isiL, b_isN, b_notN, b_neg, b_rev, b_join, t_str, is_some, isB_some, byB_true, byB_false, start, wipe, bindT, List.map_cons, List.map_nil, List.cons_append, List.nil_append, List.append_nil, List.getElem?_cons_zero, List.getElem?_cons_succ, List.length_cons, List.length_nil, List.set_cons_zero, List.set_cons_succ, atI_0, atI_1, atI_2, atI_3, List.replicate, Nat.zero_add, Nat.reduceAdd, Nat.reduceSub, seqW_ref, seqW_tup, c_leS, b_iaddI, b_iaddS, b_isub, w_enum, w_rngd, w_lam, x_ite, w_zip, w_callv, s_setX, s_retX, s_exprX, s_raise, x_call, x_tup, xs_nil, xs_ok, xs_may, byX_tup, byX_exc, byV_tup, byV_str, byV_int, byV_bl, byV_non, byV_ref, byV_exc, w_fld]
    rw [b_fld ho (by decide) rfl, b_fld ho (by decide) rfl]
    try simp only [w_var, w_c, w_bin, w_cmp, w_chain, w_and, w_or, w_ite, w_not, w_nil, w_cons, w_tup, w_lst, w_ix, w_no, w_yes, w_sl, w_call, w_bi, w_val, w_rng1, w_rng2, s_nil, s_cons, s_ret, s_expr, s_set, s_if, s_pass, s_setix, s_app, s_ext, o_addI, o_addS, o_addT, o_addL, o_sub, o_mulI, o_mulS, o_mulL, o_fdiv, o_mod, o_pow, c_ltI, c_ltS, c_le, c_gt, c_ge, c_eq, c_ne, e_ii, e_ss, e_bb, c_inS, c_notS, i_str, i_tup, i_ref, l_str, l_tup, l_rol, l_ref, b_lenS, b_lenT, b_lenR, b_abs, b_tupR, b_tupT, b_listR, b_listT, b_all, b_any, b_intI, b_intB, b_isiN, b_isiB, b_isiI, b_isiS, b_isiT, b_isiR, b_isiL, b_isN, b_notN, b_neg, b_rev, b_join, t_str, is_some, isB_some, byB_true, byB_false, start, wipe, bindT, List.map_cons, List.map_nil, List.cons_append, List.nil_append, List.append_nil, List.getElem?_cons_zero, List.getElem?_cons_succ, List.length_cons, List.length_nil, List.set_cons_zero, List.set_cons_succ, atI_0, atI_1, atI_2, atI_3, List.replicate, Nat.zero_add, Nat.reduceAdd, Nat.reduceSub, seqW_ref, seqW_tup, c_leS, b_iaddI, b_iaddS, b_isub, w_enum, w_rngd, w_lam, x_ite, w_zip, w_callv, s_setX, s_retX, s_exprX, s_raise, x_call, x_tup, xs_nil, xs_ok, xs_may, byX_tup, byX_exc, byV_tup, byV_str, byV_int, byV_bl, byV_non, byV_ref, byV_exc, isNon]
    subst hT
    have kp : Kp S (S ++ [.lst []]) := .app _ _
    refine ⟨by decide, (mo3_w C hl k (N := fun _ _ => False) (S := S ++ [.lst []]) (q := []) hd (kp.get ho) (.fresh (kp.get ho)) (fun j a p e _ => ?_) ?_ (rdL_new _ _) (.nil f d) (lk.lst _) (kp.get hc) (tr.kp kp) (rdL_of (kp.get (rdL_iff.mp hG))) (rdL_of (kp.get (rdL_iff.mp hF))) nF hg (by omega) ok none none none).imp (fun _ _ h => h.elim) fun w S' hw => ?_⟩
    · rw [kp.get ho] at e
      cases e
    · show _ = expd f (d - 0) [[]] ++ []
      rw [List.append_nil, Nat.sub_zero]
    · exact ⟨hw.1, (K2.of kp).trans hw.2.1, hw.2.2⟩
  | @given a j p ho ne hp g hlen =>
    simp only [b_Walk_more, hd1, tl1, w_var, w_c, w_bin, w_cmp, w_chain, w_and, w_or, w_ite, w_not, w_nil, w_cons, w_tup, w_lst, w_ix, w_no, w_yes, w_sl, w_call, w_bi, w_val, w_rng1, w_rng2, s_nil, s_cons, s_ret, s_expr, s_set, s_if, s_pass, s_setix, s_app, s_ext, o_addI, o_addS, o_addT, o_addL, o_sub, o_mulI, o_mulS, o_mulL, o_fdiv, o_mod, o_pow, c_ltI, c_ltS, c_le, c_gt, c_ge, c_eq, c_ne, e_ii, e_ss, e_bb, c_inS, c_notS, i_str, i_tup, i_ref, l_str, l_tup, l_rol, l_ref, b_lenS, b_lenT, b_lenR, b_abs, b_tupR, b_tupT, b_listR, b_listT, b_all, b_any, b_intI, b_intB, b_isiN, b_isiB, b_isiI, b_isiS, b_isiT, b_isiR, b_isiL, b_isN, b_notN, b_neg, b_rev, b_join, t_str, is_some, isB_some, byB_true, byB_false, start, wipe, bindT, List.map_cons, List.map_nil, List.cons_append, List.nil_append, List.append_nil, List.getElem?_cons_zero, List.getElem?_cons_succ, List.length_cons, List.length_nil, List.set_cons_zero, List.set_cons_succ, atI_0, atI_1, atI_2, atI_3, List.replicate, Nat.zero_add, Nat.reduceAdd, Nat.reduceSub, seqW_ref, seqW_tup, c_leS, b_iaddI, b_iaddS, b_isub, w_enum, w_rngd, w_lam, x_ite, w_zip, w_callv, s_setX, s_retX, s_exprX, s_raise, x_call, x_tup, xs_nil, xs_ok, xs_may, byX_tup, byX_exc, byV_tup, byV_str, byV_int, byV_bl, byV_non, byV_ref, byV_exc, w_fld]
    rw [b_fld ho (by decide) rfl, b_fld ho (by decide) rfl]
    try simp only [w_var, w_c, w_bin, w_cmp, w_chain, w_and, w_or, w_ite, w_not, w_nil, w_cons, w_tup, w_lst, w_ix, w_no, w_yes, w_sl, w_call, w_bi, w_val, w_rng1, w_rng2, s_nil, s_cons, s_ret, s_expr, s_set, s_if, s_pass, s_setix, s_app, s_ext, o_addI, o_addS, o_addT, o_addL, o_sub, o_mulI, o_mulS, o_mulL, o_fdiv, o_mod, o_pow, c_ltI, c_ltS, c_le, c_gt, c_ge, c_eq, c_ne, e_ii, e_ss, e_bb, c_inS, c_notS, i_str, i_tup, i_ref, l_str, l_tup, l_rol, l_ref, b_lenS, b_lenT, b_lenR, b_abs, b_tupR, b_tupT, b_listR, b_listT, b_all, b_any, b_intI, b_intB, b_isiN, b_isiB, b_isiI, b_isiS, b_isiT, b_isiR, b_isiL, b_isN, b_notN, b_neg, b_rev, b_join, t_str, is_some, isB_some, byB_true, byB_false, start, wipe, bindT, List.map_cons, List.map_nil, List.cons_append, List.nil_append, List.append_nil, List.getElem?_cons_zero, List.getElem?_cons_succ, List.length_cons, List.length_nil, List.set_cons_zero, List.set_cons_succ, atI_0, atI_1, atI_2, atI_3, List.replicate, Nat.zero_add, Nat.reduceAdd, Nat.reduceSub, seqW_ref, seqW_tup, c_leS, b_iaddI, b_iaddS, b_isub, w_enum, w_rngd, w_lam, x_ite, w_zip, w_callv, s_setX, s_retX, s_exprX, s_raise, x_call, x_tup, xs_nil, xs_ok, xs_may, byX_tup, byX_exc, byV_tup, byV_str, byV_int, byV_bl, byV_non, byV_ref, byV_exc, isNon]
    rw [b_fld ho (by decide) rfl]
    try simp only [w_var, w_c, w_bin, w_cmp, w_chain, w_and, w_or, w_ite, w_not, w_nil, w_cons, w_tup, w_lst, w_ix, w_no, w_yes, w_sl, w_call, w_bi, w_val, w_rng1, w_rng2, s_nil, s_cons, s_ret, s_expr, s_set, s_if, s_pass, s_setix, s_app, s_ext, o_addI, o_addS, o_addT, o_addL, o_sub, o_mulI, o_mulS, o_mulL, o_fdiv, o_mod, o_pow, c_ltI, c_ltS, c_le, c_gt, c_ge, c_eq, c_ne, e_ii, e_ss, e_bb, c_inS, c_notS, i_str, i_tup, i_ref, l_str, l_tup, l_rol, l_ref, b_lenS, b_lenT, b_lenR, b_abs, b_tupR, b_tupT, b_listR, b_listT, b_all, b_any, b_intI, b_intB, b_isiN, b_isiB, b_isiI, b_isiS, b_isiT, b_isiR, b_isiL, b_isN, b_notN, b_neg, b_rev, b_join, t_str, is_some, isB_some, byB_true, byB_false, start, wipe, bindT, List.map_cons, List.map_nil, List.cons_append, List.nil_append, List.append_nil, List.getElem?_cons_zero, List.getElem?_cons_succ, List.length_cons, List.length_nil, List.set_cons_zero, List.set_cons_succ, atI_0, atI_1, atI_2, atI_3, List.replicate, Nat.zero_add, Nat.reduceAdd, Nat.reduceSub, seqW_ref, seqW_tup, c_leS, b_iaddI, b_iaddS, b_isub, w_enum, w_rngd, w_lam, x_ite, w_zip, w_callv, s_setX, s_retX, s_exprX, s_raise, x_call, x_tup, xs_nil, xs_ok, xs_may, byX_tup, byX_exc, byV_tup, byV_str, byV_int, byV_bl, byV_non, byV_ref, byV_exc]
    refine (off_w C.h1088 (k + 2) hp g hd lk).imp fun w S1 hw => ?_
    obtain ⟨tf, kp, lk1⟩ := hw
    have ho1 := kp.get ho
    cases tf with
    | no e =>
      have il1 : i < S1.length := (List.getElem?_eq_some_iff.mp ho1).1
      have ni : i ≠ G := ne_lst hG ho fun _ z => by cases z
      subst hT
      simp only [b_Walk_more, tl1, w_var, w_c, w_bin, w_cmp, w_chain, w_and, w_or, w_ite, w_not, w_nil, w_cons, w_tup, w_lst, w_ix, w_no, w_yes, w_sl, w_call, w_bi, w_val, w_rng1, w_rng2, s_nil, s_cons, s_ret, s_expr, s_set, s_if, s_pass, s_setix, s_app, s_ext, o_addI, o_addS, o_addT, o_addL, o_sub, o_mulI, o_mulS, o_mulL, o_fdiv, o_mod, o_pow, c_ltI, c_ltS, c_le, c_gt, c_ge, c_eq, c_ne, e_ii, e_ss, e_bb, c_inS, c_notS, i_str, i_tup, i_ref, l_str, l_tup, l_rol, l_ref, b_lenS, b_lenT, b_lenR, b_abs, b_tupR, b_tupT, b_listR, b_listT, b_all, b_any, b_intI, b_intB, b_isiN, b_isiB, b_isiI, b_isiS, b_isiT, b_isiR, b_isiL, b_isN, b_notN, b_neg, b_rev, b_join, t_str, is_some, isB_some, byB_true, byB_false, start, wipe, bindT, List.map_cons, List.map_nil, List.cons_append, List.nil_append, List.append_nil, List.getElem?_cons_zero, List.getElem?_cons_succ, List.length_cons, List.length_nil, List.set_cons_zero, List.set_cons_succ, atI_0, atI_1, atI_2, atI_3, List.replicate, Nat.zero_add, Nat.reduceAdd, Nat.reduceSub, seqW_ref, seqW_tup, c_leS, b_iaddI, b_iaddS, b_isub, w_enum, w_rngd, w_lam, x_ite, w_zip, w_callv, s_setX, s_retX, s_exprX, s_raise, x_call, x_tup, xs_nil, xs_ok, xs_may, byX_tup, byX_exc, byV_tup, byV_str, byV_int, byV_bl, byV_non, byV_ref, byV_exc, s_fset, isNon]
      rw [b_fset ho1 (by decide) (by simp), e]
      refine ⟨.no (.over (t := .ref j) (a := a) ?_) ?_, (K2.of kp).trans (.ko1 (.set _ _)), lk1.setO _ _ _⟩
      · rw [List.getElem?_set_self il1]
        rfl
      · rw [rdL_set_ne ni]
        exact rdL_of (kp.get (rdL_iff.mp hG))
    | @yes _ j2 q h1 h2 h3 h4 =>
      subst hT
      have hw1 : Wk S1 i c d f (aft f d p.reverse) := .given ho1 ne (rdL_of (kp.get (rdL_iff.mp hp))) g hlen
      refine (mo3_w C hl k (N := fun _ _ => False) (S := S1) (q := q) hd ho1 hw1 (fun j3 a3 p3 e hp3 => ?_) h4 h1 h3 lk1 (kp.get hc) (tr.kp kp) (rdL_of (kp.get (rdL_iff.mp hG))) (rdL_of (kp.get (rdL_iff.mp hF))) nF hg (by omega) ok none none none).imp (fun _ _ h => h.elim) fun w S' hw => ?_
      · rw [ho1] at e
        cases e
        exact tn j a p ho hp
      · exact ⟨hw.1, (K2.of kp).trans hw.2.1, hw.2.2⟩
end
end Pg
namespace Pg
open MP
/-! the law's tree -/
def tkv (t : List (Nd × Eg)) : List (HK × W) := t.map fun p => (nK p.1, egW p.2)
theorem nK_inj {a b : Nd} (h : nK a = nK b) : a = b := by
  cases a with
  | none => cases b with
    | none => rfl
    | some _ => cases h
  | some x => cases b with
    | none => cases h
    | some y =>
      have : ((x : Nat) : Int) = (y : Nat) := by
        injection h
      simp only [Option.some.injEq]
      omega
theorem tkv_look (t : List (Nd × Eg)) (n : Nd) : (tkv t).lookup (nK n) = (t.lookup n).map egW := by
  induction t with
  | nil => rfl
  | cons p t ih =>
    obtain ⟨m, es⟩ := p
    show ((nK m, egW es) :: tkv t).lookup (nK n) = _
    rw [List.lookup_cons, List.lookup_cons]
    by_cases e : n = m
    · subst e
      simp
    · have e1 : (nK n == nK m) = false := beq_eq_false_iff_ne.mpr fun q => e (nK_inj q)
      have e2 : (n == m) = false := beq_eq_false_iff_ne.mpr e
      rw [e1, e2]
      exact ih
theorem tkv_put {t : List (Nd × Eg)} {n : Nd} {es : Eg} (h : n ∉ t.map (·.1)) : putG (tkv t) (nK n) (egW es) = tkv (t ++ [(n, es)]) := by
  unfold putG
  have e : ((tkv t).any fun p => decide (p.1 = nK n)) = false := by
    rw [List.any_eq_false]
    intro p hp
    obtain ⟨q, hq, rfl⟩ := List.mem_map.mp hp
    simp only [decide_eq_true_eq]
    intro z
    exact h (List.mem_map.mpr ⟨q, hq, nK_inj z⟩)
  rw [e]
  simp [tkv]
def kidN (es : Eg) : List Nd := es.map fun e => some e.2
def lev (f : Nd → Option Eg) : Nat → List Nd
  | 0 => [none]
  | i + 1 => (lev f i).flatMap fun n => kidN (kids f n)
def Ex (f : Nd → Option Eg) (t : List (Nd × Eg)) : Prop := ∀ n es, (n, es) ∈ t → f n = some es
/-- the tree as far as it is built -/
structure Lvl (t : List (Nd × Eg)) (cnt i : Nat) (nodes : List Nd) : Prop where
  nd : (t.map (·.1) ++ nodes).Nodup
  lt : ∀ n, n ∈ t.map (·.1) ++ nodes → ∀ m, n = some m → m < cnt
  le : nodes.length ≤ 20
  tl : t.length ≤ 20 * i
  at_ : ∀ f, Ex f t → lev f i = nodes
  up : ∀ f, Ex f t → ∀ j, j < i → ∀ n ∈ lev f j, ∃ es, f n = some es ∧ es ≠ []
  wd : ∀ f, Ex f t → ∀ j, j ≤ i → (lev f j).length ≤ 20
theorem Lvl.zero : Lvl [] 0 0 [none] := ⟨by simp, by simp, by simp, by simp, fun f _ => rfl, fun f _ j h => by omega, fun f _ j h => by
  have : j = 0 := by omega
  subst this
  simp [lev]⟩
/-- a level while it is built -/
structure Mid (t : List (Nd × Eg)) (nodes : List Nd) (j c0 most : Nat) (t2 : List (Nd × Eg)) (len : Nat) : Prop where
  ess : ∃ ess : List Eg, ess.length = j ∧ t2 = t ++ (nodes.take j).zip ess ∧ (∀ es ∈ ess, es ≠ []) ∧ ess.flatMap kidN = (List.range' c0 len).map some
  le : len ≤ j + (most + 2 - nodes.length)
theorem Mid.zero (t : List (Nd × Eg)) (nodes : List Nd) (c0 most : Nat) : Mid t nodes 0 c0 most t 0 := ⟨⟨[], rfl, by simp, by simp, by simp⟩, by omega⟩
theorem Mid.step {t t2 : List (Nd × Eg)} {nodes : List Nd} {j c0 most len : Nat} (h : Mid t nodes j c0 most t2 len) (hj : j < nodes.length) {es : Eg} {m : Nat} (hes : es.map (·.2) = List.range' (c0 + len) m) (hm : 0 < m) (hb : m = 1 ∨ (nodes.length + len < most ∧ m ≤ 3)) : Mid t nodes (j + 1) c0 most (t2 ++ [(nodes[j], es)]) (len + m) := by
  obtain ⟨ess, l, e, ne, fl⟩ := h.ess
  refine ⟨⟨ess ++ [es], by simp [l], ?_, fun x hx => ?_, ?_⟩, ?_⟩
  · rw [e, ← List.take_append_getElem hj, List.zip_append (by rw [List.length_take, l]; omega), List.append_assoc]
    rfl
  · rcases List.mem_append.mp hx with q | q
    · exact ne x q
    · rw [List.mem_singleton.mp q]
      intro z
      rw [z] at hes
      have := congrArg List.length hes
      simp at this
      omega
  · rw [List.flatMap_append, fl, List.flatMap_cons, List.flatMap_nil, List.append_nil, ← List.range'_append_1, List.map_append, ← hes]
    unfold kidN
    rw [List.map_map]
    rfl
  · have := h.le
    omega
theorem lvl_next {t t2 : List (Nd × Eg)} {nodes : List Nd} {cnt i most len : Nat} (L : Lvl t cnt i nodes) (M : Mid t nodes nodes.length cnt most t2 len) (hm : most ≤ 18) : Lvl t2 (cnt + len) (i + 1) ((List.range' cnt len).map some) := by
  obtain ⟨ess, l, e, ne, fl⟩ := M.ess
  rw [List.take_length] at e
  have ek : t2.map (·.1) = t.map (·.1) ++ nodes := by
    rw [e, List.map_append]
    congr 1
    exact List.map_fst_zip (by omega)
  have ex : ∀ f, Ex f t2 → Ex f t := fun f h n es hn => h n es (by rw [e]; exact List.mem_append_left _ hn)
  have hat : ∀ f, Ex f t2 → ∀ n ∈ nodes, ∃ es, f n = some es ∧ es ≠ [] := fun f h n hn => by
    obtain ⟨q, hq, rfl⟩ := List.mem_iff_getElem.mp hn
    refine ⟨ess[q]'(by omega), h _ _ ?_, ne _ (List.getElem_mem _)⟩
    rw [e]
    refine List.mem_append_right _ ?_
    rw [List.mem_iff_getElem]
    refine ⟨q, by rw [List.length_zip]; omega, ?_⟩
    rw [List.getElem_zip]
  have hn : ∀ f, Ex f t2 → lev f (i + 1) = (List.range' cnt len).map some := fun f h => by
    show (lev f i).flatMap (fun n => kidN (kids f n)) = _
    rw [L.at_ f (ex f h), ← fl]
    have : nodes.map (fun n => kids f n) = ess := by
      refine List.ext_getElem (by rw [List.length_map, l]) fun q h1 h2 => ?_
      rw [List.getElem_map]
      unfold kids
      rw [h nodes[q] ess[q] ?_]
      · rfl
      · rw [e]
        refine List.mem_append_right _ ?_
        rw [List.mem_iff_getElem]
        refine ⟨q, by rw [List.length_zip]; rw [List.length_map] at h1; omega, ?_⟩
        rw [List.getElem_zip]
    rw [← this, List.flatMap_map]
  have hlen : len ≤ 20 := by
    have := M.le
    have := L.le
    omega
  refine ⟨?_, fun n hn m e => ?_, by simpa using hlen, ?_, hn, fun f h j hj n hz => ?_, fun f h j hj => ?_⟩
  · rw [ek, List.nodup_append]
    refine ⟨L.nd, ?_, fun a ha b hb => ?_⟩
    · exact List.Pairwise.map _ (fun a b h e => h (Option.some.inj e)) List.nodup_range'
    · intro z
      subst z
      obtain ⟨q, hq, rfl⟩ := List.mem_map.mp hb
      have := L.lt _ ha q rfl
      have := (List.mem_range'_1.mp hq).1
      omega
  · rw [ek] at hn
    rcases List.mem_append.mp hn with q | q
    · have := L.lt n q m e
      omega
    · obtain ⟨z, hz, rfl⟩ := List.mem_map.mp q
      cases e
      exact (List.mem_range'_1.mp hz).2
  · have e2 := congrArg List.length ek
    rw [List.length_append, List.length_map, List.length_map] at e2
    have := L.le
    have := L.tl
    omega
  · rcases Nat.lt_or_ge j i with q | q
    · exact L.up f (ex f h) j q n hz
    · have : j = i := by omega
      subst this
      rw [L.at_ f (ex f h)] at hz
      exact hat f h n hz
  · rcases Nat.lt_or_ge j (i + 1) with q | q
    · exact L.wd f (ex f h) j (by omega)
    · have : j = i + 1 := by omega
      subst this
      rw [hn f h]
      simpa using hlen
/-- what a finished tree has -/
structure TreeOk (f : Nd → Option Eg) (d : Nat) : Prop where
  up : ∀ j, j < d → ∀ n ∈ lev f j, ∃ es, f n = some es ∧ es ≠ []
  wd : ∀ j, j ≤ d → (lev f j).length ≤ 20
theorem look_ex {t : List (Nd × Eg)} (nd : (t.map (·.1)).Nodup) : Ex (fun n => t.lookup n) t := by
  intro n es h
  induction t with
  | nil => cases h
  | cons p t ih =>
    obtain ⟨m, es2⟩ := p
    rw [List.map_cons, List.nodup_cons] at nd
    show List.lookup n ((m, es2) :: t) = _
    rw [List.lookup_cons]
    rcases List.mem_cons.mp h with q | q
    · cases q
      simp
    · have ne : n ≠ m := fun e => nd.1 (by rw [← e]; exact List.mem_map.mpr ⟨_, q, rfl⟩)
      have e2 : (n == m) = false := beq_eq_false_iff_ne.mpr ne
      rw [e2]
      exact ih nd.2 q
theorem Lvl.ok {t : List (Nd × Eg)} {cnt d : Nat} {nodes : List Nd} (L : Lvl t cnt d nodes) : TreeOk (fun n => t.lookup n) d := by
  have x := look_ex (List.nodup_append.mp L.nd).1
  exact ⟨L.up _ x, L.wd _ x⟩
theorem TreeOk.gd {f : Nd → Option Eg} {d : Nat} (h : TreeOk f d) : ∀ m i, i + m ≤ d → ∀ n ∈ lev f i, Gd f m n
  | 0, _, _, _, _ => trivial
  | m + 1, i, hi, n, hn => by
    obtain ⟨es, e, ne⟩ := h.up i (by omega) n hn
    refine ⟨es, e, ne, fun x hx => h.gd m (i + 1) (by omega) _ ?_⟩
    show some x.2 ∈ (lev f i).flatMap (fun n => kidN (kids f n))
    refine List.mem_flatMap.mpr ⟨n, hn, ?_⟩
    unfold kids
    rw [e]
    exact List.mem_map.mpr ⟨x, hx, rfl⟩
theorem TreeOk.gd0 {f : Nd → Option Eg} {d : Nat} (h : TreeOk f d) : Gd f d none := h.gd d 0 (by omega) none (by simp [lev])
end Pg
namespace Pg
open MP
theorem Dk.set {d c n j : Nat} {S : Sto} (h : Dk d c n S) (h1 : j ≠ d) (h2 : j ≠ c) (o : SO) : Dk d c n (S.set j o) := by
  obtain ⟨cnt, a, b, e⟩ := h.hd
  obtain ⟨cs, x, y, z⟩ := h.hc
  exact ⟨h.ne, ⟨cnt, a, b, by rw [List.getElem?_set_ne h1]; exact e⟩, ⟨cs, x, y, by rw [List.getElem?_set_ne h2]; exact z⟩⟩
theorem Kx.setN {d c j : Nat} {S S' : Sto} (h : Kx d c S S') (hj : S.length ≤ j) (o : SO) : Kx d c S (S'.set j o) := ⟨by rw [List.length_set]; exact h.1, fun k hk h1 h2 => by
  rw [List.getElem?_set_ne (by omega)]
  exact h.2 k hk h1 h2⟩
theorem Kx.snoc {d c : Nat} {S S' : Sto} (h : Kx d c S S') (o : SO) : Kx d c S (S' ++ [o]) := h.trans (.of ((Kp.refl _).snoc o))
theorem b_gnew {S : Sto} {P : W → Sto → Prop} : Is (opI (.x .gnew) [] S) P = P (.gref S.length) (S ++ [.dd []]) := by
  have e : opI (.x .gnew) [] S = some (.gref S.length, S ++ [.dd []]) := rfl
  rw [e, is_some]
theorem b_gset {S : Sto} {P : W → Sto → Prop} {T : Nat} {t : List (Nd × Eg)} {n : Nd} {es : Eg} (h : S[T]? = some (.dd (tkv t))) (hn : n ∉ t.map (·.1)) (hl : t.length < LIM) : Is (opI (.x .gset) [egW es, .gref T, nW n] S) P = P .non (S.set T (.dd (tkv (t ++ [(n, es)])))) := by
  have r : rdG S T = some (tkv t) := by unfold rdG; rw [h]
  have e : opI (.x .gset) [egW es, .gref T, nW n] S = some (.non, S.set T (.dd (tkv (t ++ [(n, es)])))) := by
    show (match rdG S T, hkOf 8 (nW n) with | some kvs, some h => (if kvs.length < LIM then some (W.non, S.set T (.dd (putG kvs h (egW es)))) else none) | _, _ => none) = _
    rw [r, hkOf_nW]
    simp only
    rw [if_pos (by unfold tkv; rw [List.length_map]; exact hl), tkv_put hn]
  rw [e, is_some]
/-- the store while the tree is built -/
structure TS (d c T N : Nat) (S S' : Sto) (n : Nat) (t : List (Nd × Eg)) (nodes : List Nd) : Prop where
  dk : Dk d c n S'
  kx : Kx d c S S'
  hT : S'[T]? = some (.dd (tkv t))
  hN : rdL S' N = some (nodes.map nW)
  lT : S.length ≤ T
  lN : S.length ≤ N
  dl : d < S.length ∧ c < S.length
section
variable {d c T N : Nat} {S S' S2 : Sto} {n : Nat} {t : List (Nd × Eg)} {nodes : List Nd}
theorem TS.snoc (h : TS d c T N S S' n t nodes) (o : SO) : TS d c T N S (S' ++ [o]) n t nodes := by
  have k : Kp S' (S' ++ [o]) := (Kp.refl _).snoc o
  exact ⟨h.dk.kp k, h.kx.snoc o, k.get h.hT, rdL_of (k.get (rdL_iff.mp h.hN)), h.lT, h.lN, h.dl⟩
theorem TS.set (h : TS d c T N S S' n t nodes) {j : Nat} (hj : S.length ≤ j) (h1 : j ≠ T) (h2 : j ≠ N) (o : SO) : TS d c T N S (S'.set j o) n t nodes := by
  obtain ⟨a, b⟩ := h.dl
  exact ⟨h.dk.set (by omega) (by omega) o, h.kx.setN hj o, by rw [List.getElem?_set_ne h1]; exact h.hT, by rw [rdL_set_ne h2]; exact h.hN, h.lT, h.lN, h.dl⟩
theorem TS.draw (h : TS d c T N S S' n t nodes) {m : Nat} (dk : Dk d c m S2) (kx : Kx d c S' S2) : TS d c T N S S2 m t nodes := by
  obtain ⟨a, b⟩ := h.dl
  have l1 := h.lT
  have l2 := h.lN
  exact ⟨dk, h.kx.trans kx, kx.get h.hT (by omega) (by omega), rd_kx h.hN kx (by omega) (by omega), l1, l2, h.dl⟩
theorem TS.put (h : TS d c T N S S' n t nodes) (t2 : List (Nd × Eg)) : TS d c T N S (S'.set T (.dd (tkv t2))) n t2 nodes := by
  obtain ⟨a, b⟩ := h.dl
  have l1 := h.lT
  have il : T < S'.length := (List.getElem?_eq_some_iff.mp h.hT).1
  have ne : T ≠ N := by
    intro e
    subst e
    have := h.hN
    rw [rdL_iff, h.hT] at this
    cases this
  exact ⟨h.dk.set (by omega) (by omega) _, h.kx.setN l1 _, by rw [List.getElem?_set_self il], by rw [rdL_set_ne ne]; exact h.hN, l1, h.lN, h.dl⟩
theorem TS.neT (h : TS d c T N S S' n t nodes) {j : Nat} {xs : List W} (hj : rdL S' j = some xs) : j ≠ T := by
  intro e
  subst e
  rw [rdL_iff, h.hT] at hj
  cases hj
end
section
variable {ds : Nat → Option Def}
/-- one node's edges -/
theorem edges_w (h4 : ds 4 = some ⟨2, 4, b_law_draw⟩) (k : Nat) {d c T N L E n m c0 len : Nat} {S S0 : Sto} {t : List (Nd × Eg)} {nodes : List Nd} (ts : TS d c T N S S0 n t nodes) (hL : rdL S0 L = some ((List.range' c0 len).map fun q : Nat => W.int q)) (hE : rdL S0 E = some []) (sL : S.length ≤ L) (sE : S.length ≤ E) (nL : N < L) (nE : L < E) (hn : n + m ≤ 1000000000) (hl : len + m ≤ 1000) {a1 a2 a6 a8 : Option W} (a11 : Option W) {Q : W → Sto → Prop} {M : Env → Sto → Prop}
    (go : ∀ (x : Option W) (es : Eg) S2, es.map (·.2) = List.range' (c0 + len) m → TS d c T N S S2 (n + m) t nodes → rdL S2 L = some ((List.range' c0 (len + m)).map fun q : Nat => W.int q) → rdL S2 E = some (es.map eW) → M [some (.ref d), a1, a2, some (.gref T), some (.ref N), some (.int ((c0 + len + m : Nat) : Int)), a6, some (.ref L), a8, some (.int (m : Nat)), some (.ref E), x] S2) :
    IsS (ex (callF ds (k + 1)) (.for_ [11] (.rng1 (.var 9)) (.cons (.app (.var 10) (.tup (.cons (.call 4 (.cons (.var 0) (.cons (.c (.int 3)) .nil))) (.cons (.var 5) .nil)))) (.cons (.app (.var 7) (.var 5)) (.cons (.set [5] (.bin .add (.var 5) (.c (.int 1)))) .nil)))) [some (.ref d), a1, a2, some (.gref T), some (.ref N), some (.int ((c0 + len : Nat) : Int)), a6, some (.ref L), a8, some (.int (m : Nat)), some (.ref E), a11] S0) M Q := by
  refine w_for (n := m) (fun i env' S' => ∃ (x : Option W) (es : Eg), env' = [some (.ref d), a1, a2, some (.gref T), some (.ref N), some (.int ((c0 + len + i : Nat) : Int)), a6, some (.ref L), a8, some (.int (m : Nat)), some (.ref E), x] ∧ i ≤ m ∧ es.map (·.2) = List.range' (c0 + len) i ∧ TS d c T N S S' (n + i) t nodes ∧ rdL S' L = some ((List.range' c0 (len + i)).map fun q : Nat => W.int q) ∧ rdL S' E = some (es.map eW)) ?_
  try simp only [w_var, w_c, w_bin, w_cmp, w_chain, w_and, w_or, w_ite, w_not, w_nil, w_cons, w_tup, w_lst, w_ix, w_no, w_yes, w_sl, w_call, w_bi, w_val, w_rng1, w_rng2, s_nil, s_cons, s_ret, s_expr, s_set, s_if, s_pass, s_setix, s_app, s_ext, o_addI, o_addS, o_addT, o_addL, o_sub, o_mulI, o_mulS, o_mulL, o_fdiv, o_mod, o_pow, c_ltI, c_ltS, c_le, c_gt, c_ge, c_eq, c_ne, e_ii, e_ss, e_bb, c_inS, c_notS, i_str, i_tup, i_ref, l_str, l_tup, l_rol, l_ref, b_lenS, b_lenT, b_lenR, b_abs, b_tupR, b_tupT, b_listR, b_listT, b_all, b_any, b_intI, b_intB, b_isiN, b_isiB, b_isiI, b_isiS, b_isiT, b_isiR, b_isiL, b_isN, b_notN, b_neg, b_rev, b_join, t_str, is_some, isB_some, byB_true, byB_false, start, wipe, bindT, List.map_cons, List.map_nil, List.cons_append, List.nil_append, List.append_nil, List.getElem?_cons_zero, List.getElem?_cons_succ, List.length_cons, List.length_nil, List.set_cons_zero, List.set_cons_succ, atI_0, atI_1, atI_2, atI_3, List.replicate, Nat.zero_add, Nat.reduceAdd, Nat.reduceSub, seqW_ref, seqW_tup, c_leS, b_iaddI, b_iaddS, b_isub, w_enum, w_rngd, w_lam, x_ite, w_zip, w_callv, s_setX, s_retX, s_exprX, s_raise, x_call, x_tup, xs_nil, xs_ok, xs_may, byX_tup, byX_exc, byV_tup, byV_str, byV_int, byV_bl, byV_non, byV_ref, byV_exc]
  refine ⟨by unfold rngOk; simp; omega, by simp [Src.len], ⟨_, [], rfl, by omega, by simp, ts, hL, hE⟩, fun i env' S' hi hI => ?_, fun env' S' hI => ?_⟩
  · obtain ⟨x, es, rfl, hi2, he, tS, hL1, hE1⟩ := hI
    refine ⟨.int (i : Nat), _, by simp [Src.item, hi], rfl, ?_⟩
    try simp only [w_var, w_c, w_bin, w_cmp, w_chain, w_and, w_or, w_ite, w_not, w_nil, w_cons, w_tup, w_lst, w_ix, w_no, w_yes, w_sl, w_call, w_bi, w_val, w_rng1, w_rng2, s_nil, s_cons, s_ret, s_expr, s_set, s_if, s_pass, s_setix, s_app, s_ext, o_addI, o_addS, o_addT, o_addL, o_sub, o_mulI, o_mulS, o_mulL, o_fdiv, o_mod, o_pow, c_ltI, c_ltS, c_le, c_gt, c_ge, c_eq, c_ne, e_ii, e_ss, e_bb, c_inS, c_notS, i_str, i_tup, i_ref, l_str, l_tup, l_rol, l_ref, b_lenS, b_lenT, b_lenR, b_abs, b_tupR, b_tupT, b_listR, b_listT, b_all, b_any, b_intI, b_intB, b_isiN, b_isiB, b_isiI, b_isiS, b_isiT, b_isiR, b_isiL, b_isN, b_notN, b_neg, b_rev, b_join, t_str, is_some, isB_some, byB_true, byB_false, start, wipe, bindT, List.map_cons, List.map_nil, List.cons_append, List.nil_append, List.append_nil, List.getElem?_cons_zero, List.getElem?_cons_succ, List.length_cons, List.length_nil, List.set_cons_zero, List.set_cons_succ, atI_0, atI_1, atI_2, atI_3, List.replicate, Nat.zero_add, Nat.reduceAdd, Nat.reduceSub, seqW_ref, seqW_tup, c_leS, b_iaddI, b_iaddS, b_isub, w_enum, w_rngd, w_lam, x_ite, w_zip, w_callv, s_setX, s_retX, s_exprX, s_raise, x_call, x_tup, xs_nil, xs_ok, xs_may, byX_tup, byX_exc, byV_tup, byV_str, byV_int, byV_bl, byV_non, byV_ref, byV_exc]
    refine draw_w h4 k tS.dk tS.kx (by omega) 3 (by omega) (by omega) fun v S2 v1 v2 dk2 _ kx2 => ?_
    have t2 := tS.draw dk2 kx2
    obtain ⟨da, db⟩ := tS.dl
    have hL2 := rd_kx hL1 kx2 (by omega) (by omega)
    have hE2 := rd_kx hE1 kx2 (by omega) (by omega)
    try simp only [w_var, w_c, w_bin, w_cmp, w_chain, w_and, w_or, w_ite, w_not, w_nil, w_cons, w_tup, w_lst, w_ix, w_no, w_yes, w_sl, w_call, w_bi, w_val, w_rng1, w_rng2, s_nil, s_cons, s_ret, s_expr, s_set, s_if, s_pass, s_setix, s_app, s_ext, o_addI, o_addS, o_addT, o_addL, o_sub, o_mulI, o_mulS, o_mulL, o_fdiv, o_mod, o_pow, c_ltI, c_ltS, c_le, c_gt, c_ge, c_eq, c_ne, e_ii, e_ss, e_bb, c_inS, c_notS, i_str, i_tup, i_ref, l_str, l_tup, l_rol, l_ref, b_lenS, b_lenT, b_lenR, b_abs, b_tupR, b_tupT, b_listR, b_listT, b_all, b_any, b_intI, b_intB, b_isiN, b_isiB, b_isiI, b_isiS, b_isiT, b_isiR, b_isiL, b_isN, b_notN, b_neg, b_rev, b_join, t_str, is_some, isB_some, byB_true, byB_false, start, wipe, bindT, List.map_cons, List.map_nil, List.cons_append, List.nil_append, List.append_nil, List.getElem?_cons_zero, List.getElem?_cons_succ, List.length_cons, List.length_nil, List.set_cons_zero, List.set_cons_succ, atI_0, atI_1, atI_2, atI_3, List.replicate, Nat.zero_add, Nat.reduceAdd, Nat.reduceSub, seqW_ref, seqW_tup, c_leS, b_iaddI, b_iaddS, b_isub, w_enum, w_rngd, w_lam, x_ite, w_zip, w_callv, s_setX, s_retX, s_exprX, s_raise, x_call, x_tup, xs_nil, xs_ok, xs_may, byX_tup, byX_exc, byV_tup, byV_str, byV_int, byV_bl, byV_non, byV_ref, byV_exc, hE2]
    have leE : es.length = i := by
      have := congrArg List.length he
      simpa using this
    refine ⟨by decide, by rw [List.length_map, leE]; simp only [LIM]; omega, ?_⟩
    have hL3 : rdL (S2.set E (.lst (es.map eW ++ [W.tup [W.int v, W.int ((c0 + len + i : Nat) : Int)]]))) L = some ((List.range' c0 (len + i)).map fun q : Nat => W.int q) := by
      rw [rdL_set_ne (by omega)]
      exact hL2
    have hE3 : rdL (S2.set E (.lst (es.map eW ++ [W.tup [W.int v, W.int ((c0 + len + i : Nat) : Int)]]))) E = some ((es ++ [(v, c0 + len + i)]).map eW) := by
      rw [rdL_set_same hE2, List.map_append]
      rfl
    have t3 := t2.set sE (t2.neT hE2) (by omega) (.lst (es.map eW ++ [W.tup [W.int v, W.int ((c0 + len + i : Nat) : Int)]]))
    generalize S2.set E (.lst (es.map eW ++ [W.tup [W.int v, W.int ((c0 + len + i : Nat) : Int)]])) = S3 at *
    try simp only [w_var, w_c, w_bin, w_cmp, w_chain, w_and, w_or, w_ite, w_not, w_nil, w_cons, w_tup, w_lst, w_ix, w_no, w_yes, w_sl, w_call, w_bi, w_val, w_rng1, w_rng2, s_nil, s_cons, s_ret, s_expr, s_set, s_if, s_pass, s_setix, s_app, s_ext, o_addI, o_addS, o_addT, o_addL, o_sub, o_mulI, o_mulS, o_mulL, o_fdiv, o_mod, o_pow, c_ltI, c_ltS, c_le, c_gt, c_ge, c_eq, c_ne, e_ii, e_ss, e_bb, c_inS, c_notS, i_str, i_tup, i_ref, l_str, l_tup, l_rol, l_ref, b_lenS, b_lenT, b_lenR, b_abs, b_tupR, b_tupT, b_listR, b_listT, b_all, b_any, b_intI, b_intB, b_isiN, b_isiB, b_isiI, b_isiS, b_isiT, b_isiR, b_isiL, b_isN, b_notN, b_neg, b_rev, b_join, t_str, is_some, isB_some, byB_true, byB_false, start, wipe, bindT, List.map_cons, List.map_nil, List.cons_append, List.nil_append, List.append_nil, List.getElem?_cons_zero, List.getElem?_cons_succ, List.length_cons, List.length_nil, List.set_cons_zero, List.set_cons_succ, atI_0, atI_1, atI_2, atI_3, List.replicate, Nat.zero_add, Nat.reduceAdd, Nat.reduceSub, seqW_ref, seqW_tup, c_leS, b_iaddI, b_iaddS, b_isub, w_enum, w_rngd, w_lam, x_ite, w_zip, w_callv, s_setX, s_retX, s_exprX, s_raise, x_call, x_tup, xs_nil, xs_ok, xs_may, byX_tup, byX_exc, byV_tup, byV_str, byV_int, byV_bl, byV_non, byV_ref, byV_exc, hL3]
    refine ⟨by simp only [List.length_map, List.length_range', LIM]; omega, _, es ++ [(v, c0 + len + i)], rfl, by omega, ?_, t3.set sL (t3.neT hL3) (by omega) _, ?_, ?_⟩
    · rw [List.map_append, he, List.range'_1_concat]
      rfl
    · rw [rdL_set_same hL3, ← Nat.add_assoc, List.range'_1_concat, List.map_append]
      simp [Nat.add_assoc]
    · rw [rdL_set_ne (by omega)]
      exact hE3
  · obtain ⟨x, es, rfl, hi2, he, tS, hL1, hE1⟩ := hI
    refine ⟨⟨m, Nat.le_refl _, by simp [Src.len]⟩, ?_⟩
    try simp only [w_var, w_c, w_bin, w_cmp, w_chain, w_and, w_or, w_ite, w_not, w_nil, w_cons, w_tup, w_lst, w_ix, w_no, w_yes, w_sl, w_call, w_bi, w_val, w_rng1, w_rng2, s_nil, s_cons, s_ret, s_expr, s_set, s_if, s_pass, s_setix, s_app, s_ext, o_addI, o_addS, o_addT, o_addL, o_sub, o_mulI, o_mulS, o_mulL, o_fdiv, o_mod, o_pow, c_ltI, c_ltS, c_le, c_gt, c_ge, c_eq, c_ne, e_ii, e_ss, e_bb, c_inS, c_notS, i_str, i_tup, i_ref, l_str, l_tup, l_rol, l_ref, b_lenS, b_lenT, b_lenR, b_abs, b_tupR, b_tupT, b_listR, b_listT, b_all, b_any, b_intI, b_intB, b_isiN, b_isiB, b_isiI, b_isiS, b_isiT, b_isiR, b_isiL, b_isN, b_notN, b_neg, b_rev, b_join, t_str, is_some, isB_some, byB_true, byB_false, start, wipe, bindT, List.map_cons, List.map_nil, List.cons_append, List.nil_append, List.append_nil, List.getElem?_cons_zero, List.getElem?_cons_succ, List.length_cons, List.length_nil, List.set_cons_zero, List.set_cons_succ, atI_0, atI_1, atI_2, atI_3, List.replicate, Nat.zero_add, Nat.reduceAdd, Nat.reduceSub, seqW_ref, seqW_tup, c_leS, b_iaddI, b_iaddS, b_isub, w_enum, w_rngd, w_lam, x_ite, w_zip, w_callv, s_setX, s_retX, s_exprX, s_raise, x_call, x_tup, xs_nil, xs_ok, xs_may, byX_tup, byX_exc, byV_tup, byV_str, byV_int, byV_bl, byV_non, byV_ref, byV_exc]
    exact go x es S' he tS hL1 hE1
end
end Pg
namespace Pg
open MP
def forB : CS → CSs
  | .for_ _ _ b => b
  | _ => .nil
def lvlB : CSs := forB (hd1 (tl1 (tl1 (tl1 b_law_tree))))
def nodeB : CSs := forB (hd1 (tl1 lvlB))
section
variable {ds : Nat → Option Def}
theorem rest_w (h4 : ds 4 = some ⟨2, 4, b_law_draw⟩) (k : Nat) {d c T N L n m c0 len : Nat} {S S0 : Sto} {t : List (Nd × Eg)} {nodes : List Nd} (nd : Nd) (ts : TS d c T N S S0 n t nodes) (hL : rdL S0 L = some ((List.range' c0 len).map fun q : Nat => W.int q)) (sL : S.length ≤ L) (nL : N < L) (hn : n + m ≤ 1000000000) (hl : len + m ≤ 1000) (hf : nd ∉ t.map (·.1)) (ht : t.length ≤ 10000) (hm : m ≤ 3) {a1 a2 a6 : Option W} (a10 a11 : Option W) {Q : W → Sto → Prop} {M : Env → Sto → Prop}
    (go : ∀ (x y : Option W) (es : Eg) S2, es.map (·.2) = List.range' (c0 + len) m → TS d c T N S S2 (n + m) (t ++ [(nd, es)]) nodes → rdL S2 L = some ((List.range' c0 (len + m)).map fun q : Nat => W.int q) → M [some (.ref d), a1, a2, some (.gref T), some (.ref N), some (.int ((c0 + len + m : Nat) : Int)), a6, some (.ref L), some (nW nd), some (.int (m : Nat)), x, y] S2) :
    IsS (exs (callF ds (k + 1)) (tl1 (tl1 nodeB)) [some (.ref d), a1, a2, some (.gref T), some (.ref N), some (.int ((c0 + len : Nat) : Int)), a6, some (.ref L), some (nW nd), some (.int (m : Nat)), a10, a11] S0) M Q := by
  have lL : L < S0.length := (List.getElem?_eq_some_iff.mp (rdL_iff.mp hL)).1
  simp only [nodeB, lvlB, b_law_tree, forB, hd1, tl1, w_var, w_c, w_bin, w_cmp, w_chain, w_and, w_or, w_ite, w_not, w_nil, w_cons, w_tup, w_lst, w_ix, w_no, w_yes, w_sl, w_call, w_bi, w_val, w_rng1, w_rng2, s_nil, s_cons, s_ret, s_expr, s_set, s_if, s_pass, s_setix, s_app, s_ext, o_addI, o_addS, o_addT, o_addL, o_sub, o_mulI, o_mulS, o_mulL, o_fdiv, o_mod, o_pow, c_ltI, c_ltS, c_le, c_gt, c_ge, c_eq, c_ne, e_ii, e_ss, e_bb, c_inS, c_notS, i_str, i_tup, i_ref, l_str, l_tup, l_rol, l_ref, b_lenS, b_lenT, b_lenR, b_abs, b_tupR, b_tupT, b_listR, b_listT, b_all, b_any, b_intI, b_intB, b_isiN, b_isiB, b_isiI, b_isiS, b_isiT, b_isiR, b_isiL, b_isN, b_notN, b_neg, b_rev, b_join, t_str, is_some, isB_some, byB_true, byB_false, start, wipe, bindT, List.map_cons, List.map_nil, List.cons_append, List.nil_append, List.append_nil, List.getElem?_cons_zero, List.getElem?_cons_succ, List.length_cons, List.length_nil, List.set_cons_zero, List.set_cons_succ, atI_0, atI_1, atI_2, atI_3, List.replicate, Nat.zero_add, Nat.reduceAdd, Nat.reduceSub, seqW_ref, seqW_tup, c_leS, b_iaddI, b_iaddS, b_isub, w_enum, w_rngd, w_lam, x_ite, w_zip, w_callv, s_setX, s_retX, s_exprX, s_raise, x_call, x_tup, xs_nil, xs_ok, xs_may, byX_tup, byX_exc, byV_tup, byV_str, byV_int, byV_bl, byV_non, byV_ref, byV_exc]
  refine ⟨by decide, ?_⟩
  have kp : Kp S0 (S0 ++ [.lst []]) := .app _ _
  refine edges_w h4 k (E := S0.length) (ts.snoc _) (rdL_of (kp.get (rdL_iff.mp hL))) (rdL_new _ _) sL (by omega) nL lL hn hl a11 fun x es S2 he t2 hL2 hE2 => ?_
  try simp only [w_var, w_c, w_bin, w_cmp, w_chain, w_and, w_or, w_ite, w_not, w_nil, w_cons, w_tup, w_lst, w_ix, w_no, w_yes, w_sl, w_call, w_bi, w_val, w_rng1, w_rng2, s_nil, s_cons, s_ret, s_expr, s_set, s_if, s_pass, s_setix, s_app, s_ext, o_addI, o_addS, o_addT, o_addL, o_sub, o_mulI, o_mulS, o_mulL, o_fdiv, o_mod, o_pow, c_ltI, c_ltS, c_le, c_gt, c_ge, c_eq, c_ne, e_ii, e_ss, e_bb, c_inS, c_notS, i_str, i_tup, i_ref, l_str, l_tup, l_rol, l_ref, b_lenS, b_lenT, b_lenR, b_abs, b_tupR, b_tupT, b_listR, b_listT, b_all, b_any, b_intI, b_intB, b_isiN, b_isiB, b_isiI, b_isiS, b_isiT, b_isiR, b_isiL, b_isN, b_notN, b_neg, b_rev, b_join, t_str, is_some, isB_some, byB_true, byB_false, start, wipe, bindT, List.map_cons, List.map_nil, List.cons_append, List.nil_append, List.append_nil, List.getElem?_cons_zero, List.getElem?_cons_succ, List.length_cons, List.length_nil, List.set_cons_zero, List.set_cons_succ, atI_0, atI_1, atI_2, atI_3, List.replicate, Nat.zero_add, Nat.reduceAdd, Nat.reduceSub, seqW_ref, seqW_tup, c_leS, b_iaddI, b_iaddS, b_isub, w_enum, w_rngd, w_lam, x_ite, w_zip, w_callv, s_setX, s_retX, s_exprX, s_raise, x_call, x_tup, xs_nil, xs_ok, xs_may, byX_tup, byX_exc, byV_tup, byV_str, byV_int, byV_bl, byV_non, byV_ref, byV_exc, hE2]
  have lt : es.length ≤ 3 := by
    have := congrArg List.length he
    simp at this
    omega
  rw [show W.tup (es.map eW) = egW es from rfl, b_gset t2.hT hf (by simp only [LIM]; omega)]
  refine go _ _ es _ he (t2.put _) ?_
  rw [rdL_set_ne (t2.neT hL2).symm]
  exact hL2
theorem nodes_w (h4 : ds 4 = some ⟨2, 4, b_law_draw⟩) (k : Nat) {d c T N L n c0 i most : Nat} {S S0 : Sto} {t : List (Nd × Eg)} {nodes : List Nd} (ts : TS d c T N S S0 n t nodes) (lv : Lvl t c0 i nodes) (hL : rdL S0 L = some []) (sL : S.length ≤ L) (nL : N < L) (hn : n + 80 ≤ 1000000000) (hi : i ≤ 400) (hmost : most ≤ 18) {a1 a6 : Option W} (a8 a9 a10 a11 : Option W) {Q : W → Sto → Prop} {M : Env → Sto → Prop}
    (go : ∀ (x8 x9 x10 x11 : Option W) t2 len S2 n2, Mid t nodes nodes.length c0 most t2 len → n2 ≤ n + 80 → TS d c T N S S2 n2 t2 nodes → rdL S2 L = some ((List.range' c0 len).map fun q : Nat => W.int q) → M [some (.ref d), a1, some (.int (most : Nat)), some (.gref T), some (.ref N), some (.int ((c0 + len : Nat) : Int)), a6, some (.ref L), x8, x9, x10, x11] S2) :
    IsS (ex (callF ds (k + 1)) (.for_ [8] (.val (.var 4)) nodeB) [some (.ref d), a1, some (.int (most : Nat)), some (.gref T), some (.ref N), some (.int (c0 : Nat)), a6, some (.ref L), a8, a9, a10, a11] S0) M Q := by
  have ln := lv.le
  refine w_for (n := nodes.length) (fun j env' S' => ∃ (x8 x9 x10 x11 : Option W) (t2 : List (Nd × Eg)) (len n2 : Nat), env' = [some (.ref d), a1, some (.int (most : Nat)), some (.gref T), some (.ref N), some (.int ((c0 + len : Nat) : Int)), a6, some (.ref L), x8, x9, x10, x11] ∧ Mid t nodes j c0 most t2 len ∧ n2 ≤ n + 4 * j ∧ TS d c T N S S' n2 t2 nodes ∧ rdL S' L = some ((List.range' c0 len).map fun q : Nat => W.int q)) ?_
  try simp only [w_var, w_c, w_bin, w_cmp, w_chain, w_and, w_or, w_ite, w_not, w_nil, w_cons, w_tup, w_lst, w_ix, w_no, w_yes, w_sl, w_call, w_bi, w_val, w_rng1, w_rng2, s_nil, s_cons, s_ret, s_expr, s_set, s_if, s_pass, s_setix, s_app, s_ext, o_addI, o_addS, o_addT, o_addL, o_sub, o_mulI, o_mulS, o_mulL, o_fdiv, o_mod, o_pow, c_ltI, c_ltS, c_le, c_gt, c_ge, c_eq, c_ne, e_ii, e_ss, e_bb, c_inS, c_notS, i_str, i_tup, i_ref, l_str, l_tup, l_rol, l_ref, b_lenS, b_lenT, b_lenR, b_abs, b_tupR, b_tupT, b_listR, b_listT, b_all, b_any, b_intI, b_intB, b_isiN, b_isiB, b_isiI, b_isiS, b_isiT, b_isiR, b_isiL, b_isN, b_notN, b_neg, b_rev, b_join, t_str, is_some, isB_some, byB_true, byB_false, start, wipe, bindT, List.map_cons, List.map_nil, List.cons_append, List.nil_append, List.append_nil, List.getElem?_cons_zero, List.getElem?_cons_succ, List.length_cons, List.length_nil, List.set_cons_zero, List.set_cons_succ, atI_0, atI_1, atI_2, atI_3, List.replicate, Nat.zero_add, Nat.reduceAdd, Nat.reduceSub, seqW_ref, seqW_tup, c_leS, b_iaddI, b_iaddS, b_isub, w_enum, w_rngd, w_lam, x_ite, w_zip, w_callv, s_setX, s_retX, s_exprX, s_raise, x_call, x_tup, xs_nil, xs_ok, xs_may, byX_tup, byX_exc, byV_tup, byV_str, byV_int, byV_bl, byV_non, byV_ref, byV_exc]
  refine ⟨by simp [Src.len, ts.hN], ⟨a8, a9, a10, a11, t, 0, n, rfl, .zero _ _ _ _, by omega, ts, hL⟩, fun j env' S' hj hI => ?_, fun env' S' hI => ?_⟩
  · obtain ⟨x8, x9, x10, x11, t2, len, n2, rfl, mid, hn2, t2s, hL2⟩ := hI
    refine ⟨nW nodes[j], _, by simp [Src.item, t2s.hN, hj], rfl, ?_⟩
    have ml := mid.le
    have hf : nodes[j] ∉ t2.map (·.1) := by
      obtain ⟨ess, l, e, ne, fl⟩ := mid.ess
      have ek : t2.map (·.1) = t.map (·.1) ++ nodes.take j := by
        rw [e, List.map_append]
        congr 1
        exact List.map_fst_zip (by rw [List.length_take]; omega)
      have nd := lv.nd
      have es : nodes = nodes.take j ++ nodes[j] :: nodes.drop (j + 1) := by
        rw [← List.drop_eq_getElem_cons hj, List.take_append_drop]
      rw [es, ← List.append_assoc] at nd
      rw [ek]
      intro h
      exact (List.nodup_append.mp nd).2.2 _ h _ (List.mem_cons_self) rfl
    have ht : t2.length ≤ 10000 := by
      obtain ⟨ess, l, e, ne, fl⟩ := mid.ess
      have := lv.tl
      rw [e, List.length_append, List.length_zip, List.length_take]
      omega
    have eb : nodeB = .cons (hd1 nodeB) (.cons (hd1 (tl1 nodeB)) (tl1 (tl1 nodeB))) := rfl
    rw [eb]
    generalize hT : tl1 (tl1 nodeB) = tl
    simp only [nodeB, lvlB, b_law_tree, forB, hd1, tl1, w_var, w_c, w_bin, w_cmp, w_chain, w_and, w_or, w_ite, w_not, w_nil, w_cons, w_tup, w_lst, w_ix, w_no, w_yes, w_sl, w_call, w_bi, w_val, w_rng1, w_rng2, s_nil, s_cons, s_ret, s_expr, s_set, s_if, s_pass, s_setix, s_app, s_ext, o_addI, o_addS, o_addT, o_addL, o_sub, o_mulI, o_mulS, o_mulL, o_fdiv, o_mod, o_pow, c_ltI, c_ltS, c_le, c_gt, c_ge, c_eq, c_ne, e_ii, e_ss, e_bb, c_inS, c_notS, i_str, i_tup, i_ref, l_str, l_tup, l_rol, l_ref, b_lenS, b_lenT, b_lenR, b_abs, b_tupR, b_tupT, b_listR, b_listT, b_all, b_any, b_intI, b_intB, b_isiN, b_isiB, b_isiI, b_isiS, b_isiT, b_isiR, b_isiL, b_isN, b_notN, b_neg, b_rev, b_join, t_str, is_some, isB_some, byB_true, byB_false, start, wipe, bindT, List.map_cons, List.map_nil, List.cons_append, List.nil_append, List.append_nil, List.getElem?_cons_zero, List.getElem?_cons_succ, List.length_cons, List.length_nil, List.set_cons_zero, List.set_cons_succ, atI_0, atI_1, atI_2, atI_3, List.replicate, Nat.zero_add, Nat.reduceAdd, Nat.reduceSub, seqW_ref, seqW_tup, c_leS, b_iaddI, b_iaddS, b_isub, w_enum, w_rngd, w_lam, x_ite, w_zip, w_callv, s_setX, s_retX, s_exprX, s_raise, x_call, x_tup, xs_nil, xs_ok, xs_may, byX_tup, byX_exc, byV_tup, byV_str, byV_int, byV_bl, byV_non, byV_ref, byV_exc, t2s.hN, hL2, List.length_map, List.length_range']
    refine byB_dec _ _ _ (fun z => ?_) (fun z => ?_)
    · have hlt : nodes.length + len < most := by
        have := of_decide_eq_true z
        omega
      refine draw_w h4 k t2s.dk t2s.kx (by omega) 3 (by omega) (by omega) fun v S3 v1 v2 dk3 _ kx3 => ?_
      have t3 := t2s.draw dk3 kx3
      obtain ⟨da, db⟩ := ts.dl
      have hL3 := rd_kx hL2 kx3 (by omega) (by omega)
      try simp only [w_var, w_c, w_bin, w_cmp, w_chain, w_and, w_or, w_ite, w_not, w_nil, w_cons, w_tup, w_lst, w_ix, w_no, w_yes, w_sl, w_call, w_bi, w_val, w_rng1, w_rng2, s_nil, s_cons, s_ret, s_expr, s_set, s_if, s_pass, s_setix, s_app, s_ext, o_addI, o_addS, o_addT, o_addL, o_sub, o_mulI, o_mulS, o_mulL, o_fdiv, o_mod, o_pow, c_ltI, c_ltS, c_le, c_gt, c_ge, c_eq, c_ne, e_ii, e_ss, e_bb, c_inS, c_notS, i_str, i_tup, i_ref, l_str, l_tup, l_rol, l_ref, b_lenS, b_lenT, b_lenR, b_abs, b_tupR, b_tupT, b_listR, b_listT, b_all, b_any, b_intI, b_intB, b_isiN, b_isiB, b_isiI, b_isiS, b_isiT, b_isiR, b_isiL, b_isN, b_notN, b_neg, b_rev, b_join, t_str, is_some, isB_some, byB_true, byB_false, start, wipe, bindT, List.map_cons, List.map_nil, List.cons_append, List.nil_append, List.append_nil, List.getElem?_cons_zero, List.getElem?_cons_succ, List.length_cons, List.length_nil, List.set_cons_zero, List.set_cons_succ, atI_0, atI_1, atI_2, atI_3, List.replicate, Nat.zero_add, Nat.reduceAdd, Nat.reduceSub, seqW_ref, seqW_tup, c_leS, b_iaddI, b_iaddS, b_isub, w_enum, w_rngd, w_lam, x_ite, w_zip, w_callv, s_setX, s_retX, s_exprX, s_raise, x_call, x_tup, xs_nil, xs_ok, xs_may, byX_tup, byX_exc, byV_tup, byV_str, byV_int, byV_bl, byV_non, byV_ref, byV_exc]
      obtain ⟨m, hm⟩ : ∃ m : Nat, 1 + v = (m : Int) := ⟨(1 + v).toNat, by omega⟩
      rw [hm]
      subst hT
      refine rest_w h4 k nodes[j] t3 hL3 sL nL (by omega) (by omega) hf ht (by omega) _ _ fun x y es S4 he t4 hL4 => ?_
      exact ⟨_, _, _, _, _, len + m, _, by rw [Nat.add_assoc], mid.step hj he (by omega) (.inr ⟨hlt, by omega⟩), by omega, t4, hL4⟩
    · subst hT
      refine rest_w h4 k (m := 1) nodes[j] t2s hL2 sL nL (by omega) (by omega) hf ht (by omega) _ _ fun x y es S4 he t4 hL4 => ?_
      exact ⟨_, _, _, _, _, len + 1, _, by rw [Nat.add_assoc], mid.step hj he (by omega) (.inl rfl), by omega, t4, hL4⟩
  · obtain ⟨x8, x9, x10, x11, t2, len, n2, rfl, mid, hn2, t2s, hL2⟩ := hI
    refine ⟨⟨nodes.length, Nat.le_refl _, by simp [Src.len, t2s.hN]⟩, ?_⟩
    exact go _ _ _ _ t2 len S' n2 mid (by omega) t2s hL2
theorem tree_w (h4 : ds 4 = some ⟨2, 4, b_law_draw⟩) (h692 : ds 692 = some ⟨3, 12, b_law_tree⟩) (k : Nat) {d c n dd most : Nat} {S : Sto} (dk : Dk d c n S) (hn : n ≤ 1000000) (hd : dd ≤ 400) (hmost : most ≤ 18) {P : W → Sto → Prop}
    (go : ∀ T f n2 S2, TrAt S2 T f → TreeOk f dd → Dk d c n2 S2 → n2 ≤ n + 40000 → Kx d c S S2 → S.length ≤ T → P (.gref T) S2) : Is (callF ds (k + 2) 692 [.ref d, .int (dd : Nat), .int (most : Nat)] S) P := by
  refine w_callF (k := k + 1) h692 rfl ?_
  have eb : b_law_tree = .cons (hd1 b_law_tree) (.cons (hd1 (tl1 b_law_tree)) (.cons (hd1 (tl1 (tl1 b_law_tree))) (.cons (.for_ [6] (.rng1 (.var 1)) lvlB) (.cons (.ret (.var 3)) .nil)))) := rfl
  rw [eb]
  generalize hB : lvlB = lb
  simp only [b_law_tree, hd1, tl1, w_var, w_c, w_bin, w_cmp, w_chain, w_and, w_or, w_ite, w_not, w_nil, w_cons, w_tup, w_lst, w_ix, w_no, w_yes, w_sl, w_call, w_bi, w_val, w_rng1, w_rng2, s_nil, s_cons, s_ret, s_expr, s_set, s_if, s_pass, s_setix, s_app, s_ext, o_addI, o_addS, o_addT, o_addL, o_sub, o_mulI, o_mulS, o_mulL, o_fdiv, o_mod, o_pow, c_ltI, c_ltS, c_le, c_gt, c_ge, c_eq, c_ne, e_ii, e_ss, e_bb, c_inS, c_notS, i_str, i_tup, i_ref, l_str, l_tup, l_rol, l_ref, b_lenS, b_lenT, b_lenR, b_abs, b_tupR, b_tupT, b_listR, b_listT, b_all, b_any, b_intI, b_intB, b_isiN, b_isiB, b_isiI, b_isiS, b_isiT, b_isiR, b_isiL, b_isN, b_notN, b_neg, b_rev, b_join, t_str, is_some, isB_some, byB_true, byB_false, start, wipe, bindT, List.map_cons, List.map_nil, List.cons_append, List.nil_append, List.append_nil, List.getElem?_cons_zero, List.getElem?_cons_succ, List.length_cons, List.length_nil, List.set_cons_zero, List.set_cons_succ, atI_0, atI_1, atI_2, atI_3, List.replicate, Nat.zero_add, Nat.reduceAdd, Nat.reduceSub, seqW_ref, seqW_tup, c_leS, b_iaddI, b_iaddS, b_isub, w_enum, w_rngd, w_lam, x_ite, w_zip, w_callv, s_setX, s_retX, s_exprX, s_raise, x_call, x_tup, xs_nil, xs_ok, xs_may, byX_tup, byX_exc, byV_tup, byV_str, byV_int, byV_bl, byV_non, byV_ref, byV_exc, b_gnew]
  refine ⟨by decide, ?_⟩
  subst hB
  refine w_for (n := dd) (fun i env' S' => ∃ (N : Nat) (x6 x7 x8 x9 x10 x11 : Option W) (t : List (Nd × Eg)) (cnt n2 : Nat) (nodes : List Nd), env' = [some (.ref d), some (.int (dd : Nat)), some (.int (most : Nat)), some (.gref S.length), some (.ref N), some (.int (cnt : Nat)), x6, x7, x8, x9, x10, x11] ∧ Lvl t cnt i nodes ∧ n2 ≤ n + 80 * i ∧ TS d c S.length N S S' n2 t nodes ∧ i ≤ dd) ?_
  try simp only [w_var, w_c, w_bin, w_cmp, w_chain, w_and, w_or, w_ite, w_not, w_nil, w_cons, w_tup, w_lst, w_ix, w_no, w_yes, w_sl, w_call, w_bi, w_val, w_rng1, w_rng2, s_nil, s_cons, s_ret, s_expr, s_set, s_if, s_pass, s_setix, s_app, s_ext, o_addI, o_addS, o_addT, o_addL, o_sub, o_mulI, o_mulS, o_mulL, o_fdiv, o_mod, o_pow, c_ltI, c_ltS, c_le, c_gt, c_ge, c_eq, c_ne, e_ii, e_ss, e_bb, c_inS, c_notS, i_str, i_tup, i_ref, l_str, l_tup, l_rol, l_ref, b_lenS, b_lenT, b_lenR, b_abs, b_tupR, b_tupT, b_listR, b_listT, b_all, b_any, b_intI, b_intB, b_isiN, b_isiB, b_isiI, b_isiS, b_isiT, b_isiR, b_isiL, b_isN, b_notN, b_neg, b_rev, b_join, t_str, is_some, isB_some, byB_true, byB_false, start, wipe, bindT, List.map_cons, List.map_nil, List.cons_append, List.nil_append, List.append_nil, List.getElem?_cons_zero, List.getElem?_cons_succ, List.length_cons, List.length_nil, List.set_cons_zero, List.set_cons_succ, atI_0, atI_1, atI_2, atI_3, List.replicate, Nat.zero_add, Nat.reduceAdd, Nat.reduceSub, seqW_ref, seqW_tup, c_leS, b_iaddI, b_iaddS, b_isub, w_enum, w_rngd, w_lam, x_ite, w_zip, w_callv, s_setX, s_retX, s_exprX, s_raise, x_call, x_tup, xs_nil, xs_ok, xs_may, byX_tup, byX_exc, byV_tup, byV_str, byV_int, byV_bl, byV_non, byV_ref, byV_exc]
  have k2 : Kp S (S ++ [.dd []] ++ [.lst [.non]]) := ((Kp.refl S).snoc _).snoc _
  refine ⟨by unfold rngOk; simp; omega, by simp [Src.len], ⟨_, none, none, none, none, none, none, [], 0, n, [none], rfl, .zero, by omega, ⟨dk.kp k2, .of k2, ?_, ?_, Nat.le_refl _, by simp, dk.lt⟩, by omega⟩, fun i env' S' hi hI => ?_, fun env' S' hI => ?_⟩
  · rw [List.append_assoc, List.getElem?_append_right (Nat.le_refl _), Nat.sub_self]
    rfl
  · have := rdL_new (S ++ [.dd []]) [.non]
    exact this
  · obtain ⟨N, x6, x7, x8, x9, x10, x11, t, cnt, n2, nodes, rfl, lv, hn2, ts, _⟩ := hI
    refine ⟨.int (i : Nat), _, by simp [Src.item, hi], rfl, ?_⟩
    have eb : lvlB = .cons (hd1 lvlB) (.cons (.for_ [8] (.val (.var 4)) nodeB) (.cons (.set [4] (.var 7)) .nil)) := rfl
    rw [eb]
    generalize hB : nodeB = nb
    simp only [lvlB, b_law_tree, forB, hd1, tl1, w_var, w_c, w_bin, w_cmp, w_chain, w_and, w_or, w_ite, w_not, w_nil, w_cons, w_tup, w_lst, w_ix, w_no, w_yes, w_sl, w_call, w_bi, w_val, w_rng1, w_rng2, s_nil, s_cons, s_ret, s_expr, s_set, s_if, s_pass, s_setix, s_app, s_ext, o_addI, o_addS, o_addT, o_addL, o_sub, o_mulI, o_mulS, o_mulL, o_fdiv, o_mod, o_pow, c_ltI, c_ltS, c_le, c_gt, c_ge, c_eq, c_ne, e_ii, e_ss, e_bb, c_inS, c_notS, i_str, i_tup, i_ref, l_str, l_tup, l_rol, l_ref, b_lenS, b_lenT, b_lenR, b_abs, b_tupR, b_tupT, b_listR, b_listT, b_all, b_any, b_intI, b_intB, b_isiN, b_isiB, b_isiI, b_isiS, b_isiT, b_isiR, b_isiL, b_isN, b_notN, b_neg, b_rev, b_join, t_str, is_some, isB_some, byB_true, byB_false, start, wipe, bindT, List.map_cons, List.map_nil, List.cons_append, List.nil_append, List.append_nil, List.getElem?_cons_zero, List.getElem?_cons_succ, List.length_cons, List.length_nil, List.set_cons_zero, List.set_cons_succ, atI_0, atI_1, atI_2, atI_3, List.replicate, Nat.zero_add, Nat.reduceAdd, Nat.reduceSub, seqW_ref, seqW_tup, c_leS, b_iaddI, b_iaddS, b_isub, w_enum, w_rngd, w_lam, x_ite, w_zip, w_callv, s_setX, s_retX, s_exprX, s_raise, x_call, x_tup, xs_nil, xs_ok, xs_may, byX_tup, byX_exc, byV_tup, byV_str, byV_int, byV_bl, byV_non, byV_ref, byV_exc]
    refine ⟨by decide, ?_⟩
    subst hB
    have lN : N < S'.length := (List.getElem?_eq_some_iff.mp (rdL_iff.mp ts.hN)).1
    have lS : S.length ≤ S'.length := ts.kx.1
    refine nodes_w h4 k (L := S'.length) (ts.snoc _) lv (rdL_new _ _) (by omega) lN (by omega) (by omega) hmost _ _ _ _ fun y8 y9 y10 y11 t2 len S2 n3 mid hn3 t2s hL2 => ?_
    try simp only [w_var, w_c, w_bin, w_cmp, w_chain, w_and, w_or, w_ite, w_not, w_nil, w_cons, w_tup, w_lst, w_ix, w_no, w_yes, w_sl, w_call, w_bi, w_val, w_rng1, w_rng2, s_nil, s_cons, s_ret, s_expr, s_set, s_if, s_pass, s_setix, s_app, s_ext, o_addI, o_addS, o_addT, o_addL, o_sub, o_mulI, o_mulS, o_mulL, o_fdiv, o_mod, o_pow, c_ltI, c_ltS, c_le, c_gt, c_ge, c_eq, c_ne, e_ii, e_ss, e_bb, c_inS, c_notS, i_str, i_tup, i_ref, l_str, l_tup, l_rol, l_ref, b_lenS, b_lenT, b_lenR, b_abs, b_tupR, b_tupT, b_listR, b_listT, b_all, b_any, b_intI, b_intB, b_isiN, b_isiB, b_isiI, b_isiS, b_isiT, b_isiR, b_isiL, b_isN, b_notN, b_neg, b_rev, b_join, t_str, is_some, isB_some, byB_true, byB_false, start, wipe, bindT, List.map_cons, List.map_nil, List.cons_append, List.nil_append, List.append_nil, List.getElem?_cons_zero, List.getElem?_cons_succ, List.length_cons, List.length_nil, List.set_cons_zero, List.set_cons_succ, atI_0, atI_1, atI_2, atI_3, List.replicate, Nat.zero_add, Nat.reduceAdd, Nat.reduceSub, seqW_ref, seqW_tup, c_leS, b_iaddI, b_iaddS, b_isub, w_enum, w_rngd, w_lam, x_ite, w_zip, w_callv, s_setX, s_retX, s_exprX, s_raise, x_call, x_tup, xs_nil, xs_ok, xs_may, byX_tup, byX_exc, byV_tup, byV_str, byV_int, byV_bl, byV_non, byV_ref, byV_exc]
    refine ⟨S'.length, _, _, _, _, _, _, t2, cnt + len, n3, _, rfl, lvl_next lv mid hmost, by omega, ⟨t2s.dk, t2s.kx, t2s.hT, ?_, t2s.lT, by omega, t2s.dl⟩, by omega⟩
    rw [hL2, List.map_map]
    rfl
  · obtain ⟨N, x6, x7, x8, x9, x10, x11, t, cnt, n2, nodes, rfl, lv, hn2, ts, _⟩ := hI
    refine ⟨⟨dd, Nat.le_refl _, by simp [Src.len]⟩, ?_⟩
    try simp only [w_var, w_c, w_bin, w_cmp, w_chain, w_and, w_or, w_ite, w_not, w_nil, w_cons, w_tup, w_lst, w_ix, w_no, w_yes, w_sl, w_call, w_bi, w_val, w_rng1, w_rng2, s_nil, s_cons, s_ret, s_expr, s_set, s_if, s_pass, s_setix, s_app, s_ext, o_addI, o_addS, o_addT, o_addL, o_sub, o_mulI, o_mulS, o_mulL, o_fdiv, o_mod, o_pow, c_ltI, c_ltS, c_le, c_gt, c_ge, c_eq, c_ne, e_ii, e_ss, e_bb, c_inS, c_notS, i_str, i_tup, i_ref, l_str, l_tup, l_rol, l_ref, b_lenS, b_lenT, b_lenR, b_abs, b_tupR, b_tupT, b_listR, b_listT, b_all, b_any, b_intI, b_intB, b_isiN, b_isiB, b_isiI, b_isiS, b_isiT, b_isiR, b_isiL, b_isN, b_notN, b_neg, b_rev, b_join, t_str, is_some, isB_some, byB_true, byB_false, start, wipe, bindT, List.map_cons, List.map_nil, List.cons_append, List.nil_append, List.append_nil, List.getElem?_cons_zero, List.getElem?_cons_succ, List.length_cons, List.length_nil, List.set_cons_zero, List.set_cons_succ, atI_0, atI_1, atI_2, atI_3, List.replicate, Nat.zero_add, Nat.reduceAdd, Nat.reduceSub, seqW_ref, seqW_tup, c_leS, b_iaddI, b_iaddS, b_isub, w_enum, w_rngd, w_lam, x_ite, w_zip, w_callv, s_setX, s_retX, s_exprX, s_raise, x_call, x_tup, xs_nil, xs_ok, xs_may, byX_tup, byX_exc, byV_tup, byV_str, byV_int, byV_bl, byV_non, byV_ref, byV_exc]
    refine go S.length (fun n => t.lookup n) n2 S' ⟨tkv t, ts.hT, fun m es h => ?_⟩ lv.ok ts.dk (by omega) ts.kx (Nat.le_refl _)
    rw [tkv_look]
    have h : t.lookup m = some es := h
    rw [h]
    rfl
end
end Pg
namespace Pg
open MP
/-! the law's ways -/
/-- the nodes along a path, from the root on -/
def nds (p : Pth) : List Nd := none :: p.map fun q => (q.1[q.2]?).map (·.2)
def wyW (p : Pth) : W := .tup [.tup ((lb p).map .int), .tup ((nds p).map nW)]
def outWy (d : Nat) (p : Pth) : W := .tup [.tup ((lb p).map .int), .tup (((nds p).take d).map nW)]
/-- all steps of a path stand -/
def Okp (p : Pth) : Prop := ∀ q ∈ p, q.2 < q.1.length
theorem nds_last {p : Pth} (h : Okp p) : (nds p).getLast? = some (nb p) := by
  rcases List.eq_nil_or_concat p with e | ⟨r, x, e⟩
  · subst e
    rfl
  · subst e
    obtain ⟨es, i⟩ := x
    rw [List.concat_eq_append, nb_snoc]
    unfold nds
    rw [List.map_append, List.map_singleton, ← List.cons_append, List.getLast?_concat]
theorem okp_snoc {p : Pth} {es : Eg} {i : Nat} (h : Okp p) (hi : i < es.length) : Okp (p ++ [(es, i)]) := fun q hq => by
  rcases List.mem_append.mp hq with z | z
  · exact h q z
  · rw [List.mem_singleton.mp z]
    exact hi
theorem stp_map {f : Nd → Option Eg} {p : Pth} {es : Eg} (e : f (nb p) = some es) : (stp f p).map wyW = es.map fun x => .tup [.tup ((lb p).map .int ++ [.int x.1]), .tup ((nds p).map nW ++ [.int (x.2 : Nat)])] := by
  unfold stp sib kids
  rw [e, Option.getD_some, List.drop_zero, List.map_map]
  refine List.ext_getElem (by simp) fun i h1 h2 => ?_
  have hi : i < es.length := by simpa using h1
  rw [List.getElem_map, List.getElem_map, List.getElem_range]
  show wyW (p ++ [(es, i)]) = _
  unfold wyW
  rw [lb_snoc _ _ _ hi]
  unfold nds
  simp [List.getElem?_eq_getElem hi, nW]
theorem stp_ok {f : Nd → Option Eg} {p q : Pth} (h : Okp p) (hq : q ∈ stp f p) : Okp q := by
  unfold stp sib at hq
  obtain ⟨i, hi, rfl⟩ := List.mem_map.mp hq
  rw [List.drop_zero, List.mem_range] at hi
  exact okp_snoc h hi
theorem expd_ok {f : Nd → Option Eg} : ∀ i p, p ∈ expd f i [[]] → Okp p
  | 0, p, h => by
    rw [List.mem_singleton.mp h]
    intro q hq
    cases hq
  | i + 1, p, h => by
    rw [expd_succ] at h
    obtain ⟨q, hq, hp⟩ := List.mem_flatMap.mp h
    exact stp_ok (expd_ok i q hq) hp
theorem stp_nb {f : Nd → Option Eg} (p : Pth) : (stp f p).map nb = kidN (kids f (nb p)) := by
  unfold stp sib kidN
  rw [List.drop_zero, List.map_map]
  refine List.ext_getElem (by simp) fun i h1 h2 => ?_
  have hi : i < (kids f (nb p)).length := by simpa using h1
  rw [List.getElem_map, List.getElem_map, List.getElem_range]
  show nb (p ++ [(_, i)]) = _
  rw [nb_snoc, List.getElem?_eq_getElem hi]
  rfl
theorem expd_lev (f : Nd → Option Eg) : ∀ i, (expd f i [[]]).map nb = lev f i
  | 0 => rfl
  | i + 1 => by
    rw [expd_succ]
    show _ = (lev f i).flatMap (fun n => kidN (kids f n))
    rw [← expd_lev f i, List.map_flatMap, List.flatMap_map]
    congr 1
    funext p
    exact stp_nb p
theorem expd_len (f : Nd → Option Eg) : ∀ i p, p ∈ expd f i [[]] → p.length = i
  | 0, p, h => by rw [List.mem_singleton.mp h]; rfl
  | i + 1, p, h => by
    rw [expd_succ] at h
    obtain ⟨q, hq, hp⟩ := List.mem_flatMap.mp h
    have := expd_len f i q hq
    unfold stp sib at hp
    obtain ⟨j, _, rfl⟩ := List.mem_map.mp hp
    simp [this]
section
variable {ds : Nat → Option Def}
def wyB : CSs := forB (hd1 (tl1 b_law_ways))
def wyI : CSs := forB (hd1 (tl1 wyB))
theorem inner_w {Φ : Fns} {S0 : Sto} {T F d i : Nat} {f : Nd → Option Eg} (tr : TrAt S0 T f) (ok : TreeOk f d) (hi : i < d) (hd : d ≤ 400) (hF : rdL S0 F = some ((expd f i [[]]).map wyW)) {L0 : Nat} (hL0 : rdL S0 L0 = some []) {a1 a3 : Option W} (a5 a6 : Option W) {Q : W → Sto → Prop} {M : Env → Sto → Prop}
    (go : ∀ (x5 x6 : Option W) (L : Nat) S2, Kp S0 S2 → rdL S2 L = some ((expd f (i + 1) [[]]).map wyW) → M [some (.gref T), a1, some (.ref F), a3, some (.ref L), x5, x6, none, none] S2) :
    IsS (ex Φ (.for_ [5, 6] (.val (.var 2)) wyI) [some (.gref T), a1, some (.ref F), a3, some (.ref L0), a5, a6, none, none] S0) M Q := by
  have len : (expd f i [[]]).length ≤ 20 := by
    have := congrArg List.length (expd_lev f i)
    have := ok.wd i (by omega)
    rw [List.length_map] at *
    omega
  have len2 : (expd f (i + 1) [[]]).length ≤ 20 := by
    have := congrArg List.length (expd_lev f (i + 1))
    have := ok.wd (i + 1) (by omega)
    rw [List.length_map] at *
    omega
  refine w_for (n := (expd f i [[]]).length) (fun j env' S' => ∃ (x5 x6 : Option W) (L : Nat), env' = [some (.gref T), a1, some (.ref F), a3, some (.ref L), x5, x6, none, none] ∧ Kp S0 S' ∧ rdL S' L = some ((((expd f i [[]]).take j).flatMap (stp f)).map wyW)) ?_
  try simp only [w_var, w_c, w_bin, w_cmp, w_chain, w_and, w_or, w_ite, w_not, w_nil, w_cons, w_tup, w_lst, w_ix, w_no, w_yes, w_sl, w_call, w_bi, w_val, w_rng1, w_rng2, s_nil, s_cons, s_ret, s_expr, s_set, s_if, s_pass, s_setix, s_app, s_ext, o_addI, o_addS, o_addT, o_addL, o_sub, o_mulI, o_mulS, o_mulL, o_fdiv, o_mod, o_pow, c_ltI, c_ltS, c_le, c_gt, c_ge, c_eq, c_ne, e_ii, e_ss, e_bb, c_inS, c_notS, i_str, i_tup, i_ref, l_str, l_tup, l_rol, l_ref, b_lenS, b_lenT, b_lenR, b_abs, b_tupR, b_tupT, b_listR, b_listT, b_all, b_any, b_intI, b_intB, b_isiN, b_isiB, b_isiI, b_isiS, b_isiT, b_isiR, b_isiL, b_isN, b_notN, b_neg, b_rev, b_join, t_str, is_some, isB_some, byB_true, byB_false, start, wipe, bindT, List.map_cons, List.map_nil, List.cons_append, List.nil_append, List.append_nil, List.getElem?_cons_zero, List.getElem?_cons_succ, List.length_cons, List.length_nil, List.set_cons_zero, List.set_cons_succ, atI_0, atI_1, atI_2, atI_3, List.replicate, Nat.zero_add, Nat.reduceAdd, Nat.reduceSub, seqW_ref, seqW_tup, c_leS, b_iaddI, b_iaddS, b_isub, w_enum, w_rngd, w_lam, x_ite, w_zip, w_callv, s_setX, s_retX, s_exprX, s_raise, x_call, x_tup, xs_nil, xs_ok, xs_may, byX_tup, byX_exc, byV_tup, byV_str, byV_int, byV_bl, byV_non, byV_ref, byV_exc]
  refine ⟨by simp [Src.len, hF], ⟨a5, a6, L0, rfl, .refl _, hL0⟩, fun j env' S' hj hI => ?_, fun env' S' hI => ?_⟩
  · obtain ⟨x5, x6, L, rfl, kp, hL⟩ := hI
    have hF' := rdL_of (kp.get (rdL_iff.mp hF))
    generalize hp : (expd f i [[]])[j] = p
    have pm : p ∈ expd f i [[]] := by rw [← hp]; exact List.getElem_mem _
    have pok := expd_ok i p pm
    have pl := expd_len f i p pm
    obtain ⟨es, he, ne⟩ := ok.up i hi (nb p) (by rw [← expd_lev]; exact List.mem_map.mpr ⟨p, pm, rfl⟩)
    have ab : ((expd f i [[]]).take (j + 1)).flatMap (stp f) = ((expd f i [[]]).take j).flatMap (stp f) ++ stp f p := by
      rw [← List.take_append_getElem hj, List.flatMap_append, hp]
      simp
    have lab : (((expd f i [[]]).take (j + 1)).flatMap (stp f)).length ≤ 20 := by
      refine Nat.le_trans ?_ len2
      rw [expd_succ]
      have : (expd f i [[]]).flatMap (stp f) = ((expd f i [[]]).take (j + 1)).flatMap (stp f) ++ ((expd f i [[]]).drop (j + 1)).flatMap (stp f) := by
        rw [← List.flatMap_append, List.take_append_drop]
      rw [this, List.length_append]
      omega
    refine ⟨wyW p, _, by simp [Src.item, hF', hj, hp], rfl, ?_⟩
    have nl : ((nds p).map nW).getLast? = some (nW (nb p)) := by rw [List.getLast?_map, nds_last pok]; rfl
    have l1 : ((lb p).map W.int).length = i := by simp [lb, pl]
    have l2 : ((nds p).map nW).length = i + 1 := by simp [nds, pl]
    have sm := stp_map he
    have les : es.length ≤ 20 := by
      have := congrArg List.length sm
      rw [List.length_map, List.length_map] at this
      rw [ab, List.length_append] at lab
      omega
    simp only [wyI, wyB, b_law_ways, forB, hd1, tl1, w_var, w_c, w_bin, w_cmp, w_chain, w_and, w_or, w_ite, w_not, w_nil, w_cons, w_tup, w_lst, w_ix, w_no, w_yes, w_sl, w_call, w_bi, w_val, w_rng1, w_rng2, s_nil, s_cons, s_ret, s_expr, s_set, s_if, s_pass, s_setix, s_app, s_ext, o_addI, o_addS, o_addT, o_addL, o_sub, o_mulI, o_mulS, o_mulL, o_fdiv, o_mod, o_pow, c_ltI, c_ltS, c_le, c_gt, c_ge, c_eq, c_ne, e_ii, e_ss, e_bb, c_inS, c_notS, i_str, i_tup, i_ref, l_str, l_tup, l_rol, l_ref, b_lenS, b_lenT, b_lenR, b_abs, b_tupR, b_tupT, b_listR, b_listT, b_all, b_any, b_intI, b_intB, b_isiN, b_isiB, b_isiI, b_isiS, b_isiT, b_isiR, b_isiL, b_isN, b_notN, b_neg, b_rev, b_join, t_str, is_some, isB_some, byB_true, byB_false, start, wipe, bindT, List.map_cons, List.map_nil, List.cons_append, List.nil_append, List.append_nil, List.getElem?_cons_zero, List.getElem?_cons_succ, List.length_cons, List.length_nil, List.set_cons_zero, List.set_cons_succ, atI_0, atI_1, atI_2, atI_3, List.replicate, Nat.zero_add, Nat.reduceAdd, Nat.reduceSub, seqW_ref, seqW_tup, c_leS, b_iaddI, b_iaddS, b_isub, w_enum, w_rngd, w_lam, x_ite, w_zip, w_callv, s_setX, s_retX, s_exprX, s_raise, x_call, x_tup, xs_nil, xs_ok, xs_may, byX_tup, byX_exc, byV_tup, byV_str, byV_int, byV_bl, byV_non, byV_ref, byV_exc]
    generalize hU : (lb p).map W.int = U at *
    generalize hV : (nds p).map nW = V at *
    unfold wyW
    try simp only [w_var, w_c, w_bin, w_cmp, w_chain, w_and, w_or, w_ite, w_not, w_nil, w_cons, w_tup, w_lst, w_ix, w_no, w_yes, w_sl, w_call, w_bi, w_val, w_rng1, w_rng2, s_nil, s_cons, s_ret, s_expr, s_set, s_if, s_pass, s_setix, s_app, s_ext, o_addI, o_addS, o_addT, o_addL, o_sub, o_mulI, o_mulS, o_mulL, o_fdiv, o_mod, o_pow, c_ltI, c_ltS, c_le, c_gt, c_ge, c_eq, c_ne, e_ii, e_ss, e_bb, c_inS, c_notS, i_str, i_tup, i_ref, l_str, l_tup, l_rol, l_ref, b_lenS, b_lenT, b_lenR, b_abs, b_tupR, b_tupT, b_listR, b_listT, b_all, b_any, b_intI, b_intB, b_isiN, b_isiB, b_isiI, b_isiS, b_isiT, b_isiR, b_isiL, b_isN, b_notN, b_neg, b_rev, b_join, t_str, is_some, isB_some, byB_true, byB_false, start, wipe, bindT, List.map_cons, List.map_nil, List.cons_append, List.nil_append, List.append_nil, List.getElem?_cons_zero, List.getElem?_cons_succ, List.length_cons, List.length_nil, List.set_cons_zero, List.set_cons_succ, atI_0, atI_1, atI_2, atI_3, List.replicate, Nat.zero_add, Nat.reduceAdd, Nat.reduceSub, seqW_ref, seqW_tup, c_leS, b_iaddI, b_iaddS, b_isub, w_enum, w_rngd, w_lam, x_ite, w_zip, w_callv, s_setX, s_retX, s_exprX, s_raise, x_call, x_tup, xs_nil, xs_ok, xs_may, byX_tup, byX_exc, byV_tup, byV_str, byV_int, byV_bl, byV_non, byV_ref, byV_exc, hU, hV, bindL, atI_m1, nl]
    refine w_compP (es.map eW) (fun _ => true) (fun w => match w with | .tup [a, b] => .tup [.tup (U ++ [a]), .tup (V ++ [b])] | w => w) (by rw [List.length_map]; simp only [LIM]; omega) ?_
    try simp only [w_var, w_c, w_bin, w_cmp, w_chain, w_and, w_or, w_ite, w_not, w_nil, w_cons, w_tup, w_lst, w_ix, w_no, w_yes, w_sl, w_call, w_bi, w_val, w_rng1, w_rng2, s_nil, s_cons, s_ret, s_expr, s_set, s_if, s_pass, s_setix, s_app, s_ext, o_addI, o_addS, o_addT, o_addL, o_sub, o_mulI, o_mulS, o_mulL, o_fdiv, o_mod, o_pow, c_ltI, c_ltS, c_le, c_gt, c_ge, c_eq, c_ne, e_ii, e_ss, e_bb, c_inS, c_notS, i_str, i_tup, i_ref, l_str, l_tup, l_rol, l_ref, b_lenS, b_lenT, b_lenR, b_abs, b_tupR, b_tupT, b_listR, b_listT, b_all, b_any, b_intI, b_intB, b_isiN, b_isiB, b_isiI, b_isiS, b_isiT, b_isiR, b_isiL, b_isN, b_notN, b_neg, b_rev, b_join, t_str, is_some, isB_some, byB_true, byB_false, start, wipe, bindT, List.map_cons, List.map_nil, List.cons_append, List.nil_append, List.append_nil, List.getElem?_cons_zero, List.getElem?_cons_succ, List.length_cons, List.length_nil, List.set_cons_zero, List.set_cons_succ, atI_0, atI_1, atI_2, atI_3, List.replicate, Nat.zero_add, Nat.reduceAdd, Nat.reduceSub, seqW_ref, seqW_tup, c_leS, b_iaddI, b_iaddS, b_isub, w_enum, w_rngd, w_lam, x_ite, w_zip, w_callv, s_setX, s_retX, s_exprX, s_raise, x_call, x_tup, xs_nil, xs_ok, xs_may, byX_tup, byX_exc, byV_tup, byV_str, byV_int, byV_bl, byV_non, byV_ref, byV_exc, atI_m1, nl]
    rw [b_gix (tr.kp kp) he]
    simp only [egW, w_var, w_c, w_bin, w_cmp, w_chain, w_and, w_or, w_ite, w_not, w_nil, w_cons, w_tup, w_lst, w_ix, w_no, w_yes, w_sl, w_call, w_bi, w_val, w_rng1, w_rng2, s_nil, s_cons, s_ret, s_expr, s_set, s_if, s_pass, s_setix, s_app, s_ext, o_addI, o_addS, o_addT, o_addL, o_sub, o_mulI, o_mulS, o_mulL, o_fdiv, o_mod, o_pow, c_ltI, c_ltS, c_le, c_gt, c_ge, c_eq, c_ne, e_ii, e_ss, e_bb, c_inS, c_notS, i_str, i_tup, i_ref, l_str, l_tup, l_rol, l_ref, b_lenS, b_lenT, b_lenR, b_abs, b_tupR, b_tupT, b_listR, b_listT, b_all, b_any, b_intI, b_intB, b_isiN, b_isiB, b_isiI, b_isiS, b_isiT, b_isiR, b_isiL, b_isN, b_notN, b_neg, b_rev, b_join, t_str, is_some, isB_some, byB_true, byB_false, start, wipe, bindT, List.map_cons, List.map_nil, List.cons_append, List.nil_append, List.append_nil, List.getElem?_cons_zero, List.getElem?_cons_succ, List.length_cons, List.length_nil, List.set_cons_zero, List.set_cons_succ, atI_0, atI_1, atI_2, atI_3, List.replicate, Nat.zero_add, Nat.reduceAdd, Nat.reduceSub, seqW_ref, seqW_tup, c_leS, b_iaddI, b_iaddS, b_isub, w_enum, w_rngd, w_lam, x_ite, w_zip, w_callv, s_setX, s_retX, s_exprX, s_raise, x_call, x_tup, xs_nil, xs_ok, xs_may, byX_tup, byX_exc, byV_tup, byV_str, byV_int, byV_bl, byV_non, byV_ref, byV_exc]
    refine ⟨rfl, fun x hx => ?_, ?_⟩
    · obtain ⟨e, he2, rfl⟩ := List.mem_map.mp hx
      refine ⟨_, rfl, ?_⟩
      simp only [eW, w_var, w_c, w_bin, w_cmp, w_chain, w_and, w_or, w_ite, w_not, w_nil, w_cons, w_tup, w_lst, w_ix, w_no, w_yes, w_sl, w_call, w_bi, w_val, w_rng1, w_rng2, s_nil, s_cons, s_ret, s_expr, s_set, s_if, s_pass, s_setix, s_app, s_ext, o_addI, o_addS, o_addT, o_addL, o_sub, o_mulI, o_mulS, o_mulL, o_fdiv, o_mod, o_pow, c_ltI, c_ltS, c_le, c_gt, c_ge, c_eq, c_ne, e_ii, e_ss, e_bb, c_inS, c_notS, i_str, i_tup, i_ref, l_str, l_tup, l_rol, l_ref, b_lenS, b_lenT, b_lenR, b_abs, b_tupR, b_tupT, b_listR, b_listT, b_all, b_any, b_intI, b_intB, b_isiN, b_isiB, b_isiI, b_isiS, b_isiT, b_isiR, b_isiL, b_isN, b_notN, b_neg, b_rev, b_join, t_str, is_some, isB_some, byB_true, byB_false, start, wipe, bindT, List.map_cons, List.map_nil, List.cons_append, List.nil_append, List.append_nil, List.getElem?_cons_zero, List.getElem?_cons_succ, List.length_cons, List.length_nil, List.set_cons_zero, List.set_cons_succ, atI_0, atI_1, atI_2, atI_3, List.replicate, Nat.zero_add, Nat.reduceAdd, Nat.reduceSub, seqW_ref, seqW_tup, c_leS, b_iaddI, b_iaddS, b_isub, w_enum, w_rngd, w_lam, x_ite, w_zip, w_callv, s_setX, s_retX, s_exprX, s_raise, x_call, x_tup, xs_nil, xs_ok, xs_may, byX_tup, byX_exc, byV_tup, byV_str, byV_int, byV_bl, byV_non, byV_ref, byV_exc]
      refine ⟨trivial, trivial, fun _ => ?_⟩
      simp only [List.length_append, List.length_singleton, LIM]
      refine ⟨by decide, by omega, by decide, by omega, by decide, trivial, trivial⟩
    · have hmap : (((es.map eW).filter fun _ => true).map fun w => match w with | .tup [a, b] => W.tup [.tup (U ++ [a]), .tup (V ++ [b])] | w => w) = (stp f p).map wyW := by
        rw [sm, List.filter_eq_self.mpr (fun _ _ => rfl), List.map_map]
        rfl
      rw [hmap]
      have kp2 : Kp S' (S' ++ [.lst ((stp f p).map wyW)]) := .app _ _
      rw [rdL_of (kp2.get (rdL_iff.mp hL)), rdL_new]
      refine ⟨by rw [← List.map_append, ← ab, List.length_map]; simp only [LIM]; omega, _, _, _, rfl, (kp.trans kp2).snoc _, ?_⟩
      rw [ab, List.map_append]
      exact rdL_new _ _
  · obtain ⟨x5, x6, L, rfl, kp, hL⟩ := hI
    refine ⟨⟨_, Nat.le_refl _, by simp [Src.len, rdL_of (kp.get (rdL_iff.mp hF))]⟩, ?_⟩
    rw [List.take_length] at hL
    refine go _ _ L S' kp ?_
    rw [expd_succ]
    exact hL
end
end Pg
namespace Pg
open MP
def duW (p : Pth) : W := .tup ((lb p).map .int)
section
variable {ds : Nat → Option Def}
theorem expd_le {f : Nd → Option Eg} {d i : Nat} (ok : TreeOk f d) (hi : i ≤ d) : (expd f i [[]]).length ≤ 20 := by
  have := congrArg List.length (expd_lev f i)
  have := ok.wd i hi
  rw [List.length_map] at *
  omega
theorem ways_w (h693 : ds 693 = some ⟨2, 9, b_law_ways⟩) (k : Nat) {S : Sto} {T d : Nat} {f : Nd → Option Eg} (tr : TrAt S T f) (ok : TreeOk f d) (hd : d ≤ 400) {P : W → Sto → Prop}
    (go : ∀ j S2, Kp S S2 → rdL S2 j = some ((expd f d [[]]).map (outWy d)) → S.length ≤ j → P (.ref j) S2) : Is (callF ds (k + 1) 693 [.gref T, .int (d : Nat)] S) P := by
  refine w_callF h693 rfl ?_
  have eb : b_law_ways = .cons (hd1 b_law_ways) (.cons (.for_ [3] (.rng1 (.var 1)) wyB) (tl1 (tl1 b_law_ways))) := rfl
  rw [eb]
  generalize hB : wyB = wb
  generalize hT : tl1 (tl1 b_law_ways) = tl
  simp only [b_law_ways, hd1, w_var, w_c, w_bin, w_cmp, w_chain, w_and, w_or, w_ite, w_not, w_nil, w_cons, w_tup, w_lst, w_ix, w_no, w_yes, w_sl, w_call, w_bi, w_val, w_rng1, w_rng2, s_nil, s_cons, s_ret, s_expr, s_set, s_if, s_pass, s_setix, s_app, s_ext, o_addI, o_addS, o_addT, o_addL, o_sub, o_mulI, o_mulS, o_mulL, o_fdiv, o_mod, o_pow, c_ltI, c_ltS, c_le, c_gt, c_ge, c_eq, c_ne, e_ii, e_ss, e_bb, c_inS, c_notS, i_str, i_tup, i_ref, l_str, l_tup, l_rol, l_ref, b_lenS, b_lenT, b_lenR, b_abs, b_tupR, b_tupT, b_listR, b_listT, b_all, b_any, b_intI, b_intB, b_isiN, b_isiB, b_isiI, b_isiS, b_isiT, b_isiR, b_isiL, b_isN, b_notN, b_neg, b_rev, b_join, t_str, is_some, isB_some, byB_true, byB_false, start, wipe, bindT, List.map_cons, List.map_nil, List.cons_append, List.nil_append, List.append_nil, List.getElem?_cons_zero, List.getElem?_cons_succ, List.length_cons, List.length_nil, List.set_cons_zero, List.set_cons_succ, atI_0, atI_1, atI_2, atI_3, List.replicate, Nat.zero_add, Nat.reduceAdd, Nat.reduceSub, seqW_ref, seqW_tup, c_leS, b_iaddI, b_iaddS, b_isub, w_enum, w_rngd, w_lam, x_ite, w_zip, w_callv, s_setX, s_retX, s_exprX, s_raise, x_call, x_tup, xs_nil, xs_ok, xs_may, byX_tup, byX_exc, byV_tup, byV_str, byV_int, byV_bl, byV_non, byV_ref, byV_exc]
  refine ⟨by decide, by decide, by decide, by decide, ?_⟩
  subst hB
  refine w_for (n := d) (fun i env' S' => ∃ (F : Nat) (x3 x4 x5 x6 : Option W), env' = [some (.gref T), some (.int (d : Nat)), some (.ref F), x3, x4, x5, x6, none, none] ∧ Kp S S' ∧ rdL S' F = some ((expd f i [[]]).map wyW) ∧ i ≤ d) ?_
  try simp only [w_var, w_c, w_bin, w_cmp, w_chain, w_and, w_or, w_ite, w_not, w_nil, w_cons, w_tup, w_lst, w_ix, w_no, w_yes, w_sl, w_call, w_bi, w_val, w_rng1, w_rng2, s_nil, s_cons, s_ret, s_expr, s_set, s_if, s_pass, s_setix, s_app, s_ext, o_addI, o_addS, o_addT, o_addL, o_sub, o_mulI, o_mulS, o_mulL, o_fdiv, o_mod, o_pow, c_ltI, c_ltS, c_le, c_gt, c_ge, c_eq, c_ne, e_ii, e_ss, e_bb, c_inS, c_notS, i_str, i_tup, i_ref, l_str, l_tup, l_rol, l_ref, b_lenS, b_lenT, b_lenR, b_abs, b_tupR, b_tupT, b_listR, b_listT, b_all, b_any, b_intI, b_intB, b_isiN, b_isiB, b_isiI, b_isiS, b_isiT, b_isiR, b_isiL, b_isN, b_notN, b_neg, b_rev, b_join, t_str, is_some, isB_some, byB_true, byB_false, start, wipe, bindT, List.map_cons, List.map_nil, List.cons_append, List.nil_append, List.append_nil, List.getElem?_cons_zero, List.getElem?_cons_succ, List.length_cons, List.length_nil, List.set_cons_zero, List.set_cons_succ, atI_0, atI_1, atI_2, atI_3, List.replicate, Nat.zero_add, Nat.reduceAdd, Nat.reduceSub, seqW_ref, seqW_tup, c_leS, b_iaddI, b_iaddS, b_isub, w_enum, w_rngd, w_lam, x_ite, w_zip, w_callv, s_setX, s_retX, s_exprX, s_raise, x_call, x_tup, xs_nil, xs_ok, xs_may, byX_tup, byX_exc, byV_tup, byV_str, byV_int, byV_bl, byV_non, byV_ref, byV_exc]
  refine ⟨by unfold rngOk; simp; omega, by simp [Src.len], ⟨_, none, none, none, none, rfl, .app _ _, rdL_new _ _, by omega⟩, fun i env' S' hi hI => ?_, fun env' S' hI => ?_⟩
  · obtain ⟨F, x3, x4, x5, x6, rfl, kp, hF, _⟩ := hI
    refine ⟨.int (i : Nat), _, by simp [Src.item, hi], rfl, ?_⟩
    have eb : wyB = .cons (hd1 wyB) (.cons (.for_ [5, 6] (.val (.var 2)) wyI) (.cons (.set [2] (.var 4)) .nil)) := rfl
    rw [eb]
    generalize hB : wyI = wb
    simp only [wyB, b_law_ways, forB, hd1, tl1, w_var, w_c, w_bin, w_cmp, w_chain, w_and, w_or, w_ite, w_not, w_nil, w_cons, w_tup, w_lst, w_ix, w_no, w_yes, w_sl, w_call, w_bi, w_val, w_rng1, w_rng2, s_nil, s_cons, s_ret, s_expr, s_set, s_if, s_pass, s_setix, s_app, s_ext, o_addI, o_addS, o_addT, o_addL, o_sub, o_mulI, o_mulS, o_mulL, o_fdiv, o_mod, o_pow, c_ltI, c_ltS, c_le, c_gt, c_ge, c_eq, c_ne, e_ii, e_ss, e_bb, c_inS, c_notS, i_str, i_tup, i_ref, l_str, l_tup, l_rol, l_ref, b_lenS, b_lenT, b_lenR, b_abs, b_tupR, b_tupT, b_listR, b_listT, b_all, b_any, b_intI, b_intB, b_isiN, b_isiB, b_isiI, b_isiS, b_isiT, b_isiR, b_isiL, b_isN, b_notN, b_neg, b_rev, b_join, t_str, is_some, isB_some, byB_true, byB_false, start, wipe, bindT, List.map_cons, List.map_nil, List.cons_append, List.nil_append, List.append_nil, List.getElem?_cons_zero, List.getElem?_cons_succ, List.length_cons, List.length_nil, List.set_cons_zero, List.set_cons_succ, atI_0, atI_1, atI_2, atI_3, List.replicate, Nat.zero_add, Nat.reduceAdd, Nat.reduceSub, seqW_ref, seqW_tup, c_leS, b_iaddI, b_iaddS, b_isub, w_enum, w_rngd, w_lam, x_ite, w_zip, w_callv, s_setX, s_retX, s_exprX, s_raise, x_call, x_tup, xs_nil, xs_ok, xs_may, byX_tup, byX_exc, byV_tup, byV_str, byV_int, byV_bl, byV_non, byV_ref, byV_exc]
    refine ⟨by decide, ?_⟩
    subst hB
    have k2 : Kp S' (S' ++ [.lst []]) := .app _ _
    refine inner_w ((tr.kp kp).kp k2) ok hi hd (rdL_of (k2.get (rdL_iff.mp hF))) (rdL_new _ _) _ _ fun y5 y6 L S2 k3 hL => ?_
    try simp only [w_var, w_c, w_bin, w_cmp, w_chain, w_and, w_or, w_ite, w_not, w_nil, w_cons, w_tup, w_lst, w_ix, w_no, w_yes, w_sl, w_call, w_bi, w_val, w_rng1, w_rng2, s_nil, s_cons, s_ret, s_expr, s_set, s_if, s_pass, s_setix, s_app, s_ext, o_addI, o_addS, o_addT, o_addL, o_sub, o_mulI, o_mulS, o_mulL, o_fdiv, o_mod, o_pow, c_ltI, c_ltS, c_le, c_gt, c_ge, c_eq, c_ne, e_ii, e_ss, e_bb, c_inS, c_notS, i_str, i_tup, i_ref, l_str, l_tup, l_rol, l_ref, b_lenS, b_lenT, b_lenR, b_abs, b_tupR, b_tupT, b_listR, b_listT, b_all, b_any, b_intI, b_intB, b_isiN, b_isiB, b_isiI, b_isiS, b_isiT, b_isiR, b_isiL, b_isN, b_notN, b_neg, b_rev, b_join, t_str, is_some, isB_some, byB_true, byB_false, start, wipe, bindT, List.map_cons, List.map_nil, List.cons_append, List.nil_append, List.append_nil, List.getElem?_cons_zero, List.getElem?_cons_succ, List.length_cons, List.length_nil, List.set_cons_zero, List.set_cons_succ, atI_0, atI_1, atI_2, atI_3, List.replicate, Nat.zero_add, Nat.reduceAdd, Nat.reduceSub, seqW_ref, seqW_tup, c_leS, b_iaddI, b_iaddS, b_isub, w_enum, w_rngd, w_lam, x_ite, w_zip, w_callv, s_setX, s_retX, s_exprX, s_raise, x_call, x_tup, xs_nil, xs_ok, xs_may, byX_tup, byX_exc, byV_tup, byV_str, byV_int, byV_bl, byV_non, byV_ref, byV_exc]
    exact ⟨L, _, _, _, _, rfl, (kp.trans k2).trans k3, hL, by omega⟩
  · obtain ⟨F, x3, x4, x5, x6, rfl, kp, hF, _⟩ := hI
    refine ⟨⟨d, Nat.le_refl _, by simp [Src.len]⟩, ?_⟩
    subst hT
    simp only [b_law_ways, tl1, w_var, w_c, w_bin, w_cmp, w_chain, w_and, w_or, w_ite, w_not, w_nil, w_cons, w_tup, w_lst, w_ix, w_no, w_yes, w_sl, w_call, w_bi, w_val, w_rng1, w_rng2, s_nil, s_cons, s_ret, s_expr, s_set, s_if, s_pass, s_setix, s_app, s_ext, o_addI, o_addS, o_addT, o_addL, o_sub, o_mulI, o_mulS, o_mulL, o_fdiv, o_mod, o_pow, c_ltI, c_ltS, c_le, c_gt, c_ge, c_eq, c_ne, e_ii, e_ss, e_bb, c_inS, c_notS, i_str, i_tup, i_ref, l_str, l_tup, l_rol, l_ref, b_lenS, b_lenT, b_lenR, b_abs, b_tupR, b_tupT, b_listR, b_listT, b_all, b_any, b_intI, b_intB, b_isiN, b_isiB, b_isiI, b_isiS, b_isiT, b_isiR, b_isiL, b_isN, b_notN, b_neg, b_rev, b_join, t_str, is_some, isB_some, byB_true, byB_false, start, wipe, bindT, List.map_cons, List.map_nil, List.cons_append, List.nil_append, List.append_nil, List.getElem?_cons_zero, List.getElem?_cons_succ, List.length_cons, List.length_nil, List.set_cons_zero, List.set_cons_succ, atI_0, atI_1, atI_2, atI_3, List.replicate, Nat.zero_add, Nat.reduceAdd, Nat.reduceSub, seqW_ref, seqW_tup, c_leS, b_iaddI, b_iaddS, b_isub, w_enum, w_rngd, w_lam, x_ite, w_zip, w_callv, s_setX, s_retX, s_exprX, s_raise, x_call, x_tup, xs_nil, xs_ok, xs_may, byX_tup, byX_exc, byV_tup, byV_str, byV_int, byV_bl, byV_non, byV_ref, byV_exc]
    have le := expd_le ok (Nat.le_refl d)
    refine w_compP ((expd f d [[]]).map wyW) (fun _ => true) (fun w => match w with | .tup [a, .tup b] => .tup [a, .tup (b.take d)] | w => w) (by rw [List.length_map]; simp only [LIM]; omega) ?_
    try simp only [w_var, w_c, w_bin, w_cmp, w_chain, w_and, w_or, w_ite, w_not, w_nil, w_cons, w_tup, w_lst, w_ix, w_no, w_yes, w_sl, w_call, w_bi, w_val, w_rng1, w_rng2, s_nil, s_cons, s_ret, s_expr, s_set, s_if, s_pass, s_setix, s_app, s_ext, o_addI, o_addS, o_addT, o_addL, o_sub, o_mulI, o_mulS, o_mulL, o_fdiv, o_mod, o_pow, c_ltI, c_ltS, c_le, c_gt, c_ge, c_eq, c_ne, e_ii, e_ss, e_bb, c_inS, c_notS, i_str, i_tup, i_ref, l_str, l_tup, l_rol, l_ref, b_lenS, b_lenT, b_lenR, b_abs, b_tupR, b_tupT, b_listR, b_listT, b_all, b_any, b_intI, b_intB, b_isiN, b_isiB, b_isiI, b_isiS, b_isiT, b_isiR, b_isiL, b_isN, b_notN, b_neg, b_rev, b_join, t_str, is_some, isB_some, byB_true, byB_false, start, wipe, bindT, List.map_cons, List.map_nil, List.cons_append, List.nil_append, List.append_nil, List.getElem?_cons_zero, List.getElem?_cons_succ, List.length_cons, List.length_nil, List.set_cons_zero, List.set_cons_succ, atI_0, atI_1, atI_2, atI_3, List.replicate, Nat.zero_add, Nat.reduceAdd, Nat.reduceSub, seqW_ref, seqW_tup, c_leS, b_iaddI, b_iaddS, b_isub, w_enum, w_rngd, w_lam, x_ite, w_zip, w_callv, s_setX, s_retX, s_exprX, s_raise, x_call, x_tup, xs_nil, xs_ok, xs_may, byX_tup, byX_exc, byV_tup, byV_str, byV_int, byV_bl, byV_non, byV_ref, byV_exc]
    refine ⟨by simp [Src.items, hF], fun x hx => ?_, ?_⟩
    · obtain ⟨p, hp, rfl⟩ := List.mem_map.mp hx
      refine ⟨_, rfl, ?_⟩
      simp only [wyW, w_var, w_c, w_bin, w_cmp, w_chain, w_and, w_or, w_ite, w_not, w_nil, w_cons, w_tup, w_lst, w_ix, w_no, w_yes, w_sl, w_call, w_bi, w_val, w_rng1, w_rng2, s_nil, s_cons, s_ret, s_expr, s_set, s_if, s_pass, s_setix, s_app, s_ext, o_addI, o_addS, o_addT, o_addL, o_sub, o_mulI, o_mulS, o_mulL, o_fdiv, o_mod, o_pow, c_ltI, c_ltS, c_le, c_gt, c_ge, c_eq, c_ne, e_ii, e_ss, e_bb, c_inS, c_notS, i_str, i_tup, i_ref, l_str, l_tup, l_rol, l_ref, b_lenS, b_lenT, b_lenR, b_abs, b_tupR, b_tupT, b_listR, b_listT, b_all, b_any, b_intI, b_intB, b_isiN, b_isiB, b_isiI, b_isiS, b_isiT, b_isiR, b_isiL, b_isN, b_notN, b_neg, b_rev, b_join, t_str, is_some, isB_some, byB_true, byB_false, start, wipe, bindT, List.map_cons, List.map_nil, List.cons_append, List.nil_append, List.append_nil, List.getElem?_cons_zero, List.getElem?_cons_succ, List.length_cons, List.length_nil, List.set_cons_zero, List.set_cons_succ, atI_0, atI_1, atI_2, atI_3, List.replicate, Nat.zero_add, Nat.reduceAdd, Nat.reduceSub, seqW_ref, seqW_tup, c_leS, b_iaddI, b_iaddS, b_isub, w_enum, w_rngd, w_lam, x_ite, w_zip, w_callv, s_setX, s_retX, s_exprX, s_raise, x_call, x_tup, xs_nil, xs_ok, xs_may, byX_tup, byX_exc, byV_tup, byV_str, byV_int, byV_bl, byV_non, byV_ref, byV_exc, cut_to]
      exact ⟨trivial, trivial, fun _ => ⟨by decide, trivial, trivial⟩⟩
    · have hmap : ((((expd f d [[]]).map wyW).filter fun _ => true).map fun w => match w with | .tup [a, .tup b] => W.tup [a, .tup (b.take d)] | w => w) = (expd f d [[]]).map (outWy d) := by
        rw [List.filter_eq_self.mpr (fun _ _ => rfl), List.map_map]
        refine List.map_congr_left fun p _ => ?_
        simp only [Function.comp, wyW, outWy]
        rw [List.map_take]
      rw [hmap]
      exact go _ _ (kp.snoc _) (rdL_new _ _) kp.1
end
end Pg
namespace Pg
open MP
section
variable {ds : Nat → Option Def}
theorem zipT_self (l : List Int) : zipT (l.map W.int) (l.map W.int) = l.map fun i => W.tup [.int i, .int i] := by
  induction l with
  | nil => rfl
  | cons i l ih =>
    simp only [List.map_cons]
    unfold zipT
    rw [ih]
theorem alike_w (h694 : ds 694 = some ⟨2, 4, b_law_alike⟩) (k : Nat) {S : Sto} (p : Pth) (hp : p.length ≤ 1000) {P : W → Sto → Prop} (go : ∀ S2, Kp S S2 → P (.bl true) S2) : Is (callF ds (k + 1) 694 [duW p, duW p] S) P := by
  refine w_callF h694 rfl ?_
  have hl : (lb p).length ≤ 1000 := by simp [lb]; exact hp
  simp only [b_law_alike, duW, w_var, w_c, w_bin, w_cmp, w_chain, w_and, w_or, w_ite, w_not, w_nil, w_cons, w_tup, w_lst, w_ix, w_no, w_yes, w_sl, w_call, w_bi, w_val, w_rng1, w_rng2, s_nil, s_cons, s_ret, s_expr, s_set, s_if, s_pass, s_setix, s_app, s_ext, o_addI, o_addS, o_addT, o_addL, o_sub, o_mulI, o_mulS, o_mulL, o_fdiv, o_mod, o_pow, c_ltI, c_ltS, c_le, c_gt, c_ge, c_eq, c_ne, e_ii, e_ss, e_bb, c_inS, c_notS, i_str, i_tup, i_ref, l_str, l_tup, l_rol, l_ref, b_lenS, b_lenT, b_lenR, b_abs, b_tupR, b_tupT, b_listR, b_listT, b_all, b_any, b_intI, b_intB, b_isiN, b_isiB, b_isiI, b_isiS, b_isiT, b_isiR, b_isiL, b_isN, b_notN, b_neg, b_rev, b_join, t_str, is_some, isB_some, byB_true, byB_false, start, wipe, bindT, List.map_cons, List.map_nil, List.cons_append, List.nil_append, List.append_nil, List.getElem?_cons_zero, List.getElem?_cons_succ, List.length_cons, List.length_nil, List.set_cons_zero, List.set_cons_succ, atI_0, atI_1, atI_2, atI_3, List.replicate, Nat.zero_add, Nat.reduceAdd, Nat.reduceSub, seqW_ref, seqW_tup, c_leS, b_iaddI, b_iaddS, b_isub, w_enum, w_rngd, w_lam, x_ite, w_zip, w_callv, s_setX, s_retX, s_exprX, s_raise, x_call, x_tup, xs_nil, xs_ok, xs_may, byX_tup, byX_exc, byV_tup, byV_str, byV_int, byV_bl, byV_non, byV_ref, byV_exc]
  rw [show isT 3 (.tup ((lb p).map W.int)) = true from rfl]
  try simp only [w_var, w_c, w_bin, w_cmp, w_chain, w_and, w_or, w_ite, w_not, w_nil, w_cons, w_tup, w_lst, w_ix, w_no, w_yes, w_sl, w_call, w_bi, w_val, w_rng1, w_rng2, s_nil, s_cons, s_ret, s_expr, s_set, s_if, s_pass, s_setix, s_app, s_ext, o_addI, o_addS, o_addT, o_addL, o_sub, o_mulI, o_mulS, o_mulL, o_fdiv, o_mod, o_pow, c_ltI, c_ltS, c_le, c_gt, c_ge, c_eq, c_ne, e_ii, e_ss, e_bb, c_inS, c_notS, i_str, i_tup, i_ref, l_str, l_tup, l_rol, l_ref, b_lenS, b_lenT, b_lenR, b_abs, b_tupR, b_tupT, b_listR, b_listT, b_all, b_any, b_intI, b_intB, b_isiN, b_isiB, b_isiI, b_isiS, b_isiT, b_isiR, b_isiL, b_isN, b_notN, b_neg, b_rev, b_join, t_str, is_some, isB_some, byB_true, byB_false, start, wipe, bindT, List.map_cons, List.map_nil, List.cons_append, List.nil_append, List.append_nil, List.getElem?_cons_zero, List.getElem?_cons_succ, List.length_cons, List.length_nil, List.set_cons_zero, List.set_cons_succ, atI_0, atI_1, atI_2, atI_3, List.replicate, Nat.zero_add, Nat.reduceAdd, Nat.reduceSub, seqW_ref, seqW_tup, c_leS, b_iaddI, b_iaddS, b_isub, w_enum, w_rngd, w_lam, x_ite, w_zip, w_callv, s_setX, s_retX, s_exprX, s_raise, x_call, x_tup, xs_nil, xs_ok, xs_may, byX_tup, byX_exc, byV_tup, byV_str, byV_int, byV_bl, byV_non, byV_ref, byV_exc]
  refine byB_dec _ _ _ (fun z => ?_) (fun z => ?_)
  · simp at z
  · refine w_compP ((lb p).map fun i => W.tup [.int i, .int i]) (fun _ => false) (fun w => w) (by rw [List.length_map]; simp only [LIM]; omega) ?_
    try simp only [w_var, w_c, w_bin, w_cmp, w_chain, w_and, w_or, w_ite, w_not, w_nil, w_cons, w_tup, w_lst, w_ix, w_no, w_yes, w_sl, w_call, w_bi, w_val, w_rng1, w_rng2, s_nil, s_cons, s_ret, s_expr, s_set, s_if, s_pass, s_setix, s_app, s_ext, o_addI, o_addS, o_addT, o_addL, o_sub, o_mulI, o_mulS, o_mulL, o_fdiv, o_mod, o_pow, c_ltI, c_ltS, c_le, c_gt, c_ge, c_eq, c_ne, e_ii, e_ss, e_bb, c_inS, c_notS, i_str, i_tup, i_ref, l_str, l_tup, l_rol, l_ref, b_lenS, b_lenT, b_lenR, b_abs, b_tupR, b_tupT, b_listR, b_listT, b_all, b_any, b_intI, b_intB, b_isiN, b_isiB, b_isiI, b_isiS, b_isiT, b_isiR, b_isiL, b_isN, b_notN, b_neg, b_rev, b_join, t_str, is_some, isB_some, byB_true, byB_false, start, wipe, bindT, List.map_cons, List.map_nil, List.cons_append, List.nil_append, List.append_nil, List.getElem?_cons_zero, List.getElem?_cons_succ, List.length_cons, List.length_nil, List.set_cons_zero, List.set_cons_succ, atI_0, atI_1, atI_2, atI_3, List.replicate, Nat.zero_add, Nat.reduceAdd, Nat.reduceSub, seqW_ref, seqW_tup, c_leS, b_iaddI, b_iaddS, b_isub, w_enum, w_rngd, w_lam, x_ite, w_zip, w_callv, s_setX, s_retX, s_exprX, s_raise, x_call, x_tup, xs_nil, xs_ok, xs_may, byX_tup, byX_exc, byV_tup, byV_str, byV_int, byV_bl, byV_non, byV_ref, byV_exc]
    refine ⟨by simp [Src.items, zipT_self], fun x hx => ?_, ?_⟩
    · obtain ⟨i, hi, rfl⟩ := List.mem_map.mp hx
      refine ⟨_, rfl, ?_⟩
      try simp only [w_var, w_c, w_bin, w_cmp, w_chain, w_and, w_or, w_ite, w_not, w_nil, w_cons, w_tup, w_lst, w_ix, w_no, w_yes, w_sl, w_call, w_bi, w_val, w_rng1, w_rng2, s_nil, s_cons, s_ret, s_expr, s_set, s_if, s_pass, s_setix, s_app, s_ext, o_addI, o_addS, o_addT, o_addL, o_sub, o_mulI, o_mulS, o_mulL, o_fdiv, o_mod, o_pow, c_ltI, c_ltS, c_le, c_gt, c_ge, c_eq, c_ne, e_ii, e_ss, e_bb, c_inS, c_notS, i_str, i_tup, i_ref, l_str, l_tup, l_rol, l_ref, b_lenS, b_lenT, b_lenR, b_abs, b_tupR, b_tupT, b_listR, b_listT, b_all, b_any, b_intI, b_intB, b_isiN, b_isiB, b_isiI, b_isiS, b_isiT, b_isiR, b_isiL, b_isN, b_notN, b_neg, b_rev, b_join, t_str, is_some, isB_some, byB_true, byB_false, start, wipe, bindT, List.map_cons, List.map_nil, List.cons_append, List.nil_append, List.append_nil, List.getElem?_cons_zero, List.getElem?_cons_succ, List.length_cons, List.length_nil, List.set_cons_zero, List.set_cons_succ, atI_0, atI_1, atI_2, atI_3, List.replicate, Nat.zero_add, Nat.reduceAdd, Nat.reduceSub, seqW_ref, seqW_tup, c_leS, b_iaddI, b_iaddS, b_isub, w_enum, w_rngd, w_lam, x_ite, w_zip, w_callv, s_setX, s_retX, s_exprX, s_raise, x_call, x_tup, xs_nil, xs_ok, xs_may, byX_tup, byX_exc, byV_tup, byV_str, byV_int, byV_bl, byV_non, byV_ref, byV_exc]
      rw [show isT 2 (.int i) = false from rfl]
      try simp only [w_var, w_c, w_bin, w_cmp, w_chain, w_and, w_or, w_ite, w_not, w_nil, w_cons, w_tup, w_lst, w_ix, w_no, w_yes, w_sl, w_call, w_bi, w_val, w_rng1, w_rng2, s_nil, s_cons, s_ret, s_expr, s_set, s_if, s_pass, s_setix, s_app, s_ext, o_addI, o_addS, o_addT, o_addL, o_sub, o_mulI, o_mulS, o_mulL, o_fdiv, o_mod, o_pow, c_ltI, c_ltS, c_le, c_gt, c_ge, c_eq, c_ne, e_ii, e_ss, e_bb, c_inS, c_notS, i_str, i_tup, i_ref, l_str, l_tup, l_rol, l_ref, b_lenS, b_lenT, b_lenR, b_abs, b_tupR, b_tupT, b_listR, b_listT, b_all, b_any, b_intI, b_intB, b_isiN, b_isiB, b_isiI, b_isiS, b_isiT, b_isiR, b_isiL, b_isN, b_notN, b_neg, b_rev, b_join, t_str, is_some, isB_some, byB_true, byB_false, start, wipe, bindT, List.map_cons, List.map_nil, List.cons_append, List.nil_append, List.append_nil, List.getElem?_cons_zero, List.getElem?_cons_succ, List.length_cons, List.length_nil, List.set_cons_zero, List.set_cons_succ, atI_0, atI_1, atI_2, atI_3, List.replicate, Nat.zero_add, Nat.reduceAdd, Nat.reduceSub, seqW_ref, seqW_tup, c_leS, b_iaddI, b_iaddS, b_isub, w_enum, w_rngd, w_lam, x_ite, w_zip, w_callv, s_setX, s_retX, s_exprX, s_raise, x_call, x_tup, xs_nil, xs_ok, xs_may, byX_tup, byX_exc, byV_tup, byV_str, byV_int, byV_bl, byV_non, byV_ref, byV_exc]
      exact ⟨by simp, trivial, fun h => by cases h⟩
    · rw [List.filter_eq_nil_iff.mpr (by simp)]
      try simp only [w_var, w_c, w_bin, w_cmp, w_chain, w_and, w_or, w_ite, w_not, w_nil, w_cons, w_tup, w_lst, w_ix, w_no, w_yes, w_sl, w_call, w_bi, w_val, w_rng1, w_rng2, s_nil, s_cons, s_ret, s_expr, s_set, s_if, s_pass, s_setix, s_app, s_ext, o_addI, o_addS, o_addT, o_addL, o_sub, o_mulI, o_mulS, o_mulL, o_fdiv, o_mod, o_pow, c_ltI, c_ltS, c_le, c_gt, c_ge, c_eq, c_ne, e_ii, e_ss, e_bb, c_inS, c_notS, i_str, i_tup, i_ref, l_str, l_tup, l_rol, l_ref, b_lenS, b_lenT, b_lenR, b_abs, b_tupR, b_tupT, b_listR, b_listT, b_all, b_any, b_intI, b_intB, b_isiN, b_isiB, b_isiI, b_isiS, b_isiT, b_isiR, b_isiL, b_isN, b_notN, b_neg, b_rev, b_join, t_str, is_some, isB_some, byB_true, byB_false, start, wipe, bindT, List.map_cons, List.map_nil, List.cons_append, List.nil_append, List.append_nil, List.getElem?_cons_zero, List.getElem?_cons_succ, List.length_cons, List.length_nil, List.set_cons_zero, List.set_cons_succ, atI_0, atI_1, atI_2, atI_3, List.replicate, Nat.zero_add, Nat.reduceAdd, Nat.reduceSub, seqW_ref, seqW_tup, c_leS, b_iaddI, b_iaddS, b_isub, w_enum, w_rngd, w_lam, x_ite, w_zip, w_callv, s_setX, s_retX, s_exprX, s_raise, x_call, x_tup, xs_nil, xs_ok, xs_may, byX_tup, byX_exc, byV_tup, byV_str, byV_int, byV_bl, byV_non, byV_ref, byV_exc]
      have ha : rdL (S ++ [SO.lst []] ++ [SO.lst []]) S.length = some [] := rdL_of ((Kp.app (S ++ [SO.lst []]) _).get (rdL_iff.mp (rdL_new S [])))
      rw [eqW_nil (ds := []) ha rfl (rdL_new _ _)]
      refine ⟨by decide, ?_⟩
      try simp only [w_var, w_c, w_bin, w_cmp, w_chain, w_and, w_or, w_ite, w_not, w_nil, w_cons, w_tup, w_lst, w_ix, w_no, w_yes, w_sl, w_call, w_bi, w_val, w_rng1, w_rng2, s_nil, s_cons, s_ret, s_expr, s_set, s_if, s_pass, s_setix, s_app, s_ext, o_addI, o_addS, o_addT, o_addL, o_sub, o_mulI, o_mulS, o_mulL, o_fdiv, o_mod, o_pow, c_ltI, c_ltS, c_le, c_gt, c_ge, c_eq, c_ne, e_ii, e_ss, e_bb, c_inS, c_notS, i_str, i_tup, i_ref, l_str, l_tup, l_rol, l_ref, b_lenS, b_lenT, b_lenR, b_abs, b_tupR, b_tupT, b_listR, b_listT, b_all, b_any, b_intI, b_intB, b_isiN, b_isiB, b_isiI, b_isiS, b_isiT, b_isiR, b_isiL, b_isN, b_notN, b_neg, b_rev, b_join, t_str, is_some, isB_some, byB_true, byB_false, start, wipe, bindT, List.map_cons, List.map_nil, List.cons_append, List.nil_append, List.append_nil, List.getElem?_cons_zero, List.getElem?_cons_succ, List.length_cons, List.length_nil, List.set_cons_zero, List.set_cons_succ, atI_0, atI_1, atI_2, atI_3, List.replicate, Nat.zero_add, Nat.reduceAdd, Nat.reduceSub, seqW_ref, seqW_tup, c_leS, b_iaddI, b_iaddS, b_isub, w_enum, w_rngd, w_lam, x_ite, w_zip, w_callv, s_setX, s_retX, s_exprX, s_raise, x_call, x_tup, xs_nil, xs_ok, xs_may, byX_tup, byX_exc, byV_tup, byV_str, byV_int, byV_bl, byV_non, byV_ref, byV_exc]
      exact go _ (((Kp.refl _).snoc _).snoc _)
end
end Pg
namespace Pg
open MP
section
variable {Φ : Fns} {env : Env} {S : Sto} {P : W → Sto → Prop}
theorem x_meth {t : List (List Nat × Nat)} {m : List Nat} {o : CE} : Is (evx Φ (.meth t m o) env S) P = Is (ev Φ o env S) fun x S1 => Is (methW Φ t m .nil env x S1) P := by
  simp only [evx]
  cases ev Φ o env S with
  | none => simp only [is_none]
  | some q =>
    obtain ⟨x, S1⟩ := q
    simp only [is_sq]
    cases x <;> simp only [methW, is_none, evs] <;> try rfl
end
abbrev sTold : List Nat := [116, 111, 108, 100]
abbrev sRais : List Nat := [114, 97, 105, 115, 101, 100]
theorem trl_ne {S : Sto} {i c d G : Nat} {f : Nd → Option Eg} {R : List Pth} {lg : List Nd} (h : Wk S i c d f R) (hG : rdL S G = some (lg.map nW)) (h0 : 0 < d) : TrlNe S i c d G := by
  intro j a p e hp z
  subst z
  have ne : p = [] := by
    rw [hG] at hp
    cases p with
    | nil => rfl
    | cons x r =>
      cases lg with
      | nil => simp at hp
      | cons n lg =>
        simp only [List.map_cons, Option.some.injEq, List.cons.injEq] at hp
        obtain ⟨hp, _⟩ := hp
        cases n <;> cases hp
  subst ne
  cases h with
  | fresh e2 => rw [e2] at e; cases e
  | over e2 => rw [e2] at e; cases e
  | @given a2 j2 p2 e2 n hp2 g l =>
    rw [e2] at e
    cases e
    rw [hp] at hp2
    cases p2 with
    | nil => simp at l; omega
    | cons x r => simp at hp2
/-- what the law's try tells -/
inductive Lm (c d G : Nat) (F0 : List Int) (f : Nd → Option Eg) (i : Nat) (lg : List Nd) : List Pth → W → Sto → Prop
  | no {S' : Sto} : Wk S' i c d f [] → rdL S' G = some (lg.map nW) → Lm c d G F0 f i lg [] (.tup [.str sTold, .non]) S'
  | yes {S' : Sto} {p : Pth} {R : List Pth} {ask : List Nd} : Wk S' i c d f R → ask.length ≤ d → rdL S' G = some ((lg ++ ask).map nW) → Lm c d G F0 f i lg (p :: R) (.tup [.str sTold, duW p]) S'
  | rs {S' : Sto} {R : List Pth} {ask : List Nd} : Wk S' i c d f R → 0 < ask.length → ask.length ≤ d → (((lg ++ ask).length : Nat) : Int) ∈ F0 → rdL S' G = some ((lg ++ ask).map nW) → Lm c d G F0 f i lg R (.tup [.str sRais, .int ((lg ++ ask).length : Nat)]) S'
section
variable {ds : Nat → Option Def}
theorem w_fldP {Φ : Fns} {n : Nat} {S : Sto} {P : W → Sto → Prop} : Is (withX Φ cU [(fP, .int (n : Nat))] 99999 [.str [112, 108, 97, 99, 101]] S) P = P (.int (n : Nat)) S := w_fldX rfl
theorem w_fldN {Φ : Fns} {n : Nat} {S : Sto} {P : W → Sto → Prop} : Is (withX Φ cN [(fN, .int (n : Nat))] 99999 [.str [110, 97, 109, 101]] S) P = P (.int (n : Nat)) S := w_fldX rfl
theorem lm_w (C : WkC ds) (h699 : ds 699 = some ⟨1, 3, b_law_more⟩) (hl : Ask7 ds) (k : Nat) {S : Sto} {i c T G F d : Nat} {kd : Int} {F0 : List Int} {f : Nd → Option Eg} {R : List Pth} {lg : List Nd} (hd : d ≤ 1000) (h0 : 0 < d) (wk : Wk S i c d f R) (lk : Lk (zv G T F kd) S) (hc : S[c]? = some (.clo 9001 (zv G T F kd))) (tr : TrAt S T f) (hG : rdL S G = some (lg.map nW)) (hF : rdL S F = some (F0.map .int)) (nF : F ≠ G) (hg : lg.length ≤ 100000) (ok : Gd f d none) {obj : List (List Nat × W)} (ho : S[i]? = some (.obj tW obj)) (hm : obj.lookup [109, 111, 114, 101] = none) :
    Is (callF ds (k + 5) 699 [.oref i] S) fun w S' => Lm c d G F0 f i lg R w S' ∧ K2 i G S S' ∧ Lk (zv G T F kd) S' := by
  refine w_callF (k := k + 4) h699 rfl ?_
  simp only [b_law_more, w_var, w_c, w_bin, w_cmp, w_chain, w_and, w_or, w_ite, w_not, w_nil, w_cons, w_tup, w_lst, w_ix, w_no, w_yes, w_sl, w_call, w_bi, w_val, w_rng1, w_rng2, s_nil, s_cons, s_ret, s_expr, s_set, s_if, s_pass, s_setix, s_app, s_ext, o_addI, o_addS, o_addT, o_addL, o_sub, o_mulI, o_mulS, o_mulL, o_fdiv, o_mod, o_pow, c_ltI, c_ltS, c_le, c_gt, c_ge, c_eq, c_ne, e_ii, e_ss, e_bb, c_inS, c_notS, i_str, i_tup, i_ref, l_str, l_tup, l_rol, l_ref, b_lenS, b_lenT, b_lenR, b_abs, b_tupR, b_tupT, b_listR, b_listT, b_all, b_any, b_intI, b_intB, b_isiN, b_isiB, b_isiI, b_isiS, b_isiT, b_isiR, b_isiL, b_isN, b_notN, b_neg, b_rev, b_join, t_str, is_some, isB_some, byB_true, byB_false, start, wipe, bindT, List.map_cons, List.map_nil, List.cons_append, List.nil_append, List.append_nil, List.getElem?_cons_zero, List.getElem?_cons_succ, List.length_cons, List.length_nil, List.set_cons_zero, List.set_cons_succ, atI_0, atI_1, atI_2, atI_3, List.replicate, Nat.zero_add, Nat.reduceAdd, Nat.reduceSub, seqW_ref, seqW_tup, c_leS, b_iaddI, b_iaddS, b_isub, w_enum, w_rngd, w_lam, x_ite, w_zip, w_callv, s_setX, s_retX, s_exprX, s_raise, x_call, x_tup, xs_nil, xs_ok, xs_may, byX_tup, byX_exc, byV_tup, byV_str, byV_int, byV_bl, byV_non, byV_ref, byV_exc, s_tryX, h_cons, h_nil, x_meth]
  refine ⟨by decide, ?_⟩
  rw [b_meth ho rfl hm]
  try simp only [w_var, w_c, w_bin, w_cmp, w_chain, w_and, w_or, w_ite, w_not, w_nil, w_cons, w_tup, w_lst, w_ix, w_no, w_yes, w_sl, w_call, w_bi, w_val, w_rng1, w_rng2, s_nil, s_cons, s_ret, s_expr, s_set, s_if, s_pass, s_setix, s_app, s_ext, o_addI, o_addS, o_addT, o_addL, o_sub, o_mulI, o_mulS, o_mulL, o_fdiv, o_mod, o_pow, c_ltI, c_ltS, c_le, c_gt, c_ge, c_eq, c_ne, e_ii, e_ss, e_bb, c_inS, c_notS, i_str, i_tup, i_ref, l_str, l_tup, l_rol, l_ref, b_lenS, b_lenT, b_lenR, b_abs, b_tupR, b_tupT, b_listR, b_listT, b_all, b_any, b_intI, b_intB, b_isiN, b_isiB, b_isiI, b_isiS, b_isiT, b_isiR, b_isiL, b_isN, b_notN, b_neg, b_rev, b_join, t_str, is_some, isB_some, byB_true, byB_false, start, wipe, bindT, List.map_cons, List.map_nil, List.cons_append, List.nil_append, List.append_nil, List.getElem?_cons_zero, List.getElem?_cons_succ, List.length_cons, List.length_nil, List.set_cons_zero, List.set_cons_succ, atI_0, atI_1, atI_2, atI_3, List.replicate, Nat.zero_add, Nat.reduceAdd, Nat.reduceSub, seqW_ref, seqW_tup, c_leS, b_iaddI, b_iaddS, b_isub, w_enum, w_rngd, w_lam, x_ite, w_zip, w_callv, s_setX, s_retX, s_exprX, s_raise, x_call, x_tup, xs_nil, xs_ok, xs_may, byX_tup, byX_exc, byV_tup, byV_str, byV_int, byV_bl, byV_non, byV_ref, byV_exc]
  refine (more_w C hl k hd wk (trl_ne wk hG h0) lk hc tr hG hF nF hg ok).imp fun w S1 hw => ?_
  obtain ⟨m, k2, lk1⟩ := hw
  cases m with
  | no w1 g1 =>
    try simp only [w_var, w_c, w_bin, w_cmp, w_chain, w_and, w_or, w_ite, w_not, w_nil, w_cons, w_tup, w_lst, w_ix, w_no, w_yes, w_sl, w_call, w_bi, w_val, w_rng1, w_rng2, s_nil, s_cons, s_ret, s_expr, s_set, s_if, s_pass, s_setix, s_app, s_ext, o_addI, o_addS, o_addT, o_addL, o_sub, o_mulI, o_mulS, o_mulL, o_fdiv, o_mod, o_pow, c_ltI, c_ltS, c_le, c_gt, c_ge, c_eq, c_ne, e_ii, e_ss, e_bb, c_inS, c_notS, i_str, i_tup, i_ref, l_str, l_tup, l_rol, l_ref, b_lenS, b_lenT, b_lenR, b_abs, b_tupR, b_tupT, b_listR, b_listT, b_all, b_any, b_intI, b_intB, b_isiN, b_isiB, b_isiI, b_isiS, b_isiT, b_isiR, b_isiL, b_isN, b_notN, b_neg, b_rev, b_join, t_str, is_some, isB_some, byB_true, byB_false, start, wipe, bindT, List.map_cons, List.map_nil, List.cons_append, List.nil_append, List.append_nil, List.getElem?_cons_zero, List.getElem?_cons_succ, List.length_cons, List.length_nil, List.set_cons_zero, List.set_cons_succ, atI_0, atI_1, atI_2, atI_3, List.replicate, Nat.zero_add, Nat.reduceAdd, Nat.reduceSub, seqW_ref, seqW_tup, c_leS, b_iaddI, b_iaddS, b_isub, w_enum, w_rngd, w_lam, x_ite, w_zip, w_callv, s_setX, s_retX, s_exprX, s_raise, x_call, x_tup, xs_nil, xs_ok, xs_may, byX_tup, byX_exc, byV_tup, byV_str, byV_int, byV_bl, byV_non, byV_ref, byV_exc]
    rw [if_neg (by decide)]
    exact ⟨by decide, .no w1 g1, k2, lk1⟩
  | yes w1 a1 g1 =>
    try simp only [w_var, w_c, w_bin, w_cmp, w_chain, w_and, w_or, w_ite, w_not, w_nil, w_cons, w_tup, w_lst, w_ix, w_no, w_yes, w_sl, w_call, w_bi, w_val, w_rng1, w_rng2, s_nil, s_cons, s_ret, s_expr, s_set, s_if, s_pass, s_setix, s_app, s_ext, o_addI, o_addS, o_addT, o_addL, o_sub, o_mulI, o_mulS, o_mulL, o_fdiv, o_mod, o_pow, c_ltI, c_ltS, c_le, c_gt, c_ge, c_eq, c_ne, e_ii, e_ss, e_bb, c_inS, c_notS, i_str, i_tup, i_ref, l_str, l_tup, l_rol, l_ref, b_lenS, b_lenT, b_lenR, b_abs, b_tupR, b_tupT, b_listR, b_listT, b_all, b_any, b_intI, b_intB, b_isiN, b_isiB, b_isiI, b_isiS, b_isiT, b_isiR, b_isiL, b_isN, b_notN, b_neg, b_rev, b_join, t_str, is_some, isB_some, byB_true, byB_false, start, wipe, bindT, List.map_cons, List.map_nil, List.cons_append, List.nil_append, List.append_nil, List.getElem?_cons_zero, List.getElem?_cons_succ, List.length_cons, List.length_nil, List.set_cons_zero, List.set_cons_succ, atI_0, atI_1, atI_2, atI_3, List.replicate, Nat.zero_add, Nat.reduceAdd, Nat.reduceSub, seqW_ref, seqW_tup, c_leS, b_iaddI, b_iaddS, b_isub, w_enum, w_rngd, w_lam, x_ite, w_zip, w_callv, s_setX, s_retX, s_exprX, s_raise, x_call, x_tup, xs_nil, xs_ok, xs_may, byX_tup, byX_exc, byV_tup, byV_str, byV_int, byV_bl, byV_non, byV_ref, byV_exc]
    rw [if_neg (by decide)]
    exact ⟨by decide, .yes w1 a1 g1, k2, lk1⟩
  | @rs _ _ ask w1 a0 a1 a2 g1 =>
    by_cases hk : kd = 0
    · rw [show erW kd (lg ++ ask).length = .exc cU [(fP, .int ((lg ++ ask).length : Nat))] from by unfold erW; rw [if_pos hk]]
      try simp only [w_var, w_c, w_bin, w_cmp, w_chain, w_and, w_or, w_ite, w_not, w_nil, w_cons, w_tup, w_lst, w_ix, w_no, w_yes, w_sl, w_call, w_bi, w_val, w_rng1, w_rng2, s_nil, s_cons, s_ret, s_expr, s_set, s_if, s_pass, s_setix, s_app, s_ext, o_addI, o_addS, o_addT, o_addL, o_sub, o_mulI, o_mulS, o_mulL, o_fdiv, o_mod, o_pow, c_ltI, c_ltS, c_le, c_gt, c_ge, c_eq, c_ne, e_ii, e_ss, e_bb, c_inS, c_notS, i_str, i_tup, i_ref, l_str, l_tup, l_rol, l_ref, b_lenS, b_lenT, b_lenR, b_abs, b_tupR, b_tupT, b_listR, b_listT, b_all, b_any, b_intI, b_intB, b_isiN, b_isiB, b_isiI, b_isiS, b_isiT, b_isiR, b_isiL, b_isN, b_notN, b_neg, b_rev, b_join, t_str, is_some, isB_some, byB_true, byB_false, start, wipe, bindT, List.map_cons, List.map_nil, List.cons_append, List.nil_append, List.append_nil, List.getElem?_cons_zero, List.getElem?_cons_succ, List.length_cons, List.length_nil, List.set_cons_zero, List.set_cons_succ, atI_0, atI_1, atI_2, atI_3, List.replicate, Nat.zero_add, Nat.reduceAdd, Nat.reduceSub, seqW_ref, seqW_tup, c_leS, b_iaddI, b_iaddS, b_isub, w_enum, w_rngd, w_lam, x_ite, w_zip, w_callv, s_setX, s_retX, s_exprX, s_raise, x_call, x_tup, xs_nil, xs_ok, xs_may, byX_tup, byX_exc, byV_tup, byV_str, byV_int, byV_bl, byV_non, byV_ref, byV_exc]
      rw [if_pos (by decide)]
      try simp only [w_var, w_c, w_bin, w_cmp, w_chain, w_and, w_or, w_ite, w_not, w_nil, w_cons, w_tup, w_lst, w_ix, w_no, w_yes, w_sl, w_call, w_bi, w_val, w_rng1, w_rng2, s_nil, s_cons, s_ret, s_expr, s_set, s_if, s_pass, s_setix, s_app, s_ext, o_addI, o_addS, o_addT, o_addL, o_sub, o_mulI, o_mulS, o_mulL, o_fdiv, o_mod, o_pow, c_ltI, c_ltS, c_le, c_gt, c_ge, c_eq, c_ne, e_ii, e_ss, e_bb, c_inS, c_notS, i_str, i_tup, i_ref, l_str, l_tup, l_rol, l_ref, b_lenS, b_lenT, b_lenR, b_abs, b_tupR, b_tupT, b_listR, b_listT, b_all, b_any, b_intI, b_intB, b_isiN, b_isiB, b_isiI, b_isiS, b_isiT, b_isiR, b_isiL, b_isN, b_notN, b_neg, b_rev, b_join, t_str, is_some, isB_some, byB_true, byB_false, start, wipe, bindT, List.map_cons, List.map_nil, List.cons_append, List.nil_append, List.append_nil, List.getElem?_cons_zero, List.getElem?_cons_succ, List.length_cons, List.length_nil, List.set_cons_zero, List.set_cons_succ, atI_0, atI_1, atI_2, atI_3, List.replicate, Nat.zero_add, Nat.reduceAdd, Nat.reduceSub, seqW_ref, seqW_tup, c_leS, b_iaddI, b_iaddS, b_isub, w_enum, w_rngd, w_lam, x_ite, w_zip, w_callv, s_setX, s_retX, s_exprX, s_raise, x_call, x_tup, xs_nil, xs_ok, xs_may, byX_tup, byX_exc, byV_tup, byV_str, byV_int, byV_bl, byV_non, byV_ref, byV_exc, w_fldP]
      exact ⟨by decide, .rs w1 a0 a1 a2 g1, k2, lk1⟩
    · rw [show erW kd (lg ++ ask).length = .exc cN [(fN, .int ((lg ++ ask).length : Nat))] from by unfold erW; rw [if_neg hk]]
      try simp only [w_var, w_c, w_bin, w_cmp, w_chain, w_and, w_or, w_ite, w_not, w_nil, w_cons, w_tup, w_lst, w_ix, w_no, w_yes, w_sl, w_call, w_bi, w_val, w_rng1, w_rng2, s_nil, s_cons, s_ret, s_expr, s_set, s_if, s_pass, s_setix, s_app, s_ext, o_addI, o_addS, o_addT, o_addL, o_sub, o_mulI, o_mulS, o_mulL, o_fdiv, o_mod, o_pow, c_ltI, c_ltS, c_le, c_gt, c_ge, c_eq, c_ne, e_ii, e_ss, e_bb, c_inS, c_notS, i_str, i_tup, i_ref, l_str, l_tup, l_rol, l_ref, b_lenS, b_lenT, b_lenR, b_abs, b_tupR, b_tupT, b_listR, b_listT, b_all, b_any, b_intI, b_intB, b_isiN, b_isiB, b_isiI, b_isiS, b_isiT, b_isiR, b_isiL, b_isN, b_notN, b_neg, b_rev, b_join, t_str, is_some, isB_some, byB_true, byB_false, start, wipe, bindT, List.map_cons, List.map_nil, List.cons_append, List.nil_append, List.append_nil, List.getElem?_cons_zero, List.getElem?_cons_succ, List.length_cons, List.length_nil, List.set_cons_zero, List.set_cons_succ, atI_0, atI_1, atI_2, atI_3, List.replicate, Nat.zero_add, Nat.reduceAdd, Nat.reduceSub, seqW_ref, seqW_tup, c_leS, b_iaddI, b_iaddS, b_isub, w_enum, w_rngd, w_lam, x_ite, w_zip, w_callv, s_setX, s_retX, s_exprX, s_raise, x_call, x_tup, xs_nil, xs_ok, xs_may, byX_tup, byX_exc, byV_tup, byV_str, byV_int, byV_bl, byV_non, byV_ref, byV_exc]
      rw [if_neg (by decide), if_pos (by decide)]
      try simp only [w_var, w_c, w_bin, w_cmp, w_chain, w_and, w_or, w_ite, w_not, w_nil, w_cons, w_tup, w_lst, w_ix, w_no, w_yes, w_sl, w_call, w_bi, w_val, w_rng1, w_rng2, s_nil, s_cons, s_ret, s_expr, s_set, s_if, s_pass, s_setix, s_app, s_ext, o_addI, o_addS, o_addT, o_addL, o_sub, o_mulI, o_mulS, o_mulL, o_fdiv, o_mod, o_pow, c_ltI, c_ltS, c_le, c_gt, c_ge, c_eq, c_ne, e_ii, e_ss, e_bb, c_inS, c_notS, i_str, i_tup, i_ref, l_str, l_tup, l_rol, l_ref, b_lenS, b_lenT, b_lenR, b_abs, b_tupR, b_tupT, b_listR, b_listT, b_all, b_any, b_intI, b_intB, b_isiN, b_isiB, b_isiI, b_isiS, b_isiT, b_isiR, b_isiL, b_isN, b_notN, b_neg, b_rev, b_join, t_str, is_some, isB_some, byB_true, byB_false, start, wipe, bindT, List.map_cons, List.map_nil, List.cons_append, List.nil_append, List.append_nil, List.getElem?_cons_zero, List.getElem?_cons_succ, List.length_cons, List.length_nil, List.set_cons_zero, List.set_cons_succ, atI_0, atI_1, atI_2, atI_3, List.replicate, Nat.zero_add, Nat.reduceAdd, Nat.reduceSub, seqW_ref, seqW_tup, c_leS, b_iaddI, b_iaddS, b_isub, w_enum, w_rngd, w_lam, x_ite, w_zip, w_callv, s_setX, s_retX, s_exprX, s_raise, x_call, x_tup, xs_nil, xs_ok, xs_may, byX_tup, byX_exc, byV_tup, byV_str, byV_int, byV_bl, byV_non, byV_ref, byV_exc, w_fldN]
      exact ⟨by decide, .rs w1 a0 a1 a2 g1, k2, lk1⟩
end
end Pg
namespace Pg
open MP
/-- all but i and g stands, closures that see nothing among it -/
def Kz (i g : Nat) (S S' : Sto) : Prop := ∀ k o, S[k]? = some o → k ≠ i → k ≠ g → relock1 [] o = o → S'[k]? = some o
theorem K2.kz {i g : Nat} {ws : List W} {S S' : Sto} (h : K2 i g (relock ws S) S') : Kz i g S (relock [] S') := fun k o e hk hg hz => by
  have e1 : (relock ws S)[k]? = some (relock1 ws o) := by rw [relock_at, e]; rfl
  rw [relock_at, h.get e1 hk hg, Option.map_some]
  congr 1
  cases o <;> first | rfl | exact hz
theorem Wk.relock {S : Sto} {i c d : Nat} {f : Nd → Option Eg} {R : List Pth} (h : Wk S i c d f R) (ws : List W) : Wk (relock ws S) i c d f R := by
  have go : ∀ {k : Nat} {o : SO}, S[k]? = some o → relock1 ws o = o → (MP.relock ws S)[k]? = some o := fun {k o} e z => by rw [relock_at, e, Option.map_some, z]
  cases h with
  | fresh e => exact .fresh (go e rfl)
  | given e ne hp g l => exact .given (go e rfl) ne (rdL_of (go (rdL_iff.mp hp) rfl)) g l
  | over e => exact .over (go e rfl)
theorem Wk.obj {S : Sto} {i c d : Nat} {f : Nd → Option Eg} {R : List Pth} (h : Wk S i c d f R) : ∃ t o a, S[i]? = some (wkO c d t o a) := by
  cases h with
  | fresh e => exact ⟨_, _, _, e⟩
  | given e ne hp g l => exact ⟨_, _, _, e⟩
  | over e => exact ⟨_, _, _, e⟩
/-- the law's store -/
structure LS (S : Sto) (T U G F c o d : Nat) (F0 : List Int) (f : Nd → Option Eg) (A R : List Pth) (lg : List Nd) : Prop where
  tr : TrAt S T f
  hU : rdL S U = some (A.map duW)
  hG : rdL S G = some (lg.map nW)
  hF : rdL S F = some (F0.map .int)
  hc : S[c]? = some (.clo 9001 [])
  w : Wk S o c d f R
  nU : U ≠ G
  nF : F ≠ G
theorem LS.kp {S S' : Sto} {T U G F c o d : Nat} {F0 : List Int} {f : Nd → Option Eg} {A R : List Pth} {lg : List Nd} (h : LS S T U G F c o d F0 f A R lg) (k : Kp S S') : LS S' T U G F c o d F0 f A R lg := ⟨h.tr.kp k, rdL_of (k.get (rdL_iff.mp h.hU)), rdL_of (k.get (rdL_iff.mp h.hG)), rdL_of (k.get (rdL_iff.mp h.hF)), k.get h.hc, h.w.kp k, h.nU, h.nF⟩
/-- what is told -/
inductive An (d : Nat) (F0 : List Int) (lg : List Nd) : List Pth → W → List Pth → List Nd → Prop
  | no : An d F0 lg [] (.tup [.str sTold, .non]) [] lg
  | yes {p : Pth} {R : List Pth} {ask : List Nd} : ask.length ≤ d → An d F0 lg (p :: R) (.tup [.str sTold, duW p]) R (lg ++ ask)
  | rs {R : List Pth} {ask : List Nd} : 0 < ask.length → ask.length ≤ d → (((lg ++ ask).length : Nat) : Int) ∈ F0 → An d F0 lg R (.tup [.str sRais, .int ((lg ++ ask).length : Nat)]) R (lg ++ ask)
theorem lm_an {c d G : Nat} {F0 : List Int} {f : Nd → Option Eg} {i : Nat} {lg : List Nd} {R : List Pth} {w : W} {S : Sto} (h : Lm c d G F0 f i lg R w S) : ∃ R2 lg2, An d F0 lg R w R2 lg2 ∧ Wk S i c d f R2 ∧ rdL S G = some (lg2.map nW) := by
  cases h with
  | no wk g => exact ⟨_, _, .no, wk, g⟩
  | yes wk a g => exact ⟨_, _, .yes a, wk, g⟩
  | rs wk a b c g => exact ⟨_, _, .rs a b c, wk, g⟩
section
variable {ds : Nat → Option Def}
theorem fz_w (C : WkC ds) (h699 : ds 699 = some ⟨1, 3, b_law_more⟩) (hl : Ask7 ds) (k : Nat) {S : Sto} {T U G F c o d : Nat} {kd : Int} {F0 : List Int} {f : Nd → Option Eg} {A R : List Pth} {lg : List Nd} (h : LS S T U G F c o d F0 f A R lg) (hd : d ≤ 1000) (h0 : 0 < d) (hg : lg.length ≤ 100000) (ok : Gd f d none) {env : Env} (e2 : env[2]? = some (some (.ref F))) (e3 : env[3]? = some (some (.int kd))) (e5 : env[5]? = some (some (.gref T))) (e7 : env[7]? = some (some (.ref G))) (e8 : env[8]? = some (some (.oref o))) {P : W → Sto → Prop}
    (go : ∀ w S2 R2 lg2, An d F0 lg R w R2 lg2 → LS S2 T U G F c o d F0 f A R2 lg2 → P w S2) :
    Is (ev (callF ds (k + 5)) (.fz [7, 5, 2, 3] (.call 699 (.cons (.var 8) .nil))) env S) P := by
  rw [w_fz]
  have es : slotsOf env [7, 5, 2, 3] = some (zv G T F kd) := by
    simp only [slotsOf, e2, e3, e5, e7, Option.map_some, zv]
  rw [es]
  try simp only [w_var, w_c, w_bin, w_cmp, w_chain, w_and, w_or, w_ite, w_not, w_nil, w_cons, w_tup, w_lst, w_ix, w_no, w_yes, w_sl, w_call, w_bi, w_val, w_rng1, w_rng2, s_nil, s_cons, s_ret, s_expr, s_set, s_if, s_pass, s_setix, s_app, s_ext, o_addI, o_addS, o_addT, o_addL, o_sub, o_mulI, o_mulS, o_mulL, o_fdiv, o_mod, o_pow, c_ltI, c_ltS, c_le, c_gt, c_ge, c_eq, c_ne, e_ii, e_ss, e_bb, c_inS, c_notS, i_str, i_tup, i_ref, l_str, l_tup, l_rol, l_ref, b_lenS, b_lenT, b_lenR, b_abs, b_tupR, b_tupT, b_listR, b_listT, b_all, b_any, b_intI, b_intB, b_isiN, b_isiB, b_isiI, b_isiS, b_isiT, b_isiR, b_isiL, b_isN, b_notN, b_neg, b_rev, b_join, t_str, is_some, isB_some, byB_true, byB_false, start, wipe, bindT, List.map_cons, List.map_nil, List.cons_append, List.nil_append, List.append_nil, List.getElem?_cons_zero, List.getElem?_cons_succ, List.length_cons, List.length_nil, List.set_cons_zero, List.set_cons_succ, atI_0, atI_1, atI_2, atI_3, List.replicate, Nat.zero_add, Nat.reduceAdd, Nat.reduceSub, seqW_ref, seqW_tup, c_leS, b_iaddI, b_iaddS, b_isub, w_enum, w_rngd, w_lam, x_ite, w_zip, w_callv, s_setX, s_retX, s_exprX, s_raise, x_call, x_tup, xs_nil, xs_ok, xs_may, byX_tup, byX_exc, byV_tup, byV_str, byV_int, byV_bl, byV_non, byV_ref, byV_exc, e8]
  have wk2 := h.w.relock (zv G T F kd)
  obtain ⟨t, ov, a, ho⟩ := wk2.obj
  obtain ⟨t2, ov2, a2, ho2⟩ := h.w.obj
  have rk : ∀ {v : Nat} {xs : List W}, rdL S v = some xs → rdL (relock (zv G T F kd) S) v = some xs := fun {v xs} e => by
    rw [rdL_iff, relock_at, rdL_iff.mp e]
    rfl
  refine (lm_w C h699 hl k hd h0 wk2 (Lk.self _ _) (by rw [relock_at, h.hc]; rfl) (h.tr.relock _) (rk h.hG) (rk h.hF) h.nF hg ok ho rfl).imp fun w S1 hw => ?_
  obtain ⟨m, k2, lk⟩ := hw
  obtain ⟨R2, lg2, an, wk, g⟩ := lm_an m
  have kz := k2.kz
  have nx : ∀ {q : Nat} {x : SO}, S[q]? = some x → (∀ c fs, x ≠ .obj c fs) → q ≠ o := fun {q x} e n z => by
    subst z
    rw [ho2] at e
    cases e
    exact n _ _ rfl
  have rd : ∀ v xs, rdL S v = some xs → v ≠ G → rdL (relock [] S1) v = some xs := fun v xs e n => rdL_of (kz _ _ (rdL_iff.mp e) (nx (rdL_iff.mp e) fun _ _ z => by cases z) n rfl)
  refine go w _ R2 lg2 an ⟨?_, rd _ _ h.hU h.nU, ?_, rd _ _ h.hF h.nF, kz _ _ h.hc (nx h.hc fun _ _ z => by cases z) (ne_lst h.hG h.hc fun _ z => by cases z) rfl, wk.relock [], h.nU, h.nF⟩
  · obtain ⟨kvs, e, q⟩ := h.tr
    exact ⟨kvs, kz _ _ e (nx e fun _ _ z => by cases z) (ne_lst h.hG e fun _ z => by cases z) rfl, q⟩
  · rw [rdL_iff, relock_at, rdL_iff.mp g]
    rfl
/-! the law's turns -/
def cnt (F0 : List Int) (n : Nat) : Nat := (F0.filter fun x => decide (x ≤ (n : Int))).length
theorem cnt_le (F0 : List Int) (n : Nat) : cnt F0 n ≤ F0.length := List.length_filter_le _ _
theorem cnt_mono (F0 : List Int) {n m : Nat} (h : n ≤ m) : cnt F0 n ≤ cnt F0 m := by
  unfold cnt
  induction F0 with
  | nil => simp
  | cons x r ih =>
    rw [List.filter_cons, List.filter_cons]
    by_cases a : x ≤ (n : Int)
    · have b : x ≤ (m : Int) := by omega
      simp only [a, b, decide_true, if_true, List.length_cons]
      omega
    · simp only [a, decide_false, Bool.false_eq_true, if_false]
      split
      · rw [List.length_cons]
        omega
      · exact ih
theorem cnt_more (F0 : List Int) {n m : Nat} (h : n < m) (hm : ((m : Nat) : Int) ∈ F0) : cnt F0 n + 1 ≤ cnt F0 m := by
  induction F0 with
  | nil => cases hm
  | cons x r ih =>
    unfold cnt at *
    rw [List.filter_cons, List.filter_cons]
    rcases List.mem_cons.mp hm with e | e
    · have a : ¬ x ≤ (n : Int) := by omega
      have b : x ≤ (m : Int) := by omega
      simp only [a, b, decide_true, decide_false, if_true, Bool.false_eq_true, if_false, List.length_cons]
      have := cnt_mono r (Nat.le_of_lt h)
      unfold cnt at this
      omega
    · have := ih e
      by_cases a : x ≤ (n : Int)
      · have b : x ≤ (m : Int) := by omega
        simp only [a, b, decide_true, if_true, List.length_cons]
        omega
      · simp only [a, decide_false, Bool.false_eq_true, if_false]
        split
        · rw [List.length_cons]
          omega
        · exact this
def l9 : CSs := tl1 (tl1 (tl1 (tl1 (tl1 (tl1 (tl1 (tl1 (tl1 b_law_v143))))))))
theorem loop_w (C : WkC ds) (h694 : ds 694 = some ⟨2, 4, b_law_alike⟩) (h699 : ds 699 = some ⟨1, 3, b_law_more⟩) (hl : Ask7 ds) (k : Nat) {S : Sto} {T U G F c o d : Nat} {kd : Int} {F0 : List Int} {f : Nd → Option Eg} {A : List Pth} (h : LS S T U G F c o d F0 f A A []) (hd : d ≤ 10) (h0 : 0 < d) (hA : A.length ≤ 20) (hp : ∀ p ∈ A, p.length ≤ 1000) (hF : F0.length ≤ 10) (ok : Gd f d none) {x0 x1 : Option W} {N : Env → Sto → Prop} :
    IsS (exs (callF ds (k + 5)) l9 [x0, x1, some (.ref F), some (.int kd), some (.int (d : Nat)), some (.gref T), some (.ref U), some (.ref G), some (.oref o), some (.int 0), none, none, none, none, none, none, none, none] S) N fun w _ => w = .bl true := by
  simp only [l9, b_law_v143, tl1, w_var, w_c, w_bin, w_cmp, w_chain, w_and, w_or, w_ite, w_not, w_nil, w_cons, w_tup, w_lst, w_ix, w_no, w_yes, w_sl, w_call, w_bi, w_val, w_rng1, w_rng2, s_nil, s_cons, s_ret, s_expr, s_set, s_if, s_pass, s_setix, s_app, s_ext, o_addI, o_addS, o_addT, o_addL, o_sub, o_mulI, o_mulS, o_mulL, o_fdiv, o_mod, o_pow, c_ltI, c_ltS, c_le, c_gt, c_ge, c_eq, c_ne, e_ii, e_ss, e_bb, c_inS, c_notS, i_str, i_tup, i_ref, l_str, l_tup, l_rol, l_ref, b_lenS, b_lenT, b_lenR, b_abs, b_tupR, b_tupT, b_listR, b_listT, b_all, b_any, b_intI, b_intB, b_isiN, b_isiB, b_isiI, b_isiS, b_isiT, b_isiR, b_isiL, b_isN, b_notN, b_neg, b_rev, b_join, t_str, is_some, isB_some, byB_true, byB_false, start, wipe, bindT, List.map_cons, List.map_nil, List.cons_append, List.nil_append, List.append_nil, List.getElem?_cons_zero, List.getElem?_cons_succ, List.length_cons, List.length_nil, List.set_cons_zero, List.set_cons_succ, atI_0, atI_1, atI_2, atI_3, List.replicate, Nat.zero_add, Nat.reduceAdd, Nat.reduceSub, seqW_ref, seqW_tup, c_leS, b_iaddI, b_iaddS, b_isub, w_enum, w_rngd, w_lam, x_ite, w_zip, w_callv, s_setX, s_retX, s_exprX, s_raise, x_call, x_tup, xs_nil, xs_ok, xs_may, byX_tup, byX_exc, byV_tup, byV_str, byV_int, byV_bl, byV_non, byV_ref, byV_exc]
  refine w_for (n := A.length + F0.length + 2) (fun i env' S' => ∃ (y10 y12 y14 y15 : Option W) (t r : Nat) (lg : List Nd), env' = [x0, x1, some (.ref F), some (.int kd), some (.int (d : Nat)), some (.gref T), some (.ref U), some (.ref G), some (.oref o), some (.int (t : Nat)), y10, none, y12, none, y14, y15, none, none] ∧ LS S' T U G F c o d F0 f A (A.drop t) lg ∧ t + r = i ∧ r ≤ cnt F0 lg.length ∧ lg.length ≤ i * d) ?_
  try simp only [w_var, w_c, w_bin, w_cmp, w_chain, w_and, w_or, w_ite, w_not, w_nil, w_cons, w_tup, w_lst, w_ix, w_no, w_yes, w_sl, w_call, w_bi, w_val, w_rng1, w_rng2, s_nil, s_cons, s_ret, s_expr, s_set, s_if, s_pass, s_setix, s_app, s_ext, o_addI, o_addS, o_addT, o_addL, o_sub, o_mulI, o_mulS, o_mulL, o_fdiv, o_mod, o_pow, c_ltI, c_ltS, c_le, c_gt, c_ge, c_eq, c_ne, e_ii, e_ss, e_bb, c_inS, c_notS, i_str, i_tup, i_ref, l_str, l_tup, l_rol, l_ref, b_lenS, b_lenT, b_lenR, b_abs, b_tupR, b_tupT, b_listR, b_listT, b_all, b_any, b_intI, b_intB, b_isiN, b_isiB, b_isiI, b_isiS, b_isiT, b_isiR, b_isiL, b_isN, b_notN, b_neg, b_rev, b_join, t_str, is_some, isB_some, byB_true, byB_false, start, wipe, bindT, List.map_cons, List.map_nil, List.cons_append, List.nil_append, List.append_nil, List.getElem?_cons_zero, List.getElem?_cons_succ, List.length_cons, List.length_nil, List.set_cons_zero, List.set_cons_succ, atI_0, atI_1, atI_2, atI_3, List.replicate, Nat.zero_add, Nat.reduceAdd, Nat.reduceSub, seqW_ref, seqW_tup, c_leS, b_iaddI, b_iaddS, b_isub, w_enum, w_rngd, w_lam, x_ite, w_zip, w_callv, s_setX, s_retX, s_exprX, s_raise, x_call, x_tup, xs_nil, xs_ok, xs_may, byX_tup, byX_exc, byV_tup, byV_str, byV_int, byV_bl, byV_non, byV_ref, byV_exc, h.hU, h.hF, List.length_map]
  refine ⟨by unfold rngOk; simp; omega, by simp only [Src.len]; congr 1, ⟨none, none, none, none, 0, 0, [], rfl, h, rfl, Nat.zero_le _, by simp⟩, fun i env' S' hi hI => ?_, fun env' S' hI => ?_⟩
  · obtain ⟨y10, y12, y14, y15, t, r, lg, rfl, ls, htr, hr, hlg⟩ := hI
    have hid : i * d ≤ 40 * 10 := Nat.mul_le_mul (by omega) hd
    have hid2 : (i + 1) * d = i * d + d := by rw [Nat.add_mul, Nat.one_mul]
    refine ⟨.int (i : Nat), _, by simp only [Src.item]; rw [if_pos (by omega)]; simp, rfl, ?_⟩
    try simp only [w_var, w_c, w_bin, w_cmp, w_chain, w_and, w_or, w_ite, w_not, w_nil, w_cons, w_tup, w_lst, w_ix, w_no, w_yes, w_sl, w_call, w_bi, w_val, w_rng1, w_rng2, s_nil, s_cons, s_ret, s_expr, s_set, s_if, s_pass, s_setix, s_app, s_ext, o_addI, o_addS, o_addT, o_addL, o_sub, o_mulI, o_mulS, o_mulL, o_fdiv, o_mod, o_pow, c_ltI, c_ltS, c_le, c_gt, c_ge, c_eq, c_ne, e_ii, e_ss, e_bb, c_inS, c_notS, i_str, i_tup, i_ref, l_str, l_tup, l_rol, l_ref, b_lenS, b_lenT, b_lenR, b_abs, b_tupR, b_tupT, b_listR, b_listT, b_all, b_any, b_intI, b_intB, b_isiN, b_isiB, b_isiI, b_isiS, b_isiT, b_isiR, b_isiL, b_isN, b_notN, b_neg, b_rev, b_join, t_str, is_some, isB_some, byB_true, byB_false, start, wipe, bindT, List.map_cons, List.map_nil, List.cons_append, List.nil_append, List.append_nil, List.getElem?_cons_zero, List.getElem?_cons_succ, List.length_cons, List.length_nil, List.set_cons_zero, List.set_cons_succ, atI_0, atI_1, atI_2, atI_3, List.replicate, Nat.zero_add, Nat.reduceAdd, Nat.reduceSub, seqW_ref, seqW_tup, c_leS, b_iaddI, b_iaddS, b_isub, w_enum, w_rngd, w_lam, x_ite, w_zip, w_callv, s_setX, s_retX, s_exprX, s_raise, x_call, x_tup, xs_nil, xs_ok, xs_may, byX_tup, byX_exc, byV_tup, byV_str, byV_int, byV_bl, byV_non, byV_ref, byV_exc, ls.hG]
    refine fz_w C h699 hl k ls (by omega) h0 (by omega) ok rfl rfl rfl rfl rfl fun w S2 R2 lg2 an ls2 => ?_
    generalize hR : A.drop t = R at an
    cases an with
    | no =>
      try simp only [w_var, w_c, w_bin, w_cmp, w_chain, w_and, w_or, w_ite, w_not, w_nil, w_cons, w_tup, w_lst, w_ix, w_no, w_yes, w_sl, w_call, w_bi, w_val, w_rng1, w_rng2, s_nil, s_cons, s_ret, s_expr, s_set, s_if, s_pass, s_setix, s_app, s_ext, o_addI, o_addS, o_addT, o_addL, o_sub, o_mulI, o_mulS, o_mulL, o_fdiv, o_mod, o_pow, c_ltI, c_ltS, c_le, c_gt, c_ge, c_eq, c_ne, e_ii, e_ss, e_bb, c_inS, c_notS, i_str, i_tup, i_ref, l_str, l_tup, l_rol, l_ref, b_lenS, b_lenT, b_lenR, b_abs, b_tupR, b_tupT, b_listR, b_listT, b_all, b_any, b_intI, b_intB, b_isiN, b_isiB, b_isiI, b_isiS, b_isiT, b_isiR, b_isiL, b_isN, b_notN, b_neg, b_rev, b_join, t_str, is_some, isB_some, byB_true, byB_false, start, wipe, bindT, List.map_cons, List.map_nil, List.cons_append, List.nil_append, List.append_nil, List.getElem?_cons_zero, List.getElem?_cons_succ, List.length_cons, List.length_nil, List.set_cons_zero, List.set_cons_succ, atI_0, atI_1, atI_2, atI_3, List.replicate, Nat.zero_add, Nat.reduceAdd, Nat.reduceSub, seqW_ref, seqW_tup, c_leS, b_iaddI, b_iaddS, b_isub, w_enum, w_rngd, w_lam, x_ite, w_zip, w_callv, s_setX, s_retX, s_exprX, s_raise, x_call, x_tup, xs_nil, xs_ok, xs_may, byX_tup, byX_exc, byV_tup, byV_str, byV_int, byV_bl, byV_non, byV_ref, byV_exc, bindL, ls2.hG, ls2.hU, List.length_map]
      have ht : A.length ≤ t := by
        have := congrArg List.length hR
        rw [List.length_drop, List.length_nil] at this
        omega
      refine byB_dec _ _ _ (fun z => ?_) (fun z => ?_)
      · have := of_decide_eq_true z
        omega
      · refine byB_dec _ _ _ (fun z => ?_) (fun z => ?_)
        · exact absurd (of_decide_eq_true z) (by decide)
        · refine byB_dec _ _ _ (fun z => ?_) (fun z => ?_)
          · have := of_decide_eq_true z
            omega
          · try simp only [w_var, w_c, w_bin, w_cmp, w_chain, w_and, w_or, w_ite, w_not, w_nil, w_cons, w_tup, w_lst, w_ix, w_no, w_yes, w_sl, w_call, w_bi, w_val, w_rng1, w_rng2, s_nil, s_cons, s_ret, s_expr, s_set, s_if, s_pass, s_setix, s_app, s_ext, o_addI, o_addS, o_addT, o_addL, o_sub, o_mulI, o_mulS, o_mulL, o_fdiv, o_mod, o_pow, c_ltI, c_ltS, c_le, c_gt, c_ge, c_eq, c_ne, e_ii, e_ss, e_bb, c_inS, c_notS, i_str, i_tup, i_ref, l_str, l_tup, l_rol, l_ref, b_lenS, b_lenT, b_lenR, b_abs, b_tupR, b_tupT, b_listR, b_listT, b_all, b_any, b_intI, b_intB, b_isiN, b_isiB, b_isiI, b_isiS, b_isiT, b_isiR, b_isiL, b_isN, b_notN, b_neg, b_rev, b_join, t_str, is_some, isB_some, byB_true, byB_false, start, wipe, bindT, List.map_cons, List.map_nil, List.cons_append, List.nil_append, List.append_nil, List.getElem?_cons_zero, List.getElem?_cons_succ, List.length_cons, List.length_nil, List.set_cons_zero, List.set_cons_succ, atI_0, atI_1, atI_2, atI_3, List.replicate, Nat.zero_add, Nat.reduceAdd, Nat.reduceSub, seqW_ref, seqW_tup, c_leS, b_iaddI, b_iaddS, b_isub, w_enum, w_rngd, w_lam, x_ite, w_zip, w_callv, s_setX, s_retX, s_exprX, s_raise, x_call, x_tup, xs_nil, xs_ok, xs_may, byX_tup, byX_exc, byV_tup, byV_str, byV_int, byV_bl, byV_non, byV_ref, byV_exc, ls2.hU, List.length_map]
            refine byB_dec _ _ _ (fun z => ?_) (fun z => ?_)
            · try simp only [w_var, w_c, w_bin, w_cmp, w_chain, w_and, w_or, w_ite, w_not, w_nil, w_cons, w_tup, w_lst, w_ix, w_no, w_yes, w_sl, w_call, w_bi, w_val, w_rng1, w_rng2, s_nil, s_cons, s_ret, s_expr, s_set, s_if, s_pass, s_setix, s_app, s_ext, o_addI, o_addS, o_addT, o_addL, o_sub, o_mulI, o_mulS, o_mulL, o_fdiv, o_mod, o_pow, c_ltI, c_ltS, c_le, c_gt, c_ge, c_eq, c_ne, e_ii, e_ss, e_bb, c_inS, c_notS, i_str, i_tup, i_ref, l_str, l_tup, l_rol, l_ref, b_lenS, b_lenT, b_lenR, b_abs, b_tupR, b_tupT, b_listR, b_listT, b_all, b_any, b_intI, b_intB, b_isiN, b_isiB, b_isiI, b_isiS, b_isiT, b_isiR, b_isiL, b_isN, b_notN, b_neg, b_rev, b_join, t_str, is_some, isB_some, byB_true, byB_false, start, wipe, bindT, List.map_cons, List.map_nil, List.cons_append, List.nil_append, List.append_nil, List.getElem?_cons_zero, List.getElem?_cons_succ, List.length_cons, List.length_nil, List.set_cons_zero, List.set_cons_succ, atI_0, atI_1, atI_2, atI_3, List.replicate, Nat.zero_add, Nat.reduceAdd, Nat.reduceSub, seqW_ref, seqW_tup, c_leS, b_iaddI, b_iaddS, b_isub, w_enum, w_rngd, w_lam, x_ite, w_zip, w_callv, s_setX, s_retX, s_exprX, s_raise, x_call, x_tup, xs_nil, xs_ok, xs_may, byX_tup, byX_exc, byV_tup, byV_str, byV_int, byV_bl, byV_non, byV_ref, byV_exc, isNon, Bool.not_true]
              refine ⟨_, _, _, _, t + 1, r, lg, rfl, ?_, by omega, hr, by omega⟩
              rw [List.drop_of_length_le (by omega)]
              exact ls2
            · have := of_decide_eq_false z
              omega
    | @yes p R ask al =>
      have ht : t < A.length := by
        have := congrArg List.length hR
        rw [List.length_drop, List.length_cons] at this
        omega
      rw [List.drop_eq_getElem_cons ht] at hR
      injection hR with hp1 hR1
      subst hp1
      subst hR1
      try simp only [w_var, w_c, w_bin, w_cmp, w_chain, w_and, w_or, w_ite, w_not, w_nil, w_cons, w_tup, w_lst, w_ix, w_no, w_yes, w_sl, w_call, w_bi, w_val, w_rng1, w_rng2, s_nil, s_cons, s_ret, s_expr, s_set, s_if, s_pass, s_setix, s_app, s_ext, o_addI, o_addS, o_addT, o_addL, o_sub, o_mulI, o_mulS, o_mulL, o_fdiv, o_mod, o_pow, c_ltI, c_ltS, c_le, c_gt, c_ge, c_eq, c_ne, e_ii, e_ss, e_bb, c_inS, c_notS, i_str, i_tup, i_ref, l_str, l_tup, l_rol, l_ref, b_lenS, b_lenT, b_lenR, b_abs, b_tupR, b_tupT, b_listR, b_listT, b_all, b_any, b_intI, b_intB, b_isiN, b_isiB, b_isiI, b_isiS, b_isiT, b_isiR, b_isiL, b_isN, b_notN, b_neg, b_rev, b_join, t_str, is_some, isB_some, byB_true, byB_false, start, wipe, bindT, List.map_cons, List.map_nil, List.cons_append, List.nil_append, List.append_nil, List.getElem?_cons_zero, List.getElem?_cons_succ, List.length_cons, List.length_nil, List.set_cons_zero, List.set_cons_succ, atI_0, atI_1, atI_2, atI_3, List.replicate, Nat.zero_add, Nat.reduceAdd, Nat.reduceSub, seqW_ref, seqW_tup, c_leS, b_iaddI, b_iaddS, b_isub, w_enum, w_rngd, w_lam, x_ite, w_zip, w_callv, s_setX, s_retX, s_exprX, s_raise, x_call, x_tup, xs_nil, xs_ok, xs_may, byX_tup, byX_exc, byV_tup, byV_str, byV_int, byV_bl, byV_non, byV_ref, byV_exc, bindL, ls2.hG, ls2.hU, List.length_map]
      refine byB_dec _ _ _ (fun z => ?_) (fun z => ?_)
      · have := of_decide_eq_true z
        rw [List.length_append] at this
        omega
      · refine byB_dec _ _ _ (fun z => ?_) (fun z => ?_)
        · exact absurd (of_decide_eq_true z) (by decide)
        · refine byB_dec _ _ _ (fun z => ?_) (fun z => ?_)
          · try simp only [w_var, w_c, w_bin, w_cmp, w_chain, w_and, w_or, w_ite, w_not, w_nil, w_cons, w_tup, w_lst, w_ix, w_no, w_yes, w_sl, w_call, w_bi, w_val, w_rng1, w_rng2, s_nil, s_cons, s_ret, s_expr, s_set, s_if, s_pass, s_setix, s_app, s_ext, o_addI, o_addS, o_addT, o_addL, o_sub, o_mulI, o_mulS, o_mulL, o_fdiv, o_mod, o_pow, c_ltI, c_ltS, c_le, c_gt, c_ge, c_eq, c_ne, e_ii, e_ss, e_bb, c_inS, c_notS, i_str, i_tup, i_ref, l_str, l_tup, l_rol, l_ref, b_lenS, b_lenT, b_lenR, b_abs, b_tupR, b_tupT, b_listR, b_listT, b_all, b_any, b_intI, b_intB, b_isiN, b_isiB, b_isiI, b_isiS, b_isiT, b_isiR, b_isiL, b_isN, b_notN, b_neg, b_rev, b_join, t_str, is_some, isB_some, byB_true, byB_false, start, wipe, bindT, List.map_cons, List.map_nil, List.cons_append, List.nil_append, List.append_nil, List.getElem?_cons_zero, List.getElem?_cons_succ, List.length_cons, List.length_nil, List.set_cons_zero, List.set_cons_succ, atI_0, atI_1, atI_2, atI_3, List.replicate, Nat.zero_add, Nat.reduceAdd, Nat.reduceSub, seqW_ref, seqW_tup, c_leS, b_iaddI, b_iaddS, b_isub, w_enum, w_rngd, w_lam, x_ite, w_zip, w_callv, s_setX, s_retX, s_exprX, s_raise, x_call, x_tup, xs_nil, xs_ok, xs_may, byX_tup, byX_exc, byV_tup, byV_str, byV_int, byV_bl, byV_non, byV_ref, byV_exc, ls2.hU, atI_nat, List.getElem?_map, List.getElem?_eq_getElem ht, Option.map_some]
            refine alike_w h694 (k + 4) A[t] (hp _ (List.getElem_mem ht)) fun S3 k3 => ?_
            have ls3 := ls2.kp k3
            try simp only [w_var, w_c, w_bin, w_cmp, w_chain, w_and, w_or, w_ite, w_not, w_nil, w_cons, w_tup, w_lst, w_ix, w_no, w_yes, w_sl, w_call, w_bi, w_val, w_rng1, w_rng2, s_nil, s_cons, s_ret, s_expr, s_set, s_if, s_pass, s_setix, s_app, s_ext, o_addI, o_addS, o_addT, o_addL, o_sub, o_mulI, o_mulS, o_mulL, o_fdiv, o_mod, o_pow, c_ltI, c_ltS, c_le, c_gt, c_ge, c_eq, c_ne, e_ii, e_ss, e_bb, c_inS, c_notS, i_str, i_tup, i_ref, l_str, l_tup, l_rol, l_ref, b_lenS, b_lenT, b_lenR, b_abs, b_tupR, b_tupT, b_listR, b_listT, b_all, b_any, b_intI, b_intB, b_isiN, b_isiB, b_isiI, b_isiS, b_isiT, b_isiR, b_isiL, b_isN, b_notN, b_neg, b_rev, b_join, t_str, is_some, isB_some, byB_true, byB_false, start, wipe, bindT, List.map_cons, List.map_nil, List.cons_append, List.nil_append, List.append_nil, List.getElem?_cons_zero, List.getElem?_cons_succ, List.length_cons, List.length_nil, List.set_cons_zero, List.set_cons_succ, atI_0, atI_1, atI_2, atI_3, List.replicate, Nat.zero_add, Nat.reduceAdd, Nat.reduceSub, seqW_ref, seqW_tup, c_leS, b_iaddI, b_iaddS, b_isub, w_enum, w_rngd, w_lam, x_ite, w_zip, w_callv, s_setX, s_retX, s_exprX, s_raise, x_call, x_tup, xs_nil, xs_ok, xs_may, byX_tup, byX_exc, byV_tup, byV_str, byV_int, byV_bl, byV_non, byV_ref, byV_exc, ls3.hU, List.length_map]
            refine byB_dec _ _ _ (fun z => ?_) (fun z => ?_)
            · have := of_decide_eq_true z
              omega
            · refine ⟨_, _, _, _, t + 1, r, lg ++ ask, rfl, ls3, by omega, Nat.le_trans hr (cnt_mono F0 (by rw [List.length_append]; omega)), by rw [List.length_append]; omega⟩
          · have := of_decide_eq_false z
            omega
    | @rs _ ask a0 al hm =>
      subst hR
      try simp only [w_var, w_c, w_bin, w_cmp, w_chain, w_and, w_or, w_ite, w_not, w_nil, w_cons, w_tup, w_lst, w_ix, w_no, w_yes, w_sl, w_call, w_bi, w_val, w_rng1, w_rng2, s_nil, s_cons, s_ret, s_expr, s_set, s_if, s_pass, s_setix, s_app, s_ext, o_addI, o_addS, o_addT, o_addL, o_sub, o_mulI, o_mulS, o_mulL, o_fdiv, o_mod, o_pow, c_ltI, c_ltS, c_le, c_gt, c_ge, c_eq, c_ne, e_ii, e_ss, e_bb, c_inS, c_notS, i_str, i_tup, i_ref, l_str, l_tup, l_rol, l_ref, b_lenS, b_lenT, b_lenR, b_abs, b_tupR, b_tupT, b_listR, b_listT, b_all, b_any, b_intI, b_intB, b_isiN, b_isiB, b_isiI, b_isiS, b_isiT, b_isiR, b_isiL, b_isN, b_notN, b_neg, b_rev, b_join, t_str, is_some, isB_some, byB_true, byB_false, start, wipe, bindT, List.map_cons, List.map_nil, List.cons_append, List.nil_append, List.append_nil, List.getElem?_cons_zero, List.getElem?_cons_succ, List.length_cons, List.length_nil, List.set_cons_zero, List.set_cons_succ, atI_0, atI_1, atI_2, atI_3, List.replicate, Nat.zero_add, Nat.reduceAdd, Nat.reduceSub, seqW_ref, seqW_tup, c_leS, b_iaddI, b_iaddS, b_isub, w_enum, w_rngd, w_lam, x_ite, w_zip, w_callv, s_setX, s_retX, s_exprX, s_raise, x_call, x_tup, xs_nil, xs_ok, xs_may, byX_tup, byX_exc, byV_tup, byV_str, byV_int, byV_bl, byV_non, byV_ref, byV_exc, bindL, ls2.hG, ls2.hU, List.length_map]
      refine byB_dec _ _ _ (fun z => ?_) (fun z => ?_)
      · have := of_decide_eq_true z
        rw [List.length_append] at this
        omega
      · refine byB_dec _ _ _ (fun z => ?_) (fun z => ?_)
        · try simp only [w_var, w_c, w_bin, w_cmp, w_chain, w_and, w_or, w_ite, w_not, w_nil, w_cons, w_tup, w_lst, w_ix, w_no, w_yes, w_sl, w_call, w_bi, w_val, w_rng1, w_rng2, s_nil, s_cons, s_ret, s_expr, s_set, s_if, s_pass, s_setix, s_app, s_ext, o_addI, o_addS, o_addT, o_addL, o_sub, o_mulI, o_mulS, o_mulL, o_fdiv, o_mod, o_pow, c_ltI, c_ltS, c_le, c_gt, c_ge, c_eq, c_ne, e_ii, e_ss, e_bb, c_inS, c_notS, i_str, i_tup, i_ref, l_str, l_tup, l_rol, l_ref, b_lenS, b_lenT, b_lenR, b_abs, b_tupR, b_tupT, b_listR, b_listT, b_all, b_any, b_intI, b_intB, b_isiN, b_isiB, b_isiI, b_isiS, b_isiT, b_isiR, b_isiL, b_isN, b_notN, b_neg, b_rev, b_join, t_str, is_some, isB_some, byB_true, byB_false, start, wipe, bindT, List.map_cons, List.map_nil, List.cons_append, List.nil_append, List.append_nil, List.getElem?_cons_zero, List.getElem?_cons_succ, List.length_cons, List.length_nil, List.set_cons_zero, List.set_cons_succ, atI_0, atI_1, atI_2, atI_3, List.replicate, Nat.zero_add, Nat.reduceAdd, Nat.reduceSub, seqW_ref, seqW_tup, c_leS, b_iaddI, b_iaddS, b_isub, w_enum, w_rngd, w_lam, x_ite, w_zip, w_callv, s_setX, s_retX, s_exprX, s_raise, x_call, x_tup, xs_nil, xs_ok, xs_may, byX_tup, byX_exc, byV_tup, byV_str, byV_int, byV_bl, byV_non, byV_ref, byV_exc, ls2.hG, List.length_map]
          refine byB_dec _ _ _ (fun z => ?_) (fun z => ?_)
          · simp at z
          · rw [notin_int ls2.hF]
            try simp only [w_var, w_c, w_bin, w_cmp, w_chain, w_and, w_or, w_ite, w_not, w_nil, w_cons, w_tup, w_lst, w_ix, w_no, w_yes, w_sl, w_call, w_bi, w_val, w_rng1, w_rng2, s_nil, s_cons, s_ret, s_expr, s_set, s_if, s_pass, s_setix, s_app, s_ext, o_addI, o_addS, o_addT, o_addL, o_sub, o_mulI, o_mulS, o_mulL, o_fdiv, o_mod, o_pow, c_ltI, c_ltS, c_le, c_gt, c_ge, c_eq, c_ne, e_ii, e_ss, e_bb, c_inS, c_notS, i_str, i_tup, i_ref, l_str, l_tup, l_rol, l_ref, b_lenS, b_lenT, b_lenR, b_abs, b_tupR, b_tupT, b_listR, b_listT, b_all, b_any, b_intI, b_intB, b_isiN, b_isiB, b_isiI, b_isiS, b_isiT, b_isiR, b_isiL, b_isN, b_notN, b_neg, b_rev, b_join, t_str, is_some, isB_some, byB_true, byB_false, start, wipe, bindT, List.map_cons, List.map_nil, List.cons_append, List.nil_append, List.append_nil, List.getElem?_cons_zero, List.getElem?_cons_succ, List.length_cons, List.length_nil, List.set_cons_zero, List.set_cons_succ, atI_0, atI_1, atI_2, atI_3, List.replicate, Nat.zero_add, Nat.reduceAdd, Nat.reduceSub, seqW_ref, seqW_tup, c_leS, b_iaddI, b_iaddS, b_isub, w_enum, w_rngd, w_lam, x_ite, w_zip, w_callv, s_setX, s_retX, s_exprX, s_raise, x_call, x_tup, xs_nil, xs_ok, xs_may, byX_tup, byX_exc, byV_tup, byV_str, byV_int, byV_bl, byV_non, byV_ref, byV_exc]
            refine byB_dec _ _ _ (fun z => ?_) (fun z => ?_)
            · simp only [Bool.not_eq_true', decide_eq_false_iff_not] at z
              exact absurd hm z
            · refine ⟨_, _, _, _, t, r + 1, lg ++ ask, rfl, ls2, by omega, Nat.le_trans (Nat.succ_le_succ hr) (cnt_more F0 (by rw [List.length_append]; omega) hm), by rw [List.length_append]; omega⟩
        · exact absurd (of_decide_eq_false z) (by decide)
  · obtain ⟨y10, y12, y14, y15, t, r, lg, rfl, ls, htr, hr, hlg⟩ := hI
    refine ⟨⟨_, Nat.le_refl _, by simp only [Src.len]; congr 1⟩, ?_⟩
    try simp only [w_var, w_c, w_bin, w_cmp, w_chain, w_and, w_or, w_ite, w_not, w_nil, w_cons, w_tup, w_lst, w_ix, w_no, w_yes, w_sl, w_call, w_bi, w_val, w_rng1, w_rng2, s_nil, s_cons, s_ret, s_expr, s_set, s_if, s_pass, s_setix, s_app, s_ext, o_addI, o_addS, o_addT, o_addL, o_sub, o_mulI, o_mulS, o_mulL, o_fdiv, o_mod, o_pow, c_ltI, c_ltS, c_le, c_gt, c_ge, c_eq, c_ne, e_ii, e_ss, e_bb, c_inS, c_notS, i_str, i_tup, i_ref, l_str, l_tup, l_rol, l_ref, b_lenS, b_lenT, b_lenR, b_abs, b_tupR, b_tupT, b_listR, b_listT, b_all, b_any, b_intI, b_intB, b_isiN, b_isiB, b_isiI, b_isiS, b_isiT, b_isiR, b_isiL, b_isN, b_notN, b_neg, b_rev, b_join, t_str, is_some, isB_some, byB_true, byB_false, start, wipe, bindT, List.map_cons, List.map_nil, List.cons_append, List.nil_append, List.append_nil, List.getElem?_cons_zero, List.getElem?_cons_succ, List.length_cons, List.length_nil, List.set_cons_zero, List.set_cons_succ, atI_0, atI_1, atI_2, atI_3, List.replicate, Nat.zero_add, Nat.reduceAdd, Nat.reduceSub, seqW_ref, seqW_tup, c_leS, b_iaddI, b_iaddS, b_isub, w_enum, w_rngd, w_lam, x_ite, w_zip, w_callv, s_setX, s_retX, s_exprX, s_raise, x_call, x_tup, xs_nil, xs_ok, xs_may, byX_tup, byX_exc, byV_tup, byV_str, byV_int, byV_bl, byV_non, byV_ref, byV_exc, ls.hU, List.length_map]
    have := cnt_le F0 lg.length
    have : decide ((t : Int) > (A.length : Int)) = true := decide_eq_true (by omega)
    simpa using this
end
end Pg
namespace Pg
open MP
theorem set_last (S : Sto) (x y : SO) : (S ++ [x]).set S.length y = S ++ [y] := by
  rw [List.set_append_right _ _ (Nat.le_refl _), Nat.sub_self]
  rfl
theorem at_last (S : Sto) (x : SO) : (S ++ [x])[S.length]? = some x := by
  rw [List.getElem?_append_right (Nat.le_refl _), Nat.sub_self]
  rfl
section
variable {ds : Nat → Option Def}
theorem init_w (C : WkC ds) (k : Nat) {S : Sto} {c d : Nat} {P : W → Sto → Prop} (go : P .non (S ++ [wkO c d .non false 0])) : Is (callF ds (k + 1) 1086 [.oref S.length, .lref c, .int (d : Nat)] (mkO tW S)) P := by
  refine w_callF C.h1086 rfl ?_
  simp only [b_Walk___init__, w_var, w_c, w_bin, w_cmp, w_chain, w_and, w_or, w_ite, w_not, w_nil, w_cons, w_tup, w_lst, w_ix, w_no, w_yes, w_sl, w_call, w_bi, w_val, w_rng1, w_rng2, s_nil, s_cons, s_ret, s_expr, s_set, s_if, s_pass, s_setix, s_app, s_ext, o_addI, o_addS, o_addT, o_addL, o_sub, o_mulI, o_mulS, o_mulL, o_fdiv, o_mod, o_pow, c_ltI, c_ltS, c_le, c_gt, c_ge, c_eq, c_ne, e_ii, e_ss, e_bb, c_inS, c_notS, i_str, i_tup, i_ref, l_str, l_tup, l_rol, l_ref, b_lenS, b_lenT, b_lenR, b_abs, b_tupR, b_tupT, b_listR, b_listT, b_all, b_any, b_intI, b_intB, b_isiN, b_isiB, b_isiI, b_isiS, b_isiT, b_isiR, b_isiL, b_isN, b_notN, b_neg, b_rev, b_join, t_str, is_some, isB_some, byB_true, byB_false, start, wipe, bindT, List.map_cons, List.map_nil, List.cons_append, List.nil_append, List.append_nil, List.getElem?_cons_zero, List.getElem?_cons_succ, List.length_cons, List.length_nil, List.set_cons_zero, List.set_cons_succ, atI_0, atI_1, atI_2, atI_3, List.replicate, Nat.zero_add, Nat.reduceAdd, Nat.reduceSub, seqW_ref, seqW_tup, c_leS, b_iaddI, b_iaddS, b_isub, w_enum, w_rngd, w_lam, x_ite, w_zip, w_callv, s_setX, s_retX, s_exprX, s_raise, x_call, x_tup, xs_nil, xs_ok, xs_may, byX_tup, byX_exc, byV_tup, byV_str, byV_int, byV_bl, byV_non, byV_ref, byV_exc, s_fset]
  have e0 : mkO tW S = S ++ [.obj tW []] := rfl
  rw [e0]
  rw [b_fset (at_last _ _) (by decide) (by simp), set_last, b_fset (at_last _ _) (by decide) (by simp [putO]), set_last, b_fset (at_last _ _) (by decide) (by simp [putO]), set_last, b_fset (at_last _ _) (by decide) (by simp [putO]), set_last, b_fset (at_last _ _) (by decide) (by simp [putO]), set_last]
  exact go
/-- the labels of the ways -/
theorem due7_w {Φ : Fns} {a0 a1 a2 a3 a4 a5 a6 a7 a8 a9 a10 a11 a12 a13 a14 a15 : Option W} {S : Sto} {d : Nat} {f : Nd → Option Eg} {e : CE} {P : W → Sto → Prop} (ok : TreeOk f d) (h : Is (ev Φ e [a0, a1, a2, a3, a4, a5, a6, a7, a8, a9, a10, a11, a12, a13, a14, a15, none, none] S) fun w S1 => ∃ j, w = .ref j ∧ rdL S1 j = some ((expd f d [[]]).map (outWy d)) ∧ P (.ref S1.length) (S1 ++ [.lst ((expd f d [[]]).map duW)])) :
    Is (ev Φ (.comp [16, 17] [16, 17] (.val e) (.c (.bl true)) (.var 16)) [a0, a1, a2, a3, a4, a5, a6, a7, a8, a9, a10, a11, a12, a13, a14, a15, none, none] S) P := by
  have le := expd_le ok (Nat.le_refl d)
  refine w_compP ((expd f d [[]]).map (outWy d)) (fun _ => true) (fun w => match w with | .tup [a, _] => a | w => w) (by rw [List.length_map]; simp only [LIM]; omega) ?_
  try simp only [w_var, w_c, w_bin, w_cmp, w_chain, w_and, w_or, w_ite, w_not, w_nil, w_cons, w_tup, w_lst, w_ix, w_no, w_yes, w_sl, w_call, w_bi, w_val, w_rng1, w_rng2, s_nil, s_cons, s_ret, s_expr, s_set, s_if, s_pass, s_setix, s_app, s_ext, o_addI, o_addS, o_addT, o_addL, o_sub, o_mulI, o_mulS, o_mulL, o_fdiv, o_mod, o_pow, c_ltI, c_ltS, c_le, c_gt, c_ge, c_eq, c_ne, e_ii, e_ss, e_bb, c_inS, c_notS, i_str, i_tup, i_ref, l_str, l_tup, l_rol, l_ref, b_lenS, b_lenT, b_lenR, b_abs, b_tupR, b_tupT, b_listR, b_listT, b_all, b_any, b_intI, b_intB, b_isiN, b_isiB, b_isiI, b_isiS, b_isiT, b_isiR, b_isiL, b_isN, b_notN, b_neg, b_rev, b_join, t_str, is_some, isB_some, byB_true, byB_false, start, wipe, bindT, List.map_cons, List.map_nil, List.cons_append, List.nil_append, List.append_nil, List.getElem?_cons_zero, List.getElem?_cons_succ, List.length_cons, List.length_nil, List.set_cons_zero, List.set_cons_succ, atI_0, atI_1, atI_2, atI_3, List.replicate, Nat.zero_add, Nat.reduceAdd, Nat.reduceSub, seqW_ref, seqW_tup, c_leS, b_iaddI, b_iaddS, b_isub, w_enum, w_rngd, w_lam, x_ite, w_zip, w_callv, s_setX, s_retX, s_exprX, s_raise, x_call, x_tup, xs_nil, xs_ok, xs_may, byX_tup, byX_exc, byV_tup, byV_str, byV_int, byV_bl, byV_non, byV_ref, byV_exc]
  refine h.imp fun w S1 hw => ?_
  obtain ⟨j, rfl, hj, hp⟩ := hw
  refine ⟨by simp [Src.items, hj], fun x hx => ?_, ?_⟩
  · obtain ⟨p, hp, rfl⟩ := List.mem_map.mp hx
    refine ⟨_, rfl, ?_⟩
    simp only [outWy, w_var, w_c, w_bin, w_cmp, w_chain, w_and, w_or, w_ite, w_not, w_nil, w_cons, w_tup, w_lst, w_ix, w_no, w_yes, w_sl, w_call, w_bi, w_val, w_rng1, w_rng2, s_nil, s_cons, s_ret, s_expr, s_set, s_if, s_pass, s_setix, s_app, s_ext, o_addI, o_addS, o_addT, o_addL, o_sub, o_mulI, o_mulS, o_mulL, o_fdiv, o_mod, o_pow, c_ltI, c_ltS, c_le, c_gt, c_ge, c_eq, c_ne, e_ii, e_ss, e_bb, c_inS, c_notS, i_str, i_tup, i_ref, l_str, l_tup, l_rol, l_ref, b_lenS, b_lenT, b_lenR, b_abs, b_tupR, b_tupT, b_listR, b_listT, b_all, b_any, b_intI, b_intB, b_isiN, b_isiB, b_isiI, b_isiS, b_isiT, b_isiR, b_isiL, b_isN, b_notN, b_neg, b_rev, b_join, t_str, is_some, isB_some, byB_true, byB_false, start, wipe, bindT, List.map_cons, List.map_nil, List.cons_append, List.nil_append, List.append_nil, List.getElem?_cons_zero, List.getElem?_cons_succ, List.length_cons, List.length_nil, List.set_cons_zero, List.set_cons_succ, atI_0, atI_1, atI_2, atI_3, List.replicate, Nat.zero_add, Nat.reduceAdd, Nat.reduceSub, seqW_ref, seqW_tup, c_leS, b_iaddI, b_iaddS, b_isub, w_enum, w_rngd, w_lam, x_ite, w_zip, w_callv, s_setX, s_retX, s_exprX, s_raise, x_call, x_tup, xs_nil, xs_ok, xs_may, byX_tup, byX_exc, byV_tup, byV_str, byV_int, byV_bl, byV_non, byV_ref, byV_exc]
    exact ⟨trivial, trivial, fun _ => ⟨trivial, trivial⟩⟩
  · have hmap : ((((expd f d [[]]).map (outWy d)).filter fun _ => true).map fun w => match w with | .tup [a, _] => a | w => w) = (expd f d [[]]).map duW := by
      rw [List.filter_eq_self.mpr (fun _ _ => rfl), List.map_map]
      rfl
    rw [hmap]
    exact hp
def l4 : CSs := tl1 (tl1 (tl1 (tl1 b_law_v143)))
/-- from the tree on -/
theorem tree7 (C : WkC ds) (h4 : ds 4 = some ⟨2, 4, b_law_draw⟩) (h692 : ds 692 = some ⟨3, 12, b_law_tree⟩) (h693 : ds 693 = some ⟨2, 9, b_law_ways⟩) (h694 : ds 694 = some ⟨2, 4, b_law_alike⟩) (h699 : ds 699 = some ⟨1, 3, b_law_more⟩) (hl : Ask7 ds) (k : Nat) {S : Sto} {dk c F n d : Nat} {kd : Int} {F0 : List Int} (dK : Dk dk c n S) (hn : n ≤ 100) (hd : d ≤ 10) (h0 : 0 < d) (hF : rdL S F = some (F0.map .int)) (hFl : F0.length ≤ 10) (nF : F ≠ dk ∧ F ≠ c) {x0 : Option W} {N : Env → Sto → Prop} :
    IsS (exs (callF ds (k + 5)) l4 [x0, some (.ref dk), some (.ref F), some (.int kd), some (.int (d : Nat)), none, none, none, none, none, none, none, none, none, none, none, none, none] S) N fun w _ => w = .bl true := by
  have eb : l4 = .cons (hd1 l4) (.cons (hd1 (tl1 l4)) (.cons (hd1 (tl1 (tl1 l4))) (.cons (hd1 (tl1 (tl1 (tl1 l4)))) (.cons (hd1 (tl1 (tl1 (tl1 (tl1 l4))))) l9)))) := rfl
  rw [eb]
  generalize hT : l9 = tl
  simp only [l4, b_law_v143, tl1, hd1, w_var, w_c, w_bin, w_cmp, w_chain, w_and, w_or, w_ite, w_not, w_nil, w_cons, w_tup, w_lst, w_ix, w_no, w_yes, w_sl, w_call, w_bi, w_val, w_rng1, w_rng2, s_nil, s_cons, s_ret, s_expr, s_set, s_if, s_pass, s_setix, s_app, s_ext, o_addI, o_addS, o_addT, o_addL, o_sub, o_mulI, o_mulS, o_mulL, o_fdiv, o_mod, o_pow, c_ltI, c_ltS, c_le, c_gt, c_ge, c_eq, c_ne, e_ii, e_ss, e_bb, c_inS, c_notS, i_str, i_tup, i_ref, l_str, l_tup, l_rol, l_ref, b_lenS, b_lenT, b_lenR, b_abs, b_tupR, b_tupT, b_listR, b_listT, b_all, b_any, b_intI, b_intB, b_isiN, b_isiB, b_isiI, b_isiS, b_isiT, b_isiR, b_isiL, b_isN, b_notN, b_neg, b_rev, b_join, t_str, is_some, isB_some, byB_true, byB_false, start, wipe, bindT, List.map_cons, List.map_nil, List.cons_append, List.nil_append, List.append_nil, List.getElem?_cons_zero, List.getElem?_cons_succ, List.length_cons, List.length_nil, List.set_cons_zero, List.set_cons_succ, atI_0, atI_1, atI_2, atI_3, List.replicate, Nat.zero_add, Nat.reduceAdd, Nat.reduceSub, seqW_ref, seqW_tup, c_leS, b_iaddI, b_iaddS, b_isub, w_enum, w_rngd, w_lam, x_ite, w_zip, w_callv, s_setX, s_retX, s_exprX, s_raise, x_call, x_tup, xs_nil, xs_ok, xs_may, byX_tup, byX_exc, byV_tup, byV_str, byV_int, byV_bl, byV_non, byV_ref, byV_exc]
  refine draw_w h4 (k + 4) dK (.refl _ _ _) (by omega) 8 (by omega) (by omega) fun mo S1 m1 m2 dk1 kx1 _ => ?_
  obtain ⟨m, hm⟩ : ∃ m : Nat, 4 + mo = (m : Int) := ⟨(4 + mo).toNat, by omega⟩
  try simp only [w_var, w_c, w_bin, w_cmp, w_chain, w_and, w_or, w_ite, w_not, w_nil, w_cons, w_tup, w_lst, w_ix, w_no, w_yes, w_sl, w_call, w_bi, w_val, w_rng1, w_rng2, s_nil, s_cons, s_ret, s_expr, s_set, s_if, s_pass, s_setix, s_app, s_ext, o_addI, o_addS, o_addT, o_addL, o_sub, o_mulI, o_mulS, o_mulL, o_fdiv, o_mod, o_pow, c_ltI, c_ltS, c_le, c_gt, c_ge, c_eq, c_ne, e_ii, e_ss, e_bb, c_inS, c_notS, i_str, i_tup, i_ref, l_str, l_tup, l_rol, l_ref, b_lenS, b_lenT, b_lenR, b_abs, b_tupR, b_tupT, b_listR, b_listT, b_all, b_any, b_intI, b_intB, b_isiN, b_isiB, b_isiI, b_isiS, b_isiT, b_isiR, b_isiL, b_isN, b_notN, b_neg, b_rev, b_join, t_str, is_some, isB_some, byB_true, byB_false, start, wipe, bindT, List.map_cons, List.map_nil, List.cons_append, List.nil_append, List.append_nil, List.getElem?_cons_zero, List.getElem?_cons_succ, List.length_cons, List.length_nil, List.set_cons_zero, List.set_cons_succ, atI_0, atI_1, atI_2, atI_3, List.replicate, Nat.zero_add, Nat.reduceAdd, Nat.reduceSub, seqW_ref, seqW_tup, c_leS, b_iaddI, b_iaddS, b_isub, w_enum, w_rngd, w_lam, x_ite, w_zip, w_callv, s_setX, s_retX, s_exprX, s_raise, x_call, x_tup, xs_nil, xs_ok, xs_may, byX_tup, byX_exc, byV_tup, byV_str, byV_int, byV_bl, byV_non, byV_ref, byV_exc]
  rw [hm]
  refine tree_w h4 h692 (k + 3) dk1 (by omega) (by omega) (by omega) fun T f n2 S2 tr ok dk2 hn2 kx2 lT => ?_
  have le := expd_le ok (Nat.le_refl d)
  try simp only [w_var, w_c, w_bin, w_cmp, w_chain, w_and, w_or, w_ite, w_not, w_nil, w_cons, w_tup, w_lst, w_ix, w_no, w_yes, w_sl, w_call, w_bi, w_val, w_rng1, w_rng2, s_nil, s_cons, s_ret, s_expr, s_set, s_if, s_pass, s_setix, s_app, s_ext, o_addI, o_addS, o_addT, o_addL, o_sub, o_mulI, o_mulS, o_mulL, o_fdiv, o_mod, o_pow, c_ltI, c_ltS, c_le, c_gt, c_ge, c_eq, c_ne, e_ii, e_ss, e_bb, c_inS, c_notS, i_str, i_tup, i_ref, l_str, l_tup, l_rol, l_ref, b_lenS, b_lenT, b_lenR, b_abs, b_tupR, b_tupT, b_listR, b_listT, b_all, b_any, b_intI, b_intB, b_isiN, b_isiB, b_isiI, b_isiS, b_isiT, b_isiR, b_isiL, b_isN, b_notN, b_neg, b_rev, b_join, t_str, is_some, isB_some, byB_true, byB_false, start, wipe, bindT, List.map_cons, List.map_nil, List.cons_append, List.nil_append, List.append_nil, List.getElem?_cons_zero, List.getElem?_cons_succ, List.length_cons, List.length_nil, List.set_cons_zero, List.set_cons_succ, atI_0, atI_1, atI_2, atI_3, List.replicate, Nat.zero_add, Nat.reduceAdd, Nat.reduceSub, seqW_ref, seqW_tup, c_leS, b_iaddI, b_iaddS, b_isub, w_enum, w_rngd, w_lam, x_ite, w_zip, w_callv, s_setX, s_retX, s_exprX, s_raise, x_call, x_tup, xs_nil, xs_ok, xs_may, byX_tup, byX_exc, byV_tup, byV_str, byV_int, byV_bl, byV_non, byV_ref, byV_exc]
  refine due7_w ok ?_
  try simp only [w_var, w_c, w_bin, w_cmp, w_chain, w_and, w_or, w_ite, w_not, w_nil, w_cons, w_tup, w_lst, w_ix, w_no, w_yes, w_sl, w_call, w_bi, w_val, w_rng1, w_rng2, s_nil, s_cons, s_ret, s_expr, s_set, s_if, s_pass, s_setix, s_app, s_ext, o_addI, o_addS, o_addT, o_addL, o_sub, o_mulI, o_mulS, o_mulL, o_fdiv, o_mod, o_pow, c_ltI, c_ltS, c_le, c_gt, c_ge, c_eq, c_ne, e_ii, e_ss, e_bb, c_inS, c_notS, i_str, i_tup, i_ref, l_str, l_tup, l_rol, l_ref, b_lenS, b_lenT, b_lenR, b_abs, b_tupR, b_tupT, b_listR, b_listT, b_all, b_any, b_intI, b_intB, b_isiN, b_isiB, b_isiI, b_isiS, b_isiT, b_isiR, b_isiL, b_isN, b_notN, b_neg, b_rev, b_join, t_str, is_some, isB_some, byB_true, byB_false, start, wipe, bindT, List.map_cons, List.map_nil, List.cons_append, List.nil_append, List.append_nil, List.getElem?_cons_zero, List.getElem?_cons_succ, List.length_cons, List.length_nil, List.set_cons_zero, List.set_cons_succ, atI_0, atI_1, atI_2, atI_3, List.replicate, Nat.zero_add, Nat.reduceAdd, Nat.reduceSub, seqW_ref, seqW_tup, c_leS, b_iaddI, b_iaddS, b_isub, w_enum, w_rngd, w_lam, x_ite, w_zip, w_callv, s_setX, s_retX, s_exprX, s_raise, x_call, x_tup, xs_nil, xs_ok, xs_may, byX_tup, byX_exc, byV_tup, byV_str, byV_int, byV_bl, byV_non, byV_ref, byV_exc]
  refine ways_w h693 (k + 4) tr ok (by omega) fun j S3 k3 hj lj => ?_
  refine ⟨j, rfl, hj, by decide, ?_⟩
  have hF2 := rd_kx (rd_kx hF kx1 nF.1 nF.2) kx2 nF.1 nF.2
  generalize hS4 : S3 ++ [SO.lst ((expd f d [[]]).map duW)] = S4
  have k4 : Kp S3 S4 := by rw [← hS4]; exact .app _ _
  have hU : rdL S4 S3.length = some ((expd f d [[]]).map duW) := by rw [← hS4]; exact rdL_new _ _
  have lU : S3.length < S4.length := by rw [← hS4]; simp
  generalize hS5 : S4 ++ [SO.lst []] = S5
  have k5 : Kp S4 S5 := by rw [← hS5]; exact .app _ _
  have hG : rdL S5 S4.length = some [] := by rw [← hS5]; exact rdL_new _ _
  simp only [w_mk, w_var, w_c, w_bin, w_cmp, w_chain, w_and, w_or, w_ite, w_not, w_nil, w_cons, w_tup, w_lst, w_ix, w_no, w_yes, w_sl, w_call, w_bi, w_val, w_rng1, w_rng2, s_nil, s_cons, s_ret, s_expr, s_set, s_if, s_pass, s_setix, s_app, s_ext, o_addI, o_addS, o_addT, o_addL, o_sub, o_mulI, o_mulS, o_mulL, o_fdiv, o_mod, o_pow, c_ltI, c_ltS, c_le, c_gt, c_ge, c_eq, c_ne, e_ii, e_ss, e_bb, c_inS, c_notS, i_str, i_tup, i_ref, l_str, l_tup, l_rol, l_ref, b_lenS, b_lenT, b_lenR, b_abs, b_tupR, b_tupT, b_listR, b_listT, b_all, b_any, b_intI, b_intB, b_isiN, b_isiB, b_isiI, b_isiS, b_isiT, b_isiR, b_isiL, b_isN, b_notN, b_neg, b_rev, b_join, t_str, is_some, isB_some, byB_true, byB_false, start, wipe, bindT, List.map_cons, List.map_nil, List.cons_append, List.nil_append, List.append_nil, List.getElem?_cons_zero, List.getElem?_cons_succ, List.length_cons, List.length_nil, List.set_cons_zero, List.set_cons_succ, atI_0, atI_1, atI_2, atI_3, List.replicate, Nat.zero_add, Nat.reduceAdd, Nat.reduceSub, seqW_ref, seqW_tup, c_leS, b_iaddI, b_iaddS, b_isub, w_enum, w_rngd, w_lam, x_ite, w_zip, w_callv, s_setX, s_retX, s_exprX, s_raise, x_call, x_tup, xs_nil, xs_ok, xs_may, byX_tup, byX_exc, byV_tup, byV_str, byV_int, byV_bl, byV_non, byV_ref, byV_exc]
  refine init_w C (k + 4) ?_
  try simp only [w_var, w_c, w_bin, w_cmp, w_chain, w_and, w_or, w_ite, w_not, w_nil, w_cons, w_tup, w_lst, w_ix, w_no, w_yes, w_sl, w_call, w_bi, w_val, w_rng1, w_rng2, s_nil, s_cons, s_ret, s_expr, s_set, s_if, s_pass, s_setix, s_app, s_ext, o_addI, o_addS, o_addT, o_addL, o_sub, o_mulI, o_mulS, o_mulL, o_fdiv, o_mod, o_pow, c_ltI, c_ltS, c_le, c_gt, c_ge, c_eq, c_ne, e_ii, e_ss, e_bb, c_inS, c_notS, i_str, i_tup, i_ref, l_str, l_tup, l_rol, l_ref, b_lenS, b_lenT, b_lenR, b_abs, b_tupR, b_tupT, b_listR, b_listT, b_all, b_any, b_intI, b_intB, b_isiN, b_isiB, b_isiI, b_isiS, b_isiT, b_isiR, b_isiL, b_isN, b_notN, b_neg, b_rev, b_join, t_str, is_some, isB_some, byB_true, byB_false, start, wipe, bindT, List.map_cons, List.map_nil, List.cons_append, List.nil_append, List.append_nil, List.getElem?_cons_zero, List.getElem?_cons_succ, List.length_cons, List.length_nil, List.set_cons_zero, List.set_cons_succ, atI_0, atI_1, atI_2, atI_3, List.replicate, Nat.zero_add, Nat.reduceAdd, Nat.reduceSub, seqW_ref, seqW_tup, c_leS, b_iaddI, b_iaddS, b_isub, w_enum, w_rngd, w_lam, x_ite, w_zip, w_callv, s_setX, s_retX, s_exprX, s_raise, x_call, x_tup, xs_nil, xs_ok, xs_may, byX_tup, byX_exc, byV_tup, byV_str, byV_int, byV_bl, byV_non, byV_ref, byV_exc]
  refine ⟨trivial, ?_⟩
  generalize hS6 : S5 ++ [SO.clo 9001 []] = S6
  have k6 : Kp S5 S6 := by rw [← hS6]; exact .app _ _
  have hc : S6[S5.length]? = some (.clo 9001 []) := by rw [← hS6]; exact at_last _ _
  have k7 : Kp S6 (S6 ++ [wkO S5.length d W.non false 0]) := .app _ _
  have l3 : S2.length ≤ S3.length := k3.1
  have lF : F < S2.length := (List.getElem?_eq_some_iff.mp (rdL_iff.mp hF2)).1
  have kA := ((k4.trans k5).trans k6).trans k7
  subst hT
  refine loop_w C h694 h699 hl k (A := expd f d [[]]) (f := f) (c := S5.length) ⟨(tr.kp k3).kp kA, rdL_of (((k5.trans k6).trans k7).get (rdL_iff.mp hU)), rdL_of ((k6.trans k7).get (rdL_iff.mp hG)), rdL_of ((k3.trans kA).get (rdL_iff.mp hF2)), k7.get hc, .fresh (at_last _ _), by omega, by omega⟩ hd h0 le (fun p hp => by have := expd_len f d p hp; omega) hFl ok.gd0
theorem law_is (C : WkC ds) (h3 : ds 3 = some ⟨1, 2, b_law_deck⟩) (h4 : ds 4 = some ⟨2, 4, b_law_draw⟩) (h692 : ds 692 = some ⟨3, 12, b_law_tree⟩) (h693 : ds 693 = some ⟨2, 9, b_law_ways⟩) (h694 : ds 694 = some ⟨2, 4, b_law_alike⟩) (h699 : ds 699 = some ⟨1, 3, b_law_more⟩) (hl7 : Ask7 ds) (h1093 : ds 1093 = some ⟨1, 18, b_law_v143⟩) (k : Nat) (ns : List Int) (hl : ns.length ≤ 63) :
    Is (callF ds (k + 6) 1093 [.rol (ns.map .int)] []) fun w _ => w = .bl true := by
  refine w_callF (k := k + 5) h1093 rfl ?_
  have eb : b_law_v143 = .cons (hd1 b_law_v143) (.cons (hd1 (tl1 b_law_v143)) (.cons (hd1 (tl1 (tl1 b_law_v143))) (.cons (hd1 (tl1 (tl1 (tl1 b_law_v143)))) l4))) := rfl
  rw [eb]
  generalize hT : l4 = tl
  simp only [b_law_v143, tl1, hd1, w_var, w_c, w_bin, w_cmp, w_chain, w_and, w_or, w_ite, w_not, w_nil, w_cons, w_tup, w_lst, w_ix, w_no, w_yes, w_sl, w_call, w_bi, w_val, w_rng1, w_rng2, s_nil, s_cons, s_ret, s_expr, s_set, s_if, s_pass, s_setix, s_app, s_ext, o_addI, o_addS, o_addT, o_addL, o_sub, o_mulI, o_mulS, o_mulL, o_fdiv, o_mod, o_pow, c_ltI, c_ltS, c_le, c_gt, c_ge, c_eq, c_ne, e_ii, e_ss, e_bb, c_inS, c_notS, i_str, i_tup, i_ref, l_str, l_tup, l_rol, l_ref, b_lenS, b_lenT, b_lenR, b_abs, b_tupR, b_tupT, b_listR, b_listT, b_all, b_any, b_intI, b_intB, b_isiN, b_isiB, b_isiI, b_isiS, b_isiT, b_isiR, b_isiL, b_isN, b_notN, b_neg, b_rev, b_join, t_str, is_some, isB_some, byB_true, byB_false, start, wipe, bindT, List.map_cons, List.map_nil, List.cons_append, List.nil_append, List.append_nil, List.getElem?_cons_zero, List.getElem?_cons_succ, List.length_cons, List.length_nil, List.set_cons_zero, List.set_cons_succ, atI_0, atI_1, atI_2, atI_3, List.replicate, Nat.zero_add, Nat.reduceAdd, Nat.reduceSub, seqW_ref, seqW_tup, c_leS, b_iaddI, b_iaddS, b_isub, w_enum, w_rngd, w_lam, x_ite, w_zip, w_callv, s_setX, s_retX, s_exprX, s_raise, x_call, x_tup, xs_nil, xs_ok, xs_may, byX_tup, byX_exc, byV_tup, byV_str, byV_int, byV_bl, byV_non, byV_ref, byV_exc]
  refine (deck_spec h3 (k + 4) [] ns hl).imp fun w S1 hw => ?_
  obtain ⟨rfl, dk1, _⟩ := hw
  have lt := dk1.lt
  try simp only [w_var, w_c, w_bin, w_cmp, w_chain, w_and, w_or, w_ite, w_not, w_nil, w_cons, w_tup, w_lst, w_ix, w_no, w_yes, w_sl, w_call, w_bi, w_val, w_rng1, w_rng2, s_nil, s_cons, s_ret, s_expr, s_set, s_if, s_pass, s_setix, s_app, s_ext, o_addI, o_addS, o_addT, o_addL, o_sub, o_mulI, o_mulS, o_mulL, o_fdiv, o_mod, o_pow, c_ltI, c_ltS, c_le, c_gt, c_ge, c_eq, c_ne, e_ii, e_ss, e_bb, c_inS, c_notS, i_str, i_tup, i_ref, l_str, l_tup, l_rol, l_ref, b_lenS, b_lenT, b_lenR, b_abs, b_tupR, b_tupT, b_listR, b_listT, b_all, b_any, b_intI, b_intB, b_isiN, b_isiB, b_isiI, b_isiS, b_isiT, b_isiR, b_isiL, b_isN, b_notN, b_neg, b_rev, b_join, t_str, is_some, isB_some, byB_true, byB_false, start, wipe, bindT, List.map_cons, List.map_nil, List.cons_append, List.nil_append, List.append_nil, List.getElem?_cons_zero, List.getElem?_cons_succ, List.length_cons, List.length_nil, List.set_cons_zero, List.set_cons_succ, atI_0, atI_1, atI_2, atI_3, List.replicate, Nat.zero_add, Nat.reduceAdd, Nat.reduceSub, seqW_ref, seqW_tup, c_leS, b_iaddI, b_iaddS, b_isub, w_enum, w_rngd, w_lam, x_ite, w_zip, w_callv, s_setX, s_retX, s_exprX, s_raise, x_call, x_tup, xs_nil, xs_ok, xs_may, byX_tup, byX_exc, byV_tup, byV_str, byV_int, byV_bl, byV_non, byV_ref, byV_exc]
  refine w_compX ?_
  try simp only [w_var, w_c, w_bin, w_cmp, w_chain, w_and, w_or, w_ite, w_not, w_nil, w_cons, w_tup, w_lst, w_ix, w_no, w_yes, w_sl, w_call, w_bi, w_val, w_rng1, w_rng2, s_nil, s_cons, s_ret, s_expr, s_set, s_if, s_pass, s_setix, s_app, s_ext, o_addI, o_addS, o_addT, o_addL, o_sub, o_mulI, o_mulS, o_mulL, o_fdiv, o_mod, o_pow, c_ltI, c_ltS, c_le, c_gt, c_ge, c_eq, c_ne, e_ii, e_ss, e_bb, c_inS, c_notS, i_str, i_tup, i_ref, l_str, l_tup, l_rol, l_ref, b_lenS, b_lenT, b_lenR, b_abs, b_tupR, b_tupT, b_listR, b_listT, b_all, b_any, b_intI, b_intB, b_isiN, b_isiB, b_isiI, b_isiS, b_isiT, b_isiR, b_isiL, b_isN, b_notN, b_neg, b_rev, b_join, t_str, is_some, isB_some, byB_true, byB_false, start, wipe, bindT, List.map_cons, List.map_nil, List.cons_append, List.nil_append, List.append_nil, List.getElem?_cons_zero, List.getElem?_cons_succ, List.length_cons, List.length_nil, List.set_cons_zero, List.set_cons_succ, atI_0, atI_1, atI_2, atI_3, List.replicate, Nat.zero_add, Nat.reduceAdd, Nat.reduceSub, seqW_ref, seqW_tup, c_leS, b_iaddI, b_iaddS, b_isub, w_enum, w_rngd, w_lam, x_ite, w_zip, w_callv, s_setX, s_retX, s_exprX, s_raise, x_call, x_tup, xs_nil, xs_ok, xs_may, byX_tup, byX_exc, byV_tup, byV_str, byV_int, byV_bl, byV_non, byV_ref, byV_exc]
  refine draw_w h4 (k + 4) dk1 (.refl _ _ _) (by omega) 5 (by omega) (by omega) fun v S2 v1 v2 dk2 kx2 _ => ?_
  have l2 : S1.length ≤ S2.length := kx2.1
  refine ⟨by unfold rngOk; simp; omega, v.toNat, fun i acc S' => ∃ F0 : List Int, acc = F0.map .int ∧ F0.length = i ∧ ∃ d c, d = ([] : Sto).length + 2 ∧ c = ([] : Sto).length + 1 ∧ Dk d c (1 + i) S' ∧ Kx d c S2 S', by simp only [LIM]; omega, rfl, ⟨[], rfl, rfl, _, _, rfl, rfl, dk2, .refl _ _ _⟩, fun i acc S' hi hI => ?_, fun acc S' _ hI => ?_⟩
  · obtain ⟨F0, rfl, hF0, d, c, rfl, rfl, dk3, kx3⟩ := hI
    refine ⟨.int (i : Nat), _, by simp [Src.item, hi], rfl, ?_⟩
    try simp only [w_var, w_c, w_bin, w_cmp, w_chain, w_and, w_or, w_ite, w_not, w_nil, w_cons, w_tup, w_lst, w_ix, w_no, w_yes, w_sl, w_call, w_bi, w_val, w_rng1, w_rng2, s_nil, s_cons, s_ret, s_expr, s_set, s_if, s_pass, s_setix, s_app, s_ext, o_addI, o_addS, o_addT, o_addL, o_sub, o_mulI, o_mulS, o_mulL, o_fdiv, o_mod, o_pow, c_ltI, c_ltS, c_le, c_gt, c_ge, c_eq, c_ne, e_ii, e_ss, e_bb, c_inS, c_notS, i_str, i_tup, i_ref, l_str, l_tup, l_rol, l_ref, b_lenS, b_lenT, b_lenR, b_abs, b_tupR, b_tupT, b_listR, b_listT, b_all, b_any, b_intI, b_intB, b_isiN, b_isiB, b_isiI, b_isiS, b_isiT, b_isiR, b_isiL, b_isN, b_notN, b_neg, b_rev, b_join, t_str, is_some, isB_some, byB_true, byB_false, start, wipe, bindT, List.map_cons, List.map_nil, List.cons_append, List.nil_append, List.append_nil, List.getElem?_cons_zero, List.getElem?_cons_succ, List.length_cons, List.length_nil, List.set_cons_zero, List.set_cons_succ, atI_0, atI_1, atI_2, atI_3, List.replicate, Nat.zero_add, Nat.reduceAdd, Nat.reduceSub, seqW_ref, seqW_tup, c_leS, b_iaddI, b_iaddS, b_isub, w_enum, w_rngd, w_lam, x_ite, w_zip, w_callv, s_setX, s_retX, s_exprX, s_raise, x_call, x_tup, xs_nil, xs_ok, xs_may, byX_tup, byX_exc, byV_tup, byV_str, byV_int, byV_bl, byV_non, byV_ref, byV_exc]
    refine draw_w h4 (k + 4) dk3 kx3 (by omega) 12 (by omega) (by omega) fun u S4 u1 u2 dk4 kx4 _ => ?_
    try simp only [w_var, w_c, w_bin, w_cmp, w_chain, w_and, w_or, w_ite, w_not, w_nil, w_cons, w_tup, w_lst, w_ix, w_no, w_yes, w_sl, w_call, w_bi, w_val, w_rng1, w_rng2, s_nil, s_cons, s_ret, s_expr, s_set, s_if, s_pass, s_setix, s_app, s_ext, o_addI, o_addS, o_addT, o_addL, o_sub, o_mulI, o_mulS, o_mulL, o_fdiv, o_mod, o_pow, c_ltI, c_ltS, c_le, c_gt, c_ge, c_eq, c_ne, e_ii, e_ss, e_bb, c_inS, c_notS, i_str, i_tup, i_ref, l_str, l_tup, l_rol, l_ref, b_lenS, b_lenT, b_lenR, b_abs, b_tupR, b_tupT, b_listR, b_listT, b_all, b_any, b_intI, b_intB, b_isiN, b_isiB, b_isiI, b_isiS, b_isiT, b_isiR, b_isiL, b_isN, b_notN, b_neg, b_rev, b_join, t_str, is_some, isB_some, byB_true, byB_false, start, wipe, bindT, List.map_cons, List.map_nil, List.cons_append, List.nil_append, List.append_nil, List.getElem?_cons_zero, List.getElem?_cons_succ, List.length_cons, List.length_nil, List.set_cons_zero, List.set_cons_succ, atI_0, atI_1, atI_2, atI_3, List.replicate, Nat.zero_add, Nat.reduceAdd, Nat.reduceSub, seqW_ref, seqW_tup, c_leS, b_iaddI, b_iaddS, b_isub, w_enum, w_rngd, w_lam, x_ite, w_zip, w_callv, s_setX, s_retX, s_exprX, s_raise, x_call, x_tup, xs_nil, xs_ok, xs_may, byX_tup, byX_exc, byV_tup, byV_str, byV_int, byV_bl, byV_non, byV_ref, byV_exc]
    refine ⟨F0 ++ [1 + u], by simp, by simp [hF0], _, _, rfl, rfl, dk4, kx4⟩
  · obtain ⟨F0, rfl, hF0, d, c, rfl, rfl, dk3, kx3⟩ := hI
    refine ⟨⟨_, Nat.le_refl _, rfl⟩, ?_⟩
    try simp only [w_var, w_c, w_bin, w_cmp, w_chain, w_and, w_or, w_ite, w_not, w_nil, w_cons, w_tup, w_lst, w_ix, w_no, w_yes, w_sl, w_call, w_bi, w_val, w_rng1, w_rng2, s_nil, s_cons, s_ret, s_expr, s_set, s_if, s_pass, s_setix, s_app, s_ext, o_addI, o_addS, o_addT, o_addL, o_sub, o_mulI, o_mulS, o_mulL, o_fdiv, o_mod, o_pow, c_ltI, c_ltS, c_le, c_gt, c_ge, c_eq, c_ne, e_ii, e_ss, e_bb, c_inS, c_notS, i_str, i_tup, i_ref, l_str, l_tup, l_rol, l_ref, b_lenS, b_lenT, b_lenR, b_abs, b_tupR, b_tupT, b_listR, b_listT, b_all, b_any, b_intI, b_intB, b_isiN, b_isiB, b_isiI, b_isiS, b_isiT, b_isiR, b_isiL, b_isN, b_notN, b_neg, b_rev, b_join, t_str, is_some, isB_some, byB_true, byB_false, start, wipe, bindT, List.map_cons, List.map_nil, List.cons_append, List.nil_append, List.append_nil, List.getElem?_cons_zero, List.getElem?_cons_succ, List.length_cons, List.length_nil, List.set_cons_zero, List.set_cons_succ, atI_0, atI_1, atI_2, atI_3, List.replicate, Nat.zero_add, Nat.reduceAdd, Nat.reduceSub, seqW_ref, seqW_tup, c_leS, b_iaddI, b_iaddS, b_isub, w_enum, w_rngd, w_lam, x_ite, w_zip, w_callv, s_setX, s_retX, s_exprX, s_raise, x_call, x_tup, xs_nil, xs_ok, xs_may, byX_tup, byX_exc, byV_tup, byV_str, byV_int, byV_bl, byV_non, byV_ref, byV_exc]
    have k4 : Kp S' (S' ++ [.lst (F0.map .int)]) := .app _ _
    have l3 : S2.length ≤ S'.length := kx3.1
    refine draw_w h4 (k + 4) (dk3.kp k4) (.refl _ _ _) (by omega) 2 (by omega) (by omega) fun kd S5 w1 w2 dk5 kx5 _ => ?_
    try simp only [w_var, w_c, w_bin, w_cmp, w_chain, w_and, w_or, w_ite, w_not, w_nil, w_cons, w_tup, w_lst, w_ix, w_no, w_yes, w_sl, w_call, w_bi, w_val, w_rng1, w_rng2, s_nil, s_cons, s_ret, s_expr, s_set, s_if, s_pass, s_setix, s_app, s_ext, o_addI, o_addS, o_addT, o_addL, o_sub, o_mulI, o_mulS, o_mulL, o_fdiv, o_mod, o_pow, c_ltI, c_ltS, c_le, c_gt, c_ge, c_eq, c_ne, e_ii, e_ss, e_bb, c_inS, c_notS, i_str, i_tup, i_ref, l_str, l_tup, l_rol, l_ref, b_lenS, b_lenT, b_lenR, b_abs, b_tupR, b_tupT, b_listR, b_listT, b_all, b_any, b_intI, b_intB, b_isiN, b_isiB, b_isiI, b_isiS, b_isiT, b_isiR, b_isiL, b_isN, b_notN, b_neg, b_rev, b_join, t_str, is_some, isB_some, byB_true, byB_false, start, wipe, bindT, List.map_cons, List.map_nil, List.cons_append, List.nil_append, List.append_nil, List.getElem?_cons_zero, List.getElem?_cons_succ, List.length_cons, List.length_nil, List.set_cons_zero, List.set_cons_succ, atI_0, atI_1, atI_2, atI_3, List.replicate, Nat.zero_add, Nat.reduceAdd, Nat.reduceSub, seqW_ref, seqW_tup, c_leS, b_iaddI, b_iaddS, b_isub, w_enum, w_rngd, w_lam, x_ite, w_zip, w_callv, s_setX, s_retX, s_exprX, s_raise, x_call, x_tup, xs_nil, xs_ok, xs_may, byX_tup, byX_exc, byV_tup, byV_str, byV_int, byV_bl, byV_non, byV_ref, byV_exc]
    refine draw_w h4 (k + 4) dk5 kx5 (by omega) 5 (by omega) (by omega) fun dp S6 u1 u2 dk6 kx6 _ => ?_
    try simp only [w_var, w_c, w_bin, w_cmp, w_chain, w_and, w_or, w_ite, w_not, w_nil, w_cons, w_tup, w_lst, w_ix, w_no, w_yes, w_sl, w_call, w_bi, w_val, w_rng1, w_rng2, s_nil, s_cons, s_ret, s_expr, s_set, s_if, s_pass, s_setix, s_app, s_ext, o_addI, o_addS, o_addT, o_addL, o_sub, o_mulI, o_mulS, o_mulL, o_fdiv, o_mod, o_pow, c_ltI, c_ltS, c_le, c_gt, c_ge, c_eq, c_ne, e_ii, e_ss, e_bb, c_inS, c_notS, i_str, i_tup, i_ref, l_str, l_tup, l_rol, l_ref, b_lenS, b_lenT, b_lenR, b_abs, b_tupR, b_tupT, b_listR, b_listT, b_all, b_any, b_intI, b_intB, b_isiN, b_isiB, b_isiI, b_isiS, b_isiT, b_isiR, b_isiL, b_isN, b_notN, b_neg, b_rev, b_join, t_str, is_some, isB_some, byB_true, byB_false, start, wipe, bindT, List.map_cons, List.map_nil, List.cons_append, List.nil_append, List.append_nil, List.getElem?_cons_zero, List.getElem?_cons_succ, List.length_cons, List.length_nil, List.set_cons_zero, List.set_cons_succ, atI_0, atI_1, atI_2, atI_3, List.replicate, Nat.zero_add, Nat.reduceAdd, Nat.reduceSub, seqW_ref, seqW_tup, c_leS, b_iaddI, b_iaddS, b_isub, w_enum, w_rngd, w_lam, x_ite, w_zip, w_callv, s_setX, s_retX, s_exprX, s_raise, x_call, x_tup, xs_nil, xs_ok, xs_may, byX_tup, byX_exc, byV_tup, byV_str, byV_int, byV_bl, byV_non, byV_ref, byV_exc]
    obtain ⟨d, hd⟩ : ∃ d : Nat, 1 + dp = (d : Int) := ⟨(1 + dp).toNat, by omega⟩
    rw [hd]
    have ne : S'.length ≠ ([] : Sto).length + 2 ∧ S'.length ≠ ([] : Sto).length + 1 := by omega
    subst hT
    exact tree7 C h4 h692 h693 h694 h699 hl7 k dk6 (by omega) (by omega) (by omega) (rd_kx (rdL_new _ _) kx6 ne.1 ne.2) (by omega) ne
end
theorem law_true (ns : List Int) (hl : ns.length ≤ 63) : ∃ S', callF ds 60 1093 [.rol (ns.map .int)] [] = some (.bl true, S') := by
  have C : WkC ds := ⟨rfl, rfl, rfl, rfl, rfl⟩
  obtain ⟨w, S', h1, h2⟩ := (law_is (ds := ds) C rfl rfl rfl rfl rfl rfl ⟨rfl, rfl⟩ rfl 54 ns hl).ex
  subst h2
  exact ⟨S', h1⟩
end Pg
namespace Pg
open PySem PySem.Spec PyProof.Rows L2 MP
def topS (i : Nat) : Stmt := PySem.Challenge.pw_markpieces_k57_walks_whose_edges_raise.main.body.getD i (.Pass ⟨0, 0, 0, 0⟩)
abbrev s_Walk___init__ : Stmt := inCls (topS 1) 0
abbrev s_Walk_more : Stmt := inCls (topS 1) 1
abbrev s_turned_off : Stmt := topS 2
abbrev s_lengthened : Stmt := topS 3
abbrev s_node_behind : Stmt := topS 4
abbrev s_law_deck : Stmt := topS 10
abbrev s_law_draw : Stmt := topS 11
abbrev s_law_tree : Stmt := topS 12
abbrev s_law_ways : Stmt := topS 13
abbrev s_law_alike : Stmt := topS 14
abbrev s_law_failing : Stmt := topS 15
abbrev s_law_more : Stmt := topS 16
abbrev s_law_v143 : Stmt := topS 17
theorem sc_Walk___init__ : FnScope ["self", "edges", "depth"] ["self", "edges", "depth"] (defScope s_Walk___init__) := ⟨rfl, rfl, rfl, by decide +kernel, rfl, by decide +kernel, by decide +kernel⟩
theorem sc_Walk_more : FnScope ["self", "begun", "trail", "edges", "number"] ["self"] (defScope s_Walk_more) := ⟨rfl, rfl, rfl, by decide +kernel, rfl, by decide +kernel, by decide +kernel⟩
theorem sc_turned_off : FnScope ["trail", "at", "edges", "number"] ["trail"] (defScope s_turned_off) := ⟨rfl, rfl, rfl, by decide +kernel, rfl, by decide +kernel, by decide +kernel⟩
theorem sc_lengthened : FnScope ["trail", "ask", "depth", "node", "edges"] ["trail", "ask", "depth"] (defScope s_lengthened) := ⟨rfl, rfl, rfl, by decide +kernel, rfl, by decide +kernel, by decide +kernel⟩
theorem sc_node_behind : FnScope ["trail", "edges", "number"] ["trail"] (defScope s_node_behind) := ⟨rfl, rfl, rfl, by decide +kernel, rfl, by decide +kernel, by decide +kernel⟩
theorem sc_law_deck : FnScope ["_law_script", "_law_cell"] ["_law_script"] (defScope s_law_deck) := ⟨rfl, rfl, rfl, by decide +kernel, rfl, by decide +kernel, by decide +kernel⟩
theorem sc_law_draw : FnScope ["_law_deck_here", "_law_many", "_law_cell", "_law_place"] ["_law_deck_here", "_law_many"] (defScope s_law_draw) := ⟨rfl, rfl, rfl, by decide +kernel, rfl, by decide +kernel, by decide +kernel⟩
theorem sc_law_tree : FnScope ["_law_deck_here", "_law_depth", "_law_most", "_law_tree_here", "_law_nodes", "_law_count", "_law_level", "_law_later", "_law_node", "_law_many", "_law_edges", "_law_k"] ["_law_deck_here", "_law_depth", "_law_most"] (defScope s_law_tree) := ⟨rfl, rfl, rfl, by decide +kernel, rfl, by decide +kernel, by decide +kernel⟩
theorem sc_law_ways : FnScope ["_law_tree_here", "_law_depth", "_law_found", "_law_level", "_law_longer", "_law_labels", "_law_nodes", "_law_label", "_law_node"] ["_law_tree_here", "_law_depth"] (defScope s_law_ways) := ⟨rfl, rfl, rfl, by decide +kernel, rfl, by decide +kernel, by decide +kernel⟩
theorem sc_law_alike : FnScope ["_law_found", "_law_due", "_law_one", "_law_other"] ["_law_found", "_law_due"] (defScope s_law_alike) := ⟨rfl, rfl, rfl, by decide +kernel, rfl, by decide +kernel, by decide +kernel⟩
theorem sc_law_failing : FnScope ["_law_log", "_law_tree_here", "_law_fails", "_law_kind", "_law_node"] ["_law_log", "_law_tree_here", "_law_fails", "_law_kind", "_law_node"] (defScope s_law_failing) := ⟨rfl, rfl, rfl, by decide +kernel, rfl, by decide +kernel, by decide +kernel⟩
theorem sc_law_more : FnScope ["_law_walk", "_law_found", "error"] ["_law_walk"] (defScope s_law_more) := ⟨rfl, rfl, rfl, by decide +kernel, rfl, by decide +kernel, by decide +kernel⟩
theorem sc_law_v143 : FnScope ["_law_script", "_law_deck_here", "_law_fails", "_law_kind", "_law_depth", "_law_tree_here", "_law_due", "_law_log", "_law_walk", "_law_at", "_law_turn", "_law_node", "_law_many", "_law_k", "_law_word", "_law_found", "_law_labels", "_law_nodes"] ["_law_script"] (defScope s_law_v143) := ⟨rfl, rfl, rfl, by decide +kernel, rfl, by decide +kernel, by decide +kernel⟩
abbrev s_NoName_init : Stmt := inS (topS 8) 0
abbrev s_Unread_init : Stmt := inS (topS 7) 0
/-- what the top has left -/
structure Top (P : Program) (w : World) (K : PySem.W.Frag) (mg : Str → Option Value) : Prop where
  z_abs : mg "abs" = none
  z_bool : mg "bool" = none
  z_isinstance : mg "isinstance" = none
  z_len : mg "len" = none
  z_list : mg "list" = none
  z_range : mg "range" = none
  z_super : mg "super" = none
  z_tuple : mg "tuple" = none
  z_zip : mg "zip" = none
  d_asked : FldOk K [[87, 97, 108, 107]] "asked"
  d_depth : FldOk K [[87, 97, 108, 107]] "depth"
  d_edges : FldOk K [[87, 97, 108, 107]] "edges"
  d_over : FldOk K [[87, 97, 108, 107]] "over"
  d_trail : FldOk K [[87, 97, 108, 107]] "trail"
  m_NoName : ∃ C f cda cc fd, Mk1L P K mg "NoName" "NoName.__init__" s_NoName_init C f cda cc fd "name" ∧ L2.Binds K fd ["self", "name"] []
  m_Unread : ∃ C f cda cc fd, Mk1 P K mg "Unread" "Unread.__init__" s_Unread_init C f cda cc fd "place" ∧ L2.Binds K fd ["self", "place"] []
  f_0 : ∀ (x : Str) (D : Addr), x.cps.toList ∈ ([[78, 111, 78, 97, 109, 101]] : List (List Nat)) → PySem.W.nsIn K mainGlobals x = some (some (.ref D)) → XfC K D ∧ PySem.W.findIn K (.ref D) "name" = some none
  f_1 : ∀ (x : Str) (D : Addr), x.cps.toList ∈ ([[85, 110, 114, 101, 97, 100]] : List (List Nat)) → PySem.W.nsIn K mainGlobals x = some (some (.ref D)) → XfC K D ∧ PySem.W.findIn K (.ref D) "place" = some none
  y_0 : ∃ C, ErrF K mg "NoName" C ∧ (∀ (y : Str) (D : Addr), y.cps.toList ∈ ([[78, 111, 78, 97, 109, 101]] : List (List Nat)) → PySem.W.nsIn K mainGlobals y = some (some (.ref D)) → PySem.W.exmOne K (.ref D) (.ref C) = some true) ∧ ∀ (y : Str) (D : Addr), y.cps.toList ∈ ([] : List (List Nat)) → PySem.W.nsIn K mainGlobals y = some (some (.ref D)) → PySem.W.exmOne K (.ref D) (.ref C) = some false
  y_1 : ∃ C, ErrF K mg "Unread" C ∧ (∀ (y : Str) (D : Addr), y.cps.toList ∈ ([[85, 110, 114, 101, 97, 100]] : List (List Nat)) → PySem.W.nsIn K mainGlobals y = some (some (.ref D)) → PySem.W.exmOne K (.ref D) (.ref C) = some true) ∧ ∀ (y : Str) (D : Addr), y.cps.toList ∈ ([[78, 111, 78, 97, 109, 101]] : List (List Nat)) → PySem.W.nsIn K mainGlobals y = some (some (.ref D)) → PySem.W.exmOne K (.ref D) (.ref C) = some false
theorem fn_NoName {P : Program} {w : World} {K : PySem.W.Frag} {mg : Str → Option Value} {base : Heap} {C f cda cc : Addr} {fd : FuncData} (M : Mk1L P K mg "NoName" "NoName.__init__" s_NoName_init C f cda cc fd "name") : FnOk P w K mg base CX0 1 f fd ["self", "name"] (sp1LI K C "name") := by
  obtain ⟨oc, kV, doc, pm, ct, od, an, osl, rfl, lk⟩ := M.lk
  refine fn_sup (CX := CX0) (k := 0) M.sup M.ox.at F.excBase_LookupError PySem.W.kxs_LookupError lk (NdefX.nscope_by (N := ["self", "name", "__class__"]) (by decide +kernel)) rfl rfl M.ms (by decide +kernel) (fun vs H Q E h => ?_) (fun A outer s H vs Q E F hF hr h => ?_) (fun env he => ?_) (fun env he => ?_) (fun env he => ?_) (fun env he => ?_) (fun env he => ?_)
  · obtain ⟨a, y, rfl, _⟩ := h
    rfl
  · obtain ⟨a, y, rfl, h1, hy, h3⟩ := h
    subst hF
    refine ⟨a, _, _, rfl, h1, pa_cons (pe_joined (.cons pe_str (.cons (pe_fmtR (pv 1)) .nil))) pa_nil, pss_one (ps_fieldL (pv 0) (pv 1)), fun R hR => ?_⟩
    show tJs [_, _] Str.empty _ H (fun out H1 => R [.str out] H1)
    refine js_cRI (Q := fun u H1 => R [u] H1) (by decide +kernel) rfl hy fun z => hR _ H h1 (by show 1 ≤ sizeLine; rw [sizeLine_eq]; omega) ?_
    exact ⟨_, rfl, _, rfl, a, C, rfl, M.ox, M.nf, h1, fun dx hd ha => h3 dx hd ha⟩
  all_goals (obtain ⟨⟩ := env; simp only at he; subst he; rfl)
theorem fn_Unread {P : Program} {w : World} {K : PySem.W.Frag} {mg : Str → Option Value} {base : Heap} {C f cda cc : Addr} {fd : FuncData} (M : Mk1 P K mg "Unread" "Unread.__init__" s_Unread_init C f cda cc fd "place") : FnOk P w K mg base CX0 1 f fd ["self", "place"] (sp1 K C "place") := by
  obtain ⟨oc, kV, doc, pm, ct, od, an, osl, rfl, lk⟩ := M.m0.lk
  refine fn_sup (CX := CX0) (k := 0) M.m0.sup (oex_at M.m0.ox) F.excBase_ValueError PySem.W.kxs_ValueError lk (NdefX.nscope_by (N := ["self", "place", "__class__"]) (by decide +kernel)) rfl rfl M.m0.ms (by decide +kernel) (fun vs H Q E h => ?_) (fun A outer s H vs Q E F hF hr h => ?_) (fun env he => ?_) (fun env he => ?_) (fun env he => ?_) (fun env he => ?_) (fun env he => ?_)
  · obtain ⟨a, v, rfl, _⟩ := h
    rfl
  · obtain ⟨a, v, rfl, h1, h2, h3⟩ := h
    subst hF
    refine ⟨a, _, _, rfl, h1, pa_cons (pe_joined (.cons pe_str (.cons (pe_fmt (pv 1)) .nil))) pa_nil, pss_one (ps_ost (pv 0) (pv 1)), fun R hR => ?_⟩
    show tJs [_, _] Str.empty _ H (fun out H1 => R [.str out] H1)
    refine js_cf (Q := fun u H1 => R [u] H1) (by decide +kernel) h2 rfl fun y => hR _ H h1 (by show 1 ≤ sizeLine; rw [sizeLine_eq]; omega) ?_
    exact ⟨v, rfl, _, rfl, a, C, rfl, M.m0.ox, M.nf, .inl ⟨h1, fun dx hd ha => h3 dx hd ha⟩⟩
  all_goals (obtain ⟨⟩ := env; simp only at he; subst he; rfl)
def tab : Nat → Option (Str × Nat)
  | 1088 => some ("turned_off", 1)
  | 1090 => some ("node_behind", 1)
  | 3 => some ("_law_deck", 1)
  | 4 => some ("_law_draw", 2)
  | 692 => some ("_law_tree", 3)
  | 693 => some ("_law_ways", 2)
  | 694 => some ("_law_alike", 2)
  | 699 => some ("_law_more", 1)
  | _ => none
def tabX : Nat → Option (Str × Nat)
  | 1089 => some ("lengthened", 3)
  | 698 => some ("_law_failing", 5)
  | _ => none
def Al (τ : TZ) (P : Program) (w : World) (K : PySem.W.Frag) (mg : Str → Option Value) (base : Heap) (k : Nat) : Prop := ∀ (i : Nat) (x : Str) (n : Nat), tab i = some (x, n) → Cal P w ⟨K, w, τ⟩ mg base (k + 5) (callF ds k) x i n
def AlX (τ : TZ) (P : Program) (w : World) (K : PySem.W.Frag) (mg : Str → Option Value) (base : Heap) (k : Nat) : Prop := ∀ (i : Nat) (x : Str) (n : Nat), tabX i = some (x, n) → CalX P w ⟨K, w, τ⟩ mg base (k + 5) (callF ds k) x i n
structure AlO (τ : TZ) (P : Program) (w : World) (K : PySem.W.Frag) (mg : Str → Option Value) (base : Heap) (k : Nat) : Prop where
  mk_Walk : MakeF P w ⟨K, w, τ⟩ mg base (k + 5) (callF ds k) "Walk" 1086 2
  mt_Walk_more : MetX P w ⟨K, w, τ⟩ mg base (k + 5) (callF ds k) "Walk" "more" 1087 0
  clo : ∀ l f, (τ).lam l ≠ none → FnR P w K mg base (L2.CX P w) (k + 5) f (spCloX ⟨K, w, τ⟩ (callF ds k) l f)
/-- the lambda that a class is made with -/
def lamOfSt (q : Str) : Stmt → Option LamD
  | .Assign _ (.Call _ (.Lambda p b s _ :: _) _ _) _ => some ⟨q, p, b, s⟩
  | _ => none
def lamT : Nat → Option LamD
  | 9001 => lamOfSt ("law" ++ ".<locals>." ++ "<lambda>") ((defBody s_law_v143).getD 7 (.Pass ⟨0, 0, 0, 0⟩))
  | _ => none
def nmT : List Str := ["_law_log", "_law_tree_here", "_law_fails", "_law_kind"]
abbrev tz (T0 : List (Addr × Str)) (C0 : List (Str × Addr)) : TZ := ⟨T0, C0, lamT, nmT⟩
section
variable {T0 : List (Addr × Str)} {C0 : List (Str × Addr)} {P : Program} {w : World} {K : PySem.W.Frag} {mg : Str → Option Value} {base : Heap} {k : Nat} {f : Addr} {fd : FuncData}
theorem okl_9001 (T : Top P w K mg) (al : Al (tz T0 C0) P w K mg base k) (alx : AlX (tz T0 C0) P w K mg base k) (alo : AlO (tz T0 C0) P w K mg base k) (f : Addr) : FnR P w K mg base (L2.CX P w) (k + 6) f (spCloX ⟨K, w, (tz T0 C0)⟩ (callF ds (k + 1)) 9001 f) :=
  clo_fnRX (k + 5) (x := "_law_node") (cb := e_lam9001) rfl (show (nmT ++ [("_law_node" : Str)]).Nodup by decide +kernel) (lamQ_by (nm := nmT) (by decide +kernel)) (fun _ _ _ _ _ => rfl) rfl (fun A outer s H g c2 E hr tk => (dx_call tk (alx 698 "_law_failing" 5 rfl) hr (dxs_ok (de_var 0) (dxs_ok (de_var 1) (dxs_ok (de_var 2) (dxs_ok (de_var 3) (dxs_ok (de_var 4) dxs_nil))))))) f
theorem ok_Walk___init__ (T : Top P w K mg) (al : Al (tz T0 C0) P w K mg base k) (alx : AlX (tz T0 C0) P w K mg base k) (alo : AlO (tz T0 C0) P w K mg base k) (F : Fun K "__init__" "Walk.__init__" s_Walk___init__ f fd) : FnOk P w K mg base CX0 (k + 6) f fd ["self", "edges", "depth"] (spD ⟨K, w, (tz T0 C0)⟩ (callF ds (k + 1)) 1086 3) :=
  fn_okRl (k + 5) (n := 3) (body := b_Walk___init__) F sc_Walk___init__ rfl rfl fun cdv A outer s H E hra hr => by
    have nd := sc_Walk___init__.nd
    have hrm : ∀ C us, Room (k + 5) (mkA_ (A.deeper (envOfC "Walk.__init__" (defScope s_Walk___init__) s.heap.objs.size f cdv)) C us) := fun C us => room_mk hra _ C us
    have hr1 : Room (k + 5) (A.deeper (envOfC "Walk.__init__" (defScope s_Walk___init__) s.heap.objs.size f cdv)).in1 := room_i1 hra _
    have hr2 : Room (k + 5) (A.deeper (envOfC "Walk.__init__" (defScope s_Walk___init__) s.heap.objs.size f cdv)).in1.in1 := room_i2 hra _
    exact (dss_cons (ds_fset T.d_edges (de_var 0) (de_var 1)) (dss_cons (ds_fset T.d_depth (de_var 0) (de_var 2)) (dss_cons (ds_fset T.d_trail (de_var 0) de_non) (dss_cons (ds_fset T.d_over (de_var 0) de_bl) (dss_cons (ds_fset T.d_asked (de_var 0) de_int) dss_nil)))))
theorem ok_Walk_more (T : Top P w K mg) (al : Al (tz T0 C0) P w K mg base k) (alx : AlX (tz T0 C0) P w K mg base k) (alo : AlO (tz T0 C0) P w K mg base k) (F : Fun K "more" "Walk.more" s_Walk_more f fd) : FnOk P w K mg base (L2.CX P w) (k + 6) f fd ["self"] (spX ⟨K, w, (tz T0 C0)⟩ (callF ds (k + 1)) 1087 1) :=
  fn_okXl (k + 5) (n := 1) (body := b_Walk_more) F sc_Walk_more rfl rfl fun cdv A outer s H E hra hr tk => by
    have nd := sc_Walk_more.nd
    have hrm : ∀ C us, Room (k + 5) (mkA_ (A.deeper (envOfC "Walk.more" (defScope s_Walk_more) s.heap.objs.size f cdv)) C us) := fun C us => room_mk hra _ C us
    have hr1 : Room (k + 5) (A.deeper (envOfC "Walk.more" (defScope s_Walk_more) s.heap.objs.size f cdv)).in1 := room_i1 hra _
    have hr2 : Room (k + 5) (A.deeper (envOfC "Walk.more" (defScope s_Walk_more) s.heap.objs.size f cdv)).in1.in1 := room_i2 hra _
    exact (sxs_cons (sx_of (ds_if (dt_val (de_fld T.d_over (de_var 0))) (dss_cons (ds_ret de_non) dss_nil) dss_nil)) (sxs_cons (sx_of (ds_set (dg_name 1 nd) (de_ite (dt_isN (de_fld T.d_trail (de_var 0))) (de_lst da_nil) (de_call (al 1088 "turned_off" 1 rfl) hr (da_cons (de_fld T.d_trail (de_var 0)) da_nil))))) (sxs_cons (sx_set (dg_name 2 nd) (dx_ite (dt_isN (de_var 1)) de_non (dx_call tk (alx 1089 "lengthened" 3 rfl) hr (dxs_ok (de_var 1) (dxs_ok (de_fld T.d_edges (de_var 0)) (dxs_ok (de_fld T.d_depth (de_var 0)) dxs_nil)))))) (sxs_cons (sx_of (ds_if (dt_isN (de_var 2)) (dss_cons (ds_fset T.d_over (de_var 0) de_bl) (dss_cons (ds_ret de_non) dss_nil)) dss_nil)) (sxs_cons (sx_of (ds_faug (i := 0) T.d_asked (de_var 0) (de_sub (de_fld T.d_depth (de_var 0)) (de_callB call_len cs_len T.z_len (by decide +kernel) (da_cons (de_var 1) da_nil))))) (sxs_cons (sx_of (ds_fset T.d_trail (de_var 0) (de_var 2))) (sxs_cons (sx_of (ds_ret (de_callTy call_tuple_of cs_tuple T.z_tuple (by decide +kernel) (da_cons (de_comp (own := [("edges", 3), ("number", 4)]) (go_seq _ 3 4 []) nd (di_val (de_var 2)) (blkOk_by (N := ["self", "begun", "trail", "edges", "number"]) (sc := defScope s_Walk_more) (by decide +kernel)) (fun _ _ _ _ _ => pg_seq rfl (pgs_cons (pg_name (i := 3) nd rfl (by first | exact .inl rfl | exact .inr rfl)) (pgs_cons (pg_name (i := 4) nd rfl (by first | exact .inl rfl | exact .inr rfl)) pgs_nil))) (fun _ _ _ _ _ => dts_nil) (fun _ _ _ _ _ => (de_ix (de_ix (de_var 3) (de_var 4)) de_int))) da_nil)))) sxs_nil)))))))
theorem ok_turned_off (T : Top P w K mg) (al : Al (tz T0 C0) P w K mg base k) (alx : AlX (tz T0 C0) P w K mg base k) (alo : AlO (tz T0 C0) P w K mg base k) (F : Fun K "turned_off" "turned_off" s_turned_off f fd) : FnOk P w K mg base CX0 (k + 6) f fd ["trail"] (spD ⟨K, w, (tz T0 C0)⟩ (callF ds (k + 1)) 1088 1) :=
  fn_okRl (k + 5) (n := 1) (body := b_turned_off) F sc_turned_off rfl rfl fun cdv A outer s H E hra hr => by
    have nd := sc_turned_off.nd
    have hrm : ∀ C us, Room (k + 5) (mkA_ (A.deeper (envOfC "turned_off" (defScope s_turned_off) s.heap.objs.size f cdv)) C us) := fun C us => room_mk hra _ C us
    have hr1 : Room (k + 5) (A.deeper (envOfC "turned_off" (defScope s_turned_off) s.heap.objs.size f cdv)).in1 := room_i1 hra _
    have hr2 : Room (k + 5) (A.deeper (envOfC "turned_off" (defScope s_turned_off) s.heap.objs.size f cdv)).in1.in1 := room_i2 hra _
    exact (dss_cons (ds_for (dg_name 1 nd) (di_rngD T.z_range (de_sub (de_callB call_len cs_len T.z_len (by decide +kernel) (da_cons (de_var 0) da_nil)) de_int) de_m1 de_m1) (dss_cons (ds_set (dg_seq 2 3 [] (pgs_cons (pg_name (i := 2) nd rfl (by first | exact .inl rfl | exact .inr rfl)) (pgs_cons (pg_name (i := 3) nd rfl (by first | exact .inl rfl | exact .inr rfl)) pgs_nil))) (de_ix (de_var 0) (de_var 1))) (dss_cons (ds_if (dt_cmp (ck_lt hr) (de_add (de_var 3) de_int) (de_callB call_len cs_len T.z_len (by decide +kernel) (da_cons (de_var 2) da_nil))) (dss_cons (ds_ret (de_starL (de_sl (de_var 0) do_none (do_some (de_var 1))) (de_tup (da_cons (de_var 2) (da_cons (de_addI (de_var 3) de_int) da_nil))) rfl rfl (st_tup (sts_cons (st_var 2) (sts_cons (st_subI (st_var 3) (st_c (.int 1))) sts_nil))))) dss_nil) dss_nil) dss_nil)) PassesOwn.never) (dss_cons (ds_ret de_non) dss_nil))
theorem ok_lengthened (T : Top P w K mg) (al : Al (tz T0 C0) P w K mg base k) (alx : AlX (tz T0 C0) P w K mg base k) (alo : AlO (tz T0 C0) P w K mg base k) (F : Fun K "lengthened" "lengthened" s_lengthened f fd) : FnOk P w K mg base (L2.CX P w) (k + 6) f fd ["trail", "ask", "depth"] (spX ⟨K, w, (tz T0 C0)⟩ (callF ds (k + 1)) 1089 3) :=
  fn_okXl (k + 5) (n := 3) (body := b_lengthened) F sc_lengthened rfl rfl fun cdv A outer s H E hra hr tk => by
    have nd := sc_lengthened.nd
    have hrm : ∀ C us, Room (k + 5) (mkA_ (A.deeper (envOfC "lengthened" (defScope s_lengthened) s.heap.objs.size f cdv)) C us) := fun C us => room_mk hra _ C us
    have hr1 : Room (k + 5) (A.deeper (envOfC "lengthened" (defScope s_lengthened) s.heap.objs.size f cdv)).in1 := room_i1 hra _
    have hr2 : Room (k + 5) (A.deeper (envOfC "lengthened" (defScope s_lengthened) s.heap.objs.size f cdv)).in1.in1 := room_i2 hra _
    exact (sxs_cons (sx_of (ds_set (dg_name 0 nd) (de_callTy call_list_of cs_list T.z_list (by decide +kernel) (da_cons (de_var 0) da_nil)))) (sxs_cons (sx_of (ds_set (dg_name 3 nd) (de_call (al 1090 "node_behind" 1 rfl) hr (da_cons (de_var 0) da_nil)))) (sxs_cons (sx_while 100000 (dt_cmp (ck_lt hr) (de_callB call_len cs_len T.z_len (by decide +kernel) (da_cons (de_var 0) da_nil)) (de_var 2)) (sxs_cons (sx_set (dg_name 4 nd) (dx_callc (j := 1) tk alo.clo hr rfl (de_var 3))) (sxs_cons (sx_of (ds_if (dt_cmp (ck_eq hr) (de_callB call_len cs_len T.z_len (by decide +kernel) (da_cons (de_var 4) da_nil)) de_int) (dss_cons (ds_ret de_non) dss_nil) dss_nil)) (sxs_cons (sx_of (ds_app (de_var 0) (de_tup (da_cons (de_var 4) (da_cons de_int da_nil))))) (sxs_cons (sx_of (ds_set (dg_name 3 nd) (de_ix (de_ix (de_var 4) de_int) de_int))) sxs_nil)))) (passes_of rfl)) (sxs_cons (sx_of (ds_ret (de_var 0))) sxs_nil))))
theorem ok_node_behind (T : Top P w K mg) (al : Al (tz T0 C0) P w K mg base k) (alx : AlX (tz T0 C0) P w K mg base k) (alo : AlO (tz T0 C0) P w K mg base k) (F : Fun K "node_behind" "node_behind" s_node_behind f fd) : FnOk P w K mg base CX0 (k + 6) f fd ["trail"] (spD ⟨K, w, (tz T0 C0)⟩ (callF ds (k + 1)) 1090 1) :=
  fn_okRl (k + 5) (n := 1) (body := b_node_behind) F sc_node_behind rfl rfl fun cdv A outer s H E hra hr => by
    have nd := sc_node_behind.nd
    have hrm : ∀ C us, Room (k + 5) (mkA_ (A.deeper (envOfC "node_behind" (defScope s_node_behind) s.heap.objs.size f cdv)) C us) := fun C us => room_mk hra _ C us
    have hr1 : Room (k + 5) (A.deeper (envOfC "node_behind" (defScope s_node_behind) s.heap.objs.size f cdv)).in1 := room_i1 hra _
    have hr2 : Room (k + 5) (A.deeper (envOfC "node_behind" (defScope s_node_behind) s.heap.objs.size f cdv)).in1.in1 := room_i2 hra _
    exact (dss_cons (ds_if (dt_cmp (ck_eq hr) (de_callB call_len cs_len T.z_len (by decide +kernel) (da_cons (de_var 0) da_nil)) de_int) (dss_cons (ds_ret de_non) dss_nil) dss_nil) (dss_cons (ds_set (dg_seq 1 2 [] (pgs_cons (pg_name (i := 1) nd rfl (by first | exact .inl rfl | exact .inr rfl)) (pgs_cons (pg_name (i := 2) nd rfl (by first | exact .inl rfl | exact .inr rfl)) pgs_nil))) (de_ix (de_var 0) (de_neg de_int))) (dss_cons (ds_ret (de_ix (de_ix (de_var 1) (de_var 2)) de_int)) dss_nil)))
theorem ok_law_deck (T : Top P w K mg) (al : Al (tz T0 C0) P w K mg base k) (alx : AlX (tz T0 C0) P w K mg base k) (alo : AlO (tz T0 C0) P w K mg base k) (F : Fun K "_law_deck" "_law_deck" s_law_deck f fd) : FnOk P w K mg base CX0 (k + 6) f fd ["_law_script"] (spD ⟨K, w, (tz T0 C0)⟩ (callF ds (k + 1)) 3 1) :=
  fn_okRl (k + 5) (n := 1) (body := b_law_deck) F sc_law_deck rfl rfl fun cdv A outer s H E hra hr => by
    have nd := sc_law_deck.nd
    have hrm : ∀ C us, Room (k + 5) (mkA_ (A.deeper (envOfC "_law_deck" (defScope s_law_deck) s.heap.objs.size f cdv)) C us) := fun C us => room_mk hra _ C us
    have hr1 : Room (k + 5) (A.deeper (envOfC "_law_deck" (defScope s_law_deck) s.heap.objs.size f cdv)).in1 := room_i1 hra _
    have hr2 : Room (k + 5) (A.deeper (envOfC "_law_deck" (defScope s_law_deck) s.heap.objs.size f cdv)).in1.in1 := room_i2 hra _
    exact (dss_cons (ds_ret (de_lst (da_cons (de_comp (own := [("_law_cell", 1)]) (go_name _ 1) nd (di_val (de_sl (de_var 0) do_none (do_some de_int))) (blkOk_by (N := ["_law_script", "_law_cell"]) (sc := defScope s_law_deck) (by decide +kernel)) (fun _ _ _ _ _ => pg_name (i := 1) nd rfl (by first | exact .inl rfl | exact .inr rfl)) (fun _ _ _ _ _ => dts_nil) (fun _ _ _ _ _ => (de_callB call_abs cs_abs T.z_abs (by decide +kernel) (da_cons (de_var 1) da_nil)))) (da_cons de_int da_nil)))) dss_nil)
theorem ok_law_draw (T : Top P w K mg) (al : Al (tz T0 C0) P w K mg base k) (alx : AlX (tz T0 C0) P w K mg base k) (alo : AlO (tz T0 C0) P w K mg base k) (F : Fun K "_law_draw" "_law_draw" s_law_draw f fd) : FnOk P w K mg base CX0 (k + 6) f fd ["_law_deck_here", "_law_many"] (spD ⟨K, w, (tz T0 C0)⟩ (callF ds (k + 1)) 4 2) :=
  fn_okRl (k + 5) (n := 2) (body := b_law_draw) F sc_law_draw rfl rfl fun cdv A outer s H E hra hr => by
    have nd := sc_law_draw.nd
    have hrm : ∀ C us, Room (k + 5) (mkA_ (A.deeper (envOfC "_law_draw" (defScope s_law_draw) s.heap.objs.size f cdv)) C us) := fun C us => room_mk hra _ C us
    have hr1 : Room (k + 5) (A.deeper (envOfC "_law_draw" (defScope s_law_draw) s.heap.objs.size f cdv)).in1 := room_i1 hra _
    have hr2 : Room (k + 5) (A.deeper (envOfC "_law_draw" (defScope s_law_draw) s.heap.objs.size f cdv)).in1.in1 := room_i2 hra _
    exact (dss_cons (ds_setix (de_var 0) de_int (de_add (de_ix (de_var 0) de_int) de_int) (pg_sub (de_var 0) de_int set_list)) (dss_cons (ds_set (dg_name 2 nd) de_int) (dss_cons (ds_set (dg_name 3 nd) (de_neg de_int)) (dss_cons (ds_if (dt_cmp ck_gt (de_callB call_len cs_len T.z_len (by decide +kernel) (da_cons (de_ix (de_var 0) de_int) da_nil)) de_int) (dss_cons (ds_set (dg_name 3 nd) (de_mod (de_ix (de_var 0) de_int) (de_callB call_len cs_len T.z_len (by decide +kernel) (da_cons (de_ix (de_var 0) de_int) da_nil)))) (dss_cons (ds_set (dg_name 2 nd) (de_ix (de_ix (de_var 0) de_int) (de_var 3))) dss_nil)) dss_nil) (dss_cons (ds_if (dt_cmp ck_ge (de_var 2) (de_pow de_int de_int)) (dss_cons (ds_setix (de_ix (de_var 0) de_int) (de_var 3) (de_fdiv (de_var 2) (de_var 1)) (pg_sub (de_ix (de_var 0) de_int) (de_var 3) set_list)) (dss_cons (ds_ret (de_mod (de_var 2) (de_var 1))) dss_nil)) dss_nil) (dss_cons (ds_ret (de_mod (de_mod (de_pow (de_add (de_add (de_mod (de_var 2) de_int) (de_mul de_int (de_ix (de_var 0) de_int))) de_int) de_int) de_int) (de_var 1))) dss_nil))))))
theorem ok_law_tree (T : Top P w K mg) (al : Al (tz T0 C0) P w K mg base k) (alx : AlX (tz T0 C0) P w K mg base k) (alo : AlO (tz T0 C0) P w K mg base k) (F : Fun K "_law_tree" "_law_tree" s_law_tree f fd) : FnOk P w K mg base CX0 (k + 6) f fd ["_law_deck_here", "_law_depth", "_law_most"] (spD ⟨K, w, (tz T0 C0)⟩ (callF ds (k + 1)) 692 3) :=
  fn_okRl (k + 5) (n := 3) (body := b_law_tree) F sc_law_tree rfl rfl fun cdv A outer s H E hra hr => by
    have nd := sc_law_tree.nd
    have hrm : ∀ C us, Room (k + 5) (mkA_ (A.deeper (envOfC "_law_tree" (defScope s_law_tree) s.heap.objs.size f cdv)) C us) := fun C us => room_mk hra _ C us
    have hr1 : Room (k + 5) (A.deeper (envOfC "_law_tree" (defScope s_law_tree) s.heap.objs.size f cdv)).in1 := room_i1 hra _
    have hr2 : Room (k + 5) (A.deeper (envOfC "_law_tree" (defScope s_law_tree) s.heap.objs.size f cdv)).in1.in1 := room_i2 hra _
    exact (dss_cons (ds_set (dg_name 3 nd) de_gnew) (dss_cons (ds_set (dg_name 4 nd) (de_lst (da_cons de_non da_nil))) (dss_cons (ds_set (dg_name 5 nd) de_int) (dss_cons (ds_for (dg_name 6 nd) (di_rng1 T.z_range (de_var 1)) (dss_cons (ds_set (dg_name 7 nd) (de_lst da_nil)) (dss_cons (ds_for (dg_name 8 nd) (di_val (de_var 4)) (dss_cons (ds_set (dg_name 9 nd) de_int) (dss_cons (ds_if (dt_cmp (ck_lt hr) (de_add (de_callB call_len cs_len T.z_len (by decide +kernel) (da_cons (de_var 4) da_nil)) (de_callB call_len cs_len T.z_len (by decide +kernel) (da_cons (de_var 7) da_nil))) (de_var 2)) (dss_cons (ds_set (dg_name 9 nd) (de_add de_int (de_call (al 4 "_law_draw" 2 rfl) hr (da_cons (de_var 0) (da_cons de_int da_nil))))) dss_nil) dss_nil) (dss_cons (ds_set (dg_name 10 nd) (de_lst da_nil)) (dss_cons (ds_for (dg_name 11 nd) (di_rng1 T.z_range (de_var 9)) (dss_cons (ds_app (de_var 10) (de_tup (da_cons (de_call (al 4 "_law_draw" 2 rfl) hr (da_cons (de_var 0) (da_cons de_int da_nil))) (da_cons (de_var 5) da_nil)))) (dss_cons (ds_app (de_var 7) (de_var 5)) (dss_cons (ds_set (dg_name 5 nd) (de_add (de_var 5) de_int)) dss_nil))) PassesOwn.never) (dss_cons (ds_gset hr (de_callTy call_tuple_of cs_tuple T.z_tuple (by decide +kernel) (da_cons (de_var 10) da_nil)) (de_var 3) (de_var 8)) dss_nil))))) PassesOwn.never) (dss_cons (ds_set (dg_name 4 nd) (de_var 7)) dss_nil))) PassesOwn.never) (dss_cons (ds_ret (de_var 3)) dss_nil)))))
theorem ok_law_ways (T : Top P w K mg) (al : Al (tz T0 C0) P w K mg base k) (alx : AlX (tz T0 C0) P w K mg base k) (alo : AlO (tz T0 C0) P w K mg base k) (F : Fun K "_law_ways" "_law_ways" s_law_ways f fd) : FnOk P w K mg base CX0 (k + 6) f fd ["_law_tree_here", "_law_depth"] (spD ⟨K, w, (tz T0 C0)⟩ (callF ds (k + 1)) 693 2) :=
  fn_okRl (k + 5) (n := 2) (body := b_law_ways) F sc_law_ways rfl rfl fun cdv A outer s H E hra hr => by
    have nd := sc_law_ways.nd
    have hrm : ∀ C us, Room (k + 5) (mkA_ (A.deeper (envOfC "_law_ways" (defScope s_law_ways) s.heap.objs.size f cdv)) C us) := fun C us => room_mk hra _ C us
    have hr1 : Room (k + 5) (A.deeper (envOfC "_law_ways" (defScope s_law_ways) s.heap.objs.size f cdv)).in1 := room_i1 hra _
    have hr2 : Room (k + 5) (A.deeper (envOfC "_law_ways" (defScope s_law_ways) s.heap.objs.size f cdv)).in1.in1 := room_i2 hra _
    exact (dss_cons (ds_set (dg_name 2 nd) (de_lst (da_cons (de_tup (da_cons (de_tup da_nil) (da_cons (de_tup (da_cons de_non da_nil)) da_nil))) da_nil))) (dss_cons (ds_for (dg_name 3 nd) (di_rng1 T.z_range (de_var 1)) (dss_cons (ds_set (dg_name 4 nd) (de_lst da_nil)) (dss_cons (ds_for (dg_seq 5 6 [] (pgs_cons (pg_name (i := 5) nd rfl (by first | exact .inl rfl | exact .inr rfl)) (pgs_cons (pg_name (i := 6) nd rfl (by first | exact .inl rfl | exact .inr rfl)) pgs_nil))) (di_val (de_var 2)) (dss_cons (ds_set (dg_name 4 nd) (de_add (de_var 4) (de_comp (own := [("_law_label", 7), ("_law_node", 8)]) (go_seq _ 7 8 []) nd (di_val (de_gix hr (de_var 0) (de_ix (de_var 6) (de_neg de_int)))) (blkOk_by (N := ["_law_tree_here", "_law_depth", "_law_found", "_law_level", "_law_longer", "_law_labels", "_law_nodes", "_law_label", "_law_node"]) (sc := defScope s_law_ways) (by decide +kernel)) (fun _ _ _ _ _ => pg_seq rfl (pgs_cons (pg_name (i := 7) nd rfl (by first | exact .inl rfl | exact .inr rfl)) (pgs_cons (pg_name (i := 8) nd rfl (by first | exact .inl rfl | exact .inr rfl)) pgs_nil))) (fun _ _ _ _ _ => dts_nil) (fun _ _ _ _ _ => (de_tup (da_cons (de_add (de_var 5) (de_tup (da_cons (de_var 7) da_nil))) (da_cons (de_add (de_var 6) (de_tup (da_cons (de_var 8) da_nil))) da_nil))))))) dss_nil) PassesOwn.never) (dss_cons (ds_set (dg_name 2 nd) (de_var 4)) dss_nil))) PassesOwn.never) (dss_cons (ds_ret (de_comp (own := [("_law_labels", 5), ("_law_nodes", 6)]) (go_seq _ 5 6 []) nd (di_val (de_var 2)) (blkOk_by (N := ["_law_tree_here", "_law_depth", "_law_found", "_law_level", "_law_longer", "_law_labels", "_law_nodes", "_law_label", "_law_node"]) (sc := defScope s_law_ways) (by decide +kernel)) (fun _ _ _ _ _ => pg_seq rfl (pgs_cons (pg_name (i := 5) nd rfl (by first | exact .inl rfl | exact .inr rfl)) (pgs_cons (pg_name (i := 6) nd rfl (by first | exact .inl rfl | exact .inr rfl)) pgs_nil))) (fun _ _ _ _ _ => dts_nil) (fun _ _ _ _ _ => (de_tup (da_cons (de_var 5) (da_cons (de_sl (de_var 6) do_none (do_some (de_var 1))) da_nil)))))) dss_nil)))
theorem ok_law_alike (T : Top P w K mg) (al : Al (tz T0 C0) P w K mg base k) (alx : AlX (tz T0 C0) P w K mg base k) (alo : AlO (tz T0 C0) P w K mg base k) (F : Fun K "_law_alike" "_law_alike" s_law_alike f fd) : FnOk P w K mg base CX0 (k + 6) f fd ["_law_found", "_law_due"] (spD ⟨K, w, (tz T0 C0)⟩ (callF ds (k + 1)) 694 2) :=
  fn_okRl (k + 5) (n := 2) (body := b_law_alike) F sc_law_alike rfl rfl fun cdv A outer s H E hra hr => by
    have nd := sc_law_alike.nd
    have hrm : ∀ C us, Room (k + 5) (mkA_ (A.deeper (envOfC "_law_alike" (defScope s_law_alike) s.heap.objs.size f cdv)) C us) := fun C us => room_mk hra _ C us
    have hr1 : Room (k + 5) (A.deeper (envOfC "_law_alike" (defScope s_law_alike) s.heap.objs.size f cdv)).in1 := room_i1 hra _
    have hr2 : Room (k + 5) (A.deeper (envOfC "_law_alike" (defScope s_law_alike) s.heap.objs.size f cdv)).in1.in1 := room_i2 hra _
    exact (dss_cons (ds_if (dt_w (dw_or (dt_not (dt_val (de_isi (t := 3) (T := "tuple") (by decide) (by decide +kernel) T.z_isinstance T.z_tuple (de_var 0)))) (dw_or1 (dt_cmp (ck_ne hr) (de_callB call_len cs_len T.z_len (by decide +kernel) (da_cons (de_var 0) da_nil)) (de_callB call_len cs_len T.z_len (by decide +kernel) (da_cons (de_var 1) da_nil)))))) (dss_cons (ds_ret de_bl) dss_nil) dss_nil) (dss_cons (ds_ret (de_cmp (ck_eq hr) (de_comp (own := [("_law_one", 2), ("_law_other", 3)]) (go_seq _ 2 3 []) nd (di_zip T.z_zip (de_var 0) (de_var 1)) (blkOk_by (N := ["_law_found", "_law_due", "_law_one", "_law_other"]) (sc := defScope s_law_alike) (by decide +kernel)) (fun _ _ _ _ _ => pg_seq rfl (pgs_cons (pg_name (i := 2) nd rfl (by first | exact .inl rfl | exact .inr rfl)) (pgs_cons (pg_name (i := 3) nd rfl (by first | exact .inl rfl | exact .inr rfl)) pgs_nil))) (fun _ _ _ _ _ => dts_one (dt_w (dw_or (dt_val (de_isi (t := 2) (T := "bool") (by decide) (by decide +kernel) T.z_isinstance T.z_bool (de_var 2))) (dw_or1 (dt_cmp (ck_ne hr) (de_var 2) (de_var 3)))))) (fun _ _ _ _ _ => de_int)) (de_lst da_nil))) dss_nil))
theorem ok_law_failing (T : Top P w K mg) (al : Al (tz T0 C0) P w K mg base k) (alx : AlX (tz T0 C0) P w K mg base k) (alo : AlO (tz T0 C0) P w K mg base k) (F : Fun K "_law_failing" "_law_failing" s_law_failing f fd) : FnOk P w K mg base (L2.CX P w) (k + 6) f fd ["_law_log", "_law_tree_here", "_law_fails", "_law_kind", "_law_node"] (spX ⟨K, w, (tz T0 C0)⟩ (callF ds (k + 1)) 698 5) :=
  fn_okXl (k + 5) (n := 5) (body := b_law_failing) F sc_law_failing rfl rfl fun cdv A outer s H E hra hr tk => by
    have nd := sc_law_failing.nd
    have hrm : ∀ C us, Room (k + 5) (mkA_ (A.deeper (envOfC "_law_failing" (defScope s_law_failing) s.heap.objs.size f cdv)) C us) := fun C us => room_mk hra _ C us
    have hr1 : Room (k + 5) (A.deeper (envOfC "_law_failing" (defScope s_law_failing) s.heap.objs.size f cdv)).in1 := room_i1 hra _
    have hr2 : Room (k + 5) (A.deeper (envOfC "_law_failing" (defScope s_law_failing) s.heap.objs.size f cdv)).in1.in1 := room_i2 hra _
    obtain ⟨C_NoName, f_NoName, d_NoName, e_NoName, z_NoName, M_NoName, B_NoName⟩ := T.m_NoName
    obtain ⟨C_Unread, f_Unread, d_Unread, e_Unread, z_Unread, M_Unread, B_Unread⟩ := T.m_Unread
    exact (sxs_cons (sx_of (ds_app (de_var 0) (de_var 4))) (sxs_cons (sx_if (dt_w (dw_and (dt_cmp (ck_in hr) (de_callB call_len cs_len T.z_len (by decide +kernel) (da_cons (de_var 0) da_nil)) (de_var 2)) (dw_and1 (dt_cmp (ck_eq hr) (de_var 3) de_int)))) (sxs_cons (sx_raise1 tk M_Unread (fn_Unread M_Unread) B_Unread hr (de_callB call_len cs_len T.z_len (by decide +kernel) (da_cons (de_var 0) da_nil))) sxs_nil) sxs_nil) (sxs_cons (sx_if (dt_cmp (ck_in hr) (de_callB call_len cs_len T.z_len (by decide +kernel) (da_cons (de_var 0) da_nil)) (de_var 2)) (sxs_cons (sx_raise1LI tk M_NoName (fn_NoName M_NoName) B_NoName hr (de_callB call_len cs_len T.z_len (by decide +kernel) (da_cons (de_var 0) da_nil)) hint_len) sxs_nil) sxs_nil) (sxs_cons (sx_of (ds_ret (de_gix hr (de_var 1) (de_var 4)))) sxs_nil))))
theorem ok_law_more (T : Top P w K mg) (al : Al (tz T0 C0) P w K mg base k) (alx : AlX (tz T0 C0) P w K mg base k) (alo : AlO (tz T0 C0) P w K mg base k) (F : Fun K "_law_more" "_law_more" s_law_more f fd) : FnOk P w K mg base CX0 (k + 6) f fd ["_law_walk"] (spD ⟨K, w, (tz T0 C0)⟩ (callF ds (k + 1)) 699 1) :=
  fn_okRl (k + 5) (n := 1) (body := b_law_more) F sc_law_more rfl rfl fun cdv A outer s H E hra hr => by
    have nd := sc_law_more.nd
    have hrm : ∀ C us, Room (k + 5) (mkA_ (A.deeper (envOfC "_law_more" (defScope s_law_more) s.heap.objs.size f cdv)) C us) := fun C us => room_mk hra _ C us
    have hr1 : Room (k + 5) (A.deeper (envOfC "_law_more" (defScope s_law_more) s.heap.objs.size f cdv)).in1 := room_i1 hra _
    have hr2 : Room (k + 5) (A.deeper (envOfC "_law_more" (defScope s_law_more) s.heap.objs.size f cdv)).in1.in1 := room_i2 hra _
    exact (dss_cons (ds_set (dg_name 1 nd) (de_tup (da_cons de_str (da_cons (de_neg de_int) da_nil)))) (dss_cons (ds_tryM (hs_cons (cat := [[85, 110, 114, 101, 97, 100]]) (i := 2) T.y_1 (fun a oe cls d pn hz hf => (ess_cons (es_set (dg_name 1 nd) (ee_tup (ea_cons (ee_lift fun _ => de_str) (ea_cons (ee_fld hz hf T.f_1) ea_nil)))) ess_nil)) (hs_cons (cat := [[78, 111, 78, 97, 109, 101]]) (i := 2) T.y_0 (fun a oe cls d pn hz hf => (ess_cons (es_set (dg_name 1 nd) (ee_tup (ea_cons (ee_lift fun _ => de_str) (ea_cons (ee_fld hz hf T.f_0) ea_nil)))) ess_nil)) hs_nil)) nd (fun Z pn xe tk => (tb_set rfl (dg_name 1 nd) (dx_tup (dxs_ok de_str (dxs_may (dx_meth0 (j := 0) tk alo.mt_Walk_more hr rfl) dxs_nil))) rfl rfl rfl))) (dss_cons (ds_ret (de_var 1)) dss_nil)))
theorem ok_law_v143 (LS : CodAt K mg base (tz T0 []) f ("law" ++ ".<locals>." ++ "<lambda>")) (T : Top P w K mg) (al : ∀ C0, Al (tz T0 C0) P w K mg base k) (alx : ∀ C0, AlX (tz T0 C0) P w K mg base k) (alo : ∀ C0, AlO (tz T0 C0) P w K mg base k) (F : Fun K "law" "law" s_law_v143 f fd) : FnOk P w K mg base CX0 (k + 6) f fd ["_law_script"] (spW ⟨K, w, tz T0 []⟩ (callF ds (k + 1)) 1093) :=
  fn_okC (k + 5) (body := b_law_v143) F sc_law_v143 rfl rfl _ LS fun cdv A outer s H E hra hla hrl hr => by
    have LA : LamAt (tz T0 (envOfC "law" (defScope s_law_v143) s.heap.objs.size f cdv).cells) _ := hla rfl (envOfC "law" (defScope s_law_v143) s.heap.objs.size f cdv).cells
    have al := al (envOfC "law" (defScope s_law_v143) s.heap.objs.size f cdv).cells
    have alx := alx (envOfC "law" (defScope s_law_v143) s.heap.objs.size f cdv).cells
    have alo := alo (envOfC "law" (defScope s_law_v143) s.heap.objs.size f cdv).cells
    have nd := sc_law_v143.nd
    have hrm : ∀ C us, Room (k + 5) (mkA_ (A.deeper (envOfC "law" (defScope s_law_v143) s.heap.objs.size f cdv)) C us) := fun C us => room_mk hra _ C us
    have hr1 : Room (k + 5) (A.deeper (envOfC "law" (defScope s_law_v143) s.heap.objs.size f cdv)).in1 := room_i1 hra _
    have hr2 : Room (k + 5) (A.deeper (envOfC "law" (defScope s_law_v143) s.heap.objs.size f cdv)).in1.in1 := room_i2 hra _
    have LC : LawC (tz T0 (envOfC "law" (defScope s_law_v143) s.heap.objs.size f cdv).cells) (cxOf CX0 P w K mg base ["_law_script", "_law_deck_here", "_law_fails", "_law_kind", "_law_depth", "_law_tree_here", "_law_due", "_law_log", "_law_walk", "_law_at", "_law_turn", "_law_node", "_law_many", "_law_k", "_law_word", "_law_found", "_law_labels", "_law_nodes"] "law" (defScope s_law_v143) f cdv A outer s H E).nox [7, 5, 2, 3] := ⟨rfl, fun _ => rfl, rfl, rfl, rfl, rfl, rfl, rfl, rfl, rfl, trivial⟩
    exact (dss_cons (ds_set (dg_name 1 nd) (de_call (al 3 "_law_deck" 1 rfl) hr (da_cons (de_var 0) da_nil))) (dss_cons (ds_set (dg_name 2 nd) (de_comp (own := [("_law_k", 13)]) (go_name _ 13) nd (di_rng1 T.z_range (de_call (al 4 "_law_draw" 2 rfl) hr (da_cons (de_var 1) (da_cons de_int da_nil)))) (blkOk_by (N := ["_law_script", "_law_deck_here", "_law_fails", "_law_kind", "_law_depth", "_law_tree_here", "_law_due", "_law_log", "_law_walk", "_law_at", "_law_turn", "_law_node", "_law_many", "_law_k", "_law_word", "_law_found", "_law_labels", "_law_nodes"]) (sc := defScope s_law_v143) (by decide +kernel)) (fun _ _ _ _ _ => pg_name (i := 13) nd rfl (by first | exact .inl rfl | exact .inr rfl)) (fun _ _ _ _ _ => dts_nil) (fun _ _ _ _ _ => (de_add de_int (de_call (al 4 "_law_draw" 2 rfl) hr (da_cons (de_var 1) (da_cons de_int da_nil))))))) (dss_cons (ds_set (dg_name 3 nd) (de_call (al 4 "_law_draw" 2 rfl) hr (da_cons (de_var 1) (da_cons de_int da_nil)))) (dss_cons (ds_set (dg_name 4 nd) (de_add de_int (de_call (al 4 "_law_draw" 2 rfl) hr (da_cons (de_var 1) (da_cons de_int da_nil))))) (dss_cons (ds_set (dg_name 5 nd) (de_call (al 692 "_law_tree" 3 rfl) hr (da_cons (de_var 1) (da_cons (de_var 4) (da_cons (de_add de_int (de_call (al 4 "_law_draw" 2 rfl) hr (da_cons (de_var 1) (da_cons de_int da_nil)))) da_nil))))) (dss_cons (ds_setLc (i := 6) (own := [("_law_labels", 16), ("_law_nodes", 17)]) (go_seq _ 16 17 []) nd (di_val (de_call (al 693 "_law_ways" 2 rfl) hr (da_cons (de_var 5) (da_cons (de_var 4) da_nil)))) (blkOk_by (N := ["_law_script", "_law_deck_here", "_law_fails", "_law_kind", "_law_depth", "_law_tree_here", "_law_due", "_law_log", "_law_walk", "_law_at", "_law_turn", "_law_node", "_law_many", "_law_k", "_law_word", "_law_found", "_law_labels", "_law_nodes"]) (sc := defScope s_law_v143) (by decide +kernel)) (fun _ _ _ _ _ => pg_seq rfl (pgs_cons (pg_name (i := 16) nd rfl (by first | exact .inl rfl | exact .inr rfl)) (pgs_cons (pg_name (i := 17) nd rfl (by first | exact .inl rfl | exact .inr rfl)) pgs_nil))) (fun _ _ _ _ _ => dts_nil) (fun _ _ _ _ _ => (de_var 16)) (sw_true rfl rfl rfl (by decide +kernel))) (dss_cons (ds_set (dg_name 7 nd) (de_lst da_nil)) (dss_cons (ds_set (dg_name 8 nd) (de_mk alo.mk_Walk hrm (da_cons (de_lam (l := 9001) (x := "_law_node") LA rfl rfl (by rfl) (lamP_by (sc := defScope s_law_v143) (by decide +kernel))) (da_cons (de_var 4) da_nil)))) (dss_cons (ds_set (dg_name 9 nd) de_int) (dss_cons (ds_for (dg_name 10 nd) (di_rng1 T.z_range (de_add (de_add (de_callB call_len cs_len T.z_len (by decide +kernel) (da_cons (de_var 6) da_nil)) (de_callB call_len cs_len T.z_len (by decide +kernel) (da_cons (de_var 2) da_nil))) de_int)) (dss_cons (ds_set (dg_name 12 nd) (de_callB call_len cs_len T.z_len (by decide +kernel) (da_cons (de_var 7) da_nil))) (dss_cons (ds_set (dg_seq 14 15 [] (pgs_cons (pg_name (i := 14) nd rfl (by first | exact .inl rfl | exact .inr rfl)) (pgs_cons (pg_name (i := 15) nd rfl (by first | exact .inl rfl | exact .inr rfl)) pgs_nil))) (de_fzcall (j := 8) LC (al 699 "_law_more" 1 rfl) hr rfl)) (dss_cons (ds_if (dt_cmp ck_gt (de_sub (de_callB call_len cs_len T.z_len (by decide +kernel) (da_cons (de_var 7) da_nil)) (de_var 12)) (de_var 4)) (dss_cons (ds_ret de_bl) dss_nil) dss_nil) (dss_cons (ds_if (dt_cmp (ck_eq hr) (de_var 14) de_str) (dss_cons (ds_if (dt_w (dw_or (dt_cmp (ck_ne hr) (de_var 15) (de_callB call_len cs_len T.z_len (by decide +kernel) (da_cons (de_var 7) da_nil))) (dw_or1 (dt_cmp (ck_notIn hr) (de_var 15) (de_var 2))))) (dss_cons (ds_ret de_bl) dss_nil) dss_nil) dss_nil) (dss_cons (ds_if (dt_w (dw_and (dt_cmp (ck_lt hr) (de_var 9) (de_callB call_len cs_len T.z_len (by decide +kernel) (da_cons (de_var 6) da_nil))) (dw_and1 (dt_not (dt_val (de_call (al 694 "_law_alike" 2 rfl) hr (da_cons (de_var 15) (da_cons (de_ix (de_var 6) (de_var 9)) da_nil)))))))) (dss_cons (ds_ret de_bl) dss_nil) dss_nil) (dss_cons (ds_if (dt_w (dw_and (dt_cmp ck_ge (de_var 9) (de_callB call_len cs_len T.z_len (by decide +kernel) (da_cons (de_var 6) da_nil))) (dw_and1 (dt_notN (de_var 15))))) (dss_cons (ds_ret de_bl) dss_nil) dss_nil) (dss_cons (ds_set (dg_name 9 nd) (de_add (de_var 9) de_int)) dss_nil)))) dss_nil)))) PassesOwn.never) (dss_cons (ds_ret (de_cmp ck_gt (de_var 9) (de_callB call_len cs_len T.z_len (by decide +kernel) (da_cons (de_var 6) da_nil)))) dss_nil)))))))))))
end
/-- where the defs stand -/
structure Fs (K : PySem.W.Frag) (mg : Str → Option Value) : Prop where
  f_Walk___init__ : MkS K mg "Walk" "Walk.__init__" s_Walk___init__
  f_Walk_more : MtS K "Walk" "more" "Walk.more" s_Walk_more
  f_turned_off : ∃ f fd, Fun K "turned_off" "turned_off" s_turned_off f fd ∧ mg "turned_off" = some (.ref f)
  f_lengthened : ∃ f fd, Fun K "lengthened" "lengthened" s_lengthened f fd ∧ mg "lengthened" = some (.ref f)
  f_node_behind : ∃ f fd, Fun K "node_behind" "node_behind" s_node_behind f fd ∧ mg "node_behind" = some (.ref f)
  f_law_deck : ∃ f fd, Fun K "_law_deck" "_law_deck" s_law_deck f fd ∧ mg "_law_deck" = some (.ref f)
  f_law_draw : ∃ f fd, Fun K "_law_draw" "_law_draw" s_law_draw f fd ∧ mg "_law_draw" = some (.ref f)
  f_law_tree : ∃ f fd, Fun K "_law_tree" "_law_tree" s_law_tree f fd ∧ mg "_law_tree" = some (.ref f)
  f_law_ways : ∃ f fd, Fun K "_law_ways" "_law_ways" s_law_ways f fd ∧ mg "_law_ways" = some (.ref f)
  f_law_alike : ∃ f fd, Fun K "_law_alike" "_law_alike" s_law_alike f fd ∧ mg "_law_alike" = some (.ref f)
  f_law_failing : ∃ f fd, Fun K "_law_failing" "_law_failing" s_law_failing f fd ∧ mg "_law_failing" = some (.ref f)
  f_law_more : ∃ f fd, Fun K "_law_more" "_law_more" s_law_more f fd ∧ mg "_law_more" = some (.ref f)
  f_law_v143 : ∃ f fd, Fun K "law" "law" s_law_v143 f fd ∧ mg "law" = some (.ref f)
/-- the code tables of the defs that have lambdas -/
structure Ls (T0 : List (Addr × Str)) (K : PySem.W.Frag) (mg : Str → Option Value) (base : Heap) : Prop where
  l_law_v143 : ∀ f, mg "law" = some (.ref f) → CodAt K mg base (tz T0 []) f ("law" ++ ".<locals>." ++ "<lambda>")
theorem al_all {T0 : List (Addr × Str)} {C0 : List (Str × Addr)} {P : Program} {w : World} {K : PySem.W.Frag} {mg : Str → Option Value} {base : Heap} (T : Top P w K mg) (F : Fs K mg) (LS : Ls T0 K mg base) : ∀ k, Al (tz T0 C0) P w K mg base k ∧ AlX (tz T0 C0) P w K mg base k ∧ AlO (tz T0 C0) P w K mg base k
  | 0 => by
    refine ⟨fun i x n h => ?_, fun i x n h => ?_, ⟨?_, ?_, ?_⟩⟩
    · unfold tab at h
      split at h
      · cases h
        obtain ⟨f, fd, F0, hm⟩ := F.f_turned_off
        have b := F0.binds (ps := ["trail"]) fun _ _ _ _ _ _ us hl => match us, hl with | [_], _ => rfl
        exact ⟨f, fd, _, fn_zerol (by rfl), hm, F0.kp, b⟩
      · cases h
        obtain ⟨f, fd, F0, hm⟩ := F.f_node_behind
        have b := F0.binds (ps := ["trail"]) fun _ _ _ _ _ _ us hl => match us, hl with | [_], _ => rfl
        exact ⟨f, fd, _, fn_zerol (by rfl), hm, F0.kp, b⟩
      · cases h
        obtain ⟨f, fd, F0, hm⟩ := F.f_law_deck
        have b := F0.binds (ps := ["_law_script"]) fun _ _ _ _ _ _ us hl => match us, hl with | [_], _ => rfl
        exact ⟨f, fd, _, fn_zerol (by rfl), hm, F0.kp, b⟩
      · cases h
        obtain ⟨f, fd, F0, hm⟩ := F.f_law_draw
        have b := F0.binds (ps := ["_law_deck_here", "_law_many"]) fun _ _ _ _ _ _ us hl => match us, hl with | [_, _], _ => rfl
        exact ⟨f, fd, _, fn_zerol (by rfl), hm, F0.kp, b⟩
      · cases h
        obtain ⟨f, fd, F0, hm⟩ := F.f_law_tree
        have b := F0.binds (ps := ["_law_deck_here", "_law_depth", "_law_most"]) fun _ _ _ _ _ _ us hl => match us, hl with | [_, _, _], _ => rfl
        exact ⟨f, fd, _, fn_zerol (by rfl), hm, F0.kp, b⟩
      · cases h
        obtain ⟨f, fd, F0, hm⟩ := F.f_law_ways
        have b := F0.binds (ps := ["_law_tree_here", "_law_depth"]) fun _ _ _ _ _ _ us hl => match us, hl with | [_, _], _ => rfl
        exact ⟨f, fd, _, fn_zerol (by rfl), hm, F0.kp, b⟩
      · cases h
        obtain ⟨f, fd, F0, hm⟩ := F.f_law_alike
        have b := F0.binds (ps := ["_law_found", "_law_due"]) fun _ _ _ _ _ _ us hl => match us, hl with | [_, _], _ => rfl
        exact ⟨f, fd, _, fn_zerol (by rfl), hm, F0.kp, b⟩
      · cases h
        obtain ⟨f, fd, F0, hm⟩ := F.f_law_more
        have b := F0.binds (ps := ["_law_walk"]) fun _ _ _ _ _ _ us hl => match us, hl with | [_], _ => rfl
        exact ⟨f, fd, _, fn_zerol (by rfl), hm, F0.kp, b⟩
      · cases h
    · unfold tabX at h
      split at h
      · cases h
        obtain ⟨f, fd, F0, hm⟩ := F.f_lengthened
        have b := F0.binds (ps := ["trail", "ask", "depth"]) fun _ _ _ _ _ _ us hl => match us, hl with | [_, _, _], _ => rfl
        exact ⟨f, fd, _, fn_zeroXl (by rfl), hm, F0.kp, b⟩
      · cases h
        obtain ⟨f, fd, F0, hm⟩ := F.f_law_failing
        have b := F0.binds (ps := ["_law_log", "_law_tree_here", "_law_fails", "_law_kind", "_law_node"]) fun _ _ _ _ _ _ us hl => match us, hl with | [_, _, _, _, _], _ => rfl
        exact ⟨f, fd, _, fn_zeroXl (by rfl), hm, F0.kp, b⟩
      · cases h
    · exact F.f_Walk___init__.makeF (ps := ["self", "edges", "depth"]) (fun f fd F0 => fn_zerol (by rfl)) (fun f fd F0 => F0.binds (ps := ["self", "edges", "depth"]) fun _ _ _ _ _ _ us hl => match us, hl with | [_, _, _], _ => rfl)
    · exact F.f_Walk_more.metX (ps := ["self"]) (fun f fd F0 => fn_zeroXl (by rfl)) (fun f fd F0 => F0.binds (ps := ["self"]) fun _ _ _ _ _ _ us hl => match us, hl with | [_], _ => rfl)
    · exact fun l f _ => clo_zeroX f
  | k + 1 => by
    have ih := al_all (C0 := C0) (P := P) (w := w) (base := base) T F LS k
    refine ⟨fun i x n h => ?_, fun i x n h => ?_, ⟨?_, ?_, ?_⟩⟩
    · unfold tab at h
      split at h
      · cases h
        obtain ⟨f, fd, F0, hm⟩ := F.f_turned_off
        have b := F0.binds (ps := ["trail"]) fun _ _ _ _ _ _ us hl => match us, hl with | [_], _ => rfl
        exact ⟨f, fd, _, ok_turned_off T ih.1 ih.2.1 ih.2.2 F0, hm, F0.kp, b⟩
      · cases h
        obtain ⟨f, fd, F0, hm⟩ := F.f_node_behind
        have b := F0.binds (ps := ["trail"]) fun _ _ _ _ _ _ us hl => match us, hl with | [_], _ => rfl
        exact ⟨f, fd, _, ok_node_behind T ih.1 ih.2.1 ih.2.2 F0, hm, F0.kp, b⟩
      · cases h
        obtain ⟨f, fd, F0, hm⟩ := F.f_law_deck
        have b := F0.binds (ps := ["_law_script"]) fun _ _ _ _ _ _ us hl => match us, hl with | [_], _ => rfl
        exact ⟨f, fd, _, ok_law_deck T ih.1 ih.2.1 ih.2.2 F0, hm, F0.kp, b⟩
      · cases h
        obtain ⟨f, fd, F0, hm⟩ := F.f_law_draw
        have b := F0.binds (ps := ["_law_deck_here", "_law_many"]) fun _ _ _ _ _ _ us hl => match us, hl with | [_, _], _ => rfl
        exact ⟨f, fd, _, ok_law_draw T ih.1 ih.2.1 ih.2.2 F0, hm, F0.kp, b⟩
      · cases h
        obtain ⟨f, fd, F0, hm⟩ := F.f_law_tree
        have b := F0.binds (ps := ["_law_deck_here", "_law_depth", "_law_most"]) fun _ _ _ _ _ _ us hl => match us, hl with | [_, _, _], _ => rfl
        exact ⟨f, fd, _, ok_law_tree T ih.1 ih.2.1 ih.2.2 F0, hm, F0.kp, b⟩
      · cases h
        obtain ⟨f, fd, F0, hm⟩ := F.f_law_ways
        have b := F0.binds (ps := ["_law_tree_here", "_law_depth"]) fun _ _ _ _ _ _ us hl => match us, hl with | [_, _], _ => rfl
        exact ⟨f, fd, _, ok_law_ways T ih.1 ih.2.1 ih.2.2 F0, hm, F0.kp, b⟩
      · cases h
        obtain ⟨f, fd, F0, hm⟩ := F.f_law_alike
        have b := F0.binds (ps := ["_law_found", "_law_due"]) fun _ _ _ _ _ _ us hl => match us, hl with | [_, _], _ => rfl
        exact ⟨f, fd, _, ok_law_alike T ih.1 ih.2.1 ih.2.2 F0, hm, F0.kp, b⟩
      · cases h
        obtain ⟨f, fd, F0, hm⟩ := F.f_law_more
        have b := F0.binds (ps := ["_law_walk"]) fun _ _ _ _ _ _ us hl => match us, hl with | [_], _ => rfl
        exact ⟨f, fd, _, ok_law_more T ih.1 ih.2.1 ih.2.2 F0, hm, F0.kp, b⟩
      · cases h
    · unfold tabX at h
      split at h
      · cases h
        obtain ⟨f, fd, F0, hm⟩ := F.f_lengthened
        have b := F0.binds (ps := ["trail", "ask", "depth"]) fun _ _ _ _ _ _ us hl => match us, hl with | [_, _, _], _ => rfl
        exact ⟨f, fd, _, ok_lengthened T ih.1 ih.2.1 ih.2.2 F0, hm, F0.kp, b⟩
      · cases h
        obtain ⟨f, fd, F0, hm⟩ := F.f_law_failing
        have b := F0.binds (ps := ["_law_log", "_law_tree_here", "_law_fails", "_law_kind", "_law_node"]) fun _ _ _ _ _ _ us hl => match us, hl with | [_, _, _, _, _], _ => rfl
        exact ⟨f, fd, _, ok_law_failing T ih.1 ih.2.1 ih.2.2 F0, hm, F0.kp, b⟩
      · cases h
    · exact F.f_Walk___init__.makeF (ps := ["self", "edges", "depth"]) (fun f fd F0 => ok_Walk___init__ T ih.1 ih.2.1 ih.2.2 F0) (fun f fd F0 => F0.binds (ps := ["self", "edges", "depth"]) fun _ _ _ _ _ _ us hl => match us, hl with | [_, _, _], _ => rfl)
    · exact F.f_Walk_more.metX (ps := ["self"]) (fun f fd F0 => ok_Walk_more T ih.1 ih.2.1 ih.2.2 F0) (fun f fd F0 => F0.binds (ps := ["self"]) fun _ _ _ _ _ _ us hl => match us, hl with | [_], _ => rfl)
    · intro l f hne
      have hne : lamT l ≠ none := hne
      unfold lamT at hne
      split at hne
      · exact okl_9001 T ih.1 ih.2.1 ih.2.2 f
      · exact absurd rfl hne
end Pg
namespace Pg
open PySem PySem.Spec PyProof.Rows L2 MP
def hfn : List He.DefD := [dfD "turned_off" s_turned_off, dfD "lengthened" s_lengthened, dfD "node_behind" s_node_behind, dfD "_law_deck" s_law_deck, dfD "_law_draw" s_law_draw, dfD "_law_tree" s_law_tree, dfD "_law_ways" s_law_ways, dfD "_law_alike" s_law_alike, dfD "_law_failing" s_law_failing, dfD "_law_more" s_law_more, dfD "law" s_law_v143, mtD "Walk" "__init__" "Walk.__init__" s_Walk___init__, mtD "Walk" "more" "Walk.more" s_Walk_more]
def hfa : List He.Fa := [.glo "turned_off", .glo "lengthened", .glo "node_behind", .glo "_law_deck", .glo "_law_draw", .glo "_law_tree", .glo "_law_ways", .glo "_law_alike", .glo "_law_failing", .glo "_law_more", .glo "law", .free "abs", .free "bool", .free "isinstance", .free "len", .free "list", .free "range", .free "super", .free "tuple", .free "zip", .glo "Walk", .cls "Walk", .mkr "Walk", .noat "Walk" "asked", .noat "Walk" "depth", .noat "Walk" "edges", .noat "Walk" "over", .noat "Walk" "trail", .meth "Walk" "more"]
def htf : List He.Defn := [("law", none)]
def hex (K : PySem.W.Frag) : Bool := (erB K "NoName" && (erB K "Unread" && (mkLB K PySem.Challenge.pw_markpieces_k57_walks_whose_edges_raise "NoName" "NoName.__init__" && (nfB K "NoName" "name" && (mkB K PySem.Challenge.pw_markpieces_k57_walks_whose_edges_raise "Unread" "Unread.__init__" "ValueError" "ValueError.__init__" "ValueError.__new__" && (nfB K "Unread" "place" && (exB K "NoName" "NoName" true && (exB K "Unread" "Unread" true && (exB K "NoName" "Unread" false && true)))))))))
abbrev RR : PySem.W.OpenRow := PySem.W.OpenLaw.row PySem.Challenge.rw_markpieces_k57_walks_whose_edges_raise
def hmk : List MkD := [⟨"NoName", "NoName.__init__", s_NoName_init⟩, ⟨"Unread", "Unread.__init__", s_Unread_init⟩]
abbrev hk : PySem.W.Hook := hookY 5 hfa hfn htf hex hmk
def hob (s : PySem.W.SharedT) : AlY := obsY 5 hfa hfn htf hex hmk (HandSHeadRun.getT s)
theorem hob_eq (s : PySem.W.SharedT) : hob s = hk.obs s.abs := obsY_eq (HandSHeadRun.getT_eq s)
def hnm0 : List PySem.Str := ["Walk", "turned_off", "lengthened", "node_behind", "PieceError", "Unread", "NoName", "_law_deck", "_law_draw", "_law_tree", "_law_ways", "_law_alike", "_law_failing", "_law_more"]
def hnames : List PySem.Str := hnm0
set_option maxHeartbeats 0 in
theorem hrun (w : World) : HandSHeadRun.RunEq RR (PySem.W.view RR.prog [17]) hk hob 16000 hnames w := by
  intro os
  kernel_rfl
set_option maxRecDepth 100000 in
theorem facts {w : World} {K : PySem.W.Frag} {h : Heap} {mg : Str → Option Value} (X : K.In h) (G : h.Ns mainGlobals mg) (c : He.SaysD hfa hfn K) (xx : hex K = true) (cm : hmk.map (fun d => fnZ K d.x) = hmk.map MkD.val) : Fs K mg ∧ Top PySem.Challenge.pw_markpieces_k57_walks_whose_edges_raise w K mg := by
  obtain ⟨x0, r0⟩ := He.ba xx
  obtain ⟨x1, r1⟩ := He.ba r0
  obtain ⟨x2, r2⟩ := He.ba r1
  obtain ⟨x3, r3⟩ := He.ba r2
  obtain ⟨x4, r4⟩ := He.ba r3
  obtain ⟨x5, r5⟩ := He.ba r4
  obtain ⟨x6, r6⟩ := He.ba r5
  obtain ⟨x7, r7⟩ := He.ba r6
  obtain ⟨x8, r8⟩ := He.ba r7
  exact ⟨⟨mks_of X G c (mem_at 11 rfl) (mem_at 20 rfl) (mem_at 22 rfl), mts_of c (mem_at 12 rfl) (mem_at 20 rfl) (mem_at 21 rfl) (mem_at 28 rfl), fs_one X G c 0 rfl rfl, fs_one X G c 1 rfl rfl, fs_one X G c 2 rfl rfl, fs_one X G c 3 rfl rfl, fs_one X G c 4 rfl rfl, fs_one X G c 5 rfl rfl, fs_one X G c 6 rfl rfl, fs_one X G c 7 rfl rfl, fs_one X G c 8 rfl rfl, fs_one X G c 9 rfl rfl, fs_one X G c 10 rfl rfl⟩, ⟨He.free_ok X G (c.fact 11 rfl), He.free_ok X G (c.fact 12 rfl), He.free_ok X G (c.fact 13 rfl), He.free_ok X G (c.fact 14 rfl), He.free_ok X G (c.fact 15 rfl), He.free_ok X G (c.fact 16 rfl), He.free_ok X G (c.fact 17 rfl), He.free_ok X G (c.fact 18 rfl), He.free_ok X G (c.fact 19 rfl), fld_of (xs := ["Walk"]) c (by decide +kernel) (alx_cons ⟨(mem_at 20 rfl), (mem_at 21 rfl), (mem_at 23 rfl)⟩ alx_nil), fld_of (xs := ["Walk"]) c (by decide +kernel) (alx_cons ⟨(mem_at 20 rfl), (mem_at 21 rfl), (mem_at 24 rfl)⟩ alx_nil), fld_of (xs := ["Walk"]) c (by decide +kernel) (alx_cons ⟨(mem_at 20 rfl), (mem_at 21 rfl), (mem_at 25 rfl)⟩ alx_nil), fld_of (xs := ["Walk"]) c (by decide +kernel) (alx_cons ⟨(mem_at 20 rfl), (mem_at 21 rfl), (mem_at 26 rfl)⟩ alx_nil), fld_of (xs := ["Walk"]) c (by decide +kernel) (alx_cons ⟨(mem_at 20 rfl), (mem_at 21 rfl), (mem_at 27 rfl)⟩ alx_nil), ⟨_, mkL_of (ps := ["self", "name"]) (fl := "name") (st := s_NoName_init) X G (er_of X G x0) (mk_at cm 0 rfl) x2 x3 (by decide +kernel) (He.free_ok X G (c.fact 17 rfl)) (fun _ _ _ _ _ _ _ => .all (fun us hl => match us, hl with | [_, _], _ => rfl))⟩, (by obtain ⟨f, cda, cc, fd, M, B⟩ := mk0_of (ps := ["self", "place"]) (st := s_Unread_init) X G (er_of X G x1) (mk_at cm 1 rfl) x4 (by decide +kernel) (He.free_ok X G (c.fact 17 rfl)) (fun _ _ _ _ _ _ _ => .all (fun us hl => match us, hl with | [_, _], _ => rfl)); exact ⟨_, f, cda, cc, fd, ⟨M, nf_of x5⟩, B⟩), (cat_cons (y := "NoName") (by decide +kernel) (er_of X G x0).er ⟨(er_of X G x0).xf, nf_of x3⟩ cat_nil), (cat_cons (y := "Unread") (by decide +kernel) (er_of X G x1).er ⟨(er_of X G x1).xf, nf_of x5⟩ cat_nil), ⟨_, (er_of X G x0).er, (cat_cons (y := "NoName") (by decide +kernel) (er_of X G x0).er (ex_of x6) cat_nil), cat_nil⟩, ⟨_, (er_of X G x1).er, (cat_cons (y := "Unread") (by decide +kernel) (er_of X G x1).er (ex_of x7) cat_nil), (cat_cons (y := "NoName") (by decide +kernel) (er_of X G x0).er (ex_of x8) cat_nil)⟩⟩⟩
def hta (K : PySem.W.Frag) : List (Addr × Str) := [((He.cT K ("law", none)).2, ("law" ++ ".<locals>." ++ "<lambda>"))]
theorem lsof {K : PySem.W.Frag} {h : Heap} {mg : Str → Option Value} {base : Heap} (X : K.In h) (G : h.Ns mainGlobals mg) (c : He.SaysD hfa hfn K) (xx : hex K = true) (F : Fs K mg) (TB : ∀ p ∈ htf.map (He.cT K), LamX.TabB base mg p.1 p.2) : Ls (hta K) K mg base := by
  refine ⟨fun f hm => ?_⟩
  obtain ⟨f2, fd, F0, hm2⟩ := F.f_law_v143
  have e := hm.symm.trans hm2
  cases e
  exact codAt_of X G (c.fact 10 rfl) F0 hm (TB _ (by simp [htf])) (by simp [hta]) fun p hp _ => by
    simp only [hta, List.mem_singleton] at hp
    rw [hp]
end Pg
open PySem PySem.W PySem.Calls PyProof.Rows
set_option maxHeartbeats 0 in
theorem PySem.Challenge.cw_markpieces_k57_walks_whose_edges_raise_holds : PySem.Challenge.rw_markpieces_k57_walks_whose_edges_raise.Holds := by
  w_on; o_law
  refine HandSHeadRun.head_any (r := (OpenLaw.row PySem.Challenge.rw_markpieces_k57_walks_whose_edges_raise)) (q := view (OpenLaw.row PySem.Challenge.rw_markpieces_k57_walks_whose_edges_raise).prog [17]) (H := Pg.hk) (ob := Pg.hob) (M := 16000) (loose := Pg.hnames) (d := HandSHeadRun.topDef (OpenLaw.row PySem.Challenge.rw_markpieces_k57_walks_whose_edges_raise).prog 17) (kwd := []) Pg.hob_eq
    (by kernel_rfl) (fun s => by kernel_rfl) Pg.hrun (by kernel_rfl) (by kernel_rfl) (by kernel_rfl) (by rfl) (by first | assumption | decide +kernel) (by decide +kernel) ⟨rfl, rfl, rfl, rfl, rfl, by decide +kernel⟩ ?hw ?hc
  case hw => w_witness2
  case hc =>
    refine LamX.walk_ofTsE (l := PySem.Challenge.rw_markpieces_k57_walks_whose_edges_raise) (n := 63) (k := 65) (x := "_law_script") (CX := fun _ => L2.CX0) rfl (by decide) (by kernel_rfl) ⟨rfl, by decide, by decide⟩ ?F (fun _ _ _ _ _ z => z)
    intro w mg fa h Y G hmg0
    obtain ⟨K, KX, cc⟩ := Y
    have c := cc.s
    have hmg : mg ("law" : PySem.Str) = some (.ref fa) := by
      have e : (HandSHeadRun.topDef (OpenLaw.row PySem.Challenge.rw_markpieces_k57_walks_whose_edges_raise).prog 17).name = ("law" : PySem.Str) := by kernel_rfl
      rw [← e]
      exact hmg0
    obtain ⟨hF, hT⟩ := Pg.facts (w := w) KX G c.t.d c.more cc.m
    obtain ⟨f, fd, F0, hm⟩ := hF.f_law_v143
    have e := hmg.symm.trans hm
    cases e
    refine ⟨K, KX, fd, Pg.htf.map (He.cT K), MP.spLaw K (Pg.tz (Pg.hta K) []) (MP.callF Pg.ds 60) 1093, fun p hp => ?_, fun p hp => ?_, fun p hp => ?_, MP.bind_k F0 (fun _ _ _ _ _ _ _ => rfl), fun H a ns hl _ hH hS => ⟨a, ns, rfl, hS, MP.tabs_nil fun p hp => ?_, Pg.law_true ns hl, fun _ => rfl⟩, fun base _ _ hTB => MP.fn_law0 (Pg.ok_law_v143 ((Pg.lsof KX G c.t.d c.more hF hTB).l_law_v143 _ hmg) hT (fun C => (Pg.al_all (T0 := Pg.hta K) (C0 := C) hT hF (Pg.lsof KX G c.t.d c.more hF hTB) 59).1) (fun C => (Pg.al_all (T0 := Pg.hta K) (C0 := C) hT hF (Pg.lsof KX G c.t.d c.more hF hTB) 59).2.1) (fun C => (Pg.al_all (T0 := Pg.hta K) (C0 := C) hT hF (Pg.lsof KX G c.t.d c.more hF hTB) 59).2.2) F0)⟩
    · obtain ⟨q, hq, rfl⟩ := List.mem_map.mp hp
      exact c.empty q hq
    · obtain ⟨q, hq, rfl⟩ := List.mem_map.mp hp
      exact c.out q hq
    · obtain ⟨q, hq, rfl⟩ := List.mem_map.mp hp
      exact PySem.W.codeHd_of_K KX (c.hd q hq)
    · obtain ⟨q, hq, rfl⟩ := List.mem_map.mp (show p ∈ (Pg.htf.zip (Pg.hta K)).map Prod.snd from hp)
      have z : q.2.1 = (He.cT K q.1).2 ∧ q.1 ∈ Pg.htf := by
        simp only [Pg.htf, Pg.hta, List.zip_cons_cons, List.zip_nil_right, List.mem_cons, List.not_mem_nil, or_false] at hq
        subst hq
        all_goals exact ⟨rfl, by simp [Pg.htf]⟩
      rw [z.1]
      exact hH (He.cT K q.1) (List.mem_map.mpr ⟨q.1, z.2, rfl⟩)
