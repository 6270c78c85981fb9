import PyProof.Rows.All
import Wide.All
import OpenK.AllK
import Wide.FinOn
import HandS.ForExc
import HandS.Walk
import HandS.Zip
import HandS.IsInst
import HandS.Wide
import HandS.TupMul
import HandS.SortKw
import HandS.Strs
import HandS.SetFor
import HandS.ExcCtx
import HandS.Lambda
import HandS.HotCalls
import HandS.Text
import HandS.FStr
import HandS.RaiseMore
import HandS.Star
import HandS.TupAny
import HandS.More
import HandS.Dict
import KE.KDictPairs
import HandS.ExcIs
import PyProof.Rows.SumAny
import HandS.EndTab
import HandS.HeadWalk
import HandS.SetTxt0
import KE.GoesMore
import KE.GoesEnum
import HandS.DictComp
import HandS.Style
import HandS.SortInts
import HandS.ForMost
import PySem.Challenge.RW_flowkeep_k03_whole_contained_rows
set_option Elab.async false
set_option linter.all false
set_option maxRecDepth 100000
set_option maxHeartbeats 4000000
namespace PI
open PySem L2

/-! ### data -/
inductive D where
  | non | bl (b : Bool) | int (i : Int) | str (s : Str)
  | tup (b : Bool) (xs : List D) | frz (xs : List D) | ref (k : Nat)
  deriving Inhabited

inductive O where
  | lst (xs : List D)
  | dct (kvs : List (Key × D))
  | ins (c : Str) (fs : List (Str × D))
  deriving Inhabited
abbrev Hs := List O
abbrev Fr := List (Option D)

mutual
def D.same : D → D → Bool
  | .non, .non => true
  | .bl a, .bl b => a == b
  | .int a, .int b => a == b
  | .str a, .str b => decide (a = b)
  | .tup p a, .tup q b => (p == q) && D.sameL a b
  | .frz a, .frz b => D.sameL a b
  | .ref a, .ref b => a == b
  | _, _ => false
def D.sameL : List D → List D → Bool
  | [], [] => true
  | a :: r, b :: q => D.same a b && D.sameL r q
  | _, _ => false
end

inductive R (α : Type) where
  | ok (a : α) (h : Hs)
  | ex (c : Nat) (h : Hs)
  | no
@[inline] def R.bind {α β : Type} (r : R α) (f : α → Hs → R β) : R β := match r with
  | .ok a h => f a h
  | .ex c h => .ex c h
  | .no => .no

/-! ### the text -/
inductive BO | add | sub | mul | div | mod | pow | and_ | shr
  deriving DecidableEq
inductive CO | eq | ne | lt | le | gt | ge | isN | notN | in_ | notIn
  deriving DecidableEq
/-- built-in functions, by values -/
inductive Bi | len | tuple | list | int_ | str_ | max2 | min2 | dict_
  deriving DecidableEq
/-- what isinstance asks -/
inductive Ty | non | bool | int | str | tuple | list | dict
  deriving DecidableEq
/-- built-in functions upon a list just made -/
inductive Bl | tuple | all | any | sum | len | sorted | lenSet | sortedSet
  deriving DecidableEq
inductive Me | append | index | get | pop | extend
  deriving DecidableEq
inductive Tg | one (i : Nat) | two (i j : Nat) | three (i j l : Nat)
  deriving DecidableEq

mutual
inductive E where
  | var (i : Nat)
  | con (d : D)
  | glob (i : Nat)
  | bin (op : BO) (a b : E)
  | neg (a : E)
  | notV (a : E)
  | cmp (op : CO) (a b : E)
  | chain (o1 o2 : CO) (a b c : E)
  | andV (a b : E) | orV (a b : E)
  | ite (t : T) (a b : E)
  | tup (es : Es)
  | newL (l : L)
  | ix (a b : E)
  | lix (l : L) (i : Nat)
  | sl (a : E) (lo hi : OE)
  | call (f : Nat) (es : Es)
  | bi (b : Bi) (es : Es)
  | isT (t : Ty) (e : E)
  | bl (b : Bl) (l : L)
  | me (m : Me) (o : E) (es : Es)
  | gget (i : Nat) (a : E)
  | lenSet (a : E) | sortSet (a : E)
  | told (e : E)
  | newD
  | sortR (a : E)
  | fmt (a : E) | jstr (es : Es)
  | join (a b : E) | split (a b : E)
  | gin (b : Bool) (i : Nat) (a : E) | gix (i : Nat) (a : E)
  | attr (c : Str) (a : E) (f : Str)
  | make (c : Str) (i : Nat) (es : Es)
  | meth (c m : Str) (i : Nat) (o : E) (es : Es)
  | dlit (ps : Ps)
  | dcomp (tg : Tg) (it : I) (own : List Nat) (k v : E)
  | rev (a : E) | sortL (a : E)
inductive OE where
  | none | some (e : E)
inductive Es where
  | nil | cons (e : E) (r : Es) | star (e : E) (r : Es)
inductive Ps where
  | nil | cons (k v : E) (r : Ps)
inductive T where
  | of (e : E)
  | and (a b : T) | or (a b : T) | not (a : T)
inductive L where
  | lit (es : Es)
  | comp (tg : Tg) (it : I) (own : List Nat) (c : T) (el : E)
  | compU (tg : Tg) (it : I) (own : List Nat) (el : E)
inductive I where
  | of (e : E)
  | ofL (l : L)
  | range1 (a : E) | range2 (a b : E) | range3 (a b d : E)
  | enum (a : E) | zip (a b : E)
end

/-- what a value is bound to: a name, an attribute -/
inductive Ta where
  | nm (i : Nat) | at_ (c : Str) (o : E) (f : Str)
mutual
inductive Sx where
  | set (i : Nat) (e : E)
  | two (i j : Nat) (e : E)
  | three (i j l : Nat) (e : E)
  | par (i j : Nat) (a b : E)
  | par3 (i j l : Nat) (a b d : E)
  | setix (o i e : E)
  | setA (c : Str) (o : E) (f : Str) (e : E)
  | augA (c : Str) (o : E) (f : Str) (e : E)
  | twoA (t u : Ta) (e : E)
  | aug (i : Nat) (e : E)
  | expr (e : E)
  | ret (e : E) | retN
  | ifS (t : T) (a b : Ss)
  | whileS (t : T) (b : Ss)
  | forS (tg : Tg) (it : I) (b : Ss)
  | raiseS (c : Nat)
  | pass | brk | cnt | never
inductive Ss where
  | nil | cons (s : Sx) (r : Ss)
end

/-! ### what it does -/
def LIM : Nat := 16777216
def mulOk (i j : Int) : Bool := (decide (-(2 ^ 64) < i) && decide (i < 2 ^ 64)) || (decide (-(2 ^ 64) < j) && decide (j < 2 ^ 64)) || decide (i.natAbs.log2 + j.natAbs.log2 < 1000000)

mutual
/-- as data, the lists of the heap written out -/
def D.py (h : Hs) (n : Nat) : D → Option PyData
  | .non => some .none
  | .bl b => some (.bool b)
  | .int i => some (.int i)
  | .str s => some (.str s)
  | .tup _ xs => (D.pyL h n xs).map .tuple
  | .frz xs => (D.pyL h n xs).map .list
  | .ref _ => none
def D.pyL (h : Hs) (n : Nat) : List D → Option (List PyData)
  | [] => some []
  | x :: r => match D.py h n x with
    | some a => (D.pyL h n r).map (a :: ·)
    | none => none
end
/-- one level of lists of the heap -/
def D.py1 (h : Hs) (d : D) : Option PyData := match d with
  | .ref k => match h[k]? with
    | some (.lst xs) => (D.pyL h 0 xs).map .list
    | _ => none
  | d => D.py h 0 d
def eqD (x y : D) (h : Hs) : Option Bool := match D.py1 h x, D.py1 h y with
  | some a, some b => if SeqAt.shaped a && SeqAt.shaped b then some (PyData.eqv a b) else none
  | _, _ => none

def R.ofB (o : Option Bool) (h : Hs) : R D := match o with
  | some b => .ok (.bl b) h
  | none => .no

def binD (op : BO) (x y : D) (h : Hs) : R D := match op, x, y with
  | .add, .int i, .int j => .ok (.int (i + j)) h
  | .add, .str i, .str j => if i.length + j.length ≤ LIM then .ok (.str (i ++ j)) h else .no
  | .add, .tup _ xs, .tup _ ys => if xs.length + ys.length ≤ LIM then .ok (.tup false (xs ++ ys)) h else .no
  | .add, .ref k, .ref m => match h[k]?, h[m]? with
    | some (.lst xs), some (.lst ys) => if xs.length + ys.length ≤ LIM then .ok (.ref h.length) (h ++ [.lst (xs ++ ys)]) else .no
    | _, _ => .no
  | .sub, .int i, .int j => .ok (.int (i - j)) h
  | .mul, .int i, .int j => if mulOk i j then .ok (.int (i * j)) h else .no
  | .mul, .tup _ xs, .int k => if xs.isEmpty = false ∧ 0 ≤ k ∧ k ≤ 1000 ∧ xs.length ≤ 1000 then .ok (.tup false (List.replicate k.toNat xs).flatten) h else .no
  | .mul, .ref k, .int n => match h[k]? with
    | some (.lst xs) => if 0 ≤ n ∧ n ≤ 1000 ∧ xs.length ≤ 1000 then .ok (.ref h.length) (h ++ [.lst (List.replicate n.toNat xs).flatten]) else .no
    | _ => .no
  | .div, .int i, .int j => if 0 < j ∧ j.natAbs.log2 < 9000 then .ok (.int (i / j)) h else .no
  | .mod, .int i, .int j => if 0 < j then .ok (.int (i % j)) h else .no
  | .pow, .int i, .int j => if 0 ≤ j ∧ j ≤ 1000000 ∧ i.natAbs < 2 ^ 64 then .ok (.int (i ^ j.toNat)) h else .no
  | .and_, .int i, .int j => .ok (.int (Builtin.bitAnd i j)) h
  | .shr, .int i, .int j => if 0 ≤ j then .ok (.int (i / 2 ^ j.toNat)) h else .no
  | _, _, _ => .no

def lstD' (h : Hs) (x : D) : Option (List D) := match x with
  | .ref k => match h[k]? with
    | some (.lst xs) => some xs
    | _ => none
  | _ => none
/-- the ints, the texts of a list -/
def ints? : List D → Option (List Int)
  | [] => some []
  | .int i :: r => (ints? r).map (i :: ·)
  | _ => none
def bools? : List D → Option (List Bool)
  | [] => some []
  | .bl i :: r => (bools? r).map (i :: ·)
  | _ => none
def strs? : List D → Option (List Str)
  | [] => some []
  | .str i :: r => (strs? r).map (i :: ·)
  | _ => none

def flatD : D → Bool
  | .non | .bl _ | .int _ | .str _ => true
  | _ => false
def toV : D → V
  | .bl b => .bl b
  | .int i => .int i
  | .str s => .str s
  | _ => .non
/-! dicts -/
def keyD : D → Option Key
  | .int i => some (.inl i)
  | .str s => some (.inr s)
  | _ => none
def keyV : Key → D
  | .inl i => .int i
  | .inr s => .str s
def valD (kvs : List (Key × D)) (k : Key) : Option D := (kvs.find? fun p => decide (p.1 = k)).map (·.2)
def putD (kvs : List (Key × D)) (k : Key) (d : D) : List (Key × D) := if kvs.any (fun p => decide (p.1 = k)) then kvs.map fun p => if p.1 = k then (p.1, d) else p else kvs ++ [(k, d)]
def dctD (h : Hs) (x : D) : Option (Nat × List (Key × D)) := match x with
  | .ref k => match h[k]? with
    | some (.dct kvs) => some (k, kvs)
    | _ => none
  | _ => none
def getK (kvs : List (Key × D)) (y : D) (h : Hs) : R D := match keyD y with
  | some k => match valD kvs k with
    | some d => .ok d h
    | none => .no
  | none => .no
/-- the items of a list, a tuple -/
def seqD (h : Hs) : D → Option (List D)
  | .tup _ xs => some xs
  | .frz xs => some xs
  | .ref k => match h[k]? with
    | some (.lst xs) => some xs
    | _ => none
  | _ => none

def inS (x y : D) (h : Hs) : Option Bool := match y with
  | .str z => match x with
    | .str c => if c.length = 1 then some (decide (c.cps.getD 0 0 ∈ z.cps.toList)) else none
    | _ => none
  | y => match seqD h y with
    | some ys => if flatD x && ys.all flatD then some (inV (toV x) (ys.map toV)) else none
    | none => none
def inD (x y : D) (h : Hs) : Option Bool := match dctD h y with
  | some (_, kvs) => match keyD x with
    | some k => some (valD kvs k).isSome
    | none => none
  | none => inS x y h
def ltD (op : CO) (x y : D) : Option Bool := match x with
  | .int i => match y with
    | .int j => match op with
      | .lt => some (decide (i < j))
      | .le => some (decide (i ≤ j))
      | .gt => some (decide (j < i))
      | .ge => some (decide (j ≤ i))
      | _ => none
    | _ => none
  | _ => none
def isN (x : D) : Bool := match x with
  | .non => true
  | _ => false
def cmpD (op : CO) (x y : D) (h : Hs) : R D := match op with
  | .eq => R.ofB (eqD x y h) h
  | .ne => R.ofB ((eqD x y h).map (!·)) h
  | .isN => match y with
    | .non => .ok (.bl (isN x)) h
    | _ => .no
  | .notN => match y with
    | .non => .ok (.bl (!isN x)) h
    | _ => .no
  | .lt => R.ofB (ltD .lt x y) h
  | .le => R.ofB (ltD .le x y) h
  | .gt => R.ofB (ltD .gt x y) h
  | .ge => R.ofB (ltD .ge x y) h
  | .in_ => R.ofB (inD x y h) h
  | .notIn => R.ofB ((inD x y h).map (!·)) h

def truD (x : D) (h : Hs) : Option Bool := match x with
  | .non => some false
  | .bl b => some b
  | .int i => some (i != 0)
  | .str s => if s.length ≤ LIM then some ((s.length : Int) != 0) else none
  | .tup _ xs => some (!xs.isEmpty)
  | .frz xs => some (!xs.isEmpty)
  | .ref k => match h[k]? with
    | some (.lst xs) => some (!xs.isEmpty)
    | _ => none

def ixQ (xs : Option (List D)) (i : Int) (h : Hs) : R D := match xs with
  | some xs => match atI xs i with
    | some d => .ok d h
    | none => .no
  | none => .no
def ixS (x y : D) (h : Hs) : R D := match y with
  | .int i => match x with
    | .str z => if z.length ≤ LIM then match atI z.cps.toList i with
        | some c => .ok (.str ⟨#[c]⟩) h
        | none => .no
      else .no
    | x => ixQ (seqD h x) i h
  | _ => .no
def ixD (x y : D) (h : Hs) : R D := match dctD h x with
  | some (_, kvs) => getK kvs y h
  | none => ixS x y h
def cutD (xs : List D) (lo hi : Option Int) : List D := (xs.drop (HT.sIx xs.length 0 lo)).take (HT.sIx xs.length xs.length hi - HT.sIx xs.length 0 lo)
def slD (x : D) (lo hi : Option Int) (h : Hs) : R D := match x with
  | .tup _ xs => .ok (.tup false (cutD xs lo hi)) h
  | .ref k => match h[k]? with
    | some (.lst xs) => .ok (.ref h.length) (h ++ [.lst (cutD xs lo hi)])
    | _ => .no
  | _ => .no

def lenD (h : Hs) (x : D) : Option Nat := match x with
  | .str s => if s.length ≤ LIM then some s.length else none
  | x => (seqD h x).map List.length
def mergD (kvs : List (Key × D)) : List (Key × D) := kvs.foldl (fun acc p => putD acc p.1 p.2) []
def pairs2 : List D → Option (List (Key × D))
  | [] => some []
  | .tup _ [a, b] :: r => match keyD a with
    | some q => (pairs2 r).map ((q, b) :: ·)
    | none => none
  | _ => none
def bi1 (b : Bi) (x : D) (h : Hs) : R D := match b with
  | .len => match lenD h x with
    | some n => .ok (.int n) h
    | none => .no
  | .tuple => match seqD h x with
    | some xs => .ok (.tup false xs) h
    | none => .no
  | .list => match dctD h x with
    | some (_, kvs) => .ok (.ref h.length) (h ++ [.lst (kvs.map fun p => keyV p.1)])
    | none => match seqD h x with
      | some xs => .ok (.ref h.length) (h ++ [.lst xs])
      | none => .no
  | .dict_ => match x with
    | .tup true xs => match pairs2 xs with
      | some kvs => if xs.length ≤ LIM then .ok (.ref h.length) (h ++ [.dct (mergD kvs)]) else .no
      | none => .no
    | _ => .no
  | .int_ => match x with
    | .int i => .ok (.int i) h
    | .bl b => .ok (.int (if b then 1 else 0)) h
    | .str s => match PySem.intText? s with
      | some n => if s.length ≤ 640 then .ok (.int n) h else .no
      | none => .no
    | _ => .no
  | .str_ => match x with
    | .int i => if i.natAbs.log2 < 1920 then .ok (.str (Str.ofString (toString i))) h else .no
    | .str s => .ok (.str s) h
    | _ => .no
  | _ => .no
def bi2 (b : Bi) (x y : D) (h : Hs) : R D := match b with
  | .max2 => match x with
    | .int i => match y with
      | .int j => .ok (.int (if j > i then j else i)) h
      | _ => .no
    | _ => .no
  | .min2 => match x with
    | .int i => match y with
      | .int j => .ok (.int (if j < i then j else i)) h
      | _ => .no
    | _ => .no
  | _ => .no
def biD (b : Bi) (ds : List D) (h : Hs) : R D := match ds with
  | [x] => bi1 b x h
  | [x, y] => bi2 b x y h
  | _ => .no
def tyD (h : Hs) : D → Option Ty
  | .non => some .non
  | .bl _ => some .bool
  | .int _ => some .int
  | .str _ => some .str
  | .tup _ _ => some .tuple
  | .frz _ => some .list
  | .ref k => match h[k]? with
    | some (.lst _) => some .list
    | some (.dct _) => some .dict
    | _ => none
def Ty.sub (a b : Ty) : Bool := decide (a = b) || (decide (a = .bool) && decide (b = .int))
def insB (x : Int) : List Int → List Int
  | [] => [x]
  | y :: r => if x ≤ y then x :: y :: r else y :: insB x r
def sortI (xs : List Int) : List Int := xs.foldr insB []
def dedI : List Int → List Int
  | [] => []
  | x :: r => if r.contains x then dedI r else x :: dedI r
def dedS : List Str → List Str
  | [] => []
  | x :: r => if r.contains x then dedS r else x :: dedS r

def stT (acc : List Str) (k : Str) : List Str := if acc.any (· == k) then acc else acc ++ [k]
def lenSetD (x : D) (h : Hs) : R D := match seqD h x with
  | some xs => match strs? xs with
    | some ss => if ss.length ≤ 4000 then .ok (.int (ss.foldl stT []).length) h else .no
    | none => .no
  | none => .no
def insI (x : Int) : List Int → List Int
  | [] => [x]
  | y :: r => if x < y then x :: y :: r else if x = y then y :: r else y :: insI x r
/-! the order of texts -/
def ltN : List Nat → List Nat → Bool
  | _, [] => false
  | [], _ :: _ => true
  | a :: r, b :: q => if a < b then true else if a = b then ltN r q else false
/-- put in its place, if it is new -/
def insT (x : Str) : List Str → List Str
  | [] => [x]
  | y :: r => if ltN x.cps.toList y.cps.toList then x :: y :: r else if x = y then y :: r else y :: insT x r
def srtT (xs : List Str) : List Str := xs.foldr insT []
def sortSetD (x : D) (h : Hs) : R D := match x with
  | .tup _ xs => match ints? xs with
    | some ns => if ns.length < 63 then .ok (.ref h.length) (h ++ [.lst ((ns.foldr insI []).map .int)]) else .no
    | none => .no
  | .ref k => match lstD' h (.ref k) with
    | some xs => match strs? xs with
      | some ss => if ss.length ≤ 4000 ∧ (srtT ss).length < 64 then .ok (.ref h.length) (h ++ [.lst ((srtT ss).map .str)]) else .no
      | none => match ints? xs with
        | some ns => if ns.length < 63 then .ok (.ref h.length) (h ++ [.lst ((ns.foldr insI []).map .int)]) else .no
        | none => .no
    | none => .no
  | _ => .no
/-- the greatest first -/
def insR (x : Int) : List Int → List Int
  | [] => [x]
  | y :: r => if y ≤ x then x :: y :: r else y :: insR x r
def sortRD (x : D) (h : Hs) : R D := match lstD' h x with
  | some xs => match ints? xs with
    | some ns => .ok (.ref h.length) (h ++ [.lst ((ns.foldr insR []).map .int)])
    | none => .no
  | none => .no
def revD (x : D) (h : Hs) : R D := match lstD' h x with
  | some xs => .ok (.ref h.length) (h ++ [.lst xs.reverse])
  | none => .no
/-- the least first -/
def sortLD (x : D) (h : Hs) : R D := match lstD' h x with
  | some xs => match ints? xs with
    | some ns => .ok (.ref h.length) (h ++ [.lst ((sortI ns).map .int)])
    | none => .no
  | none => .no
def kvD : List (Str × D) → Str → D
  | [], _ => .non
  | (k, v) :: r, s => if k = s then v else kvD r s
def getD1 (t : Option (List (Str × D))) (x : D) (h : Hs) : R D := match t with
  | some kvs => match x with
    | .str s => .ok (kvD kvs s) h
    | _ => .no
  | none => .no
def blD (b : Bl) (xs : List D) (h : Hs) : R D := match b with
  | .tuple => .ok (.tup false xs) h
  | .len => .ok (.int xs.length) h
  | .all => match bools? xs with
    | some bs => .ok (.bl (bs.all id)) h
    | none => .no
  | .any => match bools? xs with
    | some bs => .ok (.bl (bs.any id)) h
    | none => .no
  | .sum => match ints? xs with
    | some ns => .ok (.int ns.sum) h
    | none => .no
  | .sorted => .no
  | .lenSet => .no
  | .sortedSet => .no

def lstD (h : Hs) (x : D) : Option (Nat × List D) := match x with
  | .ref k => match h[k]? with
    | some (.lst xs) => some (k, xs)
    | _ => none
  | _ => none
def me0 (m : Me) (o : D) (h : Hs) : R D := match m with
  | .pop => match lstD h o with
    | some (k, xs) => match xs.getLast? with
      | some x => .ok x (h.set k (.lst xs.dropLast))
      | none => .no
    | none => .no
  | _ => .no
def me1 (m : Me) (o x : D) (h : Hs) : R D := match m with
  | .append => match lstD h o with
    | some (k, xs) => if xs.length < LIM then .ok .non (h.set k (.lst (xs ++ [x]))) else .no
    | none => .no
  | .extend => match lstD h o with
    | some (k, xs) => match lstD' h x with
      | some ys => if xs.length + ys.length ≤ LIM then .ok .non (h.set k (.lst (xs ++ ys))) else .no
      | none => .no
    | none => .no
  | _ => .no
def meD (m : Me) (o : D) (ds : List D) (h : Hs) : R D := match ds with
  | [] => me0 m o h
  | [x] => me1 m o x h
  | _ => .no

/-- what a loop goes over, the lists that stay meanwhile -/
structure IT where
  items : List D
  gs : List (Nat × List D)
def gOk (gs : List (Nat × List D)) (h : Hs) : Bool := gs.all fun p => match h[p.1]? with
  | some (.lst ys) => D.sameL ys p.2
  | _ => false
def bindTg (tg : Tg) (d : D) (δ : Fr) : Option Fr := match tg, d with
  | .one i, d => if i < δ.length then some (δ.set i (some d)) else none
  | .two i j, .tup _ [a, b] => if i < δ.length ∧ j < δ.length then some ((δ.set i (some a)).set j (some b)) else none
  | .three i j l, .tup _ [a, b, c] => if i < δ.length ∧ j < δ.length ∧ l < δ.length then some (((δ.set i (some a)).set j (some b)).set l (some c)) else none
  | _, _ => none
def wipeF (δ : Fr) : List Nat → Fr
  | [] => δ
  | v :: vs => (wipeF δ vs).set v none

def compLoop (f : D → Hs → R (Option D)) (g : Hs → Bool) : List D → Hs → R (List D)
  | [], h => if g h then .ok [] h else .no
  | x :: xs, h => if g h then match f x h with
      | .ok o h1 => match compLoop f g xs h1 with
        | .ok r h2 => .ok (match o with | some d => d :: r | none => r) h2
        | _ => .no
      | _ => .no
    else .no

def itOf (x : D) (h : Hs) : R IT := match x with
  | .tup _ xs => .ok ⟨xs, []⟩ h
  | .frz xs => .ok ⟨xs, []⟩ h
  | .str s => .ok ⟨s.cps.toList.map fun c => .str ⟨#[c]⟩, []⟩ h
  | .ref k => match h[k]? with
    | some (.lst xs) => .ok ⟨xs, [(k, xs)]⟩ h
    | _ => .no
  | _ => .no
def itEnum (x : D) (h : Hs) : R IT := match itOf x h with
  | .ok it h => .ok ⟨it.items.zipIdx.map fun p => .tup false [.int p.2, p.1], it.gs⟩ h
  | _ => .no
def itZip (x y : D) (h : Hs) : R IT := match x, y with
  | .tup _ xs, .tup _ ys => .ok ⟨(xs.zip ys).map fun p => .tup false [p.1, p.2], []⟩ h
  | .ref k, .ref m => match h[k]?, h[m]? with
    | some (.lst xs), some (.lst ys) => .ok ⟨(xs.zip ys).map fun p => .tup false [p.1, p.2], [(k, xs), (m, ys)]⟩ h
    | _, _ => .no
  | _, _ => .no
def rangeD (lo hi : Int) : List D := (List.range (hi - lo).toNat).map fun (i : Nat) => D.int (lo + (i : Int))
def i62 (j : Int) : Bool := decide (-(2 ^ 62) ≤ j) && decide (j < 2 ^ 62)

abbrev CF := Nat → List D → Hs → R D
/-- the defs, at each depth of calls that is left, and what is known of the top -/
structure Cal where
  fns : List CF
  con : List D
  dic : List (List (Str × D))
  nm : List (Option Str)
def Cal.fn (c : Cal) (i : Nat) (xs : List D) (h : Hs) : R D := match c.fns with
  | [] => .no
  | f :: _ => f i xs h
def Cal.fn1 (c : Cal) (i : Nat) (xs : List D) (h : Hs) : R D := match c.fns with
  | _ :: f :: _ => f i xs h
  | _ => .no
def Cal.low (c : Cal) : Cal := { c with fns := c.fns.drop 2 }
/-- what is told of a deed -/
def toldR (nm : List (Option Str)) (r : R D) : R D := match r with
  | .ok d h => .ok d h
  | .ex k h => match nm[k]? with
    | some (some s) => .ok (.tup false [.str ⟨#[101, 114, 114, 111, 114]⟩, .str s]) h
    | _ => .no
  | .no => .no

def negR (x : D) (h : Hs) : R D := match x with
  | .int i => .ok (.int (-i)) h
  | _ => .no
def notR (x : D) (h : Hs) : R D := match x with
  | .bl b => .ok (.bl (!b)) h
  | _ => .no
def andK (k : Hs → R D) (x : D) (h : Hs) : R D := match x with
  | .bl b => match b with
    | true => k h
    | false => .ok (.bl false) h
  | _ => .no
def orK (k : Hs → R D) (x : D) (h : Hs) : R D := match x with
  | .bl b => match b with
    | true => .ok (.bl true) h
    | false => k h
  | _ => .no
def iteK {α : Type} (k k' : Hs → R α) (x : Bool) (h : Hs) : R α := match x with
  | true => k h
  | false => k' h
def refK (k : Hs → R D) (x : D) (h : Hs) : R D := match lstD' h x with
  | some _ => k h
  | none => .no
def tupR (xs : List D) (h : Hs) : R D := if xs.length ≤ LIM then .ok (.tup true xs) h else .no
def litR (xs : List D) (h : Hs) : R (List D) := if xs.length ≤ LIM then .ok xs h else .no
def partR (x : D) (h : Hs) : R (Option Int) := match x with
  | .int i => .ok (some i) h
  | _ => .no
def truR (x : D) (h : Hs) : R Bool := match truD x h with
  | some b => .ok b h
  | none => .no
def newR (xs : List D) (h : Hs) : R D := .ok (.ref h.length) (h ++ [.lst xs])
def newDR (h : Hs) : R D := .ok (.ref h.length) (h ++ [.dct []])
def someR (y : D) (h : Hs) : R (Option D) := .ok (some y) h
def noneR (h : Hs) : R (Option D) := .ok none h
def rng1 (x : D) (h : Hs) : R IT := match x with
  | .int j => if i62 j then .ok ⟨rangeD 0 j, []⟩ h else .no
  | _ => .no
def rng2 (x y : D) (h : Hs) : R IT := match x with
  | .int i => match y with
    | .int j => if i62 i && i62 j then .ok ⟨rangeD i j, []⟩ h else .no
    | _ => .no
  | _ => .no
def loopR (f : D → Hs → R (Option D)) (J : IT) (h : Hs) : R (List D) := if J.items.length < LIM then compLoop f (gOk J.gs) J.items h else .no
def bindK {α : Type} (k : Fr → Hs → R α) (o : Option Fr) (h : Hs) : R α := match o with
  | some δ => k δ h
  | none => .no

def isTD (t : Ty) (o : Option Ty) (h : Hs) : R D := match o with
  | some a => .ok (.bl (a.sub t)) h
  | none => .no
/-! instances -/
def putFD (f : Str) (d : D) : List (Str × D) → List (Str × D)
  | [] => [(f, d)]
  | (g, x) :: r => if g = f then (g, d) :: r else (g, x) :: putFD f d r
def insD (h : Hs) (c : Str) (x : D) : Option (Nat × List (Str × D)) := match x with
  | .ref k => match h[k]? with
    | some (.ins c' fs) => if c' = c then some (k, fs) else none
    | _ => none
  | _ => none
def attrR (c f : Str) (x : D) (h : Hs) : R D := match insD h c x with
  | some (_, fs) => match fs.lookup f with
    | some d => .ok d h
    | none => .no
  | none => .no
def methG (c m : Str) (k : Hs → R D) (x : D) (h : Hs) : R D := match insD h c x with
  | some (_, fs) => match fs.lookup m with
    | none => k h
    | some _ => .no
  | none => .no
def madeR (n : Nat) (v : D) (h : Hs) : R D := match v with
  | .non => .ok (.ref n) h
  | _ => .no
/-! dicts made at once -/
def keyK {α : Type} (k : Key → Hs → R α) (x : D) (h : Hs) : R α := match keyD x with
  | some q => k q h
  | none => .no
def dispR (kvs : List (Key × D)) (h : Hs) : R D := if kvs.length ≤ 15 then .ok (.ref h.length) (h ++ [.dct (mergD kvs)]) else .no
def pairR (a b : D) (h : Hs) : R (Option D) := match keyD a with
  | some _ => .ok (some (.tup false [a, b])) h
  | none => .no
def dcR (ps : List D) (h : Hs) : R D := match pairs2 ps with
  | some kvs => .ok (.ref h.length) (h ++ [.dct (mergD kvs)])
  | none => .no
/-! texts -/
def fmtD (x : D) (h : Hs) : R D := match x with
  | .str s => if s.length ≤ LIM then .ok (.str s) h else .no
  | .int i => if i.natAbs.log2 < 1920 then .ok (.str (Str.ofString (toString i))) h else .no
  | _ => .no
/-- a part of a joined text -/
def partK (k : Str → Hs → R D) (acc : Str) (x : D) (h : Hs) : R D := match x with
  | .str s => if (acc ++ s).length ≤ LIM then k (acc ++ s) h else .no
  | _ => .no
def joinD (x y : D) (h : Hs) : R D := match x with
  | .str s => match seqD h y with
    | some xs => match strs? xs with
      | some ss => if (ss.map fun t => t.length).sum + ss.length * s.length ≤ LIM then .ok (.str (Txt.join s ss)) h else .no
      | none => .no
    | none => .no
  | _ => .no
def splitD (x y : D) (h : Hs) : R D := match x with
  | .str s => match y with
    | .str t => if (t.length == 0) = false ∧ s.length + 2 ≤ LIM then .ok (.ref h.length) (h ++ [.lst ((Txt.split s t).map .str)]) else .no
    | _ => .no
  | _ => .no
def strK (k : Hs → R D) (x : D) (h : Hs) : R D := match x with
  | .str _ => k h
  | _ => .no
def kvO : List (Str × D) → Str → Option D
  | [], _ => none
  | (k, v) :: r, s => if k = s then some v else kvO r s
def ginD (b : Bool) (t : Option (List (Str × D))) (x : D) (h : Hs) : R D := match t with
  | some kvs => match x with
    | .str s => .ok (.bl (if b then !(kvO kvs s).isSome else (kvO kvs s).isSome)) h
    | _ => .no
  | none => .no
def gixD (t : Option (List (Str × D))) (x : D) (h : Hs) : R D := match t with
  | some kvs => match x with
    | .str s => match kvO kvs s with
      | some d => .ok d h
      | none => .no
    | _ => .no
  | none => .no
def starK (k : Hs → R (List D)) (x : D) (h : Hs) : R (List D) := match seqD h x with
  | some xs => (k h).bind fun ys h2 => .ok (xs ++ ys) h2
  | none => .no
def rng3 (x y z : D) (h : Hs) : R IT := match x with
  | .int i => match y with
    | .int j => match z with
      | .int k => if k ≠ 0 ∧ k.natAbs < 1073741824 ∧ Builtin.Range.small i j k = true ∧ 0 ≤ Builtin.Range.rangeSize i j k then .ok ⟨(List.range (Builtin.Range.rangeSize i j k).toNat).map fun (n : Nat) => .int (i + (n : Int) * k), []⟩ h else .no
      | _ => .no
    | _ => .no
  | _ => .no
/-- a display, indexed by a name -/
def lixR (o : Option (Option D)) (xs : List D) (h : Hs) : R D := match o with
  | some (some (.int j)) => ixQ (some xs) j h
  | _ => .no
mutual
def evE (c : Cal) : E → Fr → Hs → R D
  | .var i, δ, h => match δ[i]? with
    | some (some d) => .ok d h
    | _ => .no
  | .con d, _, h => .ok d h
  | .glob i, _, h => match c.con[i]? with
    | some d => .ok d h
    | none => .no
  | .bin op a b, δ, h => (evE c a δ h).bind fun x h1 => (evE c b δ h1).bind fun y h2 => binD op x y h2
  | .neg a, δ, h => (evE c a δ h).bind negR
  | .notV a, δ, h => (evE c a δ h).bind notR
  | .cmp op a b, δ, h => (evE c a δ h).bind fun x h1 => (evE c b δ h1).bind fun y h2 => cmpD op x y h2
  | .chain o1 o2 a b d, δ, h => (evE c a δ h).bind fun x h1 => (evE c b δ h1).bind fun y h2 => (cmpD o1 x y h2).bind fun z h3 => andK (fun h3 => (evE c d δ h3).bind fun u h4 => cmpD o2 y u h4) z h3
  | .andV a b, δ, h => (evE c a δ h).bind fun x h1 => andK (fun h1 => evE c b δ h1) x h1
  | .orV a b, δ, h => (evE c a δ h).bind fun x h1 => orK (fun h1 => evE c b δ h1) x h1
  | .ite t a b, δ, h => (evT c t δ h).bind fun x h1 => iteK (fun h1 => evE c a δ h1) (fun h1 => evE c b δ h1) x h1
  | .tup es, δ, h => (evEs c es δ h).bind tupR
  | .newL l, δ, h => (evL c l δ h).bind newR
  | .ix a b, δ, h => (evE c a δ h).bind fun x h1 => (evE c b δ h1).bind fun y h2 => ixD x y h2
  | .lix l i, δ, h => (evL c l δ h).bind fun xs h1 => lixR δ[i]? xs h1
  | .sl a lo hi, δ, h => (evE c a δ h).bind fun x h1 => (evOE c lo δ h1).bind fun l h2 => (evOE c hi δ h2).bind fun u h3 => slD x l u h3
  | .call f es, δ, h => (evEs c es δ h).bind fun xs h1 => c.fn f xs h1
  | .bi b es, δ, h => (evEs c es δ h).bind fun xs h1 => biD b xs h1
  | .isT t e, δ, h => (evE c e δ h).bind fun x h1 => isTD t (tyD h1 x) h1
  | .bl b l, δ, h => (evL c l δ h).bind fun xs h1 => blD b xs h1
  | .me m o es, δ, h => (evE c o δ h).bind fun x h1 => refK (fun h1 => (evEs c es δ h1).bind fun xs h2 => meD m x xs h2) x h1
  | .gget i a, δ, h => (evE c a δ h).bind fun x h1 => getD1 c.dic[i]? x h1
  | .lenSet a, δ, h => (evE c a δ h).bind lenSetD
  | .sortSet a, δ, h => (evE c a δ h).bind sortSetD
  | .newD, _, h => newDR h
  | .sortR a, δ, h => (evE c a δ h).bind sortRD
  | .fmt a, δ, h => (evE c a δ h).bind fmtD
  | .jstr es, δ, h => evJ c es Str.empty δ h
  | .join a b, δ, h => (evE c a δ h).bind fun x h1 => strK (fun h1 => (evE c b δ h1).bind fun y h2 => joinD x y h2) x h1
  | .split a b, δ, h => (evE c a δ h).bind fun x h1 => strK (fun h1 => (evE c b δ h1).bind fun y h2 => splitD x y h2) x h1
  | .gin b i a, δ, h => (evE c a δ h).bind fun x h1 => ginD b c.dic[i]? x h1
  | .gix i a, δ, h => (evE c a δ h).bind fun x h1 => gixD c.dic[i]? x h1
  | .attr k a f, δ, h => (evE c a δ h).bind fun x h1 => attrR k f x h1
  | .make k i es, δ, h => (evEs c es δ h).bind fun xs h1 => (c.fn1 i (.ref h1.length :: xs) (h1 ++ [.ins k []])).bind fun v h2 => madeR h1.length v h2
  | .meth k m i o es, δ, h => (evE c o δ h).bind fun x h1 => methG k m (fun h1 => (evEs c es δ h1).bind fun xs h2 => c.fn i (x :: xs) h2) x h1
  | .dlit ps, δ, h => (evPs c ps δ h).bind dispR
  | .dcomp tg it own k v, δ, h => ((evI c it δ h).bind fun J h1 => loopR (fun x h2 => bindK (fun δ' h2 => (evE c k δ' h2).bind fun a h3 => (evE c v δ' h3).bind (pairR a)) (bindTg tg x (wipeF δ own)) h2) J h1).bind dcR
  | .rev a, δ, h => (evE c a δ h).bind revD
  | .sortL a, δ, h => (evE c a δ h).bind sortLD
  | .told e, δ, h => match c.fns.drop 1 with
    | [] => .no
    | _ :: _ => toldR c.nm (evE c.low e δ h)
def evOE (c : Cal) : OE → Fr → Hs → R (Option Int)
  | .none, _, h => .ok none h
  | .some e, δ, h => (evE c e δ h).bind partR
def evEs (c : Cal) : Es → Fr → Hs → R (List D)
  | .nil, _, h => .ok [] h
  | .cons e r, δ, h => (evE c e δ h).bind fun x h1 => (evEs c r δ h1).bind fun xs h2 => .ok (x :: xs) h2
  | .star e r, δ, h => (evE c e δ h).bind fun x h1 => starK (fun h1 => evEs c r δ h1) x h1
def evPs (c : Cal) : Ps → Fr → Hs → R (List (Key × D))
  | .nil, _, h => .ok [] h
  | .cons k v r, δ, h => (evE c k δ h).bind fun x h1 => (evE c v δ h1).bind fun y h2 => keyK (fun q h2 => (evPs c r δ h2).bind fun ps h3 => .ok ((q, y) :: ps) h3) x h2
def evJ (c : Cal) : Es → Str → Fr → Hs → R D
  | .nil, acc, _, h => .ok (.str acc) h
  | .cons e r, acc, δ, h => (evE c e δ h).bind fun x h1 => partK (fun acc h1 => evJ c r acc δ h1) acc x h1
  | .star _ _, _, _, _ => .no
def evT (c : Cal) : T → Fr → Hs → R Bool
  | .of e, δ, h => (evE c e δ h).bind truR
  | .and a b, δ, h => (evT c a δ h).bind fun x h1 => iteK (fun h1 => evT c b δ h1) (fun h1 => .ok false h1) x h1
  | .or a b, δ, h => (evT c a δ h).bind fun x h1 => iteK (fun h1 => .ok true h1) (fun h1 => evT c b δ h1) x h1
  | .not a, δ, h => (evT c a δ h).bind fun x h1 => .ok (!x) h1
def evL (c : Cal) : L → Fr → Hs → R (List D)
  | .lit es, δ, h => (evEs c es δ h).bind litR
  | .comp tg it own t el, δ, h => (evI c it δ h).bind fun J h1 => loopR (fun x h2 => bindK (fun δ' h2 => (evT c t δ' h2).bind fun b h3 =>
      iteK (fun h3 => (evE c el δ' h3).bind someR) noneR b h3) (bindTg tg x (wipeF δ own)) h2) J h1
  | .compU tg it own el, δ, h => (evI c it δ h).bind fun J h1 => loopR (fun x h2 => bindK (fun δ' h2 => (evE c el δ' h2).bind someR) (bindTg tg x (wipeF δ own)) h2) J h1
def evI (c : Cal) : I → Fr → Hs → R IT
  | .of e, δ, h => (evE c e δ h).bind itOf
  | .ofL l, δ, h => (evL c l δ h).bind fun xs h1 => .ok ⟨xs, []⟩ h1
  | .range1 a, δ, h => (evE c a δ h).bind rng1
  | .range2 a b, δ, h => (evE c a δ h).bind fun x h1 => (evE c b δ h1).bind fun y h2 => rng2 x y h2
  | .range3 a b d, δ, h => (evE c a δ h).bind fun x h1 => (evE c b δ h1).bind fun y h2 => (evE c d δ h2).bind fun z h3 => rng3 x y z h3
  | .enum a, δ, h => (evE c a δ h).bind itEnum
  | .zip a b, δ, h => (evE c a δ h).bind fun x h1 => (evE c b δ h1).bind fun y h2 => itZip x y h2
end

inductive Out where
  | nx (δ : Fr) | rt (d : D) | bk (δ : Fr) | ct (δ : Fr)
/-- behind a loop's body; k: the next turn -/
def afterB (k : Fr → Hs → R Out) (o : Out) (h : Hs) : R Out := match o with
  | .nx δ => k δ h
  | .ct δ => k δ h
  | .bk δ => .ok (.nx δ) h
  | .rt d => .ok (.rt d) h
def nxR (δ : Fr) (h : Hs) : R Out := .ok (.nx δ) h
def forLoop (f : D → Fr → Hs → R Out) (g : Hs → Bool) : List D → Fr → Hs → R Out
  | [], δ, h => if g h then nxR δ h else .no
  | x :: xs, δ, h => if g h then (f x δ h).bind (afterB (forLoop f g xs)) else .no
def whileLoop (t : Fr → Hs → R Bool) (b : Fr → Hs → R Out) : Nat → Fr → Hs → R Out
  | 0, _, _ => .no
  | n + 1, δ, h => (t δ h).bind fun c h1 => iteK (fun h1 => (b δ h1).bind (afterB (whileLoop t b n))) (nxR δ) c h1
def setF (δ : Fr) (i : Nat) (d : D) (h : Hs) : R Out := if i < δ.length then .ok (.nx (δ.set i (some d))) h else .no
def retR (x : D) (h : Hs) : R Out := .ok (.rt x) h
def twoR (i j : Nat) (δ : Fr) (x : D) (h : Hs) : R Out := bindK nxR (bindTg (.two i j) x δ) h
def threeR (i j l : Nat) (δ : Fr) (x : D) (h : Hs) : R Out := bindK nxR (bindTg (.three i j l) x δ) h
def parR (i j : Nat) (δ : Fr) (x y : D) (h : Hs) : R Out := if i < δ.length ∧ j < δ.length then nxR ((δ.set i (some x)).set j (some y)) h else .no
def par3R (i j l : Nat) (δ : Fr) (x y z : D) (h : Hs) : R Out := if i < δ.length ∧ j < δ.length ∧ l < δ.length then nxR (((δ.set i (some x)).set j (some y)).set l (some z)) h else .no
def setixS (δ : Fr) (v x y : D) (h : Hs) : R Out := match lstD h x with
  | some (k, xs) => match y with
    | .int n => match ixN xs.length n with
      | some j => nxR δ (h.set k (.lst (xs.set j v)))
      | none => .no
    | _ => .no
  | none => .no
def setixR (δ : Fr) (v x y : D) (h : Hs) : R Out := match dctD h x with
  | some (k, kvs) => match keyD y with
    | some key => if kvs.length < LIM then nxR δ (h.set k (.dct (putD kvs key v))) else .no
    | none => .no
  | none => setixS δ v x y h
def setAR (δ : Fr) (c f : Str) (v x : D) (h : Hs) : R Out := match insD h c x with
  | some (k, fs) => if fs.length < 1000 then nxR δ (h.set k (.ins c (putFD f v fs))) else .no
  | none => .no
def setAF (δ : Fr) (c f : Str) (v x : D) (h : Hs) : R Fr := match insD h c x with
  | some (k, fs) => if fs.length < 1000 then .ok δ (h.set k (.ins c (putFD f v fs))) else .no
  | none => .no
def evTa (c : Cal) (t : Ta) (d : D) (δ : Fr) (h : Hs) : R Fr := match t with
  | .nm i => if i < δ.length then .ok (δ.set i (some d)) h else .no
  | .at_ k o f => (evE c o δ h).bind fun x h1 => setAF δ k f d x h1
def intK (k : Int → Hs → R Out) (x : D) (h : Hs) : R Out := match x with
  | .int i => k i h
  | _ => .no
/-- the attribute's value, an int, then the rest -/
def augAR (c f : Str) (k : Int → Hs → R Out) (x : D) (h : Hs) : R Out := match insD h c x with
  | some (_, fs) => match fs.lookup f with
    | some (.int i) => k i h
    | _ => .no
  | none => .no
def pairK (k : D → D → Hs → R Out) (x : D) (h : Hs) : R Out := match x with
  | .tup _ [a, b] => k a b h
  | _ => .no
def augR (i : Nat) (δ : Fr) (x : Int) (y : D) (h : Hs) : R Out := match y with
  | .int j => setF δ i (.int (x + j)) h
  | _ => .no
/-- behind a statement -/
def thenR (k : Fr → Hs → R Out) (o : Out) (h : Hs) : R Out := match o with
  | .nx δ => k δ h
  | o => .ok o h
mutual
def evS (c : Cal) (wl : Nat) : Sx → Fr → Hs → R Out
  | .set i e, δ, h => (evE c e δ h).bind fun x h1 => setF δ i x h1
  | .two i j e, δ, h => (evE c e δ h).bind fun x h1 => twoR i j δ x h1
  | .three i j l e, δ, h => (evE c e δ h).bind fun x h1 => threeR i j l δ x h1
  | .par i j a b, δ, h => (evE c a δ h).bind fun x h1 => (evE c b δ h1).bind fun y h2 => parR i j δ x y h2
  | .par3 i j l a b d, δ, h => (evE c a δ h).bind fun x h1 => (evE c b δ h1).bind fun y h2 => (evE c d δ h2).bind fun z h3 => par3R i j l δ x y z h3
  | .setix o i e, δ, h => (evE c e δ h).bind fun v h1 => (evE c o δ h1).bind fun x h2 => (evE c i δ h2).bind fun y h3 => setixR δ v x y h3
  | .setA k o f e, δ, h => (evE c e δ h).bind fun v h1 => (evE c o δ h1).bind fun x h2 => setAR δ k f v x h2
  | .augA k o f e, δ, h => (evE c o δ h).bind fun x h1 => augAR k f (fun i h1 => (evE c e δ h1).bind fun y h2 => intK (fun j h2 => setAR δ k f (.int (i + j)) x h2) y h2) x h1
  | .twoA t u e, δ, h => (evE c e δ h).bind fun x h1 => pairK (fun a b h1 => (evTa c t a δ h1).bind fun δ1 h2 => (evTa c u b δ1 h2).bind nxR) x h1
  | .aug i e, δ, h => match δ[i]? with
    | some (some (.int x)) => (evE c e δ h).bind fun y h1 => augR i δ x y h1
    | _ => .no
  | .expr e, δ, h => (evE c e δ h).bind fun _ h1 => nxR δ h1
  | .ret e, δ, h => (evE c e δ h).bind retR
  | .retN, _, h => .ok (.rt .non) h
  | .ifS t a b, δ, h => (evT c t δ h).bind fun x h1 => iteK (fun h1 => evSs c wl a δ h1) (fun h1 => evSs c wl b δ h1) x h1
  | .whileS t b, δ, h => whileLoop (evT c t) (evSs c wl b) wl δ h
  | .forS tg it b, δ, h => (evI c it δ h).bind fun J h1 => forLoop (fun x δ' h2 => bindK (fun δ2 h2 => evSs c wl b δ2 h2) (bindTg tg x δ') h2) (gOk J.gs) J.items δ h1
  | .raiseS k, _, h => .ex k h
  | .pass, δ, h => nxR δ h
  | .brk, δ, h => .ok (.bk δ) h
  | .cnt, δ, h => .ok (.ct δ) h
  | .never, _, _ => .no
def evSs (c : Cal) (wl : Nat) : Ss → Fr → Hs → R Out
  | .nil, δ, h => nxR δ h
  | .cons s r, δ, h => (evS c wl s δ h).bind (thenR fun δ h => evSs c wl r δ h)
end

structure Fn where
  name : Str
  ps : List Str
  N : List Str
  body : Ss
structure Pg where
  fns : List Fn
  con : List (Str × D)
  dic : List (Str × List (Str × D))
  cls : List Str
  wl : Nat
  nm : List (Option Str)
  lam : List Str
  own : List (Nat × Str)
  ins : List (Str × List Str)
/-- the class whose method it is -/
def Pg.ow (pg : Pg) (i : Nat) : Option Str := pg.own.lookup i
def outR : R Out → R D
  | .ok (.nx _) h => .ok .non h
  | .ok (.rt d) h => .ok d h
  | .ex c h => .ex c h
  | _ => .no
def start0 (f : Fn) (ds : List D) : Fr := ds.map some ++ List.replicate (f.N.length - ds.length) none
def stepI (pg : Pg) (l : List CF) : CF := fun i ds h => match pg.fns[i]? with
    | none => .no
    | some f => if ds.length = f.ps.length then outR (evSs ⟨l, pg.con.map (·.2), pg.dic.map (·.2), pg.nm⟩ pg.wl f.body (start0 f ds) h) else .no
def callL (pg : Pg) : Nat → List CF
  | 0 => []
  | n + 1 => stepI pg (callL pg n) :: callL pg n
def callI (pg : Pg) (n : Nat) (i : Nat) (ds : List D) (h : Hs) : R D := match callL pg n with
  | [] => .no
  | f :: _ => f i ds h
end PI
namespace PI
open PySem L2

/-! ### what stands for what -/
section
variable (K : PySem.W.Frag)
/-- a list that never changes -/
def FrzL (H : Hp) (a : Addr) (vs : List V) : Prop :=
  (∃ o, H a = some (.frz o (.lst vs))) ∨ ∃ (o : Obj) (its : Array Value) (n : Nat), K.lookup a = some o ∧ o.cls = .type "list" ∧ o.dict = none ∧ o.data = .seq its n ∧ its.size ≤ sizeLine ∧ Vals vs its.toList
/-- it is known to have no dict of its own -/
def NoD (H : Hp) (a : Addr) : Prop := (∃ o u, H a = some (.frz o u) ∧ o.dict = none) ∨ ∃ o, K.lookup a = some o ∧ o.dict = none
mutual
inductive Rel (ρ : List Addr) (H : Hp) : D → V → Prop
  | non : Rel ρ H .non .non
  | bl (b : Bool) : Rel ρ H (.bl b) (.bl b)
  | int (i : Int) : Rel ρ H (.int i) (.int i)
  | str (s : Str) : Rel ρ H (.str s) (.str s)
  | tup {f : Bool} {a : Addr} {xs : List D} {vs : List V} : SqT K H a vs → (f = true → NoD K H a) → RelAll ρ H xs vs → Rel ρ H (.tup f xs) (.ref a)
  | frz {a : Addr} {xs : List D} {vs : List V} : FrzL K H a vs → RelAll ρ H xs vs → Rel ρ H (.frz xs) (.ref a)
  | ref {k : Nat} {a : Addr} : ρ[k]? = some a → Rel ρ H (.ref k) (.ref a)
inductive RelAll (ρ : List Addr) (H : Hp) : List D → List V → Prop
  | nil : RelAll ρ H [] []
  | cons {d : D} {v : V} {ds : List D} {vs : List V} : Rel ρ H d v → RelAll ρ H ds vs → RelAll ρ H (d :: ds) (v :: vs)
end
inductive RelKV (ρ : List Addr) (H : Hp) : List (Key × D) → List (Key × V) → Prop
  | nil : RelKV ρ H [] []
  | cons {k : Key} {d : D} {v : V} {r : List (Key × D)} {q : List (Key × V)} : Rel K ρ H d v → RelKV ρ H r q → RelKV ρ H ((k, d) :: r) ((k, v) :: q)
inductive RelF (ρ : List Addr) (H : Hp) : List (Str × D) → List (Str × V) → Prop
  | nil : RelF ρ H [] []
  | cons {k : Str} {d : D} {v : V} {r : List (Str × D)} {q : List (Str × V)} : Rel K ρ H d v → RelF ρ H r q → RelF ρ H ((k, d) :: r) ((k, v) :: q)
def ORel (ρ : List Addr) (H : Hp) (a : Addr) : O → Prop
  | .ins c fs => ∃ C dx vs, PySem.W.nsIn K mainGlobals c = some (some (.ref C)) ∧ H a = some (.ins C dx vs) ∧ RelF K ρ H fs vs
  | .lst xs => ∃ vs, H a = some (.lst vs) ∧ RelAll K ρ H xs vs
  | .dct kvs => ∃ vs, H a = some (.dK vs) ∧ RelKV K ρ H kvs vs
/-- a list, a dict, an instance -/
def Own (o : HO) : Prop := (∃ vs, o = .lst vs) ∨ (∃ vs, o = .dK vs) ∨ ∃ C dx vs, o = .ins C dx vs
structure HRel (T : List (Addr × Str)) (ρ : List Addr) (h : Hs) (H : Hp) : Prop where
  len : ρ.length = h.length
  nd : ρ.Nodup
  obj : ∀ (k : Nat) (o : O), h[k]? = some o → ∃ a, ρ[k]? = some a ∧ ORel K ρ H a o
  tabs : LamX.Tabs T H
/-- nothing but a table stands there -/
def Nu (H : Hp) (a : Addr) : Prop := ∀ o, H a = some o → ∃ ps, o = HO.tbl ps
structure Ext (T : List (Addr × Str)) (ρ : List Addr) (H : Hp) (ρ' : List Addr) (h' : Hs) (H' : Hp) : Prop where
  pre : ∃ l, ρ' = ρ ++ l
  new : ∀ a ∈ ρ', a ∉ ρ → Nu H a
  keep : ∀ a o, H a = some o → a ∉ ρ → (∀ ps, o ≠ .tbl ps) → H' a = some o
  rel : HRel K T ρ' h' H'
def FrRel (ρ : List Addr) (H : Hp) (δ : Fr) (σ : L2.St) : Prop := δ.length = σ.length ∧ ∀ (i : Nat) (d : D), δ[i]? = some (some d) → ∃ v, σ[i]? = some (some v) ∧ Rel K ρ H d v
end
section
variable {K : PySem.W.Frag} {T : List (Addr × Str)} {ρ ρ' ρ'' : List Addr} {h h' h'' : Hs} {H H' H'' : Hp}

theorem HRel.at (r : HRel K T ρ h H) {a : Addr} (ha : a ∈ ρ) : ∃ o, H a = some o ∧ Own o := by
  obtain ⟨k, hk, e⟩ := List.mem_iff_getElem.mp ha
  have hk' : k < h.length := by rw [← r.len]; exact hk
  obtain ⟨b, e2, q⟩ := r.obj k h[k] (by simp [hk'])
  have : b = a := by
    rw [List.getElem?_eq_getElem hk, e] at e2
    exact (Option.some.inj e2).symm
  subst this
  cases ho : h[k] with
  | lst xs => rw [ho] at q; obtain ⟨vs, q1, _⟩ := q; exact ⟨_, q1, .inl ⟨vs, rfl⟩⟩
  | dct kvs => rw [ho] at q; obtain ⟨vs, q1, _⟩ := q; exact ⟨_, q1, .inr (.inl ⟨vs, rfl⟩)⟩
  | ins c fs => rw [ho] at q; obtain ⟨C, dx, vs, _, q1, _⟩ := q; exact ⟨_, q1, .inr (.inr ⟨C, dx, vs, rfl⟩)⟩
theorem HRel.nmem (r : HRel K T ρ h H) {a : Addr} {o : HO} (e : H a = some o) (ho : ∀ vs, o ≠ .lst vs) (hd : ∀ vs, o ≠ .dK vs := by intro _ z; cases z) (hi : ∀ C dx vs, o ≠ .ins C dx vs := by intro _ _ _ z; cases z) : a ∉ ρ := fun ha => by
  obtain ⟨u, q, w⟩ := r.at ha
  rw [e] at q
  cases q
  rcases w with ⟨vs, rfl⟩ | ⟨vs, rfl⟩ | ⟨C, dx, vs, rfl⟩
  · exact ho vs rfl
  · exact hd vs rfl
  · exact hi C dx vs rfl
theorem HRel.nmem_none (r : HRel K T ρ h H) {a : Addr} (e : H a = none) : a ∉ ρ := fun ha => by
  obtain ⟨u, q, _⟩ := r.at ha
  rw [e] at q
  cases q
theorem Nu.of_none {H : Hp} {a : Addr} (e : H a = none) : Nu H a := fun o q => by
  rw [e] at q
  cases q
theorem Nu.ne {H : Hp} {a b : Addr} {o : HO} (n : Nu H a) (e : H b = some o) (ht : ∀ ps, o ≠ .tbl ps) : b ≠ a := fun z => by
  rw [z] at e
  obtain ⟨ps, q⟩ := n o e
  exact ht ps q
theorem Ext.refl (r : HRel K T ρ h H) : Ext K T ρ H ρ h H := ⟨⟨[], by simp⟩, fun a ha hn => absurd ha hn, fun _ _ e _ _ => e, r⟩
theorem Ext.trans (a : Ext K T ρ H ρ' h' H') (b : Ext K T ρ' H' ρ'' h'' H'') : Ext K T ρ H ρ'' h'' H'' := by
  obtain ⟨l1, e1⟩ := a.pre
  obtain ⟨l2, e2⟩ := b.pre
  refine ⟨⟨l1 ++ l2, by rw [e2, e1, List.append_assoc]⟩, fun x hx hn => ?_, fun x o e hn ht => ?_, b.rel⟩
  · by_cases hx' : x ∈ ρ'
    · exact a.new x hx' hn
    · intro o hH
      by_cases ht : ∃ ps, o = .tbl ps
      · exact ht
      · exact b.new x hx hx' o (a.keep x o hH hn fun ps e => ht ⟨ps, e⟩)
  · have hx' : x ∉ ρ' := fun hx' => by
      obtain ⟨ps, q⟩ := a.new x hx' hn o e
      exact ht ps q
    exact b.keep x o (a.keep x o e hn ht) hx' ht
theorem Ext.at (a : Ext K T ρ H ρ' h' H') {k : Nat} {x : Addr} (e : ρ[k]? = some x) : ρ'[k]? = some x := by
  obtain ⟨l, rfl⟩ := a.pre
  rw [List.getElem?_append_left (List.getElem?_eq_some_iff.mp e).1]
  exact e
theorem Ext.rd (a : Ext K T ρ H ρ' h' H') (r : HRel K T ρ h H) {x : Addr} {o : HO} (e : H x = some o) (ho : ∀ vs, o ≠ .lst vs) (ht : ∀ ps, o ≠ .tbl ps) (hd : ∀ vs, o ≠ .dK vs := by intro _ z; cases z) (hi : ∀ C dx vs, o ≠ .ins C dx vs := by intro _ _ _ z; cases z) : H' x = some o := a.keep x o e (r.nmem e ho hd hi) ht
structure Mono (ρ : List Addr) (H : Hp) (ρ' : List Addr) (H' : Hp) : Prop where
  at_ : ∀ (k : Nat) (x : Addr), ρ[k]? = some x → ρ'[k]? = some x
  tup : ∀ a vs, H a = some (.tup vs) → H' a = some (.tup vs)
  frz : ∀ a o u, H a = some (.frz o u) → H' a = some (.frz o u)
theorem Ext.mono (a : Ext K T ρ H ρ' h' H') (r : HRel K T ρ h H) : Mono ρ H ρ' H' :=
  ⟨fun _ _ e => a.at e, fun _ _ e => a.rd r e (fun _ z => by cases z) (fun _ z => by cases z), fun _ _ _ e => a.rd r e (fun _ z => by cases z) (fun _ z => by cases z)⟩
theorem Mono.sqt (a : Mono ρ H ρ' H') {x : Addr} {vs : List V} (e : SqT K H x vs) : SqT K H' x vs := by
  rcases e with (e | ⟨o, e⟩) | e
  · exact .inl (.inl (a.tup _ _ e))
  · exact .inl (.inr ⟨o, a.frz _ _ _ e⟩)
  · exact .inr e
theorem FrzL.sql {x : Addr} {vs : List V} (e : FrzL K H x vs) : SqL K H x vs := by
  rcases e with ⟨o, e⟩ | e
  · exact .inl (.inr ⟨o, e⟩)
  · exact .inr e
theorem Mono.frzl (a : Mono ρ H ρ' H') {x : Addr} {vs : List V} (e : FrzL K H x vs) : FrzL K H' x vs := by
  rcases e with ⟨o, e⟩ | e
  · exact .inl ⟨o, a.frz _ _ _ e⟩
  · exact .inr e
theorem Mono.nod (a : Mono ρ H ρ' H') {x : Addr} (e : NoD K H x) : NoD K H' x := by
  rcases e with ⟨o, u, e, n⟩ | e
  · exact .inl ⟨o, u, a.frz _ _ _ e, n⟩
  · exact .inr e
theorem Rel.tupW {a : Addr} {xs : List D} {vs : List V} (e : SqT K H a vs) (q : RelAll K ρ H xs vs) : Rel K ρ H (.tup false xs) (.ref a) := .tup e (fun z => by cases z) q
mutual
theorem Rel.mono (a : Mono ρ H ρ' H') : ∀ {d : D} {v : V}, Rel K ρ H d v → Rel K ρ' H' d v
  | _, _, .non => .non
  | _, _, .bl b => .bl b
  | _, _, .int i => .int i
  | _, _, .str s => .str s
  | _, _, .tup e s q => .tup (a.sqt e) (fun z => a.nod (s z)) (RelAll.mono a q)
  | _, _, .frz e q => .frz (a.frzl e) (RelAll.mono a q)
  | _, _, .ref e => .ref (a.at_ _ _ e)
theorem RelAll.mono (a : Mono ρ H ρ' H') : ∀ {ds : List D} {vs : List V}, RelAll K ρ H ds vs → RelAll K ρ' H' ds vs
  | _, _, .nil => .nil
  | _, _, .cons p q => .cons (Rel.mono a p) (RelAll.mono a q)
end
theorem RelKV.mono (a : Mono ρ H ρ' H') : ∀ {ds : List (Key × D)} {vs : List (Key × V)}, RelKV K ρ H ds vs → RelKV K ρ' H' ds vs
  | _, _, .nil => .nil
  | _, _, .cons p q => .cons (Rel.mono a p) (RelKV.mono a q)
theorem RelF.mono (a : Mono ρ H ρ' H') : ∀ {ds : List (Str × D)} {vs : List (Str × V)}, RelF K ρ H ds vs → RelF K ρ' H' ds vs
  | _, _, .nil => .nil
  | _, _, .cons p q => .cons (Rel.mono a p) (RelF.mono a q)
theorem Rel.ext (a : Ext K T ρ H ρ' h' H') (r : HRel K T ρ h H) {d : D} {v : V} (q : Rel K ρ H d v) : Rel K ρ' H' d v := q.mono (a.mono r)
theorem RelAll.ext (a : Ext K T ρ H ρ' h' H') (r : HRel K T ρ h H) {ds : List D} {vs : List V} (q : RelAll K ρ H ds vs) : RelAll K ρ' H' ds vs := q.mono (a.mono r)
theorem ORel.mono (a : Mono ρ H ρ' H') {x : Addr} {o : O} (e : H' x = H x) (q : ORel K ρ H x o) : ORel K ρ' H' x o := by
  cases o with
  | lst xs => obtain ⟨vs, q1, q2⟩ := q; exact ⟨vs, by rw [e]; exact q1, q2.mono a⟩
  | dct kvs => obtain ⟨vs, q1, q2⟩ := q; exact ⟨vs, by rw [e]; exact q1, q2.mono a⟩
  | ins c fs => obtain ⟨C, dx, vs, q0, q1, q2⟩ := q; exact ⟨C, dx, vs, q0, by rw [e]; exact q1, q2.mono a⟩
theorem FrRel.ext (a : Ext K T ρ H ρ' h' H') (r : HRel K T ρ h H) {δ : Fr} {σ : L2.St} (f : FrRel K ρ H δ σ) : FrRel K ρ' H' δ σ :=
  ⟨f.1, fun i d e => let ⟨v, e1, e2⟩ := f.2 i d e; ⟨v, e1, e2.ext a r⟩⟩
theorem RelAll.length : ∀ {ds : List D} {vs : List V}, RelAll K ρ H ds vs → ds.length = vs.length
  | _, _, .nil => rfl
  | _, _, .cons _ q => by rw [List.length_cons, List.length_cons, RelAll.length q]
theorem RelAll.get : ∀ {ds : List D} {vs : List V}, RelAll K ρ H ds vs → ∀ {i : Nat} {d : D}, ds[i]? = some d → ∃ v, vs[i]? = some v ∧ Rel K ρ H d v
  | _, _, .nil, i, d, e => by simp at e
  | _, _, .cons p q, 0, d, e => by
    obtain rfl := Option.some.inj e
    exact ⟨_, rfl, p⟩
  | _, _, .cons p q, i + 1, d, e => by
    obtain ⟨v, e1, e2⟩ := RelAll.get q (i := i) (d := d) (by simpa using e)
    exact ⟨v, by simpa using e1, e2⟩
theorem RelAll.of_get {ds : List D} {vs : List V} (r : RelAll K ρ H ds vs) {i : Nat} {v : V} (e : vs[i]? = some v) : ∃ d, ds[i]? = some d ∧ Rel K ρ H d v := by
  have hi : i < ds.length := by rw [r.length]; exact (List.getElem?_eq_some_iff.mp e).1
  obtain ⟨w, e1, e2⟩ := r.get (List.getElem?_eq_getElem hi)
  rw [e] at e1
  cases e1
  exact ⟨_, List.getElem?_eq_getElem hi, e2⟩
theorem RelAll.append : ∀ {ds es : List D} {vs ws : List V}, RelAll K ρ H ds vs → RelAll K ρ H es ws → RelAll K ρ H (ds ++ es) (vs ++ ws)
  | _, _, _, _, .nil, q => q
  | _, _, _, _, .cons p r, q => .cons p (RelAll.append r q)
theorem RelAll.rev : ∀ {ds : List D} {vs : List V}, RelAll K ρ H ds vs → RelAll K ρ H ds.reverse vs.reverse
  | _, _, .nil => by simpa using .nil
  | _, _, .cons p r => by
    rw [List.reverse_cons, List.reverse_cons]
    exact (RelAll.rev r).append (.cons p .nil)
theorem RelAll.take : ∀ {ds : List D} {vs : List V} (n : Nat), RelAll K ρ H ds vs → RelAll K ρ H (ds.take n) (vs.take n)
  | _, _, 0, _ => by simpa using .nil
  | _, _, _ + 1, .nil => by simpa using .nil
  | _, _, n + 1, .cons p r => by simpa using .cons p (RelAll.take n r)
theorem RelAll.drop : ∀ {ds : List D} {vs : List V} (n : Nat), RelAll K ρ H ds vs → RelAll K ρ H (ds.drop n) (vs.drop n)
  | _, _, 0, r => by simpa using r
  | _, _, _ + 1, .nil => by simpa using .nil
  | _, _, n + 1, .cons p r => by simpa using RelAll.drop n r
theorem RelAll.set {d : D} {v : V} (p : Rel K ρ H d v) : ∀ {ds : List D} {vs : List V} (n : Nat), RelAll K ρ H ds vs → RelAll K ρ H (ds.set n d) (vs.set n v)
  | _, _, _, .nil => by simpa using .nil
  | _, _, 0, .cons _ r => by simpa using .cons p r
  | _, _, n + 1, .cons q r => by simpa using .cons q (RelAll.set p n r)
theorem RelAll.dropLast : ∀ {ds : List D} {vs : List V}, RelAll K ρ H ds vs → RelAll K ρ H ds.dropLast vs.dropLast := fun {ds vs} r => by
  rw [List.dropLast_eq_take, List.dropLast_eq_take, r.length]
  exact r.take _

/-- a new tuple, or any thing that is not tracked by ρ, is laid -/
theorem Mono.new_ {p : Addr} {o : HO} (hp : H p = none) : Mono ρ H ρ (upd H p o) :=
  ⟨fun _ _ e => e, fun a vs e => by rw [upd_ne (ne_of_none e hp)]; exact e, fun a ob u e => by rw [upd_ne (ne_of_none e hp)]; exact e⟩
theorem Ext.new_ (r : HRel K T ρ h H) {p : Addr} {o : HO} (hp : H p = none) : Ext K T ρ H ρ h (upd H p o) := by
  have k : ∀ b o', H b = some o' → upd H p o b = some o' := fun b o' e => by rw [upd_ne (ne_of_none e hp)]; exact e
  refine ⟨⟨[], by simp⟩, fun a ha hn => absurd ha hn, fun a o' e _ _ => k a o' e, r.len, r.nd, fun i o' e => ?_, r.tabs.ext k⟩
  obtain ⟨a, e1, e2⟩ := r.obj i o' e
  refine ⟨a, e1, e2.mono (.new_ hp) ?_⟩
  obtain ⟨vs, q, _⟩ := r.at (List.mem_of_getElem? e1)
  exact upd_ne (ne_of_none q hp)
theorem Mono.own (r : HRel K T ρ h H) {a : Addr} (ha : a ∈ ρ) {o : HO} : Mono ρ H ρ (upd H a o) := by
  obtain ⟨u, q, w⟩ := r.at ha
  refine ⟨fun _ _ e => e, fun b us e => ?_, fun b ob u e => ?_⟩
  · rw [upd_ne (ne_of e q (by rcases w with ⟨_, rfl⟩ | ⟨_, rfl⟩ | ⟨_, _, _, rfl⟩ <;> (intro z; cases z)))]; exact e
  · rw [upd_ne (ne_of e q (by rcases w with ⟨_, rfl⟩ | ⟨_, rfl⟩ | ⟨_, _, _, rfl⟩ <;> (intro z; cases z)))]; exact e
theorem Mono.lst (r : HRel K T ρ h H) {a : Addr} (ha : a ∈ ρ) {vs : List V} : Mono ρ H ρ (upd H a (.lst vs)) := .own r ha
theorem Mono.push {p : Addr} : Mono ρ H (ρ ++ [p]) H :=
  ⟨fun k x e => by rw [List.getElem?_append_left (List.getElem?_eq_some_iff.mp e).1]; exact e, fun _ _ e => e, fun _ _ _ e => e⟩
theorem Mono.trans (a : Mono ρ H ρ' H') (b : Mono ρ' H' ρ'' H'') : Mono ρ H ρ'' H'' :=
  ⟨fun k x e => b.at_ k x (a.at_ k x e), fun x v e => b.tup x v (a.tup x v e), fun x o u e => b.frz x o u (a.frz x o u e)⟩
theorem tabs_own {p : Addr} {o' : HO} (t : LamX.Tabs T H) (hp : (∃ o, H p = some o ∧ Own o) ∨ H p = none) : LamX.Tabs T (upd H p o') := fun q hq => by
  obtain ⟨ps, h1, h2, h3⟩ := t q hq
  have ne : ∀ b o, H b = some o → (∀ ws, o ≠ .lst ws) → (∀ ws, o ≠ .dK ws) → (∀ C dx ws, o ≠ .ins C dx ws) → b ≠ p := fun b o e n m i z => by
    subst z
    rcases hp with ⟨u, z, w⟩ | z
    · rw [e] at z
      cases z
      rcases w with ⟨ws, rfl⟩ | ⟨ws, rfl⟩ | ⟨C, dx, ws, rfl⟩
      · exact n ws rfl
      · exact m ws rfl
      · exact i C dx ws rfl
    · rw [e] at z; cases z
  refine ⟨ps, by rw [upd_ne (ne _ _ h1 (fun _ z => by cases z) (fun _ z => by cases z) fun _ _ _ z => by cases z)]; exact h1, h2, fun pos cv hc => ?_⟩
  obtain ⟨c, e1, e2⟩ := h3 pos cv hc
  exact ⟨c, e1, by rw [upd_ne (ne _ _ e2 (fun _ z => by unfold LamX.CodeO at z; cases z) (fun _ z => by unfold LamX.CodeO at z; cases z) fun _ _ _ z => by unfold LamX.CodeO at z; cases z)]; exact e2⟩
/-- a thing of ours is written -/
theorem Ext.writeO (r : HRel K T ρ h H) {k : Nat} {a : Addr} (ha : ρ[k]? = some a) {o' : O} {u : HO} (hu : upd H a u a = some u) (q : Mono ρ H ρ (upd H a u) → ORel K ρ (upd H a u) a o') : Ext K T ρ H ρ (h.set k o') (upd H a u) := by
  have hm := List.mem_of_getElem? ha
  have M : Mono ρ H ρ (upd H a u) := .own r hm
  refine ⟨⟨[], by simp⟩, fun b hb hn => absurd hb hn, fun b o e hn _ => by rw [upd_ne (fun z => hn (by rw [z]; exact hm))]; exact e, by rw [List.length_set]; exact r.len, r.nd, fun i o e => ?_, tabs_own r.tabs (.inl (r.at hm))⟩
  by_cases hi : i = k
  · subst hi
    have hk : i < h.length := by rw [← r.len]; exact (List.getElem?_eq_some_iff.mp ha).1
    rw [List.getElem?_set_self hk] at e
    cases e
    exact ⟨a, ha, q M⟩
  · rw [List.getElem?_set_ne (Ne.symm hi)] at e
    obtain ⟨b, e1, e2⟩ := r.obj i o e
    refine ⟨b, e1, e2.mono M (upd_ne fun z => hi ?_)⟩
    subst z
    exact nd_ix r.nd e1 ha
theorem Ext.write (r : HRel K T ρ h H) {k : Nat} {a : Addr} (ha : ρ[k]? = some a) {xs : List D} {vs : List V} (q : RelAll K ρ H xs vs) : Ext K T ρ H ρ (h.set k (.lst xs)) (upd H a (.lst vs)) :=
  .writeO r ha upd_same fun M => ⟨vs, upd_same, q.mono M⟩
theorem Ext.writeD (r : HRel K T ρ h H) {k : Nat} {a : Addr} (ha : ρ[k]? = some a) {xs : List (Key × D)} {vs : List (Key × V)} (q : RelKV K ρ H xs vs) : Ext K T ρ H ρ (h.set k (.dct xs)) (upd H a (.dK vs)) :=
  .writeO r ha upd_same fun M => ⟨vs, upd_same, q.mono M⟩
/-- a new thing is ours from now on -/
theorem Ext.pushO (r : HRel K T ρ h H) {p : Addr} {o' : O} {u : HO} (hp : H p = none) (q : Mono ρ H (ρ ++ [p]) (upd H p u) → ORel K (ρ ++ [p]) (upd H p u) p o') : Ext K T ρ H (ρ ++ [p]) (h ++ [o']) (upd H p u) := by
  have M : Mono ρ H (ρ ++ [p]) (upd H p u) := (Mono.new_ hp).trans .push
  have np := r.nmem_none hp
  refine ⟨⟨[p], rfl⟩, fun a ha hn => ?_, fun b o e hn _ => by rw [upd_ne (ne_of_none e hp)]; exact e, by simp [r.len], ?_, fun i o e => ?_, tabs_own r.tabs (.inr hp)⟩
  · rcases List.mem_append.mp ha with z | z
    · exact absurd z hn
    · rw [List.mem_singleton.mp z]; exact .of_none hp
  · rw [List.nodup_append]
    exact ⟨r.nd, by simp, fun a ha b hb => by rw [List.mem_singleton.mp hb]; exact fun z => np (z ▸ ha)⟩
  · by_cases hi : i < h.length
    · rw [List.getElem?_append_left hi] at e
      obtain ⟨b, e1, e2⟩ := r.obj i o e
      refine ⟨b, M.at_ _ _ e1, e2.mono M (upd_ne ?_)⟩
      exact fun z => np (z ▸ List.mem_of_getElem? e1)
    · have hi' : i = h.length := by
        have := (List.getElem?_eq_some_iff.mp e).1
        simp at this
        omega
      subst hi'
      rw [List.getElem?_append_right (Nat.le_refl _)] at e
      simp at e
      subst e
      refine ⟨p, ?_, q M⟩
      rw [← r.len, List.getElem?_append_right (Nat.le_refl _)]
      simp
theorem Ext.push (r : HRel K T ρ h H) {p : Addr} {xs : List D} {vs : List V} (hp : H p = none) (q : RelAll K ρ H xs vs) : Ext K T ρ H (ρ ++ [p]) (h ++ [.lst xs]) (upd H p (.lst vs)) :=
  .pushO r hp fun M => ⟨vs, upd_same, q.mono M⟩
theorem Ext.pushD (r : HRel K T ρ h H) {p : Addr} {xs : List (Key × D)} {vs : List (Key × V)} (hp : H p = none) (q : RelKV K ρ H xs vs) : Ext K T ρ H (ρ ++ [p]) (h ++ [.dct xs]) (upd H p (.dK vs)) :=
  .pushO r hp fun M => ⟨vs, upd_same, q.mono M⟩
/-- an instance is written -/
theorem Ext.writeI (r : HRel K T ρ h H) {k : Nat} {a C dx : Addr} {c : Str} (ha : ρ[k]? = some a) (hc : PySem.W.nsIn K mainGlobals c = some (some (.ref C))) {xs : List (Str × D)} {vs : List (Str × V)} (q : RelF K ρ H xs vs) : Ext K T ρ H ρ (h.set k (.ins c xs)) (upd H a (.ins C dx vs)) :=
  .writeO r ha upd_same fun M => ⟨C, dx, vs, hc, upd_same, q.mono M⟩
/-- a new one, with its dict -/
theorem Ext.pushI (r : HRel K T ρ h H) {p dx C : Addr} {c : Str} (hp : H p = none) (hd : H dx = none) (ne : dx ≠ p) (hc : PySem.W.nsIn K mainGlobals c = some (some (.ref C))) :
    Ext K T ρ H (ρ ++ [p]) (h ++ [.ins c []]) (upd (upd H dx (.own p)) p (.ins C dx [])) := by
  have e1 := Ext.new_ r (o := .own p) hd
  exact e1.trans (.pushO e1.rel (by rw [upd_ne (Ne.symm ne)]; exact hp) fun M => ⟨C, dx, [], hc, upd_same, .nil⟩)
theorem RelF.look {k : Str} : ∀ {ds : List (Str × D)} {vs : List (Str × V)}, RelF K ρ H ds vs → (∃ d v, ds.lookup k = some d ∧ vs.lookup k = some v ∧ Rel K ρ H d v) ∨ (ds.lookup k = none ∧ vs.lookup k = none)
  | _, _, .nil => .inr ⟨rfl, rfl⟩
  | _, _, .cons (k := m) (d := d) (v := v) (r := r) (q := q) p t => by
    rw [List.lookup_cons, List.lookup_cons]
    cases c : (k == m) with
    | true => exact .inl ⟨d, v, rfl, rfl, p⟩
    | false => exact RelF.look t
theorem RelF.length : ∀ {ds : List (Str × D)} {vs : List (Str × V)}, RelF K ρ H ds vs → ds.length = vs.length
  | _, _, .nil => rfl
  | _, _, .cons _ q => by rw [List.length_cons, List.length_cons, RelF.length q]
theorem RelF.put {f : Str} {d : D} {v : V} (p : Rel K ρ H d v) : ∀ {ds : List (Str × D)} {vs : List (Str × V)}, RelF K ρ H ds vs → RelF K ρ H (putFD f d ds) (putF f v vs)
  | _, _, .nil => .cons p .nil
  | _, _, .cons (k := m) p' q => by
    unfold putFD putF
    by_cases e : m = f
    · rw [if_pos e, if_pos e]; exact .cons p q
    · rw [if_neg e, if_neg e]; exact .cons p' (RelF.put p q)
/-! dicts -/
theorem RelKV.length : ∀ {ds : List (Key × D)} {vs : List (Key × V)}, RelKV K ρ H ds vs → ds.length = vs.length
  | _, _, .nil => rfl
  | _, _, .cons _ q => by rw [List.length_cons, List.length_cons, RelKV.length q]
theorem RelKV.val {k : Key} : ∀ {ds : List (Key × D)} {vs : List (Key × V)}, RelKV K ρ H ds vs → (∃ d v, valD ds k = some d ∧ valV vs k = some v ∧ Rel K ρ H d v) ∨ (valD ds k = none ∧ valV vs k = none)
  | _, _, .nil => .inr ⟨rfl, rfl⟩
  | _, _, .cons (k := m) (d := d) (v := v) p q => by
    by_cases e : m = k
    · refine .inl ⟨d, v, ?_, valV_pos e, p⟩
      simp [valD, List.find?_cons, e]
    · have e1 : ∀ r, valD ((m, d) :: r) k = valD r k := fun r => by simp [valD, List.find?_cons, e]
      rw [e1, valV_neg e]
      exact RelKV.val q
theorem RelKV.any {k : Key} : ∀ {ds : List (Key × D)} {vs : List (Key × V)}, RelKV K ρ H ds vs → (ds.any fun p => decide (p.1 = k)) = vs.any fun p => decide (p.1 = k)
  | _, _, .nil => rfl
  | _, _, .cons p q => by rw [List.any_cons, List.any_cons, RelKV.any q]
theorem RelKV.repl {k : Key} {d : D} {v : V} (p : Rel K ρ H d v) : ∀ {ds : List (Key × D)} {vs : List (Key × V)}, RelKV K ρ H ds vs → RelKV K ρ H (ds.map fun p => if p.1 = k then (p.1, d) else p) (vs.map fun p => if p.1 = k then (p.1, v) else p)
  | _, _, .nil => .nil
  | _, _, .cons (k := m) p' q => by
    rw [List.map_cons, List.map_cons]
    by_cases e : m = k
    · rw [if_pos e, if_pos e]; exact .cons p (RelKV.repl p q)
    · rw [if_neg e, if_neg e]; exact .cons p' (RelKV.repl p q)
theorem RelKV.snoc {k : Key} {d : D} {v : V} (p : Rel K ρ H d v) : ∀ {ds : List (Key × D)} {vs : List (Key × V)}, RelKV K ρ H ds vs → RelKV K ρ H (ds ++ [(k, d)]) (vs ++ [(k, v)])
  | _, _, .nil => .cons p .nil
  | _, _, .cons p' q => .cons p' (RelKV.snoc p q)
theorem RelKV.put {k : Key} {d : D} {v : V} (p : Rel K ρ H d v) {ds : List (Key × D)} {vs : List (Key × V)} (r : RelKV K ρ H ds vs) : RelKV K ρ H (putD ds k d) (putK vs k v) := by
  unfold putD putK
  rw [r.any]
  split
  · exact r.repl p
  · exact r.snoc p
theorem RelKV.keys : ∀ {ds : List (Key × D)} {vs : List (Key × V)}, RelKV K ρ H ds vs → RelAll K ρ H (ds.map fun p => keyV p.1) (vs.map fun p => kV p.1)
  | _, _, .nil => .nil
  | _, _, .cons (k := .inl i) p' q => .cons (.int i) (RelKV.keys q)
  | _, _, .cons (k := .inr s) p' q => .cons (.str s) (RelKV.keys q)
theorem key_rel {d : D} {v : V} {k : Key} (q : Rel K ρ H d v) (e : keyD d = some k) : v = kV k := by
  cases q <;> cases e <;> rfl
/-- the same, the list laid before -/
theorem Ext.adopt (r : HRel K T ρ h H) {p : Addr} {xs : List D} {vs : List V} (np : p ∉ ρ) (hp : H p = some (.lst vs)) (q : RelAll K ρ H xs vs) : HRel K T (ρ ++ [p]) (h ++ [.lst xs]) H := by
  have M : Mono ρ H (ρ ++ [p]) H := .push
  refine ⟨by simp [r.len], ?_, fun i o e => ?_, r.tabs⟩
  · rw [List.nodup_append]
    exact ⟨r.nd, by simp, fun a ha b hb => by rw [List.mem_singleton.mp hb]; exact fun z => np (z ▸ ha)⟩
  · by_cases hi : i < h.length
    · rw [List.getElem?_append_left hi] at e
      obtain ⟨b, e1, e2⟩ := r.obj i o e
      exact ⟨b, M.at_ _ _ e1, e2.mono M rfl⟩
    · have hi' : i = h.length := by
        have := (List.getElem?_eq_some_iff.mp e).1
        simp at this
        omega
      subst hi'
      rw [List.getElem?_append_right (Nat.le_refl _)] at e
      simp at e
      subst e
      refine ⟨p, ?_, vs, hp, q.mono M⟩
      rw [← r.len, List.getElem?_append_right (Nat.le_refl _)]
      simp

/-! ### what is wanted behind a step -/
section
variable (K T) (E : XK) (cls : Nat → Addr)
def Post {α : Type} (ρ : List Addr) (H : Hp) (G : List Addr → Hs → Hp → α → Prop) : R α → Prop
  | .ok a h' => ∀ ρ' H', Ext K T ρ H ρ' h' H' → G ρ' h' H' a
  | .ex c h' => ∀ ρ' H', Ext K T ρ H ρ' h' H' → E (.ref (cls c)) none H'
  | .no => False
end
variable {E : XK} {cls : Nat → Addr} {α β : Type}
theorem Post.ext {r : R α} {G : List Addr → Hs → Hp → α → Prop} (a : Ext K T ρ H ρ' h' H') (p : Post K T E cls ρ H G r) : Post K T E cls ρ' H' G r := by
  cases r with
  | ok x h1 => exact fun ρ2 H2 b => p ρ2 H2 (a.trans b)
  | ex c h1 => exact fun ρ2 H2 b => p ρ2 H2 (a.trans b)
  | no => exact p
theorem Post.mono {r : R α} {G G' : List Addr → Hs → Hp → α → Prop} (p : Post K T E cls ρ H G r) (k : ∀ ρ' h' H' x, Ext K T ρ H ρ' h' H' → G ρ' h' H' x → G' ρ' h' H' x) : Post K T E cls ρ H G' r := by
  cases r with
  | ok x h1 => exact fun ρ2 H2 b => k _ _ _ _ b (p ρ2 H2 b)
  | ex c h1 => exact p
  | no => exact p
theorem Post.bind {r : R α} {f : α → Hs → R β} {G : List Addr → Hs → Hp → β → Prop} (p : Post K T E cls ρ H G (r.bind f)) : Post K T E cls ρ H (fun ρ1 h1 H1 x => Post K T E cls ρ1 H1 G (f x h1)) r := by
  cases r with
  | ok x h1 => exact fun ρ2 H2 b => Post.ext b p
  | ex c h1 => exact p
  | no => exact p
theorem Post.ok {x : α} {G : List Addr → Hs → Hp → α → Prop} (r : HRel K T ρ h H) (p : Post K T E cls ρ H G (.ok x h)) : G ρ h H x := p ρ H (Ext.refl r)
end
end PI
namespace PI
open PySem L2
def BO.op : BO → Operator
  | .add => .Add | .sub => .Sub | .mul => .Mult | .div => .FloorDiv | .mod => .Mod | .pow => .Pow | .and_ => .BitAnd | .shr => .RShift
def CO.op : CO → CmpOp
  | .eq => .Eq | .ne => .NotEq | .lt => .Lt | .le => .LtE | .gt => .Gt | .ge => .GtE | .isN => .Is | .notN => .IsNot | .in_ => .In | .notIn => .NotIn
def GD (K : PySem.W.Frag) (Q : VK) : List Addr → Hs → Hp → D → Prop := fun ρ _ H d => ∀ v, Rel K ρ H d v → Q v H
theorem lim_eq : LIM = sizeLine := by rw [sizeLine_eq]; rfl
theorem RelAll.rep {K : PySem.W.Frag} {ρ : List Addr} {H : Hp} {ds : List D} {vs : List V} (r : RelAll K ρ H ds vs) : ∀ n, RelAll K ρ H (List.replicate n ds).flatten (List.replicate n vs).flatten
  | 0 => by simpa using .nil
  | n + 1 => by
    rw [List.replicate_succ, List.replicate_succ, List.flatten_cons, List.flatten_cons]
    exact r.append (RelAll.rep r n)
section
variable {X : Cx} {T : List (Addr × Str)} {E : XK} {cls : Nat → Addr} {ρ : List Addr} {h : Hs} {H : Hp} {Q : VK}
theorem GD.tup (r : HRel X.K T ρ h H) {xs : List D} {vs : List V} (q : RelAll X.K ρ H xs vs) (p : Post X.K T E cls ρ H (GD X.K Q) (.ok (.tup false xs) h)) {a : Addr} (ha : H a = none) : Q (.ref a) (upd H a (.tup vs)) :=
  p ρ _ (Ext.new_ r ha) _ (.tupW (SqT.of upd_same) (q.mono (.new_ ha)))
theorem GD.push (r : HRel X.K T ρ h H) {xs : List D} {vs : List V} (q : RelAll X.K ρ H xs vs) (p : Post X.K T E cls ρ H (GD X.K Q) (.ok (.ref h.length) (h ++ [.lst xs]))) {a : Addr} (ha : H a = none) : Q (.ref a) (upd H a (.lst vs)) :=
  p _ _ (Ext.push r ha q) _ (.ref (by rw [← r.len, List.getElem?_append_right (Nat.le_refl _)]; simp))
theorem HRel.lst (r : HRel X.K T ρ h H) {k : Nat} {a : Addr} {xs : List D} (ha : ρ[k]? = some a) (hk : h[k]? = some (.lst xs)) : ∃ vs, H a = some (.lst vs) ∧ RelAll X.K ρ H xs vs := by
  obtain ⟨b, e1, q⟩ := r.obj k _ hk
  rw [ha] at e1
  cases e1
  exact q
theorem dctD_of (r : HRel X.K T ρ h H) {d : D} {v : V} {k : Nat} {kvs : List (Key × D)} (q : Rel X.K ρ H d v) (e : dctD h d = some (k, kvs)) : ∃ a vs, v = .ref a ∧ ρ[k]? = some a ∧ H a = some (.dK vs) ∧ RelKV X.K ρ H kvs vs := by
  cases q with
  | ref hk =>
    unfold dctD at e
    simp only at e
    split at e
    case h_1 ys hy =>
      cases e
      obtain ⟨b, e1, q⟩ := r.obj _ _ hy
      rw [hk] at e1
      cases e1
      obtain ⟨vs, q1, q2⟩ := q
      exact ⟨_, vs, rfl, hk, q1, q2⟩
    case h_2 => cases e
  | _ => cases e
open PySem.Spec PyProof.Rows in
theorem tuple_mul1 (l : Addr) (items : Array Value) (n : Nat) (dd : Option Addr) (sl : Array (Option Value)) (u : Tok) :
    Meets (Builtin.«tuple.__mul__» ⟨[.ref l, .int 1 u], []⟩) (fun _ R s => s.heap.get? l = some { cls := .type "tuple", dict := dd, data := .seq items n, slots := sl } ∧ R (.ok (.ret (.ref l))) s) :=
  .of_wp fun prog w A R s h => by
    obtain ⟨hp, g, d, tk, os⟩ := s
    obtain ⟨hl, h⟩ := h
    have f1 := AutoSeq1.idx_int
    wp_walk using wpAny_loadPart' hl
    repeat (first
      | (refine wpAny_ite_false (decide_eq_false (by decide)) ?_; wp_walk using wpAny_loadPart' hl)
      | (refine wpAny_ite_true (by simp) ?_; wp_walk using wpAny_loadPart' hl))
    exact ⟨_, rfl, h⟩
open PySem.Spec PyProof.Rows in
theorem op_mul1 : OpR X (binaryOp .Mult) (fun x y H Q => ∃ l xs, x = .ref l ∧ y = .int 1 ∧ SqT X.K H l xs ∧ Q (.ref l) H) := by
  intro pins s σ H x y v u Q I rx ry h
  obtain ⟨l, xs, rfl, rfl, hT, q⟩ := h
  cases rx
  obtain ⟨t, rfl⟩ := ry
  obtain ⟨its, r, ⟨⟨cls, dd, data, sl⟩, ho, hc, n, hd⟩, hs⟩ := I.tuple hT
  simp only at hc hd
  subst hc hd
  exact wpAny_binaryOp_repeat_ref (T := "tuple") (U := "int") (by decide) ⟨_, ho, rfl⟩ (fun s' => typeIs_int s' 1 t) noFill_tuple_mul F.fills_int_mul F.slot_int_rmul repeat_tuple F.slot_int_index.lookup
    (call_meets F.slot_int_rmul (typeIs_int s 1 t) F.entry_int_rmul (F.args_int_rmul_2 _ _) (int_rmul_tuple 1 t l its.toArray n dd sl)
      ⟨ho, rfl, ⟨_, ho, rfl⟩, call_meets F.slot_tuple_mul ⟨_, ho, rfl⟩ F.entry_tuple_mul (F.args_tuple_mul_2 _ _) (tuple_mul1 l its.toArray n dd sl t) ⟨ho, ⟨.ref l, H, I, rfl, q⟩⟩⟩)
open PySem.Spec PyProof.Rows in
theorem tuple_mul0 (l : Addr) (items : Array Value) (n : Nat) (dd : Option Addr) (sl : Array (Option Value)) (u : Tok) (hi : items.isEmpty = false) :
    Meets (Builtin.«tuple.__mul__» ⟨[.ref l, .int 0 u], []⟩) (fun _ R s => s.heap.get? l = some { cls := .type "tuple", dict := dd, data := .seq items n, slots := sl } ∧
      R (.ok (.ret (Value.ref s.heap.objs.size))) { s with heap := s.heap.push { cls := Value.type "tuple", data := Data.seq #[] }, toks := s.toks }) :=
  .of_wp fun prog w A R s h => by
    obtain ⟨hp, g, d, tk, os⟩ := s
    obtain ⟨hl, h⟩ := h
    have f1 := AutoSeq1.idx_int
    wp_walk using wpAny_loadPart' hl
    repeat (first
      | (refine wpAny_ite_false (decide_eq_false (by decide)) ?_; wp_walk using wpAny_loadPart' hl)
      | (refine wpAny_ite_false (decide_eq_false (by rw [hi]; decide)) ?_; wp_walk using wpAny_loadPart' hl)
      | (refine wpAny_ite_true (by simp) ?_; wp_walk using wpAny_loadPart' hl))
    exact ⟨_, rfl, h⟩
open PySem.Spec PyProof.Rows in
theorem op_mul0 : OpR X (binaryOp .Mult) (fun x y H Q => ∃ l xs, x = .ref l ∧ y = .int 0 ∧ SqT X.K H l xs ∧ xs ≠ [] ∧ ∀ p, H p = none → Q (.ref p) (upd H p (.tup []))) := by
  intro pins s σ H x y v u Q I rx ry h
  obtain ⟨l, xs, rfl, rfl, hT, hne, q⟩ := h
  cases rx
  obtain ⟨t, rfl⟩ := ry
  obtain ⟨its, r, ⟨⟨cls, dd, data, sl⟩, ho, hc, n, hd⟩, hs⟩ := I.tuple hT
  simp only at hc hd
  subst hc hd
  have hle : its.length = xs.length := r.length.symm
  have hi : its.toArray.isEmpty = false := by
    cases its with
    | nil => exact absurd (List.eq_nil_of_length_eq_zero hle.symm) hne
    | cons a b => rfl
  refine wpAny_binaryOp_repeat_ref (T := "tuple") (U := "int") (by decide) ⟨_, ho, rfl⟩ (fun s' => typeIs_int s' 0 t) noFill_tuple_mul F.fills_int_mul F.slot_int_rmul repeat_tuple F.slot_int_index.lookup
    (call_meets F.slot_int_rmul (typeIs_int s 0 t) F.entry_int_rmul (F.args_int_rmul_2 _ _) (int_rmul_tuple 0 t l its.toArray n dd sl)
      ⟨ho, rfl, ⟨_, ho, rfl⟩, call_meets F.slot_tuple_mul ⟨_, ho, rfl⟩ F.entry_tuple_mul (F.args_tuple_mul_2 _ _) (tuple_mul0 l its.toArray n dd sl t hi) ⟨ho, ?_⟩⟩)
  refine ⟨.ref s.heap.objs.size, _, I.laid (t' := s.toks) (o := .tup []) (fun b ob q => Heap.get?_push_of_some _ q) (Nat.le_refl _) ?_, rfl, q _ (I.hok.fresh (Nat.le_refl _))⟩
  exact ⟨by rw [sizeLine_eq]; decide, _, .nil, IsTup.new _ _⟩
def rBin (K : PySem.W.Frag) (T : List (Addr × Str)) (E : XK) (cls : Nat → Addr) (op : BO) : R2 := fun x y H Q => ∃ ρ h d1 d2, HRel K T ρ h H ∧ Rel K ρ H d1 x ∧ Rel K ρ H d2 y ∧ Post K T E cls ρ H (GD K Q) (binD op d1 d2 h)
theorem op_bin (op : BO) : OpR X (binaryOp op.op) (rBin X.K T E cls op) := by
  intro pins s σ H x y v u Q I rx ry hh
  obtain ⟨ρ, h, d1, d2, r, r1, r2, p⟩ := hh
  cases op <;> cases r1 <;> cases r2 <;> try exact (p : False).elim
  case add.int.int i j => exact op_add pins s σ H _ _ v u Q I rx ry ⟨i, j, rfl, rfl, Post.ok r p _ (.int _)⟩
  case add.str.str i j =>
    rw [binD] at p
    split at p
    case isTrue hl => exact op_add_str pins s σ H _ _ v u Q I rx ry ⟨i, j, rfl, rfl, by rw [← lim_eq]; exact hl, Post.ok r p _ (.str _)⟩
    case isFalse hl => exact (p : False).elim
  case add.tup.tup f a xs vs e sn q g b ys ws e' sn' q' =>
    rw [binD] at p
    split at p
    case isTrue hl =>
      have z1 := q.length
      have z2 := q'.length
      refine op_catA pins s σ H _ _ v u Q I rx ry ⟨a, b, vs, ws, rfl, rfl, e, e', by rw [← z1, ← z2, ← lim_eq]; exact hl, fun e0 => ?_, fun e1 e0 => ?_, fun e1 e2 pp hp => GD.tup r (q.append q') p hp⟩
      · subst e0
        obtain rfl := List.eq_nil_of_length_eq_zero z1
        exact Post.ok r p _ (.tupW e' q')
      · subst e0
        obtain rfl := List.eq_nil_of_length_eq_zero z2
        rw [List.append_nil] at p
        exact Post.ok r p _ (.tupW e q)
    case isFalse hl => exact (p : False).elim
  case add.ref.ref k a e m b e' =>
    rw [binD] at p
    split at p
    case h_1 xs ys h1 h2 =>
      split at p
      case isTrue hl =>
        obtain ⟨vs, q1, q2⟩ := r.lst e h1
        obtain ⟨ws, q3, q4⟩ := r.lst e' h2
        exact op_cat pins s σ H _ _ v u Q I rx ry ⟨a, b, vs, ws, rfl, rfl, q1, q3, by rw [← q2.length, ← q4.length, ← lim_eq]; exact hl, fun pp hp => GD.push r (q2.append q4) p hp⟩
      case isFalse hl => exact (p : False).elim
    all_goals exact (p : False).elim
  case sub.int.int i j => exact op_sub pins s σ H _ _ v u Q I rx ry ⟨i, j, rfl, rfl, Post.ok r p _ (.int _)⟩
  case mul.int.int i j =>
    rw [binD] at p
    split at p
    case isTrue hl =>
      unfold mulOk at hl
      simp only [Bool.or_eq_true, Bool.and_eq_true, decide_eq_true_eq] at hl
      rcases hl with (hl | hl) | hl
      · exact op_mul pins s σ H _ _ v u Q I rx ry ⟨i, j, rfl, rfl, .inl hl, Post.ok r p _ (.int _)⟩
      · exact op_mul pins s σ H _ _ v u Q I rx ry ⟨i, j, rfl, rfl, .inr hl, Post.ok r p _ (.int _)⟩
      · exact op_mulW pins s σ H _ _ v u Q I rx ry ⟨i, j, rfl, rfl, hl, Post.ok r p _ (.int _)⟩
    case isFalse hl => exact (p : False).elim
  case mul.ref.int k a e n =>
    rw [binD] at p
    split at p
    case h_1 xs h1 =>
      split at p
      case isTrue hl =>
        obtain ⟨vs, q1, q2⟩ := r.lst e h1
        have z := q2.length
        refine op_rep pins s σ H _ _ v u Q I rx ry ⟨a, n, vs, rfl, rfl, q1, by omega, by omega, ?_, fun pp hp => GD.push r (q2.rep n.toNat) p hp⟩
        have := Nat.mul_le_mul hl.2.2 (show n.toNat ≤ 1000 by omega)
        rw [sizeLine_eq, ← z]
        omega
      case isFalse => exact (p : False).elim
    case h_2 => exact (p : False).elim
  case mul.tup.int f a xs vs e sn q k =>
    rw [binD] at p
    split at p
    case isTrue hl =>
      obtain ⟨h1, h2, h3, h4⟩ := hl
      by_cases k0 : k = 0
      · subst k0
        have e1 : (List.replicate (0 : Int).toNat xs).flatten = [] := by simp
        rw [e1] at p
        refine op_mul0 pins s σ H _ _ v u Q I rx ry ⟨a, vs, rfl, rfl, e, fun e0 => ?_, fun pp hp => GD.tup r .nil p hp⟩
        subst e0
        have z1 := q.length
        obtain rfl := List.eq_nil_of_length_eq_zero z1
        exact absurd h1 (by simp)
      by_cases k1 : k = 1
      · subst k1
        refine op_mul1 pins s σ H _ _ v u Q I rx ry ⟨a, vs, rfl, rfl, e, ?_⟩
        have e1 : (List.replicate (1 : Int).toNat xs).flatten = xs := by simp
        rw [e1] at p
        exact Post.ok r p _ (.tupW e q)
      have h2 : 2 ≤ k := by omega
      have z1 := q.length
      refine op_repT pins s σ H _ _ v u Q I rx ry ⟨a, k, vs, rfl, rfl, e, fun e0 => ?_, h2, h3, by omega, fun pp hp => GD.tup r (q.rep k.toNat) p hp⟩
      subst e0
      obtain rfl := List.eq_nil_of_length_eq_zero z1
      exact absurd h1 (by simp)
    case isFalse hl => exact (p : False).elim
  case div.int.int i j =>
    rw [binD] at p
    split at p
    case isTrue hl => exact op_fdivW pins s σ H _ _ v u Q I rx ry ⟨i, j, rfl, rfl, hl, Post.ok r p _ (.int _)⟩
    case isFalse hl => exact (p : False).elim
  case mod.int.int i j =>
    rw [binD] at p
    split at p
    case isTrue hl => exact op_modN pins s σ H _ _ v u Q I rx ry ⟨i, j, rfl, rfl, by omega, by show Q (.int (i.fmod j)) H; rw [Int.fmod_eq_emod_of_nonneg _ (by omega)]; exact Post.ok r p _ (.int _)⟩
    case isFalse hl => exact (p : False).elim
  case pow.int.int i j =>
    rw [binD] at p
    split at p
    case isTrue hl => exact op_pow pins s σ H _ _ v u Q I rx ry ⟨i, j, rfl, rfl, hl, Post.ok r p _ (.int _)⟩
    case isFalse hl => exact (p : False).elim
  case shr.int.int i j =>
    rw [binD] at p
    split at p
    case isTrue hl => exact op_shr pins s σ H _ _ v u Q I rx ry ⟨i, j, rfl, rfl, hl, Post.ok r p _ (.int _)⟩
    case isFalse hl => exact (p : False).elim
  case and_.int.int i j => exact op_and pins s σ H _ _ v u Q I rx ry ⟨i, j, rfl, rfl, Post.ok r p _ (.int _)⟩

/-! ### comparisons -/
def D.shp (d : D) : Prop := True
mutual
theorem py_dp : ∀ {d : D} {v : V} {e : PyData}, Rel X.K ρ H d v → D.py h 0 d = some e → Dp X.K H v e
  | _, _, _, .non, q => by rw [D.py] at q; cases q; exact .non
  | _, _, _, .bl b, q => by rw [D.py] at q; cases q; exact .bl b
  | _, _, _, .int b, q => by rw [D.py] at q; cases q; exact .int b
  | _, _, _, .str b, q => by rw [D.py] at q; cases q; exact .str b
  | _, _, _, .tup e _ r, q => by
    rw [D.py] at q
    obtain ⟨es, h1, h2⟩ := Option.map_eq_some_iff.mp q
    subst h2
    exact .tup e (pyL_dp r h1)
  | _, _, _, .frz e r, q => by
    rw [D.py] at q
    obtain ⟨es, h1, h2⟩ := Option.map_eq_some_iff.mp q
    subst h2
    exact .lst e.sql (pyL_dp r h1)
  | _, _, _, .ref e, q => by rw [D.py] at q; cases q
theorem pyL_dp : ∀ {ds : List D} {vs : List V} {es : List PyData}, RelAll X.K ρ H ds vs → D.pyL h 0 ds = some es → DpAll X.K H vs es
  | _, _, _, .nil, q => by rw [D.pyL] at q; cases q; exact .nil
  | _, _, _, .cons r1 r2, q => by
    rw [D.pyL] at q
    split at q
    case h_1 a ha =>
      obtain ⟨es, h1, h2⟩ := Option.map_eq_some_iff.mp q
      subst h2
      exact .cons (py_dp r1 ha) (pyL_dp r2 h1)
    case h_2 => cases q
end
theorem py1_dp (r : HRel X.K T ρ h H) {d : D} {v : V} {e : PyData} (q : Rel X.K ρ H d v) (p : D.py1 h d = some e) : Dp X.K H v e := by
  cases q with
  | ref hk =>
    rw [D.py1] at p
    split at p
    case h_1 xs hx =>
      obtain ⟨es, h1, h2⟩ := Option.map_eq_some_iff.mp p
      subst h2
      obtain ⟨vs, q1, q2⟩ := r.lst hk hx
      exact .lst (SqL.of q1) (pyL_dp q2 h1)
    case h_2 => cases p
  | non => exact py_dp (ρ := ρ) (h := h) .non p
  | bl b => exact py_dp (ρ := ρ) (h := h) (.bl b) p
  | int b => exact py_dp (ρ := ρ) (h := h) (.int b) p
  | str b => exact py_dp (ρ := ρ) (h := h) (.str b) p
  | tup e sn q => exact py_dp (.tup e sn q) p
  | frz e q => exact py_dp (.frz e q) p
theorem eqD_dp (r : HRel X.K T ρ h H) {d1 d2 : D} {x y : V} {b : Bool} (q1 : Rel X.K ρ H d1 x) (q2 : Rel X.K ρ H d2 y) (p : eqD d1 d2 h = some b) :
    ∃ a e, Dp X.K H x a ∧ Dp X.K H y e ∧ SeqAt.shaped a = true ∧ SeqAt.shaped e = true ∧ PyData.eqv a e = b := by
  unfold eqD at p
  split at p
  case h_1 a e h1 h2 =>
    split at p
    case isTrue hs =>
      simp only [Bool.and_eq_true] at hs
      exact ⟨a, e, py1_dp r q1 h1, py1_dp r q2 h2, hs.1, hs.2, Option.some.inj p⟩
    case isFalse => cases p
  case h_2 => cases p
theorem Rel.sq (r : HRel X.K T ρ h H) {d : D} {v : V} {xs : List D} (q : Rel X.K ρ H d v) (e : seqD h d = some xs) : ∃ a vs, v = .ref a ∧ (SqL X.K H a vs ∨ SqT X.K H a vs) ∧ RelAll X.K ρ H xs vs := by
  cases q with
  | ref hk =>
    rw [seqD] at e
    split at e
    case h_1 ys hy =>
      cases e
      obtain ⟨vs, q1, q2⟩ := r.lst hk hy
      exact ⟨_, vs, rfl, .inl (SqL.of q1), q2⟩
    case h_2 => cases e
  | tup e1 sn e2 =>
    rw [seqD] at e
    cases e
    exact ⟨_, _, rfl, .inr e1, e2⟩
  | frz e1 e2 =>
    rw [seqD] at e
    cases e
    exact ⟨_, _, rfl, .inl e1.sql, e2⟩
  | non => cases e
  | bl _ => cases e
  | int _ => cases e
  | str _ => cases e
theorem flat_toV {d : D} {v : V} (q : Rel X.K ρ H d v) (f : flatD d = true) : v = toV d ∧ flatV v = true := by
  cases q <;> first
    | exact ⟨rfl, rfl⟩
    | cases f
theorem flat_toVs : ∀ {ds : List D} {vs : List V}, RelAll X.K ρ H ds vs → ds.all flatD = true → vs = ds.map toV ∧ vs.all flatV = true
  | _, _, .nil, _ => ⟨rfl, rfl⟩
  | _, _, .cons r1 r2, f => by
    rw [List.all_cons, Bool.and_eq_true] at f
    obtain ⟨e1, f1⟩ := flat_toV r1 f.1
    obtain ⟨e2, f2⟩ := flat_toVs r2 f.2
    refine ⟨by rw [List.map_cons, ← e1, ← e2], by rw [List.all_cons, f1, f2]; rfl⟩
def rCmp (K : PySem.W.Frag) (T : List (Addr × Str)) (E : XK) (cls : Nat → Addr) (op : CO) : R2 := fun x y H Q => ∃ ρ h d1 d2, HRel K T ρ h H ∧ Rel K ρ H d1 x ∧ Rel K ρ H d2 y ∧ Post K T E cls ρ H (GD K Q) (cmpD op d1 d2 h)
theorem rel_non {d : D} {v : V} (q : Rel X.K ρ H d v) : decide (v = .non) = isN d := by
  cases q <;> rfl
theorem one_cp {c : Str} (h : c.length = 1) : c = ⟨#[c.cps.getD 0 0]⟩ := by
  obtain ⟨⟨l⟩⟩ := c
  match l, h with
  | [a], _ => rfl
theorem ofB_none {o : Option Bool} (p : Post X.K T E cls ρ H (GD X.K Q) (R.ofB o h)) : ∃ b, o = some b ∧ Post X.K T E cls ρ H (GD X.K Q) (.ok (.bl b) h) := by
  cases o with
  | none => exact (p : False).elim
  | some b => exact ⟨b, rfl, p⟩
theorem inS_of (r : HRel X.K T ρ h H) {d1 d2 : D} {x y : V} {b : Bool} (r1 : Rel X.K ρ H d1 x) (r2 : Rel X.K ρ H d2 y) (e : inS d1 d2 h = some b) :
    (∃ c z, x = .str ⟨#[c]⟩ ∧ y = .str z ∧ decide (c ∈ z.cps.toList) = b) ∨
    (∃ a vs, y = .ref a ∧ (SqL X.K H a vs ∨ SqT X.K H a vs) ∧ flatV x = true ∧ vs.all flatV = true ∧ inV x vs = b) := by
  have key : ∀ ys, seqD h d2 = some ys → (if flatD d1 && ys.all flatD then some (inV (toV d1) (ys.map toV)) else none) = some b →
      (∃ a vs, y = .ref a ∧ (SqL X.K H a vs ∨ SqT X.K H a vs) ∧ flatV x = true ∧ vs.all flatV = true ∧ inV x vs = b) := fun ys hy e => by
    split at e
    case isTrue hf =>
      rw [Bool.and_eq_true] at hf
      obtain ⟨a, vs, rfl, hq, q⟩ := r2.sq r hy
      obtain ⟨e1, f1⟩ := flat_toV r1 hf.1
      obtain ⟨e2, f2⟩ := flat_toVs q hf.2
      exact ⟨a, vs, rfl, hq, f1, f2, by rw [e1, e2]; exact Option.some.inj e⟩
    case isFalse => cases e
  cases r2 with
  | str z =>
    unfold inS at e
    cases r1 with
    | str c =>
      simp only at e
      split at e
      case isTrue hc => exact .inl ⟨_, z, by rw [← one_cp hc], rfl, Option.some.inj e⟩
      case isFalse => cases e
    | _ => cases e
  | tup e1 sn e2 => exact .inr (key _ rfl e)
  | frz e1 e2 => exact .inr (key _ rfl e)
  | ref hk =>
    rename_i k a
    have e' : (match seqD h (.ref k) with | some ys => if flatD d1 && ys.all flatD then some (inV (toV d1) (ys.map toV)) else none | none => none) = some b := e
    cases hy : seqD h (.ref k) with
    | none => rw [hy] at e'; cases e'
    | some ys => rw [hy] at e'; exact .inr (key ys hy e')
  | non => cases e
  | bl _ => cases e
  | int _ => cases e
theorem inD_of (r : HRel X.K T ρ h H) {d1 d2 : D} {x y : V} {b : Bool} (r1 : Rel X.K ρ H d1 x) (r2 : Rel X.K ρ H d2 y) (e : inD d1 d2 h = some b) :
    (∃ a o, y = .ref a ∧ DGet H a x o ∧ o.isSome = b) ∨ inS d1 d2 h = some b := by
  unfold inD at e
  split at e
  case h_1 k kvs hd =>
    obtain ⟨a, vs, rfl, hk, q1, q2⟩ := dctD_of r r2 hd
    cases hk2 : keyD d1 with
    | none => rw [hk2] at e; cases e
    | some key =>
      rw [hk2] at e
      have e := Option.some.inj e
      have hx := key_rel r1 hk2
      subst hx
      refine .inl ⟨a, _, rfl, DGet.k q1, ?_⟩
      rcases q2.val (k := key) with ⟨d, v, z1, z2, _⟩ | ⟨z1, z2⟩
      · rw [z2]; rw [z1] at e; exact e
      · rw [z2]; rw [z1] at e; exact e
  case h_2 => exact .inr e
theorem ltD_of {op : CO} {d1 d2 : D} {x y : V} {b : Bool} (r1 : Rel X.K ρ H d1 x) (r2 : Rel X.K ρ H d2 y) (e : ltD op d1 d2 = some b) : ∃ i j, d1 = .int i ∧ d2 = .int j ∧ x = .int i ∧ y = .int j := by
  cases r1 with
  | int i =>
    cases r2 with
    | int j => exact ⟨i, j, rfl, rfl, rfl, rfl⟩
    | _ => cases e
  | _ => cases e
theorem op_cmp (hu : X.A.units + 64 < cLine) (op : CO) : OpR X (compareOp op.op) (rCmp X.K T E cls op) := by
  intro pins s σ H x y v u Q I rx ry hh
  obtain ⟨ρ, h, d1, d2, r, r1, r2, p⟩ := hh
  cases op with
  | eq =>
    obtain ⟨b, hb, p⟩ := ofB_none p
    obtain ⟨a, e, h1, h2, h3, h4, h5⟩ := eqD_dp r r1 r2 hb
    exact op_eqD hu pins s σ H _ _ v u Q I rx ry ⟨a, e, h1, h2, h3, h4, by rw [h5]; exact Post.ok r p _ (.bl _)⟩
  | ne =>
    obtain ⟨b, hb, p⟩ := ofB_none p
    obtain ⟨c, hc, rfl⟩ := Option.map_eq_some_iff.mp hb
    obtain ⟨a, e, h1, h2, h3, h4, h5⟩ := eqD_dp r r1 r2 hc
    exact op_neD hu pins s σ H _ _ v u Q I rx ry ⟨a, e, h1, h2, h3, h4, by rw [h5]; exact Post.ok r p _ (.bl _)⟩
  | isN =>
    cases r2 with
    | non => exact op_isN pins s σ H _ _ v u Q I rx ry ⟨rfl, by rw [rel_non r1]; exact Post.ok r p _ (.bl _)⟩
    | _ => exact (p : False).elim
  | notN =>
    cases r2 with
    | non => exact op_notN pins s σ H _ _ v u Q I rx ry ⟨rfl, by rw [rel_non r1]; exact Post.ok r p _ (.bl _)⟩
    | _ => exact (p : False).elim
  | lt =>
    obtain ⟨b, hb, p⟩ := ofB_none p
    obtain ⟨i, j, rfl, rfl, rfl, rfl⟩ := ltD_of r1 r2 hb
    cases hb
    exact op_lt pins s σ H _ _ v u Q I rx ry ⟨_, _, rfl, rfl, Post.ok r p _ (.bl _)⟩
  | le =>
    obtain ⟨b, hb, p⟩ := ofB_none p
    obtain ⟨i, j, rfl, rfl, rfl, rfl⟩ := ltD_of r1 r2 hb
    cases hb
    exact op_le pins s σ H _ _ v u Q I rx ry ⟨_, _, rfl, rfl, Post.ok r p _ (.bl _)⟩
  | gt =>
    obtain ⟨b, hb, p⟩ := ofB_none p
    obtain ⟨i, j, rfl, rfl, rfl, rfl⟩ := ltD_of r1 r2 hb
    cases hb
    exact op_gt pins s σ H _ _ v u Q I rx ry ⟨_, _, rfl, rfl, Post.ok r p _ (.bl _)⟩
  | ge =>
    obtain ⟨b, hb, p⟩ := ofB_none p
    obtain ⟨i, j, rfl, rfl, rfl, rfl⟩ := ltD_of r1 r2 hb
    cases hb
    exact op_ge pins s σ H _ _ v u Q I rx ry ⟨_, _, rfl, rfl, Post.ok r p _ (.bl _)⟩
  | in_ =>
    obtain ⟨b, hb, p⟩ := ofB_none p
    rcases inD_of r r1 r2 hb with ⟨a, o, e1, g, e3⟩ | hb
    · subst e1
      obtain rfl : u = Value.ref a := ry
      exact d_in (by omega) I g rx fun s' I' => ⟨.bl o.isSome, H, I', rfl, by rw [e3]; exact Post.ok r p _ (.bl _)⟩
    rcases inS_of r r1 r2 hb with ⟨c, z, e1, e2, e3⟩ | ⟨a, vs, e1, hq, f1, f2, e3⟩
    · subst e1; subst e2
      exact op_in_sign pins s σ H _ _ v u Q I rx ry ⟨c, z, rfl, rfl, by rw [e3]; exact Post.ok r p _ (.bl _)⟩
    · subst e1
      exact op_in_seq pins s σ H _ _ v u Q I rx ry ⟨a, vs, rfl, hq, f1, f2, by rw [if_neg Bool.false_ne_true, e3]; exact Post.ok r p _ (.bl _)⟩
  | notIn =>
    obtain ⟨b, hb, p⟩ := ofB_none p
    obtain ⟨b', hb', rfl⟩ := Option.map_eq_some_iff.mp hb
    rcases inD_of r r1 r2 hb' with ⟨a, o, e1, g, e3⟩ | hb'
    · subst e1
      obtain rfl : u = Value.ref a := ry
      exact d_notIn (by omega) I g rx fun s' I' => ⟨.bl (!o.isSome), H, I', rfl, by rw [e3]; exact Post.ok r p _ (.bl _)⟩
    rcases inS_of r r1 r2 hb' with ⟨c, z, e1, e2, e3⟩ | ⟨a, vs, e1, hq, f1, f2, e3⟩
    · subst e1; subst e2
      exact op_notIn_sign pins s σ H _ _ v u Q I rx ry ⟨c, z, rfl, rfl, by rw [e3]; exact Post.ok r p _ (.bl _)⟩
    · subst e1
      exact op_notIn_seq pins s σ H _ _ v u Q I rx ry ⟨a, vs, rfl, hq, f1, f2, by rw [if_pos rfl, e3]; exact Post.ok r p _ (.bl _)⟩

/-! ### truth, subscripts, slices -/
theorem tru_d (r : HRel X.K T ρ h H) {d : D} {v : V} {b : Bool} (q : Rel X.K ρ H d v) (e : truD d h = some b) : TruV X.K v H b := by
  cases q with
  | non => cases e; rfl
  | bl c => cases e; rfl
  | int i => cases e; rfl
  | str z =>
    rw [truD] at e
    split at e
    case isTrue hl => cases e; exact ⟨by rw [← lim_eq]; exact hl, rfl⟩
    case isFalse => cases e
  | tup e1 sn e2 =>
    cases e
    refine .inr (.inl ⟨_, e1, ?_⟩)
    cases e2 <;> rfl
  | frz e1 e2 =>
    cases e
    refine .inl ⟨_, e1.sql, ?_⟩
    cases e2 <;> rfl
  | ref hk =>
    rw [truD] at e
    split at e
    case h_1 xs hx =>
      cases e
      obtain ⟨vs, q1, q2⟩ := r.lst hk hx
      refine .inl ⟨_, SqL.of q1, ?_⟩
      cases q2 <;> rfl
    case h_2 => cases e
theorem RelAll.atI {xs : List D} {vs : List V} (q : RelAll X.K ρ H xs vs) {i : Int} {d : D} (e : L2.atI xs i = some d) : ∃ v, L2.atI vs i = some v ∧ Rel X.K ρ H d v := by
  unfold L2.atI at e ⊢
  rw [q.length] at e
  cases hj : ixN vs.length i with
  | none => rw [hj] at e; cases e
  | some j =>
    rw [hj] at e
    exact q.get e
def rIxA (K : PySem.W.Frag) (T : List (Addr × Str)) (E : XK) (cls : Nat → Addr) : R2 := fun x y H Q => ∃ ρ h d1 d2, HRel K T ρ h H ∧ Rel K ρ H d1 x ∧ Rel K ρ H d2 y ∧ Post K T E cls ρ H (GD K Q) (ixD d1 d2 h)
theorem ix_any (hu : X.A.units + 64 < cLine) : IxR X (rIxA X.K T E cls) := by
  intro value slice pins s σ H x y v u Q I rx ry hh hs
  obtain ⟨ρ, h, d1, d2, r, r1, r2, p⟩ := hh
  unfold ixD at p
  split at p
  case h_1 k kvs hd =>
    obtain ⟨a, vs, rfl, hk, q1, q2⟩ := dctD_of r r1 hd
    unfold getK at p
    split at p
    case h_2 => exact (p : False).elim
    case h_1 key hk2 =>
      split at p
      case h_2 => exact (p : False).elim
      case h_1 d hv =>
        have hx := key_rel r2 hk2
        subst hx
        obtain rfl : v = Value.ref a := rx
        rcases q2.val (k := key) with ⟨d', z, z1, z2, rz⟩ | ⟨z1, z2⟩
        · rw [hv] at z1
          cases z1
          have g : DGet H a (kV key) (some z) := by
            have := DGet.k (k := key) q1
            rw [z2] at this
            exact this
          exact PyProof.Rows.tail_any (dict_typeIs I g) PySem.F.slot_dict_getitem.lookup (d_getItem (by omega) I g ry fun w' s' I' rw' => ⟨z, H, I', rw', Post.ok r p _ rz⟩) hs
        · rw [hv] at z1; cases z1
  case h_2 hd =>
    cases r2 with
    | int i =>
      have key : Post X.K T E cls ρ H (GD X.K Q) (ixQ (seqD h d1) i h) → wpAny (model X.prog X.w) X.A (PyProof.Rows.subscriptTail value slice v u) (EP X pins σ Q) X.xe s := fun p => by
        cases hx : seqD h d1 with
        | none => rw [hx] at p; exact (p : False).elim
        | some xs =>
          rw [hx] at p
          have p' : Post X.K T E cls ρ H (GD X.K Q) (match atI xs i with | some d => .ok d h | none => .no) := p
          cases hd : atI xs i with
          | none => rw [hd] at p'; exact (p' : False).elim
          | some d =>
            rw [hd] at p'
            obtain ⟨a, vs, rfl, hq, q⟩ := r1.sq r hx
            obtain ⟨w, hw, rw_⟩ := q.atI hd
            rcases hq with hq | hq
            · exact ix_list value slice pins s σ H _ _ v u Q I rx ry ⟨a, vs, i, w, rfl, rfl, hq, hw, Post.ok r p' _ rw_⟩ hs
            · exact ix_tup value slice pins s σ H _ _ v u Q I rx ry ⟨a, vs, i, w, rfl, rfl, hq, hw, Post.ok r p' _ rw_⟩ hs
      cases r1 with
      | str z =>
        unfold ixS at p
        simp only at p
        split at p
        case isTrue hl =>
          split at p
          case h_1 c hc => exact ix_str value slice pins s σ H _ _ v u Q I rx ry ⟨z, i, c, rfl, rfl, by rw [← lim_eq]; exact hl, hc, Post.ok r p _ (.str _)⟩ hs
          case h_2 => exact (p : False).elim
        case isFalse => exact (p : False).elim
      | _ => exact key p
    | _ => exact (p : False).elim
theorem RelAll.cut {xs : List D} {vs : List V} (q : RelAll X.K ρ H xs vs) (lo hi : Option Int) : RelAll X.K ρ H (cutD xs lo hi) (cutV vs lo hi) := by
  unfold cutD cutV
  rw [q.length]
  exact (q.drop _).take _
def rSlX (K : PySem.W.Frag) (T : List (Addr × Str)) (E : XK) (cls : Nat → Addr) : V → Option Int → Option Int → Hp → VK → Prop := fun x lo hi H Q => ∃ ρ h d, HRel K T ρ h H ∧ Rel K ρ H d x ∧ Post K T E cls ρ H (GD K Q) (slD d lo hi h)
theorem cut_whole {xs : List D} {lo hi : Option Int} (e : HT.sIx xs.length 0 lo = 0 ∧ HT.sIx xs.length xs.length hi = xs.length) : cutD xs lo hi = xs := by
  unfold cutD
  rw [e.1, e.2]
  simp
theorem sl_any : SlR X (rSlX X.K T E cls) := by
  intro pins s σ H x v vl vu lo hi sl Q I rx hs pl pu hh
  obtain ⟨ρ, h, d, r, r1, p⟩ := hh
  unfold slD at p
  split at p
  case h_1 xs =>
    cases r1 with
    | tup e sn q =>
      refine sl_tupA pins s σ H _ v vl vu lo hi sl Q I rx hs pl pu ⟨_, _, rfl, e, fun w => ?_, fun w a ha => GD.tup r (q.cut lo hi) p ha⟩
      rw [← q.length] at w
      rw [cut_whole w] at p
      exact Post.ok r p _ (.tupW e q)
  case h_2 k =>
    split at p
    case h_1 xs hx =>
      cases r1 with
      | ref hk =>
        obtain ⟨vs, q1, q2⟩ := r.lst hk hx
        exact sl_list pins s σ H _ v vl vu lo hi sl Q I rx hs pl pu ⟨_, vs, rfl, SqL.of q1, fun a ha => GD.push r (q2.cut lo hi) p ha⟩
    case h_2 => exact (p : False).elim
  case h_3 => exact (p : False).elim
end
end PI
namespace PI
open PySem L2
def GL (K : PySem.W.Frag) (Q : List V → Hp → Prop) : List Addr → Hs → Hp → List D → Prop := fun ρ _ H d => ∀ v, RelAll K ρ H d v → Q v H
section
variable {X : Cx} {T : List (Addr × Str)} {E : XK} {cls : Nat → Addr} {ρ : List Addr} {h : Hs} {H : Hp} {Q : VK}
def rBi (K : PySem.W.Frag) (T : List (Addr × Str)) (E : XK) (cls : Nat → Addr) (b : Bi) : List V → Hp → VK → Prop := fun xs H Q => ∃ ρ h ds, HRel K T ρ h H ∧ RelAll K ρ H ds xs ∧ Post K T E cls ρ H (GD K Q) (biD b ds h)
theorem relAll1 {d : D} {xs : List V} (q : RelAll X.K ρ H [d] xs) : ∃ v, xs = [v] ∧ Rel X.K ρ H d v := by
  cases q with
  | cons r q => cases q; exact ⟨_, rfl, r⟩
theorem relAll2 {d e : D} {xs : List V} (q : RelAll X.K ρ H [d, e] xs) : ∃ v w, xs = [v, w] ∧ Rel X.K ρ H d v ∧ Rel X.K ρ H e w := by
  cases q with
  | cons r q =>
    obtain ⟨w, rfl, r2⟩ := relAll1 q
    exact ⟨_, _, rfl, r, r2⟩
theorem bi_one {b : Bi} {ds : List D} {xs : List V} (r : HRel X.K T ρ h H) (q : RelAll X.K ρ H ds xs) (p : Post X.K T E cls ρ H (GD X.K Q) (biD b ds h)) :
    (∃ d v, xs = [v] ∧ Rel X.K ρ H d v ∧ Post X.K T E cls ρ H (GD X.K Q) (bi1 b d h)) ∨ (∃ d e v w, xs = [v, w] ∧ Rel X.K ρ H d v ∧ Rel X.K ρ H e w ∧ Post X.K T E cls ρ H (GD X.K Q) (bi2 b d e h)) := by
  match ds, q, p with
  | [], _, p => exact (p : False).elim
  | [d], q, p =>
    obtain ⟨v, e, q⟩ := relAll1 q
    exact .inl ⟨d, v, e, q, p⟩
  | [d, e], q, p =>
    obtain ⟨v, w, e1, q1, q2⟩ := relAll2 q
    exact .inr ⟨d, e, v, w, e1, q1, q2, p⟩
  | d :: e :: f :: g, _, p => exact (p : False).elim
theorem cr_len : CallR X (.builtin "len") (rBi X.K T E cls .len) := by
  intro pins s σ H xs us Q I rv hh
  obtain ⟨ρ, h, ds, r, q, p⟩ := hh
  rcases bi_one r q p with ⟨d, v, rfl, q, p⟩ | ⟨d, e, v, w, rfl, q, q2, p⟩
  · have p' : Post X.K T E cls ρ H (GD X.K Q) (match lenD h d with | some n => .ok (.int n) h | none => .no) := p
    cases hn : lenD h d with
    | none => rw [hn] at p'; exact (p' : False).elim
    | some n =>
      rw [hn] at p'
      have key : ∀ ys, seqD h d = some ys → n = ys.length → wpAny (model X.prog X.w) X.A (call (.builtin "len") us) (EP X pins σ Q) X.xe s := fun ys hx hn => by
        obtain ⟨a, vs, rfl, hq, q⟩ := q.sq r hx
        exact call_len_seq pins s σ H _ us Q I rv ⟨a, vs, rfl, hq, by rw [← q.length, ← hn]; exact Post.ok r p' _ (.int _)⟩
      cases q with
      | str z =>
        unfold lenD at hn
        simp only at hn
        split at hn
        case isTrue hl =>
          cases hn
          exact call_len pins s σ H _ us Q I rv ⟨_, z.length, rfl, ⟨by rw [← lim_eq]; exact hl, rfl⟩, Post.ok r p' _ (.int _)⟩
        case isFalse => cases hn
      | tup e1 sn e2 => exact key _ rfl (Option.some.inj hn).symm
      | frz e1 e2 => exact key _ rfl (Option.some.inj hn).symm
      | ref e1 =>
        obtain ⟨ys, h1, h2⟩ := Option.map_eq_some_iff.mp (show (seqD h (.ref _)).map List.length = some n from hn)
        exact key _ h1 h2.symm
      | non => cases hn
      | bl _ => cases hn
      | int _ => cases hn
  · exact (p : False).elim
theorem cr_tuple : CallR X (.type "tuple") (rBi X.K T E cls .tuple) := by
  intro pins s σ H xs us Q I rv hh
  obtain ⟨ρ, h, ds, r, q, p⟩ := hh
  rcases bi_one r q p with ⟨d, v, rfl, q, p⟩ | ⟨d, e, v, w, rfl, q, q2, p⟩
  · have p' : Post X.K T E cls ρ H (GD X.K Q) (match seqD h d with | some xs => .ok (.tup false xs) h | none => .no) := p
    cases hx : seqD h d with
    | none => rw [hx] at p'; exact (p' : False).elim
    | some xs =>
      rw [hx] at p'
      obtain ⟨a, vs, rfl, hq, q⟩ := q.sq r hx
      rcases hq with hq | hq
      · exact call_tuple_of pins s σ H _ us Q I rv ⟨a, vs, rfl, .inl ⟨hq, fun l hl => GD.tup r q p' hl⟩⟩
      · exact call_tuple_of pins s σ H _ us Q I rv ⟨a, vs, rfl, .inr ⟨hq, Post.ok r p' _ (.tupW hq q)⟩⟩
  · exact (p : False).elim
/-! dict(t) of a tuple of pairs -/
theorem mergD_go' : ∀ {ks : List (Key × D)} {vs : List (Key × V)} {as : List (Key × D)} {bs : List (Key × V)}, RelKV X.K ρ H ks vs → RelKV X.K ρ H as bs → RelKV X.K ρ H (ks.foldl (fun acc p => putD acc p.1 p.2) as) (mergeK bs vs)
  | _, _, _, _, .nil, r => r
  | _, _, _, _, .cons (k := k) (d := d) (v := v) (r := ks) (q := vs) p q, r => by
    show RelKV X.K ρ H (ks.foldl (fun acc p => putD acc p.1 p.2) (putD _ k d)) (mergeK (putK _ k v) vs)
    exact mergD_go' q (r.put p)
theorem mergD_ok' {ks : List (Key × D)} {vs : List (Key × V)} (r : RelKV X.K ρ H ks vs) : RelKV X.K ρ H (mergD ks) (mergeK [] vs) := mergD_go' r .nil
theorem pairs_ofV {pins : List (Addr × Obj)} {σ : L2.St} {H : Hp} {s : Shared} (I : L2.Inv X pins σ H s) : ∀ {ps : List Addr} {kvs : List (Key × V)}, Paired (fun p kv => SqT X.K H p [kV kv.1, kv.2]) ps kvs →
    ∃ (ws : List (Value × Value)) (prs : List (Key × Value)), KV kvs prs ∧ ws.length = ps.length ∧ prs.length = ps.length ∧ ∀ (j : Nat) (u y : Value), ws[j]? = some (u, y) → ∃ (b : Addr) (k : Key), ps[j]? = some b ∧ prs[j]? = some (k, y) ∧ PyProof.Rows.IsTup s.heap b #[u, y] ∧ keyIs k u = true
  | _, _, .nil => ⟨[], [], .nil, rfl, rfl, fun j u y e => by simp at e⟩
  | _, _, .cons (a := p) (b := kv) h t => by
    obtain ⟨ws, prs, r, hl, hl2, hp⟩ := pairs_ofV I t
    obtain ⟨its, rv, ht, _⟩ := I.tuple h
    obtain ⟨u, y, ei, ru, ry⟩ := vals2 rv
    subst ei
    refine ⟨(u, y) :: ws, (kv.1, y) :: prs, .cons ⟨rfl, ry⟩ r, by rw [List.length_cons, List.length_cons, hl], by rw [List.length_cons, List.length_cons, hl2], fun j u' y' e => ?_⟩
    cases j with
    | zero =>
      have e' : (u, y) = (u', y') := Option.some.inj e
      cases e'
      exact ⟨p, kv.1, rfl, rfl, ht, kV_is (P := X.prog) (w := X.w) ru⟩
    | succ j =>
      obtain ⟨b, k, e1, e2, e3, e4⟩ := hp j u' y' (by simpa using e)
      exact ⟨b, k, by simpa using e1, by simpa using e2, e3, e4⟩
theorem pairs_rel : ∀ {xs : List D} {vs : List V} {kvs : List (Key × D)}, RelAll X.K ρ H xs vs → pairs2 xs = some kvs → ∃ (ps : List Addr) (kv : List (Key × V)), vs = ps.map V.ref ∧ Paired (fun p kv => SqT X.K H p [kV kv.1, kv.2]) ps kv ∧ RelKV X.K ρ H kvs kv
  | _, _, _, .nil, e => by cases e; exact ⟨[], [], rfl, .nil, .nil⟩
  | _, _, kvs, .cons (ds := r) (vs := vr) p q, e => by
    cases p with
    | @tup f a l w hs sn hr =>
      match l, hr, e with
      | [], hr, e => cases e
      | [_], hr, e => cases e
      | _ :: _ :: _ :: _, hr, e => cases e
      | [x, y], hr, e =>
        have e : (match keyD x with | some k => (pairs2 r).map ((k, y) :: ·) | none => none) = some kvs := e
        cases hk : keyD x with
        | none => rw [hk] at e; cases e
        | some k =>
          rw [hk] at e
          obtain ⟨l2, h1, h2⟩ := Option.map_eq_some_iff.mp e
          subst h2
          obtain ⟨ps, kv, rfl, pr, rk⟩ := pairs_rel q h1
          cases hr with
          | cons r1 r2 =>
            cases r2 with
            | cons r2 r3 =>
              cases r3
              have ex := key_rel r1 hk
              subst ex
              exact ⟨a :: ps, (k, _) :: kv, rfl, .cons hs pr, .cons r2 rk⟩
    | _ => cases e
theorem cr_dict (hcalm : X.calm = true) : CallR X (.type "dict") (rBi X.K T E cls .dict_) := by
  intro pins s σ H xs us Q I rv hh
  obtain ⟨ρ, h, ds, r, q, p⟩ := hh
  rcases bi_one r q p with ⟨d, v, rfl, q, p⟩ | ⟨d, e, v, w, rfl, q, q2, p⟩
  · cases q with
    | @tup f a xs vs hs sn qq =>
      cases f with
      | false => exact (p : False).elim
      | true =>
        have p' : Post X.K T E cls ρ H (GD X.K Q) (match pairs2 xs with | some kvs => if xs.length ≤ LIM then .ok (.ref h.length) (h ++ [.dct (mergD kvs)]) else .no | none => .no) := p
        cases hp : pairs2 xs with
        | none => rw [hp] at p'; exact (p' : False).elim
        | some kvs =>
          rw [hp] at p'
          have p' : Post X.K T E cls ρ H (GD X.K Q) (if xs.length ≤ LIM then .ok (.ref h.length) (h ++ [.dct (mergD kvs)]) else .no) := p'
          split at p'
          case isFalse => exact (p' : False).elim
          case isTrue hlen =>
            obtain ⟨ps, kv, rfl, pr, rk⟩ := pairs_rel qq hp
            obtain ⟨u, eu, rx⟩ := vals1 rv
            subst eu
            cases rx
            obtain ⟨its, rvs, ht, hz⟩ := I.tuple hs
            have ei := refs_at rvs
            subst ei
            obtain ⟨ws, prs, rel, hl, hl2, hpr⟩ := pairs_ofV I pr
            obtain ⟨o, ho, hc, n, hdat⟩ := ht
            have hd : o.dict = none := by
              rcases sn rfl with ⟨o2, u2, e2, n2⟩ | ⟨o2, e2, n2⟩
              · have z := (I.hok a _ e2).1
                rw [ho] at z
                cases z
                exact n2
              · have z := I.kIn a o2 e2
                rw [ho] at z
                cases z
                exact n2
            rw [List.length_map] at hz
            refine PySem.call_dict_pairs (knd := mixKind X.prog X.w) (kvs := prs) (PairArg.tuple a (ps.map Value.ref).toArray (fun j => ps.getD j 0) ws) (I.ok.hd hcalm) ⟨⟨o, n, ho, hc, hd, hdat⟩, by simp [hl], fun j k y e => ?_⟩ ⟨by rw [hl, hl2], fun j k y e => ?_⟩ (by rw [hl]; exact hz) fun h' tk hd' kp => ?_
            · obtain ⟨b, kk, e1, e2, e3, e4⟩ := hpr j k y e
              refine ⟨?_, .inl ?_⟩
              · simp [List.getD_eq_getElem?_getD, e1]
              · show s.heap.IsTuple (ps.getD j 0) #[k, y]
                rw [List.getD_eq_getElem?_getD, e1]
                exact e3
            · obtain ⟨b, kk, e1, e2, e3, e4⟩ := hpr j k y e
              exact ⟨kk, e2, e4⟩
            · have hm : (s.heap.objs.size == sysModules) = false := beq_eq_false_iff_ne.mpr (Nat.ne_of_gt I.big)
              have hlen : (mergeK [] kv).length ≤ sizeLine := by
                refine Nat.le_trans (length_mergeK kv []) ?_
                rw [List.length_nil, Nat.zero_add, rel.length, hl2]
                exact hz
              have fr := I.hok.fresh (Nat.le_refl s.heap.objs.size)
              refine ⟨.ref s.heap.objs.size, upd H s.heap.objs.size (.dK (mergeK [] kv)), I.laid (t' := tk) (fun b o e => kp b o (by simp) e) (Nat.le_refl _) (show ObjOk X.prog X.w _ _ _ (.dK (mergeK [] kv)) from ⟨hlen, hm, merged [] prs, KV.merge rel .nil, hd'⟩), rfl, ?_⟩
              exact p' _ _ (Ext.pushD r fr (mergD_ok' rk)) _ (.ref (by rw [← r.len, List.getElem?_append_right (Nat.le_refl _)]; simp))
    | _ => exact (p : False).elim
  · exact (p : False).elim
theorem cr_list (hcalm : X.calm = true) : CallR X (.type "list") (rBi X.K T E cls .list) := by
  intro pins s σ H xs us Q I rv hh
  obtain ⟨ρ, h, ds, r, q, p⟩ := hh
  rcases bi_one r q p with ⟨d, v, rfl, q, p⟩ | ⟨d, e, v, w, rfl, q, q2, p⟩
  · have p' : Post X.K T E cls ρ H (GD X.K Q) (match dctD h d with | some (_, kvs) => .ok (.ref h.length) (h ++ [.lst (kvs.map fun p => keyV p.1)]) | none => (match seqD h d with | some xs => .ok (.ref h.length) (h ++ [.lst xs]) | none => .no)) := p
    cases hd : dctD h d with
    | some kk =>
      obtain ⟨k, kvs⟩ := kk
      rw [hd] at p'
      obtain ⟨a, vs, rfl, hk, q1, q2⟩ := dctD_of r q hd
      exact call_listD hcalm pins s σ H _ us Q I rv ⟨a, vs, rfl, .inl q1, fun l hl => GD.push r q2.keys p' hl⟩
    | none =>
    rw [hd] at p'
    have p' : Post X.K T E cls ρ H (GD X.K Q) (match seqD h d with | some xs => .ok (.ref h.length) (h ++ [.lst xs]) | none => .no) := p'
    cases hx : seqD h d with
    | none => rw [hx] at p'; exact (p' : False).elim
    | some xs =>
      rw [hx] at p'
      obtain ⟨a, vs, rfl, hq, q⟩ := q.sq r hx
      exact call_list_of pins s σ H _ us Q I rv ⟨a, vs, rfl, hq, fun l hl => GD.push r q p' hl⟩
  · exact (p : False).elim
theorem cr_int : CallR X (.type "int") (rBi X.K T E cls .int_) := by
  intro pins s σ H xs us Q I rv hh
  obtain ⟨ρ, h, ds, r, q, p⟩ := hh
  rcases bi_one r q p with ⟨d, v, rfl, q, p⟩ | ⟨d, e, v, w, rfl, q, q2, p⟩
  · cases q with
    | int i => exact call_int1 pins s σ H _ us Q I rv (.inl ⟨i, rfl, Post.ok r p _ (.int _)⟩)
    | bl b => exact call_int1 pins s σ H _ us Q I rv (.inr ⟨b, rfl, Post.ok r p _ (.int _)⟩)
    | str z =>
      have p' : Post X.K T E cls ρ H (GD X.K Q) (match PySem.intText? z with | some n => if z.length ≤ 640 then .ok (.int n) h else .no | none => .no) := p
      cases hz : PySem.intText? z with
      | none => rw [hz] at p'; exact (p' : False).elim
      | some n =>
        rw [hz] at p'
        have p' : Post X.K T E cls ρ H (GD X.K Q) (if z.length ≤ 640 then .ok (.int n) h else .no) := p'
        split at p'
        case isTrue hl => exact call_int_str pins s σ H _ us Q I rv ⟨z, n, rfl, hz, hl, Post.ok r p' _ (.int _)⟩
        case isFalse => exact (p' : False).elim
    | _ => exact (p : False).elim
  · exact (p : False).elim
theorem cr_str : CallR X (.type "str") (rBi X.K T E cls .str_) := by
  intro pins s σ H xs us Q I rv hh
  obtain ⟨ρ, h, ds, r, q, p⟩ := hh
  rcases bi_one r q p with ⟨d, v, rfl, q, p⟩ | ⟨d, e, v, w, rfl, q, q2, p⟩
  · cases q with
    | int i =>
      have p' : Post X.K T E cls ρ H (GD X.K Q) (if i.natAbs.log2 < 1920 then .ok (.str (Str.ofString (toString i))) h else .no) := p
      split at p'
      case isTrue hl => exact call_str_int pins s σ H _ us Q I rv ⟨i, rfl, hl, Post.ok r p' _ (.str _)⟩
      case isFalse => exact (p' : False).elim
    | str z => exact SkE.call_str_str pins s σ H _ us Q I rv ⟨z, rfl, Post.ok r p _ (.str _)⟩
    | _ => exact (p : False).elim
  · exact (p : False).elim
theorem cr_max2 (hc : X.calm = true) : CallR X (.builtin "max") (rBi X.K T E cls .max2) := by
  intro pins s σ H xs us Q I rv hh
  obtain ⟨ρ, h, ds, r, q, p⟩ := hh
  rcases bi_one r q p with ⟨d, v, rfl, q, p⟩ | ⟨d, e, v, w, rfl, q1, q2, p⟩
  · exact (p : False).elim
  · cases q1 with
    | int i =>
      cases q2 with
      | int j => exact call_max2 hc pins s σ H _ us Q I rv ⟨i, j, rfl, Post.ok r p _ (.int _)⟩
      | _ => exact (p : False).elim
    | _ => exact (p : False).elim
theorem cr_min2 (hc : X.calm = true) : CallR X (.builtin "min") (rBi X.K T E cls .min2) := by
  intro pins s σ H xs us Q I rv hh
  obtain ⟨ρ, h, ds, r, q, p⟩ := hh
  rcases bi_one r q p with ⟨d, v, rfl, q, p⟩ | ⟨d, e, v, w, rfl, q1, q2, p⟩
  · exact (p : False).elim
  · cases q1 with
    | int i =>
      cases q2 with
      | int j => exact call_min2 hc pins s σ H _ us Q I rv ⟨i, j, rfl, Post.ok r p _ (.int _)⟩
      | _ => exact (p : False).elim
    | _ => exact (p : False).elim

/-! ### isinstance -/
def Ty.nm : Ty → String
  | .non => "NoneType" | .bool => "bool" | .int => "int" | .str => "str" | .tuple => "tuple" | .list => "list" | .dict => "dict"
theorem kit_sub (a b : Ty) : kitB a.nm b.nm = some (a.sub b) := by
  cases a <;> cases b <;> decide +kernel
theorem tyx_of (r : HRel X.K T ρ h H) {d : D} {v : V} {ty : Ty} (q : Rel X.K ρ H d v) (et : tyD h d = some ty) : TyX X.K H v (.type ty.nm) := by
  cases q with
  | non => cases et; exact .base .non
  | bl b => cases et; exact .base (.bl b)
  | int i => cases et; exact .base (.int i)
  | str s => cases et; exact .base (.str s)
  | tup e sn q =>
    cases et
    rcases e with (e | ⟨o, e⟩) | ⟨o, its, n, e1, e2, _⟩
    · exact .base (.tup e)
    · exact .fTuple e
    · exact .kTuple e1 e2
  | frz e q =>
    cases et
    rcases e with ⟨o, e⟩ | ⟨o, its, n, e1, e2, _⟩
    · exact .base (.frz e)
    · exact .kList e1 e2
  | ref e =>
    rename_i k a
    have hk : k < h.length := by rw [← r.len]; exact (List.getElem?_eq_some_iff.mp e).1
    obtain ⟨o, ho⟩ : ∃ o, h[k]? = some o := ⟨_, List.getElem?_eq_getElem hk⟩
    obtain ⟨b, e1, q⟩ := r.obj k o ho
    rw [e] at e1
    cases e1
    have et : (match h[k]? with | some (.lst _) => some Ty.list | some (.dct _) => some .dict | _ => none) = some ty := et
    rw [ho] at et
    cases o with
    | lst xs => cases et; obtain ⟨vs, q1, _⟩ := q; exact .base (.lst q1)
    | dct kvs => cases et; obtain ⟨vs, q1, _⟩ := q; exact .base (.dK q1)
    | ins c fs => cases et
theorem isi_of (r : HRel X.K T ρ h H) {d : D} {v : V} {ty : Ty} (q : Rel X.K ρ H d v) (et : tyD h d = some ty) (t : Ty) {Q : VK} (k : Q (.bl (ty.sub t)) H) : rIsi X.K [v, .ty t.nm] H Q :=
  ⟨v, .ty t.nm, _, .type t.nm, _, rfl, .ty _, tyx_of r q et, kit_ty (kit_sub _ _), k⟩

/-! ### built-in functions upon a list just made -/
def rBl (K : PySem.W.Frag) (T : List (Addr × Str)) (E : XK) (cls : Nat → Addr) (b : Bl) : List V → Hp → VK → Prop := fun xs H Q => ∃ ρ h ds a vs, xs = [.ref a] ∧ H a = some (.lst vs) ∧ HRel K T ρ h H ∧ RelAll K ρ H ds vs ∧ Post K T E cls ρ H (GD K Q) (blD b ds h)
theorem bools_of : ∀ {ds : List D} {vs : List V} {bs : List Bool}, RelAll X.K ρ H ds vs → bools? ds = some bs → vs = bs.map V.bl
  | _, _, _, .nil, e => by cases e; rfl
  | _, _, _, .cons (.bl b) q, e => by
    obtain ⟨r, h1, rfl⟩ := Option.map_eq_some_iff.mp (show (bools? _).map (b :: ·) = some _ from e)
    rw [bools_of q h1]; rfl
  | _, _, _, .cons .non q, e => by cases e
  | _, _, _, .cons (.int _) q, e => by cases e
  | _, _, _, .cons (.str _) q, e => by cases e
  | _, _, _, .cons (.tup _ _ _) q, e => by cases e
  | _, _, _, .cons (.frz _ _) q, e => by cases e
  | _, _, _, .cons (.ref _) q, e => by cases e
theorem ints_of : ∀ {ds : List D} {vs : List V} {bs : List Int}, RelAll X.K ρ H ds vs → ints? ds = some bs → vs = bs.map V.int
  | _, _, _, .nil, e => by cases e; rfl
  | _, _, _, .cons (.int b) q, e => by
    obtain ⟨r, h1, rfl⟩ := Option.map_eq_some_iff.mp (show (ints? _).map (b :: ·) = some _ from e)
    rw [ints_of q h1]; rfl
  | _, _, _, .cons .non q, e => by cases e
  | _, _, _, .cons (.bl _) q, e => by cases e
  | _, _, _, .cons (.str _) q, e => by cases e
  | _, _, _, .cons (.tup _ _ _) q, e => by cases e
  | _, _, _, .cons (.frz _ _) q, e => by cases e
  | _, _, _, .cons (.ref _) q, e => by cases e
theorem bl_tuple : CallR X (.type "tuple") (rBl X.K T E cls .tuple) := by
  intro pins s σ H xs us Q I rv hh
  obtain ⟨ρ, h, ds, a, vs, rfl, ha, r, q, p⟩ := hh
  exact call_tuple_of pins s σ H _ us Q I rv ⟨a, vs, rfl, .inl ⟨SqL.of ha, fun l hl => GD.tup r q p hl⟩⟩
theorem bl_len : CallR X (.builtin "len") (rBl X.K T E cls .len) := by
  intro pins s σ H xs us Q I rv hh
  obtain ⟨ρ, h, ds, a, vs, rfl, ha, r, q, p⟩ := hh
  exact call_len_seq pins s σ H _ us Q I rv ⟨a, vs, rfl, .inl (SqL.of ha), by rw [← q.length]; exact Post.ok r p _ (.int _)⟩
theorem bl_all (hc : X.calm = true) : CallR X (.builtin "all") (rBl X.K T E cls .all) := by
  intro pins s σ H xs us Q I rv hh
  obtain ⟨ρ, h, ds, a, vs, rfl, ha, r, q, p⟩ := hh
  have p' : Post X.K T E cls ρ H (GD X.K Q) (match bools? ds with | some bs => .ok (.bl (bs.all id)) h | none => .no) := p
  cases hb : bools? ds with
  | none => rw [hb] at p'; exact (p' : False).elim
  | some bs =>
    rw [hb] at p'
    have e := bools_of q hb
    subst e
    exact cr_all hc pins s σ H _ us Q I rv ⟨a, bs, rfl, SqL.of ha, Post.ok r p' _ (.bl _)⟩
theorem bl_any (hc : X.calm = true) : CallR X (.builtin "any") (rBl X.K T E cls .any) := by
  intro pins s σ H xs us Q I rv hh
  obtain ⟨ρ, h, ds, a, vs, rfl, ha, r, q, p⟩ := hh
  have p' : Post X.K T E cls ρ H (GD X.K Q) (match bools? ds with | some bs => .ok (.bl (bs.any id)) h | none => .no) := p
  cases hb : bools? ds with
  | none => rw [hb] at p'; exact (p' : False).elim
  | some bs =>
    rw [hb] at p'
    have e := bools_of q hb
    subst e
    exact cr_any hc pins s σ H _ us Q I rv ⟨a, bs, rfl, SqL.of ha, Post.ok r p' _ (.bl _)⟩
theorem bl_sum (hc : X.calm = true) : CallR X (.builtin "sum") (rBl X.K T E cls .sum) := by
  intro pins s σ H xs us Q I rv hh
  obtain ⟨ρ, h, ds, a, vs, rfl, ha, r, q, p⟩ := hh
  have p' : Post X.K T E cls ρ H (GD X.K Q) (match ints? ds with | some bs => .ok (.int bs.sum) h | none => .no) := p
  cases hb : ints? ds with
  | none => rw [hb] at p'; exact (p' : False).elim
  | some bs =>
    rw [hb] at p'
    have e := ints_of q hb
    subst e
    exact cr_sum hc pins s σ H _ us Q I rv ⟨a, bs, rfl, SqL.of ha, Post.ok r p' _ (.int _)⟩

/-! ### methods of lists -/
def rMe (K : PySem.W.Frag) (T : List (Addr × Str)) (E : XK) (cls : Nat → Addr) (m : Me) : V → List V → Hp → VK → Prop := fun x xs H Q => ∃ ρ h d ds, HRel K T ρ h H ∧ Rel K ρ H d x ∧ RelAll K ρ H ds xs ∧ Post K T E cls ρ H (GD K Q) (meD m d ds h)
theorem lstD_of (r : HRel X.K T ρ h H) {d : D} {v : V} {k : Nat} {xs : List D} (q : Rel X.K ρ H d v) (e : lstD h d = some (k, xs)) : ∃ a vs, v = .ref a ∧ ρ[k]? = some a ∧ H a = some (.lst vs) ∧ RelAll X.K ρ H xs vs := by
  cases q with
  | ref hk =>
    unfold lstD at e
    simp only at e
    split at e
    case h_1 ys hy =>
      cases e
      obtain ⟨vs, q1, q2⟩ := r.lst hk hy
      exact ⟨_, vs, rfl, hk, q1, q2⟩
    case h_2 => cases e
  | _ => cases e
theorem me_append : MtR X "list.append" (rMe X.K T E cls .append) := by
  intro pins s σ H x xs v us Q I rx rv hh
  obtain ⟨ρ, h, d, ds, r, q, qs, p⟩ := hh
  match ds, qs, p with
  | [], _, p => exact (p : False).elim
  | [e], qs, p =>
    obtain ⟨w, rfl, qw⟩ := relAll1 qs
    have p' : Post X.K T E cls ρ H (GD X.K Q) (match lstD h d with | some (k, xs) => if xs.length < LIM then .ok .non (h.set k (.lst (xs ++ [e]))) else .no | none => .no) := p
    cases hl : lstD h d with
    | none => rw [hl] at p'; exact (p' : False).elim
    | some kx =>
      obtain ⟨k, ys⟩ := kx
      rw [hl] at p'
      simp only at p'
      split at p'
      case isTrue hz =>
        obtain ⟨a, vs, rfl, hk, q1, q2⟩ := lstD_of r q hl
        exact mt_append pins s σ H _ _ v us Q I rx rv ⟨a, vs, w, rfl, rfl, q1, by rw [← q2.length, ← lim_eq]; exact hz, p' ρ _ (Ext.write r hk (q2.append (.cons qw .nil))) _ .non⟩
      case isFalse => exact (p' : False).elim
  | d1 :: e :: f, _, p => exact (p : False).elim
theorem lst'_of (r : HRel X.K T ρ h H) {d : D} {v : V} {xs : List D} (q : Rel X.K ρ H d v) (e : lstD' h d = some xs) : ∃ a vs, v = .ref a ∧ RelAll X.K ρ H xs vs ∧ H a = some (.lst vs) := by
  cases q with
  | ref hk =>
    unfold lstD' at e
    simp only at e
    split at e
    case h_1 ys hy =>
      cases e
      obtain ⟨vs, q1, q2⟩ := r.lst hk hy
      exact ⟨_, vs, rfl, q2, q1⟩
    case h_2 => cases e
  | _ => cases e
theorem me_extend : MtR X "list.extend" (rMe X.K T E cls .extend) := by
  intro pins s σ H x xs v us Q I rx rv hh
  obtain ⟨ρ, h, d, ds, r, q, qs, p⟩ := hh
  match ds, qs, p with
  | [], _, p => exact (p : False).elim
  | [e], qs, p =>
    obtain ⟨w, rfl, qw⟩ := relAll1 qs
    have p' : Post X.K T E cls ρ H (GD X.K Q) (match lstD h d with | some (k, xs) => (match lstD' h e with | some ys => if xs.length + ys.length ≤ LIM then .ok .non (h.set k (.lst (xs ++ ys))) else .no | none => .no) | none => .no) := p
    cases hl : lstD h d with
    | none => rw [hl] at p'; exact (p' : False).elim
    | some kx =>
      obtain ⟨k, ys⟩ := kx
      rw [hl] at p'
      have p' : Post X.K T E cls ρ H (GD X.K Q) (match lstD' h e with | some zs => if ys.length + zs.length ≤ LIM then .ok .non (h.set k (.lst (ys ++ zs))) else .no | none => .no) := p'
      cases hm : lstD' h e with
      | none => rw [hm] at p'; exact (p' : False).elim
      | some zs =>
        rw [hm] at p'
        have p' : Post X.K T E cls ρ H (GD X.K Q) (if ys.length + zs.length ≤ LIM then .ok .non (h.set k (.lst (ys ++ zs))) else .no) := p'
        split at p'
        case isTrue hz =>
          obtain ⟨a, vs, rfl, hk, q1, q2⟩ := lstD_of r q hl
          obtain ⟨b, ws, rfl, q3, q4⟩ := lst'_of r qw hm
          exact mt_extend pins s σ H _ _ v us Q I rx rv ⟨a, b, vs, ws, rfl, rfl, q1, q4, by rw [← q2.length, ← q3.length, ← lim_eq]; exact hz, p' ρ _ (Ext.write r hk (q2.append q3)) _ .non⟩
        case isFalse => exact (p' : False).elim
  | d1 :: e :: f, _, p => exact (p : False).elim
theorem me_pop : MtR X "list.pop" (rMe X.K T E cls .pop) := by
  intro pins s σ H x xs v us Q I rx rv hh
  obtain ⟨ρ, h, d, ds, r, q, qs, p⟩ := hh
  match ds, qs, p with
  | [], qs, p =>
    cases qs
    have p' : Post X.K T E cls ρ H (GD X.K Q) (match lstD h d with | some (k, xs) => (match xs.getLast? with | some x => .ok x (h.set k (.lst xs.dropLast)) | none => .no) | none => .no) := p
    cases hl : lstD h d with
    | none => rw [hl] at p'; exact (p' : False).elim
    | some kx =>
      obtain ⟨k, ys⟩ := kx
      rw [hl] at p'
      simp only at p'
      split at p'
      case h_1 z hz =>
        obtain ⟨a, vs, rfl, hk, q1, q2⟩ := lstD_of r q hl
        rw [List.getLast?_eq_getElem?] at hz
        obtain ⟨w, e1, e2⟩ := q2.get hz
        have E1 := Ext.write r hk q2.dropLast
        exact mt_pop pins s σ H _ _ v us Q I rx rv ⟨a, vs, w, rfl, rfl, q1, by rw [← q2.length]; exact e1, p' ρ _ E1 _ (e2.ext E1 r)⟩
      case h_2 => exact (p' : False).elim
  | [e], _, p => exact (p : False).elim
  | d1 :: e :: f, _, p => exact (p : False).elim
end
end PI
namespace PI
open PySem L2
theorem PE.weak {X : Cx} {e : Expr} {t t' : TE} (p : PE X e t) (k : ∀ σ H Q, t' σ H Q → t σ H Q) : PE X e t' := ⟨fun pins s σ H Q I h => p.run pins s σ H Q I (k σ H Q h)⟩
theorem PT.weak {X : Cx} {e : Expr} {t t' : TT} (p : PT X e t) (k : ∀ σ H Q, t' σ H Q → t σ H Q) : PT X e t' := ⟨fun pins s σ H Q I h => p.run pins s σ H Q I (k σ H Q h)⟩
theorem PW.weak {X : Cx} {e : Expr} {t t' : TT} (p : PW X e t) (k : ∀ σ H Q, t' σ H Q → t σ H Q) : PW X e t' := ⟨fun wh pins s σ H Q I h => p.run wh pins s σ H Q I (k σ H Q h)⟩
theorem PA.weak {X : Cx} {e : List Expr} {t t' : TA} (p : PA X e t) (k : ∀ σ H Q, t' σ H Q → t σ H Q) : PA X e t' := ⟨fun ps pins s σ H Q I h => p.run ps pins s σ H Q I (k σ H Q h)⟩
theorem PO.weak {X : Cx} {e : Option Expr} {t t' : TO} (p : PO X e t) (k : ∀ σ H Q, t' σ H Q → t σ H Q) : PO X e t' := ⟨fun pins s σ H Q I h => p.run pins s σ H Q I (k σ H Q h)⟩
theorem PI.weak {X : Cx} {tg e : Expr} {t t' : TI} (p : L2.PI X tg e t) (k : ∀ σ H Q, t' σ H Q → t σ H Q) : L2.PI X tg e t' := ⟨fun pins s σ H Q I h => p.run pins s σ H Q I (k σ H Q h)⟩
theorem PS.weak {X : Cx} {e : Stmt} {t t' : TS} (p : PS X e t) (k : ∀ D σ H, t' D σ H → t D σ H) : PS X e t' := ⟨fun pins s σ H D I h => p.run pins s σ H D I (k D σ H h)⟩
theorem PSs.weak {X : Cx} {e : List Stmt} {t t' : TS} (p : PSs X e t) (k : ∀ D σ H, t' D σ H → t D σ H) : PSs X e t' := ⟨fun pins s σ H D I h => p.run pins s σ H D I (k D σ H h)⟩

section
variable (K : PySem.W.Frag) (T : List (Addr × Str)) (E : XK) (cls : Nat → Addr) (c : Cal)
def tG {α : Type} (f : Fr → Hs → R α) (σ : L2.St) (H : Hp) (G : List Addr → Hs → Hp → α → Prop) : Prop := ∃ ρ h δ, HRel K T ρ h H ∧ FrRel K ρ H δ σ ∧ Post K T E cls ρ H G (f δ h)
def tE (e : PI.E) : TE := fun σ H Q => tG K T E cls (evE c e) σ H (GD K Q)
def tEs (e : Es) : TA := fun σ H Q => tG K T E cls (evEs c e) σ H (GL K Q)
def GB {α : Type} (Q : α → Hp → Prop) : List Addr → Hs → Hp → α → Prop := fun _ _ H d => Q d H
def tT (e : PI.T) : TT := fun σ H Q => tG K T E cls (evT c e) σ H (GB Q)
def tOE (e : OE) : TO := fun σ H Q => tG K T E cls (evOE c e) σ H (GB Q)
def GLst (H0 : Hp) (Q : VK) : List Addr → Hs → Hp → List D → Prop := fun ρ _ H ds => ∀ a vs, Nu H0 a → a ∉ ρ → H a = some (.lst vs) → RelAll K ρ H ds vs → Q (.ref a) H
def tL (e : PI.L) : TE := fun σ H Q => tG K T E cls (evL c e) σ H (GLst K H Q)
/-- what is gone over: the items as they come -/
def WalkI (ρ0 : List Addr) (H0 : Hp) (it : IT) (J : It) : Prop := ∃ (G : Hp → Prop) (Y : Nat → Hp → V → Hp → Prop), Walk J it.items.length G Y ∧
  ∀ ρ h H, Ext K T ρ0 H0 ρ h H → gOk it.gs h = true → G H ∧ ∀ i x H', i < it.items.length → Y i H x H' → ∃ d, it.items[i]? = some d ∧ Ext K T ρ H ρ h H' ∧ Rel K ρ H' d x
def GI (R : It → Hp → Prop) : List Addr → Hs → Hp → IT → Prop := fun ρ _ H it => ∀ J, WalkI K T ρ H it J → R J H
def tI (e : PI.I) : TI := fun σ H R => tG K T E cls (evI c e) σ H (GI K T R)
end

section
variable {X : Cx} {T : List (Addr × Str)} {E : XK} {cls : Nat → Addr} {c : Cal} {ρ : List Addr} {h : Hs} {H : Hp} {Q : VK}
/-- one step, then the rest -/
theorem tG.bind {K : PySem.W.Frag} {α β : Type} {f : Fr → Hs → R α} {g : α → Fr → Hs → R β} {σ : L2.St} {H : Hp} {G : List Addr → Hs → Hp → β → Prop}
    (p : tG K T E cls (fun δ h => (f δ h).bind fun x h1 => g x δ h1) σ H G) :
    tG K T E cls f σ H (fun ρ h H1 x => ∃ δ, HRel K T ρ h H1 ∧ FrRel K ρ H1 δ σ ∧ Post K T E cls ρ H1 G (g x δ h)) := by
  obtain ⟨ρ, h, δ, r, f', p⟩ := p
  exact ⟨ρ, h, δ, r, f', (Post.bind p).mono fun ρ1 h1 H1 x e q => ⟨δ, e.rel, f'.ext e r, q⟩⟩
theorem tG.mono {K : PySem.W.Frag} {α : Type} {f : Fr → Hs → R α} {σ : L2.St} {H : Hp} {G G' : List Addr → Hs → Hp → α → Prop} (p : tG K T E cls f σ H G) (k : ∀ ρ h H1 x, HRel K T ρ h H1 → G ρ h H1 x → G' ρ h H1 x) : tG K T E cls f σ H G' := by
  obtain ⟨ρ, h, δ, r, f', p⟩ := p
  exact ⟨ρ, h, δ, r, f', p.mono fun ρ1 h1 H1 x e q => k _ _ _ _ e.rel q⟩
theorem tG.of {K : PySem.W.Frag} {α : Type} {f : Fr → Hs → R α} {σ : L2.St} {H : Hp} {G : List Addr → Hs → Hp → α → Prop} {δ : Fr} (r : HRel K T ρ h H) (q : FrRel K ρ H δ σ) (p : Post K T E cls ρ H G (f δ h)) : tG K T E cls f σ H G := ⟨ρ, h, δ, r, q, p⟩
/-- a step whose answer is worth nothing more: (r.bind f) with f pure upon the values -/
theorem sn_var {i : Nat} {x : Str} {pos : Pos} (hN : X.N[i]? = some x) (hv : Vis X.env.scope x) (hd : (x == ("__debug__" : Str)) = false) (hcd : (x == ("__classdict__" : Str)) = false) : PE X (.Name x pos) (tE X.K T E cls c (.var i)) := by
  refine PE.weak (pe_var (i := i) hN hv hd hcd) fun σ H Q p => ?_
  obtain ⟨ρ, h, δ, r, f, p⟩ := p
  have p' : Post X.K T E cls ρ H (GD X.K Q) (match δ[i]? with | some (some d) => .ok d h | _ => .no) := p
  split at p'
  case h_1 d hd =>
    obtain ⟨v, e1, e2⟩ := f.2 i d hd
    exact ⟨v, e1, Post.ok r p' _ e2⟩
  case h_2 => exact (p' : False).elim
theorem sn_con {d : D} {v : V} {x : Expr} (hx : PE X x (tC v)) (hr : ∀ ρ H, Rel X.K ρ H d v) : PE X x (tE X.K T E cls c (.con d)) := by
  refine PE.weak hx fun σ H Q p => ?_
  obtain ⟨ρ, h, δ, r, f, p⟩ := p
  exact Post.ok r p _ (hr _ _)
theorem sn_glob {i : Nat} {d : D} {v : V} {x : Expr} (hc : c.con[i]? = some d) (hx : PE X x (tC v)) (hr : ∀ ρ H, Rel X.K ρ H d v) : PE X x (tE X.K T E cls c (.glob i)) := by
  refine PE.weak hx fun σ H Q p => ?_
  obtain ⟨ρ, h, δ, r, f, p⟩ := p
  have p' : Post X.K T E cls ρ H (GD X.K Q) (match c.con[i]? with | some d => .ok d h | none => .no) := p
  rw [hc] at p'
  exact Post.ok r p' _ (hr _ _)
variable {a b e : PI.E} {x y z : Expr} {pos : Pos}
theorem sn_bin {op : BO} (ha : PE X x (tE X.K T E cls c a)) (hb : PE X y (tE X.K T E cls c b)) : PE X (.BinOp x op.op y pos) (tE X.K T E cls c (.bin op a b)) := by
  refine PE.weak (pe_op (op_bin (T := T) (E := E) (cls := cls) op) ha hb) fun σ H Q p => ?_
  refine (tG.bind (f := evE c a) (g := fun x δ h1 => (evE c b δ h1).bind fun y h2 => binD op x y h2) p).mono fun ρ1 h1 H1 d1 r1 q v1 l1 => ?_
  obtain ⟨δ, r, f, q⟩ := q
  exact tG.of r f ((Post.bind q).mono fun ρ2 h2 H2 d2 e2 q v2 l2 => ⟨ρ2, h2, d1, d2, e2.rel, l1.ext e2 r, l2, q⟩)
theorem sn_neg (ha : PE X x (tE X.K T E cls c a)) : PE X (.UnaryOp .USub x pos) (tE X.K T E cls c (.neg a)) := by
  refine PE.weak (pe_un un_neg ha) fun σ H Q p => ?_
  refine (tG.bind (f := evE c a) (g := fun x δ h1 => negR x h1) p).mono fun ρ1 h1 H1 d1 r1 q v1 l1 => ?_
  obtain ⟨δ, r, f, q⟩ := q
  cases l1 with
  | int i => exact ⟨i, rfl, Post.ok r q _ (.int _)⟩
  | _ => exact (q : False).elim
theorem sn_not (ha : PE X x (tE X.K T E cls c a)) : PE X (.UnaryOp .Not x pos) (tE X.K T E cls c (.notV a)) := by
  refine PE.weak (pe_not ha) fun σ H Q p => ?_
  refine (tG.bind (f := evE c a) (g := fun x δ h1 => notR x h1) p).mono fun ρ1 h1 H1 d1 r1 q v1 l1 => ?_
  obtain ⟨δ, r, f, q⟩ := q
  cases l1 with
  | bl i => exact ⟨i, rfl, Post.ok r q _ (.bl _)⟩
  | _ => exact (q : False).elim
theorem sn_cmp {op : CO} (hu : X.A.units + 64 < cLine) (hm : behindInMarks op.op y = false) (ha : PE X x (tE X.K T E cls c a)) (hb : PE X y (tE X.K T E cls c b)) : PE X (.Compare x [op.op] [y] pos) (tE X.K T E cls c (.cmp op a b)) := by
  refine PE.weak (pe_cmpR (op_cmp (T := T) (E := E) (cls := cls) hu op) ha hb hm) fun σ H Q p => ?_
  refine (tG.bind (f := evE c a) (g := fun x δ h1 => (evE c b δ h1).bind fun y h2 => cmpD op x y h2) p).mono fun ρ1 h1 H1 d1 r1 q v1 l1 => ?_
  obtain ⟨δ, r, f, q⟩ := q
  exact tG.of r f ((Post.bind q).mono fun ρ2 h2 H2 d2 e2 q v2 l2 => ⟨ρ2, h2, d1, d2, e2.rel, l1.ext e2 r, l2, q⟩)
theorem sn_chain {o1 o2 : CO} {d : PI.E} (hu : X.A.units + 64 < cLine) (hm : lastMarks [o1.op, o2.op] [y, z] = false) (ha : PE X x (tE X.K T E cls c a)) (hb : PE X y (tE X.K T E cls c b)) (hd : PE X z (tE X.K T E cls c d)) :
    PE X (.Compare x [o1.op, o2.op] [y, z] pos) (tE X.K T E cls c (.chain o1 o2 a b d)) := by
  refine PE.weak (pe_chain (op_cmp (T := T) (E := E) (cls := cls) hu o1) (op_cmp (T := T) (E := E) (cls := cls) hu o2) ha hb hd hm) fun σ H Q p => ?_
  refine (tG.bind (f := evE c a) (g := fun x δ h1 => (evE c b δ h1).bind fun y h2 => (cmpD o1 x y h2).bind fun z h3 => andK (fun h3 => (evE c d δ h3).bind fun u h4 => cmpD o2 y u h4) z h3) p).mono fun ρ1 h1 H1 d1 r1 q v1 l1 => ?_
  obtain ⟨δ, r, f, q⟩ := q
  refine tG.of r f ((Post.bind q).mono fun ρ2 h2 H2 d2 e2 q v2 l2 => ⟨ρ2, h2, d1, d2, e2.rel, l1.ext e2 r, l2, ?_⟩)
  refine (Post.bind q).mono fun ρ3 h3 H3 d3 e3 q v3 l3 => ?_
  cases l3 with
  | bl k =>
    refine ⟨k, rfl, ?_⟩
    cases k with
    | true =>
      refine iteT (tG.of e3.rel (f.ext (e2.trans e3) r) ((Post.bind q).mono fun ρ4 h4 H4 d4 e4 q v4 l4 => ⟨ρ4, h4, d2, d4, e4.rel, (l2.ext e3 e2.rel).ext e4 e3.rel, l4, q⟩))
    | false => exact iteF (Post.ok e3.rel q _ (.bl _))
  | _ => exact (q : False).elim
theorem sn_and {rest : List Expr} (ha : PE X x (tE X.K T E cls c a)) (hb : PE X (.BoolOp .And (y :: rest) pos) (tE X.K T E cls c b)) : PE X (.BoolOp .And (x :: y :: rest) pos) (tE X.K T E cls c (.andV a b)) := by
  refine PE.weak (pe_and ha hb) fun σ H Q p => ?_
  refine (tG.bind (f := evE c a) (g := fun x δ h1 => andK (fun h1 => evE c b δ h1) x h1) p).mono fun ρ1 h1 H1 d1 r1 q v1 l1 => ?_
  obtain ⟨δ, r, f, q⟩ := q
  cases l1 with
  | bl k =>
    refine ⟨k, rfl, ?_⟩
    cases k with
    | true => exact iteT (tG.of r f q)
    | false => exact iteF (Post.ok r q _ (.bl _))
  | _ => exact (q : False).elim
theorem sn_or {rest : List Expr} (ha : PE X x (tE X.K T E cls c a)) (hb : PE X (.BoolOp .Or (y :: rest) pos) (tE X.K T E cls c b)) : PE X (.BoolOp .Or (x :: y :: rest) pos) (tE X.K T E cls c (.orV a b)) := by
  refine PE.weak (pe_or ha hb) fun σ H Q p => ?_
  refine (tG.bind (f := evE c a) (g := fun x δ h1 => orK (fun h1 => evE c b δ h1) x h1) p).mono fun ρ1 h1 H1 d1 r1 q v1 l1 => ?_
  obtain ⟨δ, r, f, q⟩ := q
  cases l1 with
  | bl k =>
    refine ⟨k, rfl, ?_⟩
    cases k with
    | true => exact iteT (Post.ok r q _ (.bl _))
    | false => exact iteF (tG.of r f q)
  | _ => exact (q : False).elim
theorem sn_ite {t : PI.T} {k : Expr} (ht : PT X k (tT X.K T E cls c t)) (ha : PE X x (tE X.K T E cls c a)) (hb : PE X y (tE X.K T E cls c b)) : PE X (.IfExp k x y pos) (tE X.K T E cls c (.ite t a b)) := by
  refine PE.weak (pe_ifExp ht ha hb) fun σ H Q p => ?_
  refine (tG.bind (f := evT c t) (g := fun x δ h1 => iteK (fun h1 => evE c a δ h1) (fun h1 => evE c b δ h1) x h1) p).mono fun ρ1 h1 H1 d1 r1 q => ?_
  obtain ⟨δ, r, f, q⟩ := q
  cases d1 with
  | true => exact iteT (B := tE X.K T E cls c b σ H1 Q) (tG.of (f := evE c a) r f q)
  | false => exact iteF (A := tE X.K T E cls c a σ H1 Q) (tG.of (f := evE c b) r f q)
/-- a display of a tuple: it is known what stands there -/
def tTupN (t : TA) : TE := fun σ H Q => t σ H fun xs H1 => xs.length ≤ sizeLine ∧ ∀ p o, H1 p = none → o.dict = none → Q (.ref p) (upd H1 p (.frz o (.tup xs)))
theorem pe_tupN {es : List Expr} {t : TA} {k : Nat} (h : PA X es t) : PE X (.Tuple es k pos) (tTupN t) := by
  refine ⟨fun pins s σ H Q I hq => ?_⟩
  refine wpAny_Tuple_spliced (thn (h.run pos pins s σ H _ I hq) fun us s1 ⟨xs, H1, I1, r, z, q⟩ => ⟨by rw [← r.length]; exact z, ?_⟩)
  have hf : H1 s1.heap.objs.size = none := I1.hok.fresh (Nat.le_refl _)
  refine ⟨.ref s1.heap.objs.size, _, I1.laid (t' := s1.toks) (o := HO.frz { cls := .type "tuple", data := .seq us.toArray } (.tup xs)) (fun b u e => Heap.get?_push_of_some _ e) (Nat.le_refl _) ?_, rfl, q _ _ hf rfl⟩
  exact ⟨Heap.get?_push_size _ rfl, z, us, r, ⟨_, Heap.get?_push_size _ rfl, rfl, _, rfl⟩⟩
theorem sn_tup {es : Es} {xs : List Expr} {k : Nat} (h : PA X xs (tEs X.K T E cls c es)) : PE X (.Tuple xs k pos) (tE X.K T E cls c (.tup es)) := by
  refine PE.weak (pe_tupN h) fun σ H Q p => ?_
  refine (tG.bind (f := evEs c es) (g := fun xs δ h1 => tupR xs h1) p).mono fun ρ1 h1 H1 ds r1 q vs l1 => ?_
  obtain ⟨δ, r, f, q⟩ := q
  unfold tupR at q
  split at q
  case isTrue hl =>
    refine ⟨by rw [← l1.length, ← lim_eq]; exact hl, fun a o ha ho => ?_⟩
    exact q _ _ (Ext.new_ r ha) _ (.tup (.inl (.inr ⟨o, upd_same⟩)) (fun _ => .inl ⟨o, _, upd_same, ho⟩) (l1.mono (.new_ ha)))
  case isFalse => exact (q : False).elim
theorem back_nu {K : PySem.W.Frag} {ρ ρ' : List Addr} {h h' : Hs} {H H' : Hp} (r : HRel K T ρ h H) (e : Ext K T ρ H ρ' h' H') {a : Addr} (ha : Nu H' a) : Nu H a := fun o hH => by
  by_cases ht : ∃ ps, o = .tbl ps
  · exact ht
  · by_cases hm : a ∈ ρ
    · obtain ⟨l, hl⟩ := e.pre
      obtain ⟨u, q, w⟩ := e.rel.at (a := a) (by rw [hl]; exact List.mem_append_left _ hm)
      obtain ⟨ps, z⟩ := ha _ q
      subst z
      rcases w with ⟨_, z⟩ | ⟨_, z⟩ | ⟨_, _, _, z⟩ <;> cases z
    · exact ha o (e.keep a o hH hm fun ps e => ht ⟨ps, e⟩)
theorem newL_read {l : PI.L} {σ : L2.St} (p : tE X.K T E cls c (.newL l) σ H Q) : tL X.K T E cls c l σ H Q := by
  obtain ⟨ρ, h, δ, r, f, p⟩ := p
  have p' : Post X.K T E cls ρ H (GD X.K Q) ((evL c l δ h).bind newR) := p
  refine ⟨ρ, h, δ, r, f, ?_⟩
  cases he : evL c l δ h with
  | ok ds h1 =>
    rw [he] at p'
    intro ρ1 H1 e a vs n0 np ha l1
    have E1 := Ext.adopt e.rel np ha l1
    have big : Ext X.K T ρ H (ρ1 ++ [a]) (h1 ++ [.lst ds]) H1 := by
      obtain ⟨l', hl'⟩ := e.pre
      refine ⟨⟨l' ++ [a], by rw [hl', List.append_assoc]⟩, fun b hb hn => ?_, e.keep, E1⟩
      rcases List.mem_append.mp hb with z | z
      · exact e.new b z hn
      · rw [List.mem_singleton.mp z]; exact n0
    exact p' _ _ big _ (.ref (by rw [← e.rel.len, List.getElem?_append_right (Nat.le_refl _)]; simp))
  | ex k h1 => rw [he] at p'; exact p'
  | no => rw [he] at p'; exact (p' : False).elim
theorem sn_newL {l : PI.L} (hl : PE X x (tL X.K T E cls c l)) : PE X x (tE X.K T E cls c (.newL l)) :=
  PE.weak hl fun σ H Q p => newL_read p
theorem sn_ix (hu : X.A.units + 64 < cLine) (hs : PlainIx y) (ha : PE X x (tE X.K T E cls c a)) (hb : PE X y (tE X.K T E cls c b)) : PE X (.Subscript x y pos) (tE X.K T E cls c (.ix a b)) := by
  refine PE.weak (pe_ix (ix_any (T := T) (E := E) (cls := cls) hu) ha hb hs) fun σ H Q p => ?_
  refine (tG.bind (f := evE c a) (g := fun x δ h1 => (evE c b δ h1).bind fun y h2 => ixD x y h2) p).mono fun ρ1 h1 H1 d1 r1 q v1 l1 => ?_
  obtain ⟨δ, r, f, q⟩ := q
  exact tG.of r f ((Post.bind q).mono fun ρ2 h2 H2 d2 e2 q v2 l2 => ⟨ρ2, h2, d1, d2, e2.rel, l1.ext e2 r, l2, q⟩)
theorem sn_lix {l : PI.L} {i : Nat} {s : Str} {p2 : Pos} (hs : PlainIx (.Name s p2)) (hl : PE X x (tL X.K T E cls c l)) (hb : PE X (.Name s p2) (tVar i)) : PE X (.Subscript x (.Name s p2) pos) (tE X.K T E cls c (.lix l i)) := by
  refine PE.weak (pe_ix ix_list hl hb hs) fun σ H Q p => ?_
  refine (tG.bind (f := evL c l) (g := fun xs δ h1 => lixR δ[i]? xs h1) p).mono fun ρ1 h1 H1 ds r1 q a vs n0 np ha l1 => ?_
  obtain ⟨δ, r, f, q⟩ := q
  unfold lixR at q
  split at q
  case h_2 => exact (q : False).elim
  case h_1 j hj =>
    obtain ⟨v, e1, e2⟩ := f.2 i _ hj
    cases e2
    refine ⟨_, e1, ?_⟩
    have q' : Post X.K T E cls ρ1 H1 (GD X.K Q) (match atI ds j with | some d => .ok d h1 | none => .no) := q
    cases hd : atI ds j with
    | none => rw [hd] at q'; exact (q' : False).elim
    | some d =>
      rw [hd] at q'
      obtain ⟨w, hw, rw_⟩ := l1.atI hd
      exact ⟨a, vs, j, w, rfl, rfl, SqL.of ha, hw, Post.ok r q' _ rw_⟩
theorem sn_newD : PE X (.Dict [] [] pos) (tE X.K T E cls c .newD) := by
  refine PE.weak pe_dnewK fun σ H Q p => ?_
  obtain ⟨ρ, h, δ, r, f, p⟩ := p
  have p' : Post X.K T E cls ρ H (GD X.K Q) (.ok (.ref h.length) (h ++ [.dct []])) := p
  intro a ha
  exact p' _ _ (Ext.pushD r ha .nil) _ (.ref (by rw [← r.len, List.getElem?_append_right (Nat.le_refl _)]; simp))
theorem sn_fmt (ha : PE X x (tE X.K T E cls c a)) : PE X (.FormattedValue x (-1) none pos) (tE X.K T E cls c (.fmt a)) := by
  refine PE.weak (pe_fmt ha) fun σ H Q p => ?_
  refine (tG.bind (f := evE c a) (g := fun x δ h1 => fmtD x h1) p).mono fun ρ1 h1 H1 d1 r1 q v1 l1 => ?_
  obtain ⟨δ, r, f, q⟩ := q
  unfold fmtD at q
  cases l1 with
  | str s =>
    simp only at q
    split at q
    case isTrue hl => exact .inl ⟨s, rfl, by rw [← lim_eq]; exact hl, Post.ok r q _ (.str _)⟩
    case isFalse => exact (q : False).elim
  | int i =>
    simp only at q
    split at q
    case isTrue hl => exact .inr ⟨i, rfl, hl, Post.ok r q _ (.str _)⟩
    case isFalse => exact (q : False).elim
  | _ => exact (q : False).elim
/-- the parts of an f-string -/
def tsJ (K : PySem.W.Frag) (T : List (Addr × Str)) (E : XK) (cls : Nat → Addr) (c : Cal) : Es → List TE
  | .nil => []
  | .cons e r => tE K T E cls c e :: tsJ K T E cls c r
  | .star _ _ => []
def noStarEs : Es → Bool
  | .nil => true
  | .cons _ r => noStarEs r
  | .star _ _ => false
theorem js_read {K : PySem.W.Frag} : ∀ (es : Es) (acc : Str) (σ : L2.St) (H : Hp) (Q : VK), noStarEs es = true → tG K T E cls (fun δ h => evJ c es acc δ h) σ H (GD K Q) → tJs (tsJ K T E cls c es) acc σ H fun out H1 => Q (.str out) H1
  | .nil, acc, σ, H, Q, _, p => by
    obtain ⟨ρ, h, δ, r, f, p⟩ := p
    exact Post.ok r p _ (.str _)
  | .star _ _, acc, σ, H, Q, n, p => by cases n
  | .cons e es, acc, σ, H, Q, n, p => by
    have p' : tG K T E cls (fun δ h => (evE c e δ h).bind fun x h1 => partK (fun acc h1 => evJ c es acc δ h1) acc x h1) σ H (GD K Q) := p
    show tE K T E cls c e σ H _
    refine (tG.bind (f := evE c e) (g := fun x δ h1 => partK (fun acc h1 => evJ c es acc δ h1) acc x h1) p').mono fun ρ1 h1 H1 d1 r1 q v1 l1 => ?_
    obtain ⟨δ, r, f, q⟩ := q
    unfold partK at q
    cases l1 with
    | str s =>
      simp only at q
      split at q
      case isTrue hl => exact ⟨s, rfl, by rw [← lim_eq]; exact hl, js_read es (acc ++ s) σ H1 Q n ⟨ρ1, h1, δ, r, f, q⟩⟩
      case isFalse => exact (q : False).elim
    | _ => exact (q : False).elim
theorem sn_jstr {v1 v2 : Expr} {rest : List Expr} {es : Es} (n : noStarEs es = true) (h : PJ X (v1 :: v2 :: rest) (tsJ X.K T E cls c es)) : PE X (.JoinedStr (v1 :: v2 :: rest) pos) (tE X.K T E cls c (.jstr es)) :=
  PE.weak (pe_joined h) fun σ H Q p => js_read es Str.empty σ H Q n p
theorem strs_ofJ {ρ : List Addr} {H : Hp} : ∀ {ds : List D} {vs : List V} {ss : List Str}, RelAll X.K ρ H ds vs → strs? ds = some ss → vs = ss.map V.str
  | _, _, _, .nil, e => by cases e; rfl
  | _, _, _, .cons (.str b) q, e => by
    obtain ⟨r, h1, rfl⟩ := Option.map_eq_some_iff.mp (show (strs? _).map (b :: ·) = some _ from e)
    rw [strs_ofJ q h1]; rfl
  | _, _, _, .cons .non q, e => by cases e
  | _, _, _, .cons (.bl _) q, e => by cases e
  | _, _, _, .cons (.int _) q, e => by cases e
  | _, _, _, .cons (.tup _ _ _) q, e => by cases e
  | _, _, _, .cons (.frz _ _) q, e => by cases e
  | _, _, _, .cons (.ref _) q, e => by cases e
theorem sn_join {apos : Pos} (hbase : attributeBase x "join" X.env (eval x X.env) = eval x X.env) (hl : (apos.endLine == pos.line) = true) (hs : starEach [y] X.env = [(false, eval y X.env)]) (ha : PE X x (tE X.K T E cls c a)) (hb : PE X y (tE X.K T E cls c b)) :
    PE X (.Call (.Attribute x "join" apos) [y] [] pos) (tE X.K T E cls c (.join a b)) := by
  refine PE.weak (pe_join ha hb hs hbase hl) fun σ H Q p => ?_
  refine (tG.bind (f := evE c a) (g := fun x δ h1 => strK (fun h1 => (evE c b δ h1).bind fun y h2 => joinD x y h2) x h1) p).mono fun ρ1 h1 H1 d1 r1 q v1 l1 => ?_
  obtain ⟨δ, r, f, q⟩ := q
  cases l1 with
  | str z =>
    refine ⟨⟨z, rfl⟩, ?_⟩
    have q : Post X.K T E cls ρ1 H1 (GD X.K Q) ((evE c b δ h1).bind fun y h2 => joinD (.str z) y h2) := q
    refine tG.of r f ((Post.bind q).mono fun ρ2 h2 H2 d2 e2 q v2 l2 => ?_)
    have q : Post X.K T E cls ρ2 H2 (GD X.K Q) (match seqD h2 d2 with
      | some xs => (match strs? xs with
        | some ss => if (ss.map fun t => t.length).sum + ss.length * z.length ≤ LIM then .ok (.str (Txt.join z ss)) h2 else .no
        | none => .no)
      | none => .no) := q
    cases hx : seqD h2 d2 with
    | none => rw [hx] at q; exact (q : False).elim
    | some xs =>
      rw [hx] at q
      have q : Post X.K T E cls ρ2 H2 (GD X.K Q) (match strs? xs with
        | some ss => if (ss.map fun t => t.length).sum + ss.length * z.length ≤ LIM then .ok (.str (Txt.join z ss)) h2 else .no
        | none => .no) := q
      cases hy : strs? xs with
      | none => rw [hy] at q; exact (q : False).elim
      | some ss =>
        rw [hy] at q
        have q : Post X.K T E cls ρ2 H2 (GD X.K Q) (if (ss.map fun t => t.length).sum + ss.length * z.length ≤ LIM then .ok (.str (Txt.join z ss)) h2 else .no) := q
        split at q
        case isFalse => exact (q : False).elim
        case isTrue hz =>
          obtain ⟨p2, vs, rfl, hq, rel⟩ := l2.sq e2.rel hx
          have e := strs_ofJ rel hy
          subst e
          exact ⟨z, p2, ss, rfl, rfl, hq, hz, Post.ok e2.rel q _ (.str _)⟩
  | _ => exact (q : False).elim
theorem sn_split {apos : Pos} (hbase : attributeBase x "split" X.env (eval x X.env) = eval x X.env) (hl : (apos.endLine == pos.line) = true) (hs : starEach [y] X.env = [(false, eval y X.env)]) (ha : PE X x (tE X.K T E cls c a)) (hb : PE X y (tE X.K T E cls c b)) :
    PE X (.Call (.Attribute x "split" apos) [y] [] pos) (tE X.K T E cls c (.split a b)) := by
  refine PE.weak (pe_split ha hb hs hbase hl) fun σ H Q p => ?_
  refine (tG.bind (f := evE c a) (g := fun x δ h1 => strK (fun h1 => (evE c b δ h1).bind fun y h2 => splitD x y h2) x h1) p).mono fun ρ1 h1 H1 d1 r1 q v1 l1 => ?_
  obtain ⟨δ, r, f, q⟩ := q
  cases l1 with
  | str z =>
    refine ⟨⟨z, rfl⟩, ?_⟩
    have q : Post X.K T E cls ρ1 H1 (GD X.K Q) ((evE c b δ h1).bind fun y h2 => splitD (.str z) y h2) := q
    refine tG.of r f ((Post.bind q).mono fun ρ2 h2 H2 d2 e2 q v2 l2 => ?_)
    cases l2 with
    | str t =>
      have q : Post X.K T E cls ρ2 H2 (GD X.K Q) (if (t.length == 0) = false ∧ z.length + 2 ≤ LIM then .ok (.ref h2.length) (h2 ++ [.lst ((Txt.split z t).map .str)]) else .no) := q
      split at q
      case isFalse => exact (q : False).elim
      case isTrue hz =>
        refine ⟨z, t, rfl, rfl, hz.1, by rw [← lim_eq]; exact hz.2, fun p2 hp => ?_⟩
        have rel : ∀ ss : List Str, RelAll X.K ρ2 H2 (ss.map D.str) (ss.map V.str) := fun ss => by
          induction ss with
          | nil => exact .nil
          | cons s r ih => exact .cons (.str s) ih
        exact GD.push e2.rel (rel _) q hp
    | _ => exact (q : False).elim
  | _ => exact (q : False).elim
theorem sn_star {es : Es} {xs : List Expr} {sp : Pos} (ha : PE X x (tE X.K T E cls c a)) (hb : PA X xs (tEs X.K T E cls c es)) : PA X (.Starred x sp :: xs) (tEs X.K T E cls c (.star a es)) := by
  refine PA.weak (StX.pa_star ha hb) fun σ H Q p => ?_
  refine (tG.bind (f := evE c a) (g := fun x δ h1 => starK (fun h1 => evEs c es δ h1) x h1) p).mono fun ρ1 h1 H1 d1 r1 q v1 l1 => ?_
  obtain ⟨δ, r, f, q⟩ := q
  unfold starK at q
  split at q
  case h_2 => exact (q : False).elim
  case h_1 xs hx =>
    obtain ⟨p2, vs, rfl, hq, rel⟩ := l1.sq r hx
    refine ⟨p2, vs, rfl, hq.symm, ?_⟩
    exact tG.of r f ((Post.bind q).mono fun ρ2 h2 H2 ds e2 q ws l2 => Post.ok e2.rel q _ ((rel.ext e2 r).append l2))
theorem sn_none : PO X none (tOE X.K T E cls c .none) := by
  refine PO.weak po_none fun σ H Q p => ?_
  obtain ⟨ρ, h, δ, r, f, p⟩ := p
  exact Post.ok r p
theorem sn_some (ha : PE X x (tE X.K T E cls c a)) : PO X (some x) (tOE X.K T E cls c (.some a)) := by
  refine PO.weak (po_some ha) fun σ H Q p => ?_
  refine (tG.bind (f := evE c a) (g := fun x δ h1 => partR x h1) p).mono fun ρ1 h1 H1 d1 r1 q v1 l1 => ?_
  obtain ⟨δ, r, f, q⟩ := q
  cases l1 with
  | int i => exact ⟨i, rfl, Post.ok r q⟩
  | _ => exact (q : False).elim
theorem sn_sl {lo hi : OE} {xl xh : Option Expr} {p2 : Pos} (ha : PE X x (tE X.K T E cls c a)) (hl : PO X xl (tOE X.K T E cls c lo)) (hh : PO X xh (tOE X.K T E cls c hi)) : PE X (.Subscript x (.Slice xl xh none p2) pos) (tE X.K T E cls c (.sl a lo hi)) := by
  refine PE.weak (pe_slice (sl_any (T := T) (E := E) (cls := cls)) ha hl hh) fun σ H Q p => ?_
  refine (tG.bind (f := evE c a) (g := fun x δ h1 => (evOE c lo δ h1).bind fun l h2 => (evOE c hi δ h2).bind fun u h3 => slD x l u h3) p).mono fun ρ1 h1 H1 d1 r1 q v1 l1 => ?_
  obtain ⟨δ, r, f, q⟩ := q
  refine tG.of r f ((Post.bind q).mono fun ρ2 h2 H2 o1 e2 q => ?_)
  exact tG.of e2.rel (f.ext e2 r) ((Post.bind q).mono fun ρ3 h3 H3 o2 e3 q => ⟨ρ3, h3, d1, e3.rel, (l1.ext e2 r).ext e3 e2.rel, q⟩)
theorem sn_nil : PA X [] (tEs X.K T E cls c .nil) := by
  refine PA.weak pa_nil fun σ H Q p => ?_
  obtain ⟨ρ, h, δ, r, f, p⟩ := p
  exact Post.ok r p _ .nil
theorem sn_cons {es : Es} {xs : List Expr} (hs : starEach (x :: xs) X.env = (false, eval x X.env) :: starEach xs X.env) (ha : PE X x (tE X.K T E cls c a)) (hb : PA X xs (tEs X.K T E cls c es)) : PA X (x :: xs) (tEs X.K T E cls c (.cons a es)) := by
  refine PA.weak (pa_cons ha hb hs) fun σ H Q p => ?_
  refine (tG.bind (f := evE c a) (g := fun x δ h1 => (evEs c es δ h1).bind fun xs h2 => .ok (x :: xs) h2) p).mono fun ρ1 h1 H1 d1 r1 q v1 l1 => ?_
  obtain ⟨δ, r, f, q⟩ := q
  exact tG.of r f ((Post.bind q).mono fun ρ2 h2 H2 ds e2 q vs l2 => Post.ok e2.rel q _ (.cons (l1.ext e2 r) l2))

/-! ### tests -/
theorem tru_read (σ : L2.St) (H : Hp) (Q : Bool → Hp → Prop) (p : tT X.K T E cls c (.of a) σ H Q) : tE X.K T E cls c a σ H fun x H' => ∃ k, TruV X.K x H' k ∧ Q k H' := by
  refine (tG.bind (f := evE c a) (g := fun x δ h1 => truR x h1) p).mono fun ρ1 h1 H1 d1 r1 q v1 l1 => ?_
  obtain ⟨δ, r, f, q⟩ := q
  unfold truR at q
  cases ht : truD d1 h1 with
  | none => simp only [ht] at q; exact (q : False).elim
  | some b =>
    simp only [ht] at q
    exact ⟨b, tru_d r l1 ht, Post.ok r q⟩
theorem sn_of (hw : ∀ (whole : Sem Value), isTrue x X.env whole = do let v ← whole; standAt x.pos; holding [v] (truthy v)) (ha : PE X x (tE X.K T E cls c a)) : PT X x (tT X.K T E cls c (.of a)) :=
  PT.weak (pt_truth ha hw) fun σ H Q p => tru_read σ H Q p
variable {t u : PI.T}
theorem sn_tnot (ht : PT X x (tT X.K T E cls c t)) : PT X (.UnaryOp .Not x pos) (tT X.K T E cls c (.not t)) := by
  refine PT.weak (pt_not ht) fun σ H Q p => ?_
  refine (tG.bind (f := evT c t) (g := fun x δ h1 => .ok (!x) h1) p).mono fun ρ1 h1 H1 d1 r1 q => ?_
  obtain ⟨δ, r, f, q⟩ := q
  exact q ρ1 H1 (Ext.refl r)
theorem tand_read {σ : L2.St} {H : Hp} {Q : Bool → Hp → Prop} (p : tT X.K T E cls c (.and t u) σ H Q) : tAnd (tT X.K T E cls c t) (tT X.K T E cls c u) σ H Q := by
  refine (tG.bind (f := evT c t) (g := fun x δ h1 => iteK (fun h1 => evT c u δ h1) (fun h1 => .ok false h1) x h1) p).mono fun ρ1 h1 H1 d1 r1 q => ?_
  obtain ⟨δ, r, f, q⟩ := q
  cases d1 with
  | true => exact iteT (B := Q false H1) (tG.of (f := evT c u) r f q)
  | false => exact iteF (A := tT X.K T E cls c u σ H1 Q) (q ρ1 H1 (Ext.refl r))
theorem tor_read {σ : L2.St} {H : Hp} {Q : Bool → Hp → Prop} (p : tT X.K T E cls c (.or t u) σ H Q) : tOr (tT X.K T E cls c t) (tT X.K T E cls c u) σ H Q := by
  refine (tG.bind (f := evT c t) (g := fun x δ h1 => iteK (fun h1 => .ok true h1) (fun h1 => evT c u δ h1) x h1) p).mono fun ρ1 h1 H1 d1 r1 q => ?_
  obtain ⟨δ, r, f, q⟩ := q
  cases d1 with
  | true => exact iteT (B := tT X.K T E cls c u σ H1 Q) (q ρ1 H1 (Ext.refl r))
  | false => exact iteF (A := Q true H1) (tG.of (f := evT c u) r f q)
/-- of a BoolOp the whole is not asked -/
theorem pw_of_pt {op : PySem.BoolOp} {xs : List Expr} {tt : TT} (h : PT X (.BoolOp op xs pos) tt) : PW X (.BoolOp op xs pos) tt := ⟨fun whole pins s σ H Q I q => by
  have e : isTrue (.BoolOp op xs pos) X.env whole = isTrue (.BoolOp op xs pos) X.env (eval (.BoolOp op xs pos) X.env) := by
    cases op <;> rfl
  rw [e]
  exact h.run pins s σ H Q I q⟩
theorem sn_tand {rest : List Expr} (ha : PT X x (tT X.K T E cls c t)) (hb : PT X (.BoolOp .And (y :: rest) pos) (tT X.K T E cls c u)) : PT X (.BoolOp .And (x :: y :: rest) pos) (tT X.K T E cls c (.and t u)) :=
  (PW.weak (pw_and ha (pw_of_pt hb)) fun _ _ _ p => tand_read p).pt
theorem sn_tor {rest : List Expr} (ha : PT X x (tT X.K T E cls c t)) (hb : PT X (.BoolOp .Or (y :: rest) pos) (tT X.K T E cls c u)) : PT X (.BoolOp .Or (x :: y :: rest) pos) (tT X.K T E cls c (.or t u)) :=
  (PW.weak (pw_or ha (pw_of_pt hb)) fun _ _ _ p => tor_read p).pt
theorem sn_tand1 (ha : PT X x (tT X.K T E cls c t)) (hb : PT X y (tT X.K T E cls c u)) : PT X (.BoolOp .And [x, y] pos) (tT X.K T E cls c (.and t u)) :=
  (PW.weak (pw_and ha (pw_and1 hb)) fun _ _ _ p => tand_read p).pt
theorem sn_tor1 (ha : PT X x (tT X.K T E cls c t)) (hb : PT X y (tT X.K T E cls c u)) : PT X (.BoolOp .Or [x, y] pos) (tT X.K T E cls c (.or t u)) :=
  (PW.weak (pw_or ha (pw_or1 hb)) fun _ _ _ p => tor_read p).pt
end
end PI
namespace PI
open PySem PySem.Spec PyProof.Rows L2 HotX
/-! ### walking a list while an exception is handled -/
section
variable {prog : Program} {w : World} {A : Around} {E : Value → Shared → Prop} {s : Shared}
theorem hot_next_end {it l x1 : Addr} {i : Nat} {items : Array Value} {Q : Option Value → Shared → Prop} (hot : HotAt A x1 s.heap) (nx : x1 ≠ it) (hit : s.heap.IsListIter it l i) (hl : s.heap.IsList l items) (hx : items[i]? = none)
    (hQ : ∀ h' : Heap, (∀ b o, b ≠ it → s.heap.get? b = some o → h'.get? b = some o) → Q none { s with heap := h' }) : wpAny (model prog w) A (pyNext (.ref it)) Q E s := by
  obtain ⟨hand, ox, fx, gx, dx, cx⟩ := hot
  have ty := hit.typeIs
  obtain ⟨oi, gi, ci, di⟩ := hit
  obtain ⟨oq, gq, _, nq, dq⟩ := hl
  unfold pyNext
  refine wpAny_bind (wpAny_attempt (wpAny_callSpecial?_slot (name := Str.ofString "__next__") ty slot_listiter_next (wpAny_call_entry slot_listiter_next ty entry_listiter_next ?goal (args_listiter_next _))))
  show wpAny _ _ (field (.ref it) 0 >>= _) _ _ s
  refine wpAny_bind (wpAny_field gi di (x := .ref l) rfl ?_)
  show wpAny _ _ (if (Value.ref l == Value.none) = true then _ else _) _ _ s
  rw [if_neg (by show ¬ (Value.ref l == Value.none) = true; exact Bool.false_ne_true)]
  show wpAny _ _ (field (.ref it) 1 >>= _) _ _ s
  refine wpAny_bind (wpAny_field gi di (x := .int i 0) rfl ?_)
  show wpAny _ _ (seqItems? (.ref l) >>= _) _ _ s
  refine wpAny_bind (wpAny_seqItems gq dq ?_)
  simp only [Int.toNat_natCast, hx]
  refine wpAny_bind (wpAny_rule (wpAny_bind (wpAny_setField gi di (by simp) ?_)))
  show wpAny _ _ (newExc (.type "StopIteration") [] >>= _) _ _ _
  have kx : ∀ (f : Obj → Obj) (a b : Obj), (((s.heap.update it f).push a).push b).get? x1 = some ox := fun f a b =>
    Heap.get?_push_of_some _ (Heap.get?_push_of_some _ (by rw [Heap.get?_update_other _ _ (Ne.symm nx)]; exact gx))
  refine wpAny_bind ?_
  simp only [newExc, newTuple]
  refine wpAny_bind (wpAny_newObj_type ?_ (by size_fits))
  refine wpAny_bind (m := firstArgMember _ _) (wpAny_of_eq (a := Value.none) (by first | rfl | (simp only [firstArgMember]; rfl)) ?_)
  refine wpAny_newObj_type ?_ (by size_fits)
  refine raiseNew_hot ⟨hand, ox, fx, kx _ _ _, dx, cx⟩ (Nat.ne_of_lt (Heap.lt_size (Heap.get?_push_of_some _ (by rw [Heap.get?_update_other _ _ (Ne.symm nx)]; exact gx)))) (Heap.get?_push_size _ rfl) rfl
    (by first | (simp; done) | (simp; omega) | (simp only [Array.size_append]; simp; omega)) ?_
  refine wpAny_bind (wpAny_isInstance (T := "StopIteration") (b := true) ⟨_, Heap.get?_update_self _ (Heap.get?_push_size _ rfl) rfl, rfl⟩ isSubtype_stop ?_)
  refine wpAny_pure (hQ _ fun b o ne e => ?_)
  have kb : ∀ (f : Obj → Obj) (a : Obj), ((s.heap.update it f).push a).get? b = some o := fun f a => Heap.get?_push_of_some _ (by rw [Heap.get?_update_other _ _ (Ne.symm ne)]; exact e)
  rw [Heap.get?_update_other _ _ (Nat.ne_of_gt (Heap.lt_size (kb _ _)))]
  exact Heap.get?_push_of_some _ (kb _ _)
end
/-- the exception that is handled stands so in h -/
def XAt (x1 : Addr) (ox : Obj) (h : Heap) : Prop := h.get? x1 = some ox
theorem walks_hot {prog : Program} {w : World} {A : Around} {x1 : Addr} {ox : Obj} {fx : Array Value} (hand : A.handled = some (.ref x1)) (dx : ox.data = .fields fx) (cx : fx[2]? = some .none) (I l : Addr) (ne : l ≠ I) (nx : x1 ≠ I) (items : Array Value) :
    Walks prog w A I [I, l, x1] [I] items.size (fun i v => items[i]? = some v) (fun i h => h.IsListIter I l i ∧ h.IsList l items ∧ h.get? x1 = some ox) where
  sub b hb := by
    have e : b = I := by simpa using hb
    simp [e]
  frame i h h' st k := ⟨st.1.at fun o e => k I (by simp) o e, st.2.1.at fun o e => k l (by simp) o e, k x1 (by simp) _ st.2.2⟩
  item i s Q E hi st hQ := by
    refine wpAny_pyNext_list_item st.1 st.2.1 (x := items[i]) (by simp [hi]) fun h2 it2 sb => ?_
    exact hQ _ h2 s.toks (by simp [hi]) ⟨it2, st.2.1.extBut sb.extBut ne, sb.extBut _ _ nx st.2.2⟩ fun b o hb e => sb.extBut b o (fun z => hb (by simp [z])) e
  done s Q E st hQ := hot_next_end ⟨hand, ox, fx, st.2.2, dx, cx⟩ nx st.1 st.2.1 (by simp) fun h2 k => hQ h2 s.toks fun b o hb e => k b o (fun z => hb (by simp [z])) e
  self i s Q E st hQ := wpAny_pyIter_listiter st.1 hQ
section
variable {X : Cx}
/-- the sum of a list of ints -/
theorem hot_sum (hc : L2H.HotC X) : CallR X (.builtin "sum") (rSum X.K) := by
  intro pins s σ H vs us Q I r h
  obtain ⟨a, ns, rfl, hs, q⟩ := h
  obtain ⟨its, rv, hl, _⟩ := I.list hs
  rw [Vals.ref1 r]
  obtain ⟨x1, hand, ox, fx, gx, dx, cx⟩ := hc.at I
  obtain ⟨xs, e⟩ := rv.ints.allInts.items
  have hn : numsOf (intItems xs).toList = ns := by rw [← e]; exact rv.ints.numsOf
  rw [nums_intItems] at hn
  have hl2 : s.heap.IsList a (intItems xs) := by rw [← e]; exact hl.isList
  refine call_sum_walkG (iter_intList hl2 fun s2 e2 st hfp ne => ?_)
  subst e2
  have x1lt := Heap.lt_size gx
  refine ⟨_, _, _, _, _, _, numAt xs, rfl, walks_hot (A := X.A.in1) hand dx cx _ a ne (Nat.ne_of_lt x1lt) (intItems xs), ⟨st.1, st.2, Heap.get?_push_of_some _ gx⟩, fun b hb => ?_, (fun _ _ => intItems_at), fun h2 tk t2 k => ?_⟩
  · rcases List.mem_cons.mp hb with z | hb
    · exact hfp b (by rw [z]; simp)
    rcases List.mem_cons.mp hb with z | hb
    · exact hfp b (by rw [z]; simp)
    · rw [List.mem_singleton.mp hb]
      exact Heap.lt_size (Heap.get?_push_of_some _ gx)
  · have e3 : preSum (numAt xs) (intItems xs).size = ns.sum := by
      rw [show (intItems xs).size = xs.size by simp [intItems], preSum_eq, List.take_of_length_le (by simp), hn]
    rw [e3]
    exact ⟨.int _, H, I.kept (old_kept k), ⟨_, rfl⟩, q⟩
theorem there_of {P : Program} {w : World} {H : Hp} {h : Heap} {a : Addr} {o : HO} (x : ObjOk P w H h a o) : ∃ u, h.get? a = some u := by
  cases o with
  | lst _ => obtain ⟨_, _, _, _, e⟩ := x; exact ⟨_, e⟩
  | tup _ => obtain ⟨_, _, _, u, e, _⟩ := x; exact ⟨u, e⟩
  | dK _ => obtain ⟨_, _, _, _, u, _, _, e, _⟩ := x; exact ⟨u, e⟩
  | dT _ => obtain ⟨_, _, _, _, u, _, _, e, _⟩ := x; exact ⟨u, e⟩
  | set _ _ => obtain ⟨u, _, _, _, e, _⟩ := x; exact ⟨u, e⟩
  | ins _ _ _ => obtain ⟨_, _, _, e, _⟩ := x; exact ⟨_, e⟩
  | own _ => obtain ⟨u, e⟩ := x; exact ⟨u, e⟩
  | xd _ => obtain ⟨_, ⟨u, _, _, e, _⟩, _⟩ := x; exact ⟨u, e⟩
  | rng _ _ => obtain ⟨_, _, _, e⟩ := x; exact ⟨_, e⟩
  | frz u _ => obtain ⟨e, _⟩ := x; exact ⟨u, e⟩
  | tbl _ => exact ⟨_, (show h.get? a = some _ from x)⟩
  | met _ _ => exact ⟨_, (show h.get? a = some _ from x)⟩
  | ext _ => obtain ⟨_, ⟨u, e⟩, _⟩ := x; exact ⟨u, e⟩
/-- a new object where none stood -/
theorem laid_none {pins : List (Addr × Obj)} {σ : L2.St} {H : Hp} {s : Shared} {h2 : Heap} {a : Addr} {o : HO} {t2 : Nat} (I : Inv X pins σ H s) (k : ∀ b u, s.heap.get? b = some u → h2.get? b = some u) (hg : s.heap.get? a = none)
    (new : ObjOk X.prog X.w (upd H a o) h2 a o) : H a = none ∧ Inv X pins σ (upd H a o) { s with heap := h2, toks := t2 } := by
  have hn : H a = none := by
    cases e : H a with
    | none => rfl
    | some q =>
      obtain ⟨u, z⟩ := there_of (I.hok a q e)
      rw [hg] at z
      cases z
  have far : ∀ {b : Addr} {q : HO}, H b = some q → upd H a o b = some q := fun {b q} e => by
    rw [upd_ne (ne_of_none e hn)]
    exact e
  refine ⟨hn, I.un ⟨fun b u e _ _ _ => k b u e, fun b u e _ _ _ => ⟨u.slots, k b u e⟩, fun b u e n _ => ?_, fun b u e _ => ⟨u, k b u e⟩, fun b xs e => far e, fun b u xs e => far e, fun b ps e => ⟨#[], by rw [far e]; simp⟩⟩ fun b u e => ?_⟩
  · have nb : b ≠ a := fun z => by
      rw [z, hg] at e
      cases e
    rw [upd_ne nb]
    exact n
  · by_cases hb : b = a
    · rw [hb, upd_same] at e
      cases e
      rw [hb]
      exact new
    · rw [upd_ne hb] at e
      exact (I.hok b u e).stay (fun c v _ q => k c v q) (fun c q => far q) fun c xs q => far q
def bit (b : Bool) : Int := if b then 1 else 0
theorem paired_bits : ∀ {bs : List Bool} {ys : List Value}, Paired (fun v y => ∃ (b : Bool) (t : Tok), v = Value.bool b ∧ y = Value.int (bit b) t) (bs.map Value.bool) ys → Vals (bs.map fun b => V.int (bit b)) ys
  | [], _, h => by
    cases h
    exact .nil
  | b :: bs, _, h => by
    cases h with
    | cons p q =>
      obtain ⟨c, t, e1, e2⟩ := p
      cases e1
      exact .cons ⟨t, e2⟩ (paired_bits q)
/-- [int(x) for x in xs], xs a list of bools -/
theorem hot_ints (hc : L2H.HotC X) {iter : Expr} {x : Str} {px p q r pos : Pos} {scope : Scope} {ta : TE} (hi : PE X iter ta) (hfree : ∀ y ∈ scope.names, y.2 ≠ .free) (hcell : ∀ y ∈ scope.names, y.2 ≠ .cell) (hkind : scope.kind = .function)
    (hnames : ∀ y ∈ scope.names, y.2 = .local → scope.names.lookup y.1 = some .local) (hx : scope.names.lookup x = some .local) (hint : scope.names.lookup ("int" : Str) = some .globalImplicit) (hm : X.mg "int" = none) (hd : (x == ("__debug__" : Str)) = false)
    (hs : ∀ z, foldedSetIterable iter X.env z = pure z) :
    PE X (.ListComp (.Call (.Name "int" p) [.Name x q] [] r) [⟨.Name x px, iter, [], 0⟩] scope pos)
      (fun σ H Q => ta σ H fun v H1 => ∃ (a : Addr) (bs : List Bool), v = .ref a ∧ SqL X.K H1 a (bs.map V.bl) ∧ bs.length ≤ sizeLine ∧ ∀ D, H1 D = none → Q (.ref D) (upd H1 D (.lst (bs.map fun b => V.int (bit b))))) := by
  refine ⟨fun pins s σ H Q I h => ?_⟩
  refine wpAny_ListComp_walk (fun _ => true) (fun v y => ∃ (b : Bool) (t : Tok), v = Value.bool b ∧ y = Value.int (bit b) t) hfree hcell hkind hnames hx (thn (hi.run pins s σ H _ I h) fun u s1 ⟨v, H1, I1, r1, q1⟩ => ?_) hs
  obtain ⟨a, bs, rfl, hS, hl, q⟩ := q1
  cases r1
  obtain ⟨its, rv, hL, hz⟩ := I1.list hS
  have eits : its = bs.map Value.bool := Vals.bls rv
  obtain ⟨x1, hand, ox, fx, gx, dx, cx⟩ := hc.at I1
  refine wpAny_pyIter_list hL.isList ?_
  have lt1 := Heap.lt_size gx
  have lt2 : a < s1.heap.objs.size := by
    obtain ⟨_, e, _⟩ := hL.isList
    exact Heap.lt_size e
  refine ⟨_, _, _, _, _, _, rfl, walks_hot (A := X.A) hand dx cx s1.heap.objs.size a (Nat.ne_of_lt lt2) (Nat.ne_of_lt lt1) its.toArray, by simpa [eits] using hl, ⟨⟨_, Heap.get?_push_size _ rfl, rfl, rfl⟩, hL.isList.push _, Heap.get?_push_of_some _ gx⟩, fun b hb => ?_, ⟨fun C i v s3 m3 E' hP hn hm3 k tk => ?_, fun C i v s3 m3 E' hP _ hn hm3 k tk => ?_⟩, fun D h2 tk ys vs hD hL2 hP2 hlen hP hF k => ?_⟩
  · show b < (s1.heap.push _).objs.size
    rw [Heap.size_push]
    have hb : b = s1.heap.objs.size ∨ b = a ∨ b = x1 := by simpa using hb
    rcases hb with z | z | z
    · rw [z]; exact Nat.lt_succ_self _
    · rw [z]; exact Nat.lt_succ_of_lt lt2
    · rw [z]; exact Nat.lt_succ_of_lt lt1
  · exact wpAny_tests_nil ⟨rfl, _, _, rfl, fun _ _ e => e⟩
  · obtain ⟨b, hb⟩ : ∃ b, v = Value.bool b := by
      have hP : its.toArray[i]? = some v := hP
      rw [eits] at hP
      simp at hP
      rcases hP with ⟨_, e⟩ | ⟨_, e⟩
      · exact ⟨_, e.symm⟩
      · exact ⟨_, e.symm⟩
    subst hb
    obtain ⟨mb, g1, g2⟩ := I1.mod.blt
    have kb : ∀ b o, X.base.get? b = some o → s3.heap.get? b = some o := fun b o e => k b o (fun z => by
      have z : b = s1.heap.objs.size := by simpa using z
      exact Nat.ne_of_lt (Heap.lt_size (I1.bk b o e)) z) (Heap.get?_push_of_some _ (I1.bk b o e))
    refine Call_ (Calls.Name_function_global hkind hint (Calls.loadGlobal_builtin (by show s3.heap.Ns X.env.globals X.mg; rw [I1.ok.glob]; exact I1.mod.glob.keeps kb) hm (by show s3.heap.Ns X.env.builtins mb; rw [I1.ok.blt]; exact g1.keeps kb) ((g2 "int" (by decide)).trans (show bootBuiltins ("int" : Str) = some (.type "int") from rfl)) ?_) (by decide))
    refine PyProof.Rows.callWith_type1 ?_
    refine Calls.spliced_cons (wpAny_Name (wpAny_loadName_local hkind hx hn hm3 (Calls.spliced_nil ?_)) hd)
    exact call_int_bool ⟨⟨b, _, rfl, rfl⟩, _, _, rfl, fun _ _ e => e⟩
  · have e1 : vs = bs.map Value.bool := by
      refine List.ext_getElem? fun j => ?_
      rcases Nat.lt_or_ge j vs.length with hj | hj
      · obtain ⟨v, hv⟩ : ∃ v, vs[j]? = some v := ⟨_, List.getElem?_eq_getElem hj⟩
        have z : its.toArray[j]? = some v := hP j v hv
        rw [hv, ← z, eits]
        simp
      · have z : vs.length = its.toArray.size := hlen
        rw [List.getElem?_eq_none hj, List.getElem?_eq_none (by rw [eits] at z; simp at z; simp; omega)]
    have e2 : vs.filter (fun _ => true) = vs := by simp
    rw [e2, e1] at hF
    obtain ⟨ep, hD2⟩ := hP2
    have nD : s1.heap.get? D = none := by
      cases e : s1.heap.get? D with
      | none => rfl
      | some u =>
        have z : (s1.heap.push { cls := .type "list_iterator", data := .fields #[.ref a, .int 0 0] }).get? D = none := hD
        rw [Heap.get?_push_of_some _ e] at z
        cases z
    obtain ⟨g1, g2⟩ := laid_none (h2 := h2) (t2 := tk) (o := .lst (bs.map fun b => V.int (bit b))) I1 (fun b o e => k b o (fun z => by
      have z : b = s1.heap.objs.size := by simpa using z
      exact Nat.ne_of_lt (Heap.lt_size e) z) (Heap.get?_push_of_some _ e)) nD ⟨by rw [List.length_map]; exact hl, ys.toList, ep, paired_bits hF, by rw [hD2]⟩
    exact ⟨.ref D, _, g2, rfl, q D g1⟩
end
end PI
namespace PI
open PySem PySem.Spec PyProof.Rows L2 HotX
/-! ### a def called within an except suite, at this very state -/
theorem run_hot {CX : CXT} {P : Program} {w : World} {K : PySem.W.Frag} {mg : Str → Option Value} {base : Heap} {k : Nat} {f : Addr} {name qual : Str} {params : Arguments} {body : List Stmt} {scope : Scope} {dV kV doc pm cdv ct oc : Value} {an od : Option Addr}
    {osl : Array (Option Value)} {N ps : List Str} (lk : K.lookup f = some ⟨oc, od, .func (PySem.W.fnOf name qual params body scope dV kV doc pm an cdv ct), osl⟩) (hcd : PySem.W.codeIn K cdv qual = true) (S : FnScope N ps scope)
    {A : Around} {outer : List Env} {s : Shared} {H : Hp} {args : Args} {us : List Value} {vs : List V} {Q : VK} {E : XK} {p : Addr × Obj} (hr : L2H.RoomH (k + 1) A) (hpin : L2H.PinOk outer H s p) (e0 : Env0 P w K mg base A outer s H)
    (hb : BindsTo s (PySem.W.fnOf name qual params body scope dV kV doc pm an cdv ct) args (ps.zip us)) (r : Vals vs us) (hl : vs.length = ps.length)
    (hbody : L2H.RoomH k (A.deeper (envOfC qual scope s.heap.objs.size f cdv)) → ∃ t, PSs (L2H.cxH CX P w K mg base N qual scope f cdv A outer s H E p) body t ∧ t { nx := fun _ H' => Q .non H', rt := Q } (L2.start N vs) H) :
    codeAny (model P w) A (.call (.ref f) args) (CR CX outer P w H s Q E) s := by
  have inK : K.In s.heap := e0.mod.kin.keeps fun b o e => (e0.bs b o e).1
  have noLim : s.heap.NoLimit := e0.mod.nolimit.keeps fun b o e => (e0.bs b o e).1
  refine codeAny_call_function hr.depth (inK _ _ lk) rfl S.co S.gen rfl (PySem.W.codeRec_of inK hcd) (hb _ _ _ _ ?_)
  refine wpAny_newFunctionEnv_cells S.kind (fun ⟨n, v⟩ hy => (S.par n (List.of_mem_zip hy).1).imp id fun q => ⟨q, PySem.W.cellsFrom_some _ _ _ (.inl q)⟩) fun env he s1 x => ?_
  subst he
  refine ⟨noLim.keeps x.toInCall.keep, codeAny_func ?_⟩
  obtain ⟨t, ht, hq⟩ := hbody (hr.deeper _)
  have J : Inv (L2H.cxH CX P w K mg base N qual scope f cdv A outer s H E p) [] (L2.start N vs) H s1 := L2H.inv_startH S hpin e0 hl r x
  refine wpAny_mono (ht.run [] s1 (L2.start N vs) H _ J hq) (fun fl s2 z => ?_) fun _ _ z => z
  cases fl with
  | ret u =>
    obtain ⟨v, σ2, H2, J2, rv, q⟩ := z
    exact ⟨v, H2, J2.os, J2.bare, J2.base, J2.hok, rv, q⟩
  | next =>
    obtain ⟨σ2, H2, J2, q⟩ := z
    exact ⟨.non, H2, J2.os, J2.bare, J2.base, J2.hok, rfl, q⟩
  | brk =>
    obtain ⟨_, _, _, q⟩ := z
    exact (q : False).elim
  | cont =>
    obtain ⟨_, _, _, q⟩ := z
    exact (q : False).elim
section
variable {X : Cx}
/-- isinstance(e, c): e the object of the exception that is pinned -/
theorem hot_isi {a D : Addr} {oe : Obj} (C : ExcC X.K D) (hp : (a, oe) ∈ X.pn) (hz : Zc (.ref D) none oe) (hf : ∃ vs, oe.data = .fields vs) : CallR X (.builtin "isinstance") (rIsE X.K D a) := by
  intro pins s σ H xs us Q I r h
  obtain ⟨c, cv, b, rfl, hcv, e, q⟩ := h
  match r with
  | .cons rx (.cons rt .nil) =>
    cases rx
    rw [hcv _ rt]
    obtain ⟨g, _⟩ := I.pin (a, oe) (List.mem_append_left _ hp)
    obtain ⟨vs, hv⟩ := hf
    have J : PySem.W.InstAt s.heap a oe D none := by
      obtain ⟨c1, d1, t1, sl1⟩ := oe
      obtain ⟨h1, h2⟩ := hz
      have h1 : c1 = .ref D := h1
      have h2 : d1 = none := h2
      have hv : t1 = .fields vs := hv
      rw [h1, h2, hv] at g
      rw [h1, h2, hv]
      exact ⟨g, rfl, rfl, trivial⟩
    exact PySem.W.kia_one (PySem.W.handS_kitx_exc C.hg C.hk C.hs C.hd C.ha C.hn C.ht C.hm) I.kIn J e (fun z => nomatch z) fun tk => ⟨.bl b, H, I.kept (t' := tk) fun _ _ z => z, rfl, q⟩
/-- the same as an expression: the exception in slot i, the class by its name -/
theorem pe_hotIsi {a D : Addr} {oe : Obj} {i : Nat} {x n : Str} {b : Bool} {v : V} {cv : Value} {p q r pos : Pos} (C : ExcC X.K D) (hp : (a, oe) ∈ X.pn) (hz : Zc (.ref D) none oe) (hf : ∃ vs, oe.data = .fields vs) (hx : PE X (.Name x q) (tVar i))
    (hn : PE X (.Name n r) (tC v)) (hv : ∀ u, RelV v u → u = cv) (hk : PySem.W.kitOne X.K (.ref D) cv = some b) (hg : Gl X "isinstance") (hm : X.mg "isinstance" = none) :
    PE X (.Call (.Name "isinstance" p) [.Name x q, .Name n r] [] pos) (fun σ H Q => σ[i]? = some (some (.ref a)) ∧ Q (.bl b) H) :=
  PE.weak (pe_callB (hot_isi C hp hz hf) hg hm rfl (pa_cons hx (pa_cons hn pa_nil))) fun σ H Q ⟨h1, h2⟩ => ⟨_, h1, v, cv, b, rfl, hv, hk, h2⟩
end
end PI
namespace PI
open PySem PySem.Spec PyProof.Rows L2 LamX
/-- the kinds that the laws tell apart -/
def kinds : List Str := ["InvalidNumber", "InvalidRow", "InvalidFormula", "InvalidGraph", "InvalidBlock", "InvalidName", "InvalidValues", "InvalidWay", "InvalidText", "InvalidPass", "InvalidPaper", "NotCounted", "NotOdd", "NotSingle", "NotPlain", "NoLoop", "TooMany", "NothingToUndo"]
/-- what the top says of the class D, the k-th kind -/
structure KindAt (K : PySem.W.Frag) (mg : Str → Option Value) (D : Addr) (k : Nat) : Prop where
  exc : ExcC K D
  lt : k < 18
  cls : ∀ (j : Nat) (nm : Str), kinds[j]? = some nm → ∃ x, mg nm = some (.ref x) ∧ PySem.W.kitOne K (.ref D) (.ref x) = some (decide (j = k))
  val : PySem.W.kitOne K (.ref D) (.type "ValueError") = some true
structure BnAt (mg : Str → Option Value) : Prop where
  isi : mg "isinstance" = none
  int : mg "int" = none
  sum : mg "sum" = none
  val : mg "ValueError" = none
def isk (k j : Nat) : V := .bl (decide (j = k))
theorem isk_sum : ∀ k, k < 18 → (((List.range 18).map fun j => decide (j = k)).map fun b => bit b).sum = 1 := by decide
theorem far {H : Hp} {p b : Addr} {o q : HO} (n : H p = none) (e : H b = some q) : upd H p o b = some q := by
  rw [upd_ne (ne_of_none e n)]
  exact e
/-- the end of the namer: the flags at p, the kinds at r, in the heap G -/
def EndOk (K : PySem.W.Frag) (G : Hp) (p r : Addr) (k : Nat) : Prop := G p = some (.lst (((List.range 18).map fun j => decide (j = k)).map V.bl)) ∧ G r = some (.lst (kinds.map V.str))

/-- the def that names a caught error -/
structure TermAt (K : PySem.W.Frag) (mg : Str → Option Value) : Prop where
  ex : ∃ (f : Addr) (fd : FuncData) (st : Stmt) (N : List Str), mg "_law_term" = some (.ref f) ∧ Fun K "_law_term" "_law_term" st f fd ∧ (∀ us : List Value, us.length = 1 → bindArgs fd ⟨us, []⟩ = pure ((["_law_e"] : List Str).zip us)) ∧ FnScope N ["_law_e"] (defScope st) ∧
    ∀ {CX : CXT} {P : Program} {w : World} {base : Heap} {cdv : Value} {A : Around} {outer : List Env} {s : Shared} {H : Hp} {E : XK} {a D : Addr} {oe : Obj} {k n : Nat}, KindAt K mg D k → L2N.Zn (.ref D) none oe → (∃ vs, oe.data = .fields vs) → L2H.Hot1 A (a, oe) →
      L2H.RoomH n (A.deeper (envOfC "_law_term" (defScope st) s.heap.objs.size f cdv)) →
      ∃ t, PSs (L2H.cxH CX P w K mg base N "_law_term" (defScope st) f cdv A outer s H E (a, oe)) (defBody st) t ∧
        ∀ D : Ends, (∀ (tt : Addr) (nm : Str) (H' : Hp), kinds[k]? = some nm → H tt = none → (∀ b o, H b = some o → H' b = some o) → H' tt = some (.tup [.str "error", .str nm]) → D.rt (.ref tt) H') → t D (L2.start N [.ref a]) H
/-- what is known of an error that is caught: its class, its kind -/
def CauE (K : PySem.W.Frag) (mg : Str → Option Value) (Q : VK) (cls : Value) (d : Option Addr) (H : Hp) : Prop :=
  d = none ∧ ∃ (D FE : Addr) (k : Nat), cls = .ref D ∧ KindAt K mg D k ∧ mg "FlowError" = some (.ref FE) ∧ PySem.W.exmOne K (.ref D) (.ref FE) = some true ∧
    ∀ (tt : Addr) (nm : Str) (H' : Hp), kinds[k]? = some nm → H tt = none → (∀ b o, H b = some o → H' b = some o) → H' tt = some (.tup [.str "error", .str nm]) → Q (.ref tt) H'
/-- the suite's call -/
theorem pe_term {X : Cx} {a : Addr} {oe : Obj} {cls : Value} {d : Option Addr} {pn : List (Addr × Obj)} {k i : Nat} {p q pos : Pos} (TA : TermAt X.K X.mg) (hz : L2N.Zn cls d oe) (hf : ∃ vs, oe.data = .fields vs) (hr : Room (k + 1) X.A)
    (hg : Gl X "_law_term") (hx : PE (X.suite a ((a, oe) :: pn)) (.Name "_law_e" q) (tVar i)) :
    PE (X.suite a ((a, oe) :: pn)) (.Call (.Name "_law_term" p) [.Name "_law_e" q] [] pos) (fun σ H Q => σ[i]? = some (some (.ref a)) ∧ CauE X.K X.mg Q cls d H) := by
  refine ⟨fun pins s σ H Q I h => ?_⟩
  obtain ⟨hs, rfl, D, FE, kk, rfl, Kd, _, _, fin⟩ := h
  obtain ⟨f, fd, st, N, hm, F, hb, S, body⟩ := TA.ex
  have kp := F.kp
  obtain ⟨oc, od, kV, doc, pm, an, cdv, ct, osl, rfl, lk, hcd⟩ := F.ex
  refine wpAny_Call_Name_kw (ld_glob I hg hm ?_ (by decide))
  refine PySem.W.callWith_K (h₀ := X.base) I.ok.mod.kin kp (thn ((pa_cons hx pa_nil).run pos pins s σ H (fun vs H1 => vs = [.ref a] ∧ H1 = H) I ⟨_, hs, rfl, rfl⟩) fun us s1 ⟨vs, H1, I1, r, ev, eH⟩ => ⟨I1.kIn, ?_⟩) rfl rfl
  subst ev
  rw [eH] at I1
  have hl : us.length = 1 := r.length.symm
  have hot : L2H.Hot1 (X.A.mark (some (.ref a))) (a, oe) := ⟨rfl, let ⟨vs, e⟩ := hf; ⟨vs, e, hz.2.2 vs e⟩⟩
  have P1 := I1.pin (a, oe) (List.mem_append_left _ List.mem_cons_self)
  have hpin : L2H.PinOk X.stack H s1 (a, oe) := ⟨P1.1, P1.2.1, fun hm => (List.mem_cons.mp (I1.stkSub a hm)).elim P1.2.2.1 P1.2.2.2.1, P1.2.2.2.2⟩
  have rc := run_hot (CX := C8.CX0) (E := C8.E0) (Q := Q) (N := N) (ps := ["_law_e"]) (vs := [.ref a]) (A := X.A.mark (some (.ref a))) (outer := X.stack) lk hcd S (k := k) ⟨hr.dp, hr.un⟩ hpin I1.env0 (.of_eq (hb us hl)) r rfl fun hr' => by
    obtain ⟨t, ht, hT⟩ := body (CX := C8.CX0) (E := C8.E0) (s := s1) (H := H) (P := X.prog) (w := X.w) (base := X.base) (outer := X.stack) (cdv := cdv) Kd hz hf hot hr'
    exact ⟨t, ht, hT _ fin⟩
  refine wpAny_call (codeAny_mono rc fun r s2 z => ?_)
  cases r with
  | error e => exact (show False from z).elim
  | ok fl =>
    cases fl with
    | ret u => exact I1.after z
    | next => exact (z : False).elim
    | brk => exact (z : False).elim
    | cont => exact (z : False).elim
/-! ### a lambda called, its errors with no context -/
theorem takesN0 {X : Cx} : L2N.Takes X (fun _ _ _ _ => False) := fun _ _ x => by
  obtain ⟨_, _, _, _, _, _, _, _, _, _, _, _, _, _, _, _, z⟩ := x
  exact z.elim
abbrev lamCxN (X : Cx) (A : Around) (outer : List Env) (s : Shared) (H : Hp) (E : XK) (scope : Scope) (f c2 : Addr) : Cx :=
  (lamCx X A outer s H E scope f c2).wish fun e s2 => wpAny (model X.prog X.w) (A.deeper (lamEnv X scope s.heap.objs.size f c2)) (leaving (lamEnv X scope s.heap.objs.size f c2) e) (fun _ s3 => L2N.CX X.prog X.w outer H s E e s3) (fun e3 s3 => L2N.CX X.prog X.w outer H s E e3 s3) s2
theorem pe_deed {X : Cx} {pins : List (Addr × Obj)} {σ : L2.St} {H : Hp} {s : Shared} {CXg : CXT} {Eg : XK} {Ng : List Str} {qg : Str} {sg : Scope} {g f c2 : Addr} {cdg pm ctv : Value} {params : Arguments} {body : Expr} {scope : Scope} {k i : Nat} {a : Str} {pn : List (Addr × Obj)} {xe : Value → Shared → Prop} {W : WX}
    {E : XK} {tb : TE} {p1 p2 : Pos} (I : Inv X pins σ H s) (L : LamS X.env.scope scope) (hf : s.heap.get? f = some (PySem.W.kla_obj "<lambda>" (X.env.qual ++ "<lambda>") params body scope (cloFrom X.env.cells scope.names []) pm c2 ctv)) (hfn : H f = none) (hfr : f ∉ frs X.stack)
    (hbind : bindArgs (PySem.W.kla_fn "<lambda>" (X.env.qual ++ "<lambda>") params body scope (cloFrom X.env.cells scope.names []) pm (.ref c2) ctv) ⟨[], []⟩ = pure [])
    (tk : L2N.Takes ((cxOf CXg X.prog X.w X.K X.mg X.base Ng qg sg g cdg X.A X.stack s H Eg).tr pn xe) W) (hW : ∀ cls d (σ2 : L2.St) H2, σ2.length = Ng.length → E cls d H2 → W cls d σ2 H2) (hr : Room (k + 1) (X.A.deeper (envOfC qg sg s.heap.objs.size g cdg)))
    (hbody : ∀ (A : Around) (outer : List Env) (s : Shared) (H : Hp), Room k (A.deeper (lamEnv X scope s.heap.objs.size f c2)) → PE (lamCxN X A outer s H E scope f c2) body tb)
    (hN : Ng[i]? = some a) (hv : Vis sg a) (hd : (a == ("__debug__" : Str)) = false) (hcd : (a == ("__classdict__" : Str)) = false) :
    PE ((cxOf CXg X.prog X.w X.K X.mg X.base Ng qg sg g cdg X.A X.stack s H Eg).tr pn xe) (.Call (.Name a p1) [] [] p2)
      (fun σZ HZ Q => σZ[i]? = some (some (.ref f)) ∧ HZ c2 = some (CodeO c2 (X.env.qual ++ "<lambda>")) ∧ tb σ HZ Q) := by
  refine ⟨fun pinsZ sZ σZ HZ Q IZ h => ?_⟩
  obtain ⟨hs, hc, ht⟩ := h
  have look := (pe_var (X := (cxOf CXg X.prog X.w X.K X.mg X.base Ng qg sg g cdg X.A X.stack s H Eg).tr pn xe) (pos := p1) (i := i) hN hv hd hcd).run pinsZ sZ σZ HZ (fun v H1 => v = .ref f ∧ H1 = HZ) IZ ⟨.ref f, hs, rfl, rfl⟩
  refine wpAny_Call_Name_kw (thn look fun u s1 ⟨v, H1, I1, r1, ev, eH⟩ => ?_)
  rw [ev] at r1
  rw [eH] at I1
  have eu : u = Value.ref f := r1
  subst eu
  have stands : s1.heap.get? f = some (PySem.W.kla_obj "<lambda>" (X.env.qual ++ "<lambda>") params body scope (cloFrom X.env.cells scope.names []) pm c2 ctv) := I1.base.keep f _ hf hfn hfr (fun z => by cases (show f ∈ ([] : List Addr) from z))
  refine PySem.W.callWith_F0 ⟨_, _, _, _, stands⟩ ?_
  obtain ⟨⟨oc, vs, t, hoc, hdc, hvc⟩, _, _⟩ := I1.hok c2 _ hc
  have rc : codeAny (model X.prog X.w) (X.A.deeper (envOfC qg sg s.heap.objs.size g cdg)) (.call (.ref f) ⟨[], []⟩) (CR (L2N.CX X.prog X.w) (envOfC qg sg s.heap.objs.size g cdg :: X.stack) X.prog X.w HZ s1 Q E) s1 := by
    refine PySem.W.kla_callFunE hr.depth stands rfl L.co L.gen rfl ⟨c2, oc, vs, t, rfl, hoc, hdc, hvc⟩ ?_
    rw [hbind]
    refine wpAny_pure (wpAny_newFunctionEnv (fun y hy => (L.own y hy).2) (fun y hy => absurd hy (by simp)) (fun h1 hns hsb => ⟨I1.nolimit.fresh _ hsb, ?_⟩) L.kind)
    show codeAny _ _ (.expr body (lamEnv X scope s1.heap.objs.size f c2)) _ _
    have kp : ∀ b o, s1.heap.get? b = some o → h1.get? b = some o := fun b o e => hsb.extBut b o (Nat.ne_of_lt (Heap.lt_size e)) (Heap.get?_push_of_some _ e)
    have J : Inv (lamCx X (X.A.deeper (envOfC qg sg s.heap.objs.size g cdg)) (envOfC qg sg s.heap.objs.size g cdg :: X.stack) s1 HZ E scope f c2) [] σ HZ { s1 with heap := h1, toks := s1.toks + ([] : List (Str × Value)).length } :=
      lam_start2 I L I1.env0 hr.hd I1.base hns kp
    refine PySem.W.kla_codeExpr (wpAny_mono ((hbody _ _ s1 HZ (hr.deeper _)).run [] _ _ HZ Q (J.wish _) ht) (fun v s2 ⟨x2, H2, J2, rv, q⟩ => ?_) fun _ _ z => z)
    exact ⟨x2, H2, J2.os, J2.bare, J2.base, J2.hok, rv, q⟩
  refine wpAny_call (codeAny_mono rc fun r s2 z => ?_)
  cases r with
  | error e => exact tk e s2 (L2N.XE.of_call I1 (fun cls d H3 h => hW cls d σZ H3 I1.len h) z)
  | ok fl =>
    cases fl with
    | ret u => exact I1.after z
    | next => exact (z : False).elim
    | brk => exact (z : False).elim
    | cont => exact (z : False).elim
/-- try: return deed() / except FlowError as e: return term(e) -/
structure ToldAt (K : PySem.W.Frag) (mg : Str → Option Value) : Prop where
  ex : ∃ (g : Addr) (fd : FuncData) (st : Stmt) (N : List Str), mg "_law_told" = some (.ref g) ∧ Fun K "_law_told" "_law_told" st g fd ∧ (∀ us : List Value, us.length = 1 → bindArgs fd ⟨us, []⟩ = pure ((["_law_deed"] : List Str).zip us)) ∧ FnScope N ["_law_deed"] (defScope st) ∧
    N[0]? = some ("_law_deed" : Str) ∧ N[1]? = some ("_law_e" : Str) ∧ (defScope st).names.lookup ("_law_deed" : Str) = some .local ∧ (defScope st).names.lookup ("_law_e" : Str) = some .local ∧ (defScope st).names.lookup ("FlowError" : Str) = some .globalImplicit ∧ (defScope st).names.lookup ("_law_term" : Str) = some .globalImplicit ∧
    ∃ p1 p2 p3 p4 p5 p6 p7 p8 p9 p10 : Pos, defBody st = [.Try [.Return (some (.Call (.Name "_law_deed" p1) [] [] p2)) p3] [.ExceptHandler (some (.Name "FlowError" p4)) (some "_law_e") [.Return (some (.Call (.Name "_law_term" p5) [.Name "_law_e" p6] [] p7)) p8] p9] [] [] p10]
  fe : ∃ FE, mg "FlowError" = some (.ref FE)
def tTold (K : PySem.W.Frag) (mg : Str → Option Value) (T : List (Addr × Str)) (t : XK → TE) : TE := fun σ H Q => Tabs T H ∧ ∀ H1, ExtN H H1 → Tabs T H1 → t (CauE K mg Q) σ H1 Q
theorem pe_told {X : Cx} {T : List (Addr × Str)} {c P : Addr} {k : Nat} {params : Arguments} {body : Expr} {scope : Scope} {t : XK → TE} {p lpos pos : Pos} (TA : TermAt X.K X.mg) (TD : ToldAt X.K X.mg) (hg : Gl X "_law_told")
    (TB : TabB X.base X.mg c P) (hcode : X.env.code = .ref c) (hmT : (P, X.env.qual ++ "<lambda>") ∈ T) (hu : ∀ p ∈ T, p.1 = P → p.2 = X.env.qual ++ "<lambda>") (hr : Room (k + 2) X.A) (L : LamS X.env.scope scope) (hdef : defaultsOf params X.env = ([], []))
    (hbind : ∀ (q : Str) (cl : List (Str × Addr)) (pm cv ctv : Value), bindArgs (PySem.W.kla_fn "<lambda>" q params body scope cl pm cv ctv) ⟨[], []⟩ = pure [])
    (hbody : ∀ (A : Around) (outer : List Env) (s : Shared) (H : Hp) (E : XK) (f c2 : Addr), Room k (A.deeper (lamEnv X scope s.heap.objs.size f c2)) → PE (lamCxN X A outer s H E scope f c2) body (t E)) :
    PE X (.Call (.Name "_law_told" p) [.Lambda params body scope lpos] [] pos) (tTold X.K X.mg T t) := by
  refine ⟨fun pins s σ H Q I h => ?_⟩
  obtain ⟨hT, h⟩ := h
  obtain ⟨g, fd, st, N, hm, F, hb, S, n0, n1, l0, l1, gF, gT, p1, p2, p3, p4, p5, p6, p7, p8, p9, p10, hB⟩ := TD.ex
  obtain ⟨FE, hFE⟩ := TD.fe
  have kp := F.kp
  obtain ⟨oc, od, kV, doc, pm, an, cdv, ct, osl, rfl, lk, hcd⟩ := F.ex
  refine wpAny_Call_Name_kw (ld_glob I hg hm ?_ (by decide))
  refine PySem.W.callWith_K (h₀ := X.base) I.ok.mod.kin kp ?_ rfl rfl
  show wpAny _ _ (spliced ((false, eval (.Lambda params body scope lpos) X.env) :: backTo pos (starEach [] X.env))) _ _ s
  refine Calls.spliced_cons (lam_make2 I TB hcode hmT hu hT hdef (L.has I.ok) fun f c2 pm2 ctv H1 s1 I1 eN T1 hf hfn hfr hco => ?_)
  refine Calls.spliced_nil ⟨I1.kIn, ?_⟩
  have rc : codeAny (model X.prog X.w) X.A (.call (.ref g) ⟨[.ref f], []⟩) (CR C8.CX0 X.stack X.prog X.w H1 s1 Q C8.E0) s1 := by
    refine run_ofS (N := N) (ps := ["_law_deed"]) (us := [.ref f]) (vs := [.ref f]) lk hcd S hr I1.env0 (.of_eq (hb [.ref f] rfl)) (.cons rfl .nil) rfl fun hr2 => ?_
    have hz1 : 1 < N.length := (List.getElem?_eq_some_iff.mp n1).1
    have s0 : (L2.start N [V.ref f])[0]? = some (some (V.ref f)) := rfl
    have sl : (L2.start N [V.ref f]).length = N.length := by
      unfold L2.start
      simp
      omega
    rw [hB]
    refine ⟨_, PSs.nox (pss_one (L2N.ps_try_as (X := (cxOf C8.CX0 X.prog X.w X.K X.mg X.base N "_law_told" (defScope st) g cdv X.A X.stack s1 H1 C8.E0).nox) (i := 1) (c := .ref FE)
      (tb := fun W D σ2 H2 => ∃ Ech : XK, (∀ cls d (σ3 : L2.St) H3, σ3.length = N.length → Ech cls d H3 → W cls d σ3 H3) ∧ σ2[0]? = some (some (.ref f)) ∧ H2 c2 = some (CodeO c2 (X.env.qual ++ "<lambda>")) ∧ t Ech σ H2 D.rt)
      rfl rfl S.nd n1 l1 ⟨gF, by decide, .inl hFE⟩ takesN0 (fun W pn xe tk _ => ?_)
      (fun a oe cls d pn hz hfl => pss_one (ps_ret (pe_term (i := 1) TA hz hfl hr2 gT (pe_var (i := 1) n1 (.inl l1) (by decide) (by decide))))))), ?_⟩
    · refine ⟨fun pins2 s2 σ2 H2 D I2 h2 => ?_⟩
      obtain ⟨Ech, hW, h3, h4, h5⟩ := h2
      exact (pss_one (ps_ret (pos := p3) (pe_deed (CXg := C8.CX0) (Eg := C8.E0) (Ng := N) (i := 0) (E := Ech) (p1 := p1) (p2 := p2) I1 L hf hfn hfr (hbind _ _ _ _ _) tk hW hr2 (fun A outer s H hr3 => hbody A outer s H Ech f c2 hr3) n0 (.inl l0) (by decide) (by decide)))).run pins2 s2 σ2 H2 D I2 ⟨h3, h4, h5⟩
    · refine ⟨CauE X.K X.mg Q, fun cls d σ3 H3 l3 ce => ?_, s0, hco, h H1 eN T1⟩
      obtain ⟨e1, D, FE2, kk, e2, e3, e4, e5, e6⟩ := id ce
      have eF : FE2 = FE := by
        rw [hFE] at e4
        cases e4
        rfl
      rw [eF] at e5
      refine ⟨true, by rw [e2]; exact e5, fun _ a _ => ?_, fun z => by cases z⟩
      exact ⟨by rw [List.getElem?_set_self (by omega)], ce⟩
  refine wpAny_call (codeAny_mono rc fun r s2 z => ?_)
  cases r with
  | error e => exact (show False from z).elim
  | ok fl =>
    cases fl with
    | ret u => exact I1.after z
    | next => exact (z : False).elim
    | brk => exact (z : False).elim
    | cont => exact (z : False).elim
end PI
namespace PI
open PySem L2
/-! ### syntax -/
def notStar : Expr → Bool
  | .Starred _ _ => false
  | _ => true
theorem star_cons {e : Expr} {es : List Expr} {env : Env} (h : notStar e = true) : starEach (e :: es) env = (false, eval e env) :: starEach es env := by
  cases e <;> first | rfl | cases h
theorem star_all {env : Env} : ∀ {es : List Expr}, es.all notStar = true → starEach es env = es.map fun e => (false, eval e env)
  | [], _ => rfl
  | e :: es, h => by
    rw [List.all_cons, Bool.and_eq_true] at h
    rw [star_cons h.1, star_all h.2]; rfl
theorem back_none_star {pos : Pos} {env : Env} {es : List Expr} (h : es.all notStar = true) : (backTo pos (starEach es env)).any (·.1) = false := by
  rw [star_all h]
  unfold backTo
  induction es with
  | nil => rfl
  | cons e r ih =>
    rw [List.all_cons, Bool.and_eq_true] at h
    simp only [List.map_cons, List.any_cons, Bool.false_or]
    exact ih h.2
theorem back_all_star {pos : Pos} {env : Env} {es : List Expr} (h : es.all notStar = true) : ((backTo pos (starEach es env)).all fun x => !x.1) = true := by
  rw [star_all h]
  unfold backTo
  induction es with
  | nil => rfl
  | cons e r ih =>
    rw [List.all_cons, Bool.and_eq_true] at h
    simp only [List.map_cons, List.all_cons, Bool.not_false, Bool.true_and]
    exact ih h.2

/-! ### what stands at the top -/
def bnames : List Str := ["len", "tuple", "list", "int", "str", "max", "min", "isinstance", "range", "enumerate", "zip", "all", "any", "sum", "sorted", "set", "bool", "dict"]
def spI (K : PySem.W.Frag) (T : List (Addr × Str)) (cls : Nat → Addr) (pg : Pg) (n i : Nat) : Sp := fun vs H Q E => ∃ ρ h ds, HRel K T ρ h H ∧ RelAll K ρ H ds vs ∧ Post K T E cls ρ H (GD K Q) (callI pg n i ds h)
/-- a global dict with texts as keys -/
structure DicAt (P : Program) (w : World) (K : PySem.W.Frag) (mg : Str → Option Value) (x : Str) (kvs : List (Str × D)) : Prop where
  ex : ∃ (a : Addr) (vs : List (Str × Value)), mg x = some (.ref a) ∧ (a == sysModules) = false ∧ (∀ h, K.In h → h.DictOf (PySem.strKind P w) a vs) ∧ Paired (fun p q => p.1 = q.1 ∧ ∃ v, RelV v q.2 ∧ ∀ ρ H, Rel K ρ H p.2 v) kvs vs
/-- a def of the module, a method of a class -/
def FnAt (K : PySem.W.Frag) (mg : Str → Option Value) (pg : Pg) (i : Nat) (f : Fn) (a : Addr) : Prop := match pg.ow i with
  | none => mg f.name = some (.ref a)
  | some c => ∃ C, PySem.W.nsIn K mainGlobals c = some (some (.ref C)) ∧ Meth K C f.name a ∧ (f.name = "__init__" → Mk K C a)
/-- a class with its attributes -/
structure InsAt (K : PySem.W.Frag) (mg : Str → Option Value) (c : Str) (as : List Str) : Prop where
  ex : ∃ C, PySem.W.nsIn K mainGlobals c = some (some (.ref C)) ∧ mg c = some (.ref C) ∧ Cls K C ∧ (c == ("__debug__" : Str)) = false ∧ ∀ f ∈ as, NoAttr K C f
structure GF (P : Program) (w : World) (K : PySem.W.Frag) (mg : Str → Option Value) (base : Heap) (T : List (Addr × Str)) (cls : Nat → Addr) (pg : Pg) (n : Nat) : Prop where
  fn : ∀ (i : Nat) (f : Fn), pg.fns[i]? = some f → ∃ a fd, FnAt K mg pg i f a ∧ PySem.W.keepIn K (.ref a) = true ∧ Binds K fd f.ps [] ∧ FnOk P w K mg base (L2N.CX P w) n a fd f.ps (spI K T cls pg n i)
  con : ∀ (i : Nat) (x : Str) (d : D), pg.con[i]? = some (x, d) → ∃ v u, mg x = some u ∧ RelV v u ∧ ∀ ρ H, Rel K ρ H d v
  bn : ∀ x ∈ bnames, mg x = none
  dic : ∀ (i : Nat) (x : Str) (kvs : List (Str × D)), pg.dic[i]? = some (x, kvs) → DicAt P w K mg x kvs
  ins : ∀ (c : Str) (as : List Str), (c, as) ∈ pg.ins → InsAt K mg c as
/-! ### deeds, told -/
/-- where lambdas are handed to the def that tells -/
structure LamAt (X : Cx) (T : List (Addr × Str)) (cls : Nat → Addr) (pg : Pg) : Prop where
  term : TermAt X.K X.mg
  told : ToldAt X.K X.mg
  tab : ∃ c P, LamX.TabB X.base X.mg c P ∧ X.env.code = .ref c ∧ (P, X.env.qual ++ "<lambda>") ∈ T ∧ ∀ p ∈ T, p.1 = P → p.2 = X.env.qual ++ "<lambda>"
  kd : ∀ (k : Nat) (s : Str), pg.nm[k]? = some (some s) → ∃ (FE : Addr) (kk : Nat), KindAt X.K X.mg (cls k) kk ∧ kinds[kk]? = some s ∧ X.mg "FlowError" = some (.ref FE) ∧ PySem.W.exmOne X.K (.ref (cls k)) (.ref FE) = some true
structure GX (X : Cx) (T : List (Addr × Str)) (E : XK) (cls : Nat → Addr) (pg : Pg) (n : Nat) (lm : Bool) : Prop where
  gf : GF X.prog X.w X.K X.mg X.base T cls pg n
  gfl : ∀ m, m ≤ n → GF X.prog X.w X.K X.mg X.base T cls pg m
  room : Room n X.A
  nd : X.N.Nodup
  calm : X.calm = true
  pass : Passes (L2N.CX X.prog X.w) X E
  lam : lm = true → LamAt X T cls pg
def cal (pg : Pg) (n : Nat) : Cal := ⟨callL pg n, pg.con.map (·.2), pg.dic.map (·.2), pg.nm⟩
section
variable {X : Cx} {T : List (Addr × Str)} {E : XK} {cls : Nat → Addr} {pg : Pg} {n : Nat} {lm : Bool} {ρ : List Addr} {h : Hs} {H : Hp} {Q : VK} {x y : Expr} {pos p : Pos}
theorem GX.hu (g : GX X T E cls pg n lm) : X.A.units + 64 < cLine := g.room.units
theorem sn_call {i : Nat} {f : Fn} {es : Es} {xs : List Expr} (g : GX X T E cls pg n lm) (hf : pg.fns[i]? = some f) (how : pg.ow i = none) (hg : Gl X f.name) (hs : notStar x = true) (hss : xs.all notStar = true) (hd : (f.name == ("__debug__" : Str)) = false)
    (ha : PA X (x :: xs) (tEs X.K T E cls (cal pg n) es)) : PE X (.Call (.Name f.name p) (x :: xs) [] pos) (tE X.K T E cls (cal pg n) (.call i es)) := by
  obtain ⟨a, fd, hm, hk, hb, F⟩ := g.gf.fn i f hf
  unfold FnAt at hm
  rw [how] at hm
  refine PE.weak (pe_callS (E := fun _ => E) F g.room hg hm hk hb (fun σ pins H s e s' I k => g.pass pins σ H s e s' I k) ha hd (star_cons hs) (back_none_star hss)) fun σ H Q p => ?_
  refine (tG.bind (f := evEs (cal pg n) es) (g := fun xs δ h1 => callI pg n i xs h1) p).mono fun ρ1 h1 H1 ds r1 q vs l1 => ?_
  obtain ⟨δ, r, f', q⟩ := q
  exact ⟨ρ1, h1, ds, r, l1, q⟩
theorem sn_call0 {i : Nat} {f : Fn} (g : GX X T E cls pg n lm) (hf : pg.fns[i]? = some f) (how : pg.ow i = none) (hg : Gl X f.name) (hd : (f.name == ("__debug__" : Str)) = false) : PE X (.Call (.Name f.name p) [] [] pos) (tE X.K T E cls (cal pg n) (.call i .nil)) := by
  obtain ⟨a, fd, hm, hk, hb, F⟩ := g.gf.fn i f hf
  unfold FnAt at hm
  rw [how] at hm
  refine PE.weak (pe_call0 (E := E) (dvs := []) F g.room hg hm hk hb .nil g.pass hd) fun σ H Q p => ?_
  obtain ⟨ρ, h, δ, r, f', p⟩ := p
  exact ⟨ρ, h, [], r, .nil, p⟩

/-! ### built-in functions -/
def Bi.nm : Bi → Str
  | .len => "len" | .tuple => "tuple" | .list => "list" | .int_ => "int" | .str_ => "str" | .max2 => "max" | .min2 => "min" | .dict_ => "dict"
theorem Bi.boot (b : Bi) (hc : X.calm = true) : (∃ id, bootBuiltins b.nm = some (.builtin id) ∧ CallR X (.builtin id) (rBi X.K T E cls b)) ∨ (∃ t, bootBuiltins b.nm = some (.type t) ∧ CallR X (.type t) (rBi X.K T E cls b)) := by
  cases b with
  | len => exact .inl ⟨"len", by decide +kernel, cr_len⟩
  | tuple => exact .inr ⟨"tuple", by decide +kernel, cr_tuple⟩
  | list => exact .inr ⟨"list", by decide +kernel, cr_list hc⟩
  | int_ => exact .inr ⟨"int", by decide +kernel, cr_int⟩
  | str_ => exact .inr ⟨"str", by decide +kernel, cr_str⟩
  | dict_ => exact .inr ⟨"dict", by decide +kernel, cr_dict hc⟩
  | max2 => exact .inl ⟨"max", by decide +kernel, cr_max2 hc⟩
  | min2 => exact .inl ⟨"min", by decide +kernel, cr_min2 hc⟩
theorem Bi.mem (b : Bi) : b.nm ∈ bnames := by cases b <;> decide +kernel
theorem bn_ok {s : Str} (h : s ∈ bnames) : s ≠ "__name__" ∧ (s == ("__debug__" : Str)) = false := by
  have : (bnames.all fun s => decide (s ≠ "__name__") && !(s == ("__debug__" : Str))) = true := by decide +kernel
  have q := List.all_eq_true.mp this s h
  simpa using q
theorem sn_bi {b : Bi} {es : Es} {xs : List Expr} (g : GX X T E cls pg n lm) (hg : Gl X b.nm) (hs : notStar x = true) (hss : xs.all notStar = true)
    (ha : PA X (x :: xs) (tEs X.K T E cls (cal pg n) es)) : PE X (.Call (.Name b.nm p) (x :: xs) [] pos) (tE X.K T E cls (cal pg n) (.bi b es)) := by
  have hm := g.gf.bn _ b.mem
  obtain ⟨h1, h2⟩ := bn_ok b.mem
  have read : ∀ σ H Q, tE X.K T E cls (cal pg n) (.bi b es) σ H Q → tCB (rBi X.K T E cls b) (tEs X.K T E cls (cal pg n) es) σ H Q := fun σ H Q p => by
    refine (tG.bind (f := evEs (cal pg n) es) (g := fun xs δ h1 => biD b xs h1) p).mono fun ρ1 h1 H1 ds r1 q vs l1 => ?_
    obtain ⟨δ, r, f', q⟩ := q
    exact ⟨ρ1, h1, ds, r, l1, q⟩
  rcases b.boot (T := T) (E := E) (cls := cls) g.calm with ⟨id, hb, hr⟩ | ⟨t, hb, hr⟩
  · exact PE.weak (pe_callB hr hg hm hb ha h1 h2 (star_cons hs) (back_none_star hss)) read
  · exact PE.weak (pe_callTy hr hg hm hb ha h1 h2 (star_cons hs) (back_none_star hss)) read
def Ty.py : Ty → Option Str
  | .bool => some "bool" | .int => some "int" | .str => some "str" | .tuple => some "tuple" | .list => some "list" | .dict => some "dict" | .non => none
theorem Ty.boot {t : Ty} {s : Str} (e : t.py = some s) : bootBuiltins s = some (.type t.nm) ∧ s ∈ bnames := by
  cases t <;> cases e <;> exact ⟨by decide +kernel, by decide +kernel⟩
theorem sn_isT {t : Ty} {a : PI.E} {s : Str} {p2 : Pos} (g : GX X T E cls pg n lm) (et : t.py = some s) (hg : Gl X "isinstance") (hg2 : Gl X s) (hs : notStar x = true) (ha : PE X x (tE X.K T E cls (cal pg n) a)) :
    PE X (.Call (.Name "isinstance" p) [x, .Name s p2] [] pos) (tE X.K T E cls (cal pg n) (.isT t a)) := by
  have hm := g.gf.bn "isinstance" (by decide +kernel)
  obtain ⟨b1, b2⟩ := Ty.boot et
  obtain ⟨n1, n2⟩ := bn_ok b2
  have hy : PE X (.Name s p2) (tC (.ty t.nm)) := pe_bltn hg2 (g.gf.bn _ b2) b1 rfl n1 n2
  refine PE.weak (pe_callB call_isi hg hm (by decide +kernel) (pa_cons ha (pa_cons hy pa_nil) (star_cons hs)) (by decide) (by decide) (star_cons hs) rfl) fun σ H Q p => ?_
  refine (tG.bind (f := evE (cal pg n) a) (g := fun x δ h1 => isTD t (tyD h1 x) h1) p).mono fun ρ1 h1 H1 d r1 q v l1 => ?_
  obtain ⟨δ, r, f', q⟩ := q
  cases et2 : tyD h1 d with
  | none => rw [et2] at q; exact (q : False).elim
  | some ty =>
    rw [et2] at q
    exact isi_of r l1 et2 t (Post.ok r q _ (.bl _))

/-! ### .. upon a list just made -/
def Bl.nm : Bl → Option Str
  | .tuple => some "tuple" | .all => some "all" | .any => some "any" | .sum => some "sum" | .len => some "len" | _ => none
theorem Bl.boot {b : Bl} {s : Str} (e : b.nm = some s) (hc : X.calm = true) : s ∈ bnames ∧ ((∃ id, bootBuiltins s = some (.builtin id) ∧ CallR X (.builtin id) (rBl X.K T E cls b)) ∨ (∃ t, bootBuiltins s = some (.type t) ∧ CallR X (.type t) (rBl X.K T E cls b))) := by
  cases b with
  | tuple => cases e; exact ⟨by decide +kernel, .inr ⟨"tuple", by decide +kernel, bl_tuple⟩⟩
  | all => cases e; exact ⟨by decide +kernel, .inl ⟨"all", by decide +kernel, bl_all hc⟩⟩
  | any => cases e; exact ⟨by decide +kernel, .inl ⟨"any", by decide +kernel, bl_any hc⟩⟩
  | sum => cases e; exact ⟨by decide +kernel, .inl ⟨"sum", by decide +kernel, bl_sum hc⟩⟩
  | len => cases e; exact ⟨by decide +kernel, .inl ⟨"len", by decide +kernel, bl_len⟩⟩
  | _ => cases e
theorem sn_bl {b : Bl} {s : Str} {l : PI.L} (g : GX X T E cls pg n lm) (e : b.nm = some s) (hg : Gl X s) (hs : notStar x = true) (ha : PE X x (tL X.K T E cls (cal pg n) l)) : PE X (.Call (.Name s p) [x] [] pos) (tE X.K T E cls (cal pg n) (.bl b l)) := by
  obtain ⟨hmem, hb⟩ := Bl.boot (X := X) (T := T) (E := E) (cls := cls) e g.calm
  have hm := g.gf.bn _ hmem
  obtain ⟨h1, h2⟩ := bn_ok hmem
  have read : ∀ σ H Q, tE X.K T E cls (cal pg n) (.bl b l) σ H Q → tCB (rBl X.K T E cls b) (tCons (tL X.K T E cls (cal pg n) l) tNil) σ H Q := fun σ H Q p => by
    refine (tG.bind (f := evL (cal pg n) l) (g := fun xs δ h1 => blD b xs h1) p).mono fun ρ1 h1 H1 ds r1 q a vs n0 np ha l1 => ?_
    obtain ⟨δ, r, f', q⟩ := q
    exact ⟨ρ1, h1, ds, a, vs, rfl, ha, r, l1, q⟩
  rcases hb with ⟨id, hb, hr⟩ | ⟨t, hb, hr⟩
  · exact PE.weak (pe_callB hr hg hm hb (pa_cons ha pa_nil (star_cons hs)) h1 h2 (star_cons hs) rfl) read
  · exact PE.weak (pe_callTy hr hg hm hb (pa_cons ha pa_nil (star_cons hs)) h1 h2 (star_cons hs) rfl) read

/-! ### methods of lists -/
def baseOk : Expr → Bool
  | .Name _ _ => true
  | .Subscript _ _ _ => true
  | .Constant _ _ _ => true
  | .Attribute _ _ _ => true
  | _ => false
theorem base_ok {o : Expr} {a : Str} {env : Env} (h : baseOk o = true) : attributeBase o a env (eval o env) = eval o env := by
  cases o <;> first | rfl | cases h
/-! ### instances -/
theorem ins_of (r : HRel X.K T ρ h H) {d : D} {v : V} {k : Nat} {c : Str} {fs : List (Str × D)} (q : Rel X.K ρ H d v) (e : insD h c d = some (k, fs)) :
    ∃ a C dx vs, v = .ref a ∧ ρ[k]? = some a ∧ PySem.W.nsIn X.K mainGlobals c = some (some (.ref C)) ∧ H a = some (.ins C dx vs) ∧ RelF X.K ρ H fs vs := by
  cases q with
  | ref hk =>
    unfold insD at e
    simp only at e
    split at e
    case h_1 c' ys hy =>
      split at e
      case isTrue hc =>
        cases e
        subst hc
        obtain ⟨b, e1, q⟩ := r.obj _ _ hy
        rw [hk] at e1
        cases e1
        obtain ⟨C, dx, vs, q0, q1, q2⟩ := q
        exact ⟨_, C, dx, vs, rfl, hk, q0, q1, q2⟩
      case isFalse => cases e
    case h_2 => cases e
  | _ => cases e
theorem ns_one {K : PySem.W.Frag} {c : Str} {C C2 : Addr} (a : PySem.W.nsIn K mainGlobals c = some (some (.ref C))) (b : PySem.W.nsIn K mainGlobals c = some (some (.ref C2))) : C2 = C := by
  rw [a] at b
  cases b
  rfl
theorem sn_attr {c f : Str} {as : List Str} {o : Expr} {a : PI.E} (g : GX X T E cls pg n lm) (hi : (c, as) ∈ pg.ins) (hf : f ∈ as) (hb : baseOk o = true) (ha : PE X o (tE X.K T E cls (cal pg n) a)) : PE X (.Attribute o f pos) (tE X.K T E cls (cal pg n) (.attr c a f)) := by
  obtain ⟨C, n1, hm, cl, hdb, na⟩ := (g.gf.ins c as hi).ex
  refine PE.weak (pe_fld ha (base_ok hb)) fun σ H Q p => ?_
  refine (tG.bind (f := evE (cal pg n) a) (g := fun x δ h1 => attrR c f x h1) p).mono fun ρ1 h1 H1 d r1 q v l1 => ?_
  obtain ⟨δ, r, fr, q⟩ := q
  unfold attrR at q
  split at q
  case h_2 => exact (q : False).elim
  case h_1 k fs hx =>
    obtain ⟨b, C2, dx, vs, rfl, hk, n2, hH, rf⟩ := ins_of r l1 hx
    obtain rfl := ns_one n1 n2
    split at q
    case h_2 => exact (q : False).elim
    case h_1 d2 hd =>
      rcases rf.look (k := f) with ⟨d3, v3, z1, z2, z3⟩ | ⟨z1, z2⟩
      · rw [hd] at z1
        cases z1
        exact ⟨b, _, dx, vs, v3, rfl, hH, cl, na f hf, z2, Post.ok r q _ z3⟩
      · rw [hd] at z1; cases z1
theorem fn1_eq (pg : Pg) (n i : Nat) (xs : List D) (h : Hs) : (cal pg n).fn1 i xs h = callI pg (n - 1) i xs h := by
  match n with
  | 0 => rfl
  | 1 => rfl
  | n + 2 => rfl
theorem wp_meth {M : Model} {A : Around} {E : Value → Shared → Prop} {s : Shared} {env : Env} {o : Expr} {m : Str} {apos pos : Pos} {xs : List Expr} {Q : Value → Shared → Prop} (hb : attributeBase o m env (eval o env) = eval o env)
    (hf : methodCallForm (xs.length + ([] : List Keyword).length) (backTo pos (starEach xs env)) (backToKw pos (keywordEach [] env)) = true) (hl : (apos.endLine == pos.line) = true)
    (h : wpAny M A (eval o env) (fun ov s1 => ∀ pl : Sem Bool, wpAny M A (getMethod ov m pl) (fun fx s2 => wpAny M A (callWith pos fx.1 fx.2 (backTo pos (starEach xs env)) (backToKw pos (keywordEach [] env))) Q E s2) E s1) E s) :
    wpAny M A (eval (.Call (.Attribute o m apos) xs [] pos) env) Q E s := by
  rw [arm_eval_Call, hb]
  refine wpAny_bind (wpAny_mono h (fun ov s1 k => ?_) fun _ _ z => z)
  refine wpAny_bind (wpAny_standAt ?_)
  have at_ : methodCallPos true o env apos pos = pure pos := by
    unfold methodCallPos
    simp [hl]
  unfold methodCall
  rw [hf]
  refine wpAny_bind (wpAny_holding (wpAny_mono (k _) (fun fx s2 q => ?_) fun _ _ z => z))
  exact wpAny_bind (wpAny_of_eq at_ q)
theorem sn_meth {c m : Str} {as : List Str} {i : Nat} {f : Fn} {es : Es} {xs : List Expr} {o : Expr} {a : PI.E} {apos : Pos} (g : GX X T E cls pg n lm) (hi : (c, as) ∈ pg.ins) (hf : pg.fns[i]? = some f) (how : pg.ow i = some c) (hn : f.name = m)
    (hb : baseOk o = true) (hl : (apos.endLine == pos.line) = true) (hss : xs.all notStar = true) (few : xs.length < 29) (hnil : xs = [] → es = .nil) (ho : PE X o (tE X.K T E cls (cal pg n) a)) (ha : PA X xs (tEs X.K T E cls (cal pg n) es)) :
    PE X (.Call (.Attribute o m apos) xs [] pos) (tE X.K T E cls (cal pg n) (.meth c m i a es)) := by
  obtain ⟨C, n1, hm, cl, hdb, na⟩ := (g.gf.ins c as hi).ex
  obtain ⟨fa, fd, at_, hk, hbd, F⟩ := g.gf.fn i f hf
  unfold FnAt at at_
  rw [how] at at_
  obtain ⟨C2, n2, me, _⟩ := at_
  obtain rfl := ns_one n1 n2
  rw [hn] at me
  refine ⟨fun pins s σ H Q I h => ?_⟩
  have q1 : tE X.K T E cls (cal pg n) a σ H (fun x H1 => ∃ b dx vs, x = .ref b ∧ H1 b = some (.ins C2 dx vs) ∧ vs.lookup m = none ∧ tEs X.K T E cls (cal pg n) es σ H1 fun ws H2 => spI X.K T cls pg n i (x :: (ws ++ [])) H2 Q E) := by
    refine (tG.bind (f := evE (cal pg n) a) (g := fun x δ h1 => methG c m (fun h1 => (evEs (cal pg n) es δ h1).bind fun xs h2 => (cal pg n).fn i (x :: xs) h2) x h1) h).mono fun ρ1 h1 H1 d r1 q v l1 => ?_
    obtain ⟨δ, r, fr, q⟩ := q
    unfold methG at q
    split at q
    case h_2 => exact (q : False).elim
    case h_1 k fs hx =>
      obtain ⟨b, C3, dx, vs, rfl, hk, n3, hH, rf⟩ := ins_of r l1 hx
      obtain rfl := ns_one n1 n3
      split at q
      case h_2 => exact (q : False).elim
      case h_1 hd =>
        refine ⟨b, dx, vs, rfl, hH, ?_, ?_⟩
        · rcases rf.look (k := m) with ⟨d3, v3, z1, z2, z3⟩ | ⟨z1, z2⟩
          · rw [hd] at z1; cases z1
          · exact z2
        · refine tG.of r fr ((Post.bind q).mono fun ρ2 h2 H2 ds e2 q ws l2 => ?_)
          show spI X.K T cls pg n i (V.ref b :: (ws ++ [])) H2 Q E
          rw [List.append_nil]
          exact ⟨ρ2, h2, d :: ds, e2.rel, .cons (l1.ext e2 r) l2, q⟩
  have form : methodCallForm (xs.length + ([] : List Keyword).length) (backTo pos (starEach xs X.env)) (backToKw pos (keywordEach [] X.env)) = true := by
    have := back_all_star (pos := pos) (env := X.env) hss
    unfold methodCallForm
    rw [this]
    show (true && decide (xs.length + 0 + 0 < 30)) = true
    rw [decide_eq_true (by omega)]
    rfl
  refine wp_meth (base_ok hb) form hl (thn (ho.run pins s σ H _ I q1) fun u s1 ⟨x, H1, I1, rx, b, dx, vs, ex, eb, ln, q⟩ => fun pl => ?_)
  subst ex
  obtain rfl : u = Value.ref b := rx
  refine getmeth_ok I1 eb cl me ln ?_
  cases xs with
  | nil =>
    obtain rfl := hnil rfl
    obtain ⟨ρ2, h2, δ2, r2, f2, p2⟩ := q
    refine PySem.W.callWith_K0 (first := [.ref b]) I1.kIn me.kp ?_
    have z : spI X.K T cls pg n i (V.ref b :: ([] ++ [])) H1 Q E := Post.ok r2 p2 [] .nil
    exact run_fn (us := [.ref b]) (vs := [.ref b]) F g.room hbd .nil g.pass I1 (.cons rfl .nil) z
  | cons y ys =>
    rw [List.all_cons, Bool.and_eq_true] at hss
    refine PySem.W.callWith_K (first := [.ref b]) (h₀ := X.base) I.ok.mod.kin me.kp (thn (ha.run pos pins s1 σ H1 _ I1 q) fun us s2 ⟨ws, H2, I2, rr, q2⟩ => ⟨I2.kIn, ?_⟩) (star_cons hss.1) (back_none_star hss.2)
    exact run_fn (us := .ref b :: us) (vs := .ref b :: ws) F g.room hbd .nil g.pass I2 (.cons rfl rr) q2
theorem sn_make {c : Str} {as : List Str} {i : Nat} {f : Fn} {es : Es} {xs : List Expr} (g : GX X T E cls pg n lm) (hi : (c, as) ∈ pg.ins) (hf : pg.fns[i]? = some f) (how : pg.ow i = some c) (hn : f.name = "__init__")
    (hg : Gl X c) (hss : xs.all notStar = true) (hnil : xs = [] → es = .nil) (ha : PA X xs (tEs X.K T E cls (cal pg n) es)) :
    PE X (.Call (.Name c p) xs [] pos) (tE X.K T E cls (cal pg n) (.make c i es)) := by
  obtain ⟨C, n1, hm, cl, hdb, na⟩ := (g.gf.ins c as hi).ex
  cases n with
  | zero =>
    obtain ⟨fa, fd, at_, hk, hbd, F⟩ := g.gf.fn i f hf
    unfold FnAt at at_
    rw [how] at at_
    obtain ⟨C2, n2, me, mk⟩ := at_
    obtain rfl := ns_one n1 n2
    have M := mk hn
    refine ⟨fun pins s σ H Q I h => ?_⟩
    have q1 : tEs X.K T E cls (cal pg 0) es σ H fun _ _ => False :=
      (tG.bind (f := evEs (cal pg 0) es) (g := fun xs δ h1 => ((cal pg 0).fn1 i (.ref h1.length :: xs) (h1 ++ [.ins c []])).bind fun v h2 => madeR h1.length v h2) h).mono fun ρ1 h1 H1 ds r1 q vs l1 => by
        obtain ⟨δ, r, fr, q⟩ := q
        rw [fn1_eq] at q
        exact q
    refine wpAny_Call_Name_kw (ld_glob I hg hm ?_ hdb)
    cases xs with
    | nil =>
      obtain rfl := hnil rfl
      obtain ⟨ρ2, h2, δ2, r2, f2, p2⟩ := q1
      exact (Post.ok r2 p2 [] .nil : False).elim
    | cons y ys =>
      rw [List.all_cons, Bool.and_eq_true] at hss
      exact PySem.W.callWith_K (h₀ := X.base) I.ok.mod.kin M.kp (thn (ha.run pos pins s σ H _ I q1) fun us s2 ⟨ws, H2, I2, rr, q2⟩ => q2.elim) (star_cons hss.1) (back_none_star hss.2)
  | succ k =>
    obtain ⟨fa, fd, at_, hk, hbd, F⟩ := (g.gfl k (by omega)).fn i f hf
    unfold FnAt at at_
    rw [how] at at_
    obtain ⟨C2, n2, me, mk⟩ := at_
    obtain rfl := ns_one n1 n2
    have M := mk hn
    refine ⟨fun pins s σ H Q I h => ?_⟩
    have q1 : tEs X.K T E cls (cal pg (k + 1)) es σ H fun vs H1 => ∀ x dx, H1 x = none → H1 dx = none → dx ≠ x → spI X.K T cls pg k i (V.ref x :: (vs ++ [])) (upd (upd H1 dx (.own x)) x (.ins C2 dx [])) (fun v H2 => v = .non ∧ Q (.ref x) H2) E :=
      (tG.bind (f := evEs (cal pg (k + 1)) es) (g := fun (xs : List D) (δ : Fr) (h1 : Hs) => ((cal pg (k + 1)).fn1 i (D.ref h1.length :: xs) (h1 ++ [O.ins c []])).bind fun v h2 => madeR h1.length v h2) (G := GD X.K Q) h).mono fun ρ1 h1 H1 ds r1 q vs l1 => by
        obtain ⟨δ, r, fr, q⟩ := q
        intro x dx hx hdx ne
        have ex := Ext.pushI r hx hdx ne n1
        rw [fn1_eq] at q
        have q : Post X.K T E cls ρ1 H1 (GD X.K Q) ((callI pg k i (.ref h1.length :: ds) (h1 ++ [.ins c []])).bind fun v h2 => madeR h1.length v h2) := q
        rw [List.append_nil]
        have hx' : (ρ1 ++ [x])[h1.length]? = some x := by
          rw [← r.len, List.getElem?_append_right (Nat.le_refl _)]
          simp
        refine ⟨ρ1 ++ [x], h1 ++ [.ins c []], .ref h1.length :: ds, ex.rel, .cons (.ref hx') (l1.ext ex r), (Post.bind (Post.ext ex q)).mono fun ρ2 h2 H2 d e2 q2 v rv => ?_⟩
        unfold madeR at q2
        split at q2
        · cases rv
          exact ⟨rfl, Post.ok e2.rel q2 _ (.ref (e2.at hx'))⟩
        · exact (q2 : False).elim
    refine wpAny_Call_Name_kw (ld_glob I hg hm ?_ hdb)
    cases xs with
    | nil =>
      obtain rfl := hnil rfl
      obtain ⟨ρ2, h2, δ2, r2, f2, p2⟩ := q1
      exact PySem.W.callWith_K0 I.kIn M.kp (run_make (us := []) (vs := []) M F g.room hbd .nil g.pass I .nil (Post.ok r2 p2 [] .nil))
    | cons y ys =>
      rw [List.all_cons, Bool.and_eq_true] at hss
      refine PySem.W.callWith_K (h₀ := X.base) I.ok.mod.kin M.kp (thn (ha.run pos pins s σ H _ I q1) fun us s2 ⟨ws, H2, I2, rr, q2⟩ => ⟨I2.kIn, ?_⟩) (star_cons hss.1) (back_none_star hss.2)
      exact run_make M F g.room hbd .nil g.pass I2 rr q2
def Me.nm : Me → Option Str
  | .append => some "append" | .pop => some "pop" | .extend => some "extend" | _ => none
theorem lst'_of2 (r : HRel X.K T ρ h H) {d : D} {v : V} {xs : List D} (q : Rel X.K ρ H d v) (e : lstD' h d = some xs) : ∃ a vs, v = .ref a ∧ RelAll X.K ρ H xs vs ∧ H a = some (.lst vs) := by
  cases q with
  | ref hk =>
    unfold lstD' at e
    simp only at e
    split at e
    case h_1 ys hy =>
      cases e
      obtain ⟨vs, q1, q2⟩ := r.lst hk hy
      exact ⟨_, vs, rfl, q2, q1⟩
    case h_2 => cases e
  | _ => cases e
theorem me_read {m : Me} {a : PI.E} {es : Es} {σ : L2.St} (p : tE X.K T E cls (cal pg n) (.me m a es) σ H Q) : tBM X.K "list" (rMe X.K T E cls m) (tE X.K T E cls (cal pg n) a) (tEs X.K T E cls (cal pg n) es) σ H Q := by
  refine (tG.bind (f := evE (cal pg n) a) (g := fun x δ h1 => refK (fun h1 => (evEs (cal pg n) es δ h1).bind fun xs h2 => meD m x xs h2) x h1) p).mono fun ρ1 h1 H1 d r1 q v l1 => ?_
  obtain ⟨δ, r, f', q⟩ := q
  unfold refK at q
  split at q
  case h_2 => exact (q : False).elim
  case h_1 xs hx =>
    obtain ⟨a, vs, rfl, hk, hv⟩ := lst'_of r l1 hx
    refine ⟨.inl ⟨rfl, vs, SqL.of hv⟩, ?_⟩
    exact tG.of r f' ((Post.bind q).mono fun ρ2 h2 H2 ds e2 q vs l2 => ⟨ρ2, h2, _, ds, e2.rel, l1.ext e2 r, l2, q⟩)
theorem sn_append {o : Expr} {a : PI.E} {es : Es} {apos : Pos} (hb : baseOk o = true) (hl : (apos.endLine == pos.line) = true) (hs : notStar x = true)
    (ho : PE X o (tE X.K T E cls (cal pg n) a)) (ha : PA X [x] (tEs X.K T E cls (cal pg n) es)) : PE X (.Call (.Attribute o "append" apos) [x] [] pos) (tE X.K T E cls (cal pg n) (.me .append a es)) := by
  refine PE.weak (pe_bm PySem.F.plainAttrs_list PySem.F.slot_list_append PySem.F.type_list_append (me_append (T := T) (E := E) (cls := cls)) ho ha (base_ok hb) ?_ hl (star_cons hs) rfl) fun σ H Q p => ?_
  · have := back_all_star (pos := pos) (env := X.env) (es := [x]) (by simp [hs])
    rw [this]; rfl
  · exact me_read p
theorem sn_extend {o : Expr} {a : PI.E} {es : Es} {apos : Pos} (hb : baseOk o = true) (hl : (apos.endLine == pos.line) = true) (hs : notStar x = true)
    (ho : PE X o (tE X.K T E cls (cal pg n) a)) (ha : PA X [x] (tEs X.K T E cls (cal pg n) es)) : PE X (.Call (.Attribute o "extend" apos) [x] [] pos) (tE X.K T E cls (cal pg n) (.me .extend a es)) := by
  refine PE.weak (pe_bm PySem.F.plainAttrs_list PySem.F.slot_list_extend PySem.F.type_list_extend (me_extend (T := T) (E := E) (cls := cls)) ho ha (base_ok hb) ?_ hl (star_cons hs) rfl) fun σ H Q p => ?_
  · have := back_all_star (pos := pos) (env := X.env) (es := [x]) (by simp [hs])
    rw [this]; rfl
  · exact me_read p
theorem sn_pop {o : Expr} {a : PI.E} {apos : Pos} (hb : baseOk o = true) (hl : (apos.endLine == pos.line) = true)
    (ho : PE X o (tE X.K T E cls (cal pg n) a)) : PE X (.Call (.Attribute o "pop" apos) [] [] pos) (tE X.K T E cls (cal pg n) (.me .pop a .nil)) := by
  refine PE.weak (pe_bm0 PySem.F.plainAttrs_list PySem.F.slot_list_pop PySem.F.type_list_pop (me_pop (T := T) (E := E) (cls := cls)) ho (base_ok hb) hl) fun σ H Q p => ?_
  refine (tG.bind (f := evE (cal pg n) a) (g := fun x δ h1 => refK (fun h1 => (evEs (cal pg n) .nil δ h1).bind fun xs h2 => meD .pop x xs h2) x h1) p).mono fun ρ1 h1 H1 d r1 q v l1 => ?_
  obtain ⟨δ, r, f', q⟩ := q
  unfold refK at q
  split at q
  case h_2 => exact (q : False).elim
  case h_1 xs hx =>
    obtain ⟨a, vs, rfl, hk, hv⟩ := lst'_of r l1 hx
    exact ⟨.inl ⟨rfl, vs, SqL.of hv⟩, ρ1, h1, _, [], r, l1, .nil, q⟩
end
def noParams : Arguments → Bool
  | ⟨[], [], none, [], [], none, []⟩ => true
  | _ => false
theorem noParams_ok {p : Arguments} (h : noParams p = true) : p = ⟨[], [], none, [], [], none, []⟩ := by
  unfold noParams at h
  split at h
  · rfl
  · cases h
section
variable {X : Cx} {T : List (Addr × Str)} {E : XK} {cls : Nat → Addr} {pg : Pg} {n : Nat} {lm : Bool} {ρ : List Addr} {h : Hs} {H : Hp} {Q : VK} {p pos : Pos}
theorem HRel.extN (r : HRel X.K T ρ h H) {H1 : Hp} (e : LamX.ExtN H H1) (t : LamX.Tabs T H1) : HRel X.K T ρ h H1 ∧ Ext X.K T ρ H ρ h H1 := by
  have M : Mono ρ H ρ H1 := ⟨fun _ _ q => q, fun a vs q => e a _ q (fun _ z => by cases z), fun a o u q => e a _ q (fun _ z => by cases z)⟩
  have R : HRel X.K T ρ h H1 := ⟨r.len, r.nd, fun k o q => by
    obtain ⟨a, e1, e2⟩ := r.obj k o q
    refine ⟨a, e1, ?_⟩
    cases o with
    | lst xs =>
      obtain ⟨vs, q1, q2⟩ := e2
      exact ⟨vs, e a _ q1 (fun _ z => by cases z), q2.mono M⟩
    | dct _ =>
      obtain ⟨vs, q1, q2⟩ := e2
      exact ⟨vs, e a _ q1 (fun _ z => by cases z), q2.mono M⟩
    | ins _ _ =>
      obtain ⟨C, dx, vs, q0, q1, q2⟩ := e2
      exact ⟨C, dx, vs, q0, e a _ q1 (fun _ z => by cases z), q2.mono M⟩, t⟩
  exact ⟨R, ⟨[], by simp⟩, fun a ha hn => absurd ha hn, fun a o q _ ht => e a o q ht, R⟩
theorem low_cal : ∀ {n : Nat}, (cal pg (n + 2)).low = cal pg n := rfl
theorem sn_told {e : PI.E} {params : Arguments} {body : Expr} {scope : Scope} {lpos : Pos} (g : GX X T E cls pg n lm) (gl : LamAt X T cls pg) (hg : Gl X "_law_told") (hp : noParams params = true) (hL : LamX.lamSB X.env.scope scope = true)
    (hbody : ∀ (X2 : Cx) (E2 : XK) (m : Nat), GX X2 T E2 cls pg m false → X2.N = X.N → X2.env.scope = scope → X2.K = X.K → PE X2 body (tE X2.K T E2 cls (cal pg m) e)) :
    PE X (.Call (.Name "_law_told" p) [.Lambda params body scope lpos] [] pos) (tE X.K T E cls (cal pg n) (.told e)) := by
  have ep := noParams_ok hp
  subst ep
  match n, g with
  | 0, g => exact ⟨fun pins s σ H Q I h => by obtain ⟨ρ, h, δ, r, f, p⟩ := h; exact (p : False).elim⟩
  | 1, g => exact ⟨fun pins s σ H Q I h => by obtain ⟨ρ, h, δ, r, f, p⟩ := h; exact (p : False).elim⟩
  | n + 2, g =>
    obtain ⟨c, P, TB, hcode, hmT, hu⟩ := gl.tab
    refine PE.weak (pe_told (k := n) (t := fun E2 => tE X.K T E2 cls (cal pg n) e) gl.term gl.told hg TB hcode hmT hu g.room (LamX.lamS_by hL) rfl (fun _ _ _ _ _ => rfl) fun A outer s H E2 f c2 hr => ?_) fun σ H Q q => ?_
    · refine hbody (lamCxN X A outer s H E2 scope f c2) E2 n ⟨g.gfl n (by omega), fun m hm => g.gfl m (by omega), hr, g.nd, rfl, ?_, fun z => by cases z⟩ rfl rfl rfl
      exact L2N.passes_call (L2N.takes_of rfl rfl rfl rfl) (fun _ _ _ _ h => h)
    · obtain ⟨ρ, h, δ, r, f, q⟩ := q
      refine ⟨r.tabs, fun H1 eN T1 => ?_⟩
      obtain ⟨r1, e1⟩ := r.extN eN T1
      refine ⟨ρ, h, δ, r1, f.ext e1 r, ?_⟩
      have q : Post X.K T E cls ρ H (GD X.K Q) (toldR pg.nm (evE (cal pg n) e δ h)) := q
      cases he : evE (cal pg n) e δ h with
      | no => rw [he] at q; exact (q : False).elim
      | ok d h1 =>
        rw [he] at q
        intro ρ2 H2 e2
        exact q ρ2 H2 (e1.trans e2)
      | ex k h1 =>
        rw [he] at q
        unfold toldR at q
        split at q
        case h_1 z => cases z
        case h_3 z => cases z
        case h_2 k2 h2 z =>
          cases z
          split at q
          case h_2 => exact (q : False).elim
          case h_1 s hs =>
            intro ρ2 H2 e2
            obtain ⟨FE, kk, K1, K2, K3, K4⟩ := gl.kd k s hs
            refine ⟨rfl, cls k, FE, kk, rfl, K1, K3, K4, fun tt nm H3 hn h3 k3 k4 => ?_⟩
            rw [K2] at hn
            cases hn
            have ne : ∀ b o, H2 b = some o → H3 b = some o := k3
            have M : Mono ρ2 H2 ρ2 H3 := ⟨fun _ _ q => q, fun a vs q => ne _ _ q, fun a o u q => ne _ _ q⟩
            have e3 : Ext X.K T ρ2 H2 ρ2 h1 H3 := (e2.rel.extN (fun b o q _ => ne b o q) (e2.rel.tabs.ext ne)).2
            exact q ρ2 H3 (e1.trans (e2.trans e3)) _ (.tupW (.inl (.inl k4)) (.cons (.str _) (.cons (.str _) .nil)))
end
end PI
namespace PI
open PySem PySem.Spec PyProof.Rows
/-- one more text -/
def stS (acc : List Str) (k : Str) : List Str := if acc.any (· == k) then acc else acc ++ [k]
def metS (xs : List Str) : List Str := xs.foldl stS []
theorem stS_any (acc : List Str) (k j : Str) : (stS acc k).any (· == j) = (acc.any (· == j) || decide (j = k)) := by
  unfold stS
  by_cases c : acc.any (· == k) = true
  · rw [if_pos c]
    by_cases e : j = k
    · subst e; simp [c]
    · simp [e]
  · rw [if_neg c, List.any_append]
    by_cases e : j = k
    · subst e; simp
    · have : (k == j) = false := by simpa using fun z : k = j => e z.symm
      simp [e, this]
theorem stS_len (acc : List Str) (k : Str) : (if acc.any (· == k) = true then acc.length else acc.length + 1) = (stS acc k).length := by
  unfold stS
  split <;> simp
theorem metS_succ {xs : List Str} {i : Nat} (hi : i < xs.length) : metS (xs.take (i + 1)) = stS (metS (xs.take i)) (xs.getD i Str.empty) := by
  unfold metS
  rw [List.take_add_one, List.getElem?_eq_getElem hi, List.getD_eq_getElem?_getD, List.getElem?_eq_getElem hi, List.foldl_append]
  rfl
theorem stS_le (acc : List Str) (k : Str) : (stS acc k).length ≤ acc.length + 1 := by
  unfold stS
  split <;> simp
theorem fold_le : ∀ (xs acc : List Str), (xs.foldl stS acc).length ≤ acc.length + xs.length
  | [], acc => by simp
  | x :: r, acc => by
    have h1 := fold_le r (stS acc x)
    have h2 := stS_le acc x
    simp only [List.foldl_cons, List.length_cons]
    omega
theorem metS_le (xs : List Str) : (metS xs).length ≤ xs.length := by simpa [metS] using fold_le xs []
abbrev freshSet (led : Bool) : Obj := { cls := .type "set", dict := none, data := .set #[] 0 (.fresh 0 0 led) }
abbrev HasSet (P : Program) (w : World) (h : Heap) (a : Addr) (l : List Str) : Prop := h.SetOf (PySem.strKind P w) a (fun j => l.any (· == j)) l.length
section
variable {P : Program} {w : World} {A : Around} {R : Result → Shared → Prop} {it : Addr} {fp wr : List Addr} {G : Array GenState → Array GenState → Prop} {n : Nat} {Pv : Nat → Value → Prop} {St : Nat → Shared → Prop}
theorem fill_set (W : WalksS P w A.in1 it fp wr G n Pv St) (a : Addr) (ha : a ∉ fp) (xs : List Str) (hn : xs.length = n) (few : n + 1 < scanBound) (hv : ∀ i v, Pv i v → ∃ t, v = .str (xs.getD i Str.empty) t) :
    ∀ (m i : Nat) (s : Shared), i + m = n → St i s → HasSet P w s.heap a (metS (xs.take i)) → (∀ s', Moved (a :: wr) G s s' → HasSet P w s'.heap a (metS xs) → R (.ok (.ret .none)) s') →
      codeAny (model P w) A (.builtin "set.update.loop" ⟨[.ref a, .ref it], []⟩) R s := by
  have aw : a ∉ wr := fun z => ha (W.sub _ z)
  have sub : ∀ b ∈ wr, b ∈ a :: wr := fun b z => List.mem_cons_of_mem _ z
  have keep : ∀ {s s' : Shared} {l : List Str}, Moved wr G s s' → HasSet P w s.heap a l → HasSet P w s'.heap a l := fun mv z => by
    obtain ⟨o, es, ep, t, ho, more⟩ := z
    exact ⟨o, es, ep, t, mv.heap a _ aw ho, more⟩
  intro m
  induction m with
  | zero =>
    intro i s him st hs done
    have ei : i = n := by omega
    subst ei
    refine codeAny_builtin F.entry_set_update_loop (by
      rw [Around.under_plainId F.plain_set_update_loop _]
      show wpAny _ A.in1 (pyNext (.ref it) >>= _) _ _ s
      refine wpAny_bind (W.done s _ _ st fun s' mv => ?_)
      show wpAny _ A.in1 (ret Value.none) _ _ s'
      refine wpAny_pure (done s' (mv.mono sub) ?_)
      have q := keep mv hs
      rw [← hn, List.take_length] at q
      exact q)
  | succ m ih =>
    intro i s him st hs done
    have lt : i < n := by omega
    refine codeAny_builtin F.entry_set_update_loop (by
      rw [Around.under_plainId F.plain_set_update_loop _]
      show wpAny _ A.in1 (pyNext (.ref it) >>= _) _ _ s
      refine wpAny_bind (W.item i s _ _ lt st fun v s1 pv st1 mv => ?_)
      obtain ⟨t, rfl⟩ := hv i v pv
      have hs1 := keep mv hs
      show wpAny _ A.in1 (holding [Value.str (xs.getD i Str.empty) t] (setAdd a (.str (xs.getD i Str.empty) t)) >>= _) _ _ s1
      refine wpAny_bind (wpAny_holding ?_)
      unfold setAdd
      refine wpAny_holding (wpAny_bind ((PySem.strKind P w).pyHash (k := xs.getD i Str.empty) (strKind_is _ _ _ _) ?_))
      have room : (metS (xs.take i)).length + 1 < scanBound := by
        have := metS_le (xs.take i)
        rw [List.length_take] at this
        omega
      refine wpAny_setAddHashed_of (knd := PySem.strKind P w) (s := { s1 with toks := s1.toks + 1 }) (strKind_is _ _ _ _) rfl hs1 room fun h2 sb hs2 => ?_
      have hs3 : HasSet P w h2 a (metS (xs.take (i + 1))) := by
        rw [metS_succ (by omega)]
        exact SetOf_congr hs2 (fun j => (stS_any _ _ j).symm) (stS_len _ _)
      have stay : ∀ b o, b ≠ a → s1.heap.get? b = some o → h2.get? b = some o := fun b o nb e => by
        rw [sb.2 b nb]
        exact e
      refine wpAny_pure ⟨plainId_quiet F.plain_set_update_loop _, ih (i + 1) _ (by omega) (W.frame _ s1 _ _ st1 (Nat.le_succ _) fun b z o e => stay b o (fun q => ha (by rw [← q]; exact z)) e) hs3 fun s4 mv4 hs4 => ?_⟩
      exact done s4 (Moved.trans W.gtrans ((mv.mono sub).then_heap (Nat.le_succ _) fun b o z e => stay b o (fun q => z (by rw [q]; exact List.mem_cons_self)) e) mv4) hs4)
end
section
variable {P : Program} {w : World} {A : Around} {E : Value → Shared → Prop} {s : Shared}
theorem set_of_list {l : Addr} {its : Array Value} {xs : List Str} {Q : Value → Shared → Prop} (noH : A.handled = none) (hl : s.heap.IsList l its) (hi : StrsAre its.toList xs) (few : xs.length + 1 < scanBound)
    (k : ∀ (h2 : Heap) (tk : Nat), HasSet P w h2 s.heap.objs.size (metS xs) → (∀ b o, b < s.heap.objs.size → s.heap.get? b = some o → h2.get? b = some o) → Q (.ref s.heap.objs.size) { s with heap := h2, toks := tk }) :
    wpAny (model P w) A (call (.type "set") [.ref l]) Q E s := by
  have ⟨mc, mt, mro⟩ := F.called_set.mro
  have made := F.called_set.made
  have isub := F.called_set.sub
  have nT := F.called_set.notType
  have cC := F.called_set.canCreate
  have tC := F.typeCall_set_1 (.ref l)
  refine wpAny_call (codeAny_of_tree (by
    show wpAny _ _ (callAny (.type "set") _) _ _ _
    refine wpAny_pure ⟨Code.quiet_builtin _ (by decide +kernel), codeAny_builtin F.entry_type_call (by
      rw [Around.under_plain (weight_type_call_type "set" [.ref l] []) rfl]
      repeat (any_goals (first | assumption | wp_step))
      refine codeAny_mono (code_set_new_1 (.ref l) (E := E) (Q₁ := fun v s1 => ∃ led : Bool, v = .ref s.heap.objs.size ∧ s1 = { s with heap := s.heap.push (freshSet led) }) fun led => ⟨led, rfl, rfl⟩) fun r s1 hr => ?_
      cases r with
      | error e => exact hr
      | ok fl =>
        cases fl with
        | ret v =>
          have ⟨led, e1, e2⟩ := hr
          subst e1
          subst e2
          have gS : (s.heap.push (freshSet led)).get? s.heap.objs.size = some (freshSet led) := Heap.get?_push_size _ rfl
          have tS : Shared.TypeIs { s with heap := s.heap.push (freshSet led) } (.ref s.heap.objs.size) "set" := ⟨_, gS, rfl⟩
          have iL := F.called_set.init.lookup
          have iB := F.called_set.init.bind (.ref s.heap.objs.size)
          repeat (any_goals (first | assumption | wp_step))
          refine codeAny_mono (codeAny_call_builtin (R := wants (fun r s2 => r = .none ∧ ∃ h2 tk, s2 = { s with heap := h2, toks := tk } ∧ HasSet P w h2 s.heap.objs.size (metS xs) ∧ (∀ b o, b < s.heap.objs.size → s.heap.get? b = some o → h2.get? b = some o)) E)
            F.called_set.init.plain F.entry_set_init (check_set_init_1 tS ?_)) fun r2 s2 hr2 => ?_
          · obtain ⟨⟨oc, od, odt, osl⟩, hol, hcl, nl, hdl⟩ := hl
            have hcl' : oc = .type "list" := hcl
            have hdl' : odt = .seq its nl := hdl
            subst hcl'
            subst hdl'
            have g1 : (s.heap.push (freshSet led)).get? l = some { cls := .type "list", dict := od, data := .seq its nl, slots := osl } := Heap.get?_push_of_some _ hol
            have u1 := F.sub_list_set
            have u2 := F.sub_list_frozenset
            have u3 : (Value.type "list" == Value.type "dict") = false := by decide
            have at1 : (s.heap.push (freshSet led)).IsList l its := ⟨_, g1, rfl, nl, rfl⟩
            unfold Builtin.«set.__init__» noKeywords Builtin.Frozenset.updateFrom
            generalize hG : pyIter = G
            wp_walk
            subst hG
            refine wpAny_pyIter_list at1 (wpAny_bind (wpAny_runValue ?_))
            have lS : l < s.heap.objs.size := Heap.lt_size hol
            have z1 : (s.heap.push (freshSet led)).objs.size = s.heap.objs.size + 1 := Heap.size_push _ _
            have nL : l ≠ (s.heap.push (freshSet led)).objs.size := fun z => absurd (show l = s.heap.objs.size + 1 from z.trans z1) (Nat.ne_of_lt (Nat.lt_succ_of_lt lS))
            have nS : s.heap.objs.size ∉ [(s.heap.push (freshSet led)).objs.size, l] := by
              intro z
              rcases List.mem_cons.mp z with z | z
              · exact absurd (show s.heap.objs.size = s.heap.objs.size + 1 from z.trans z1) (Nat.ne_of_lt (Nat.lt_succ_self _))
              · exact absurd (List.mem_singleton.mp z) (Nat.ne_of_gt lS)
            have zx : xs.length = its.size := by rw [← StrsAre.len_eq hi, Array.length_toList]
            have vx : ∀ (i : Nat) (v : Value), its[i]? = some v → ∃ t, v = .str (xs.getD i Str.empty) t := fun i v z => SS.strs_at hi i v (by rw [Array.getElem?_toList]; exact z)
            refine fill_set ((Walks.list (by simp [noH]) _ l nL its).toS) s.heap.objs.size nS xs zx (by omega) vx its.size 0 _ (by omega) ⟨⟨_, Heap.get?_push_size _ rfl, rfl, rfl⟩, at1.push _⟩ ?first ?last
            case first =>
              have g2 : ((s.heap.push (freshSet led)).push { cls := .type "list_iterator", data := .fields #[.ref l, .int 0 0] }).get? s.heap.objs.size = some (freshSet led) := Heap.get?_push_of_some _ gS
              exact SetOf_congr ((setObjOf_fresh (knd := PySem.strKind P w) led).setOf g2 (by unfold scanBound; omega)) (fun _ => rfl) rfl
            case last =>
              intro s3 mv hs3
              obtain ⟨h3, g3, d3, tk3, os3⟩ := s3
              have eg : g3 = s.gens := mv.gens
              have ed : d3 = s.drawn := mv.drawn
              have eo : os3 = s.os := mv.os
              subst eg
              subst ed
              subst eo
              show wpAny _ _ _ _ _ _
              refine wpAny_pure (show wpAny _ _ (ret Value.none) _ _ _ from wpAny_pure ⟨rfl, h3, tk3, rfl, hs3, fun b o lb e => ?_⟩)
              refine mv.heap b o (fun z => ?_) (Heap.get?_push_of_some _ (Heap.get?_push_of_some _ e))
              rcases List.mem_cons.mp z with z | z
              · exact absurd z (Nat.ne_of_lt lb)
              · exact absurd (show b = s.heap.objs.size + 1 from (List.mem_singleton.mp z).trans z1) (Nat.ne_of_lt (Nat.lt_succ_of_lt lb))
          · cases r2 with
            | error e => exact hr2
            | ok f2 =>
              cases f2 with
              | ret r =>
                have ⟨e0, h2, tk, e1, hs, hk⟩ := hr2
                subst e0
                subst e1
                repeat (any_goals (first | assumption | wp_step))
                exact k _ _ hs hk
              | _ => exact hr2.elim
        | _ => exact hr.elim)⟩))
end
section
variable {P : Program} {w : World} {A : Around} {E : Value → Shared → Prop} {s : Shared}
theorem set_of_tuple {l : Addr} {its : Array Value} {xs : List Str} {Q : Value → Shared → Prop} (noH : A.handled = none) (hl : s.heap.IsTuple l its) (hi : StrsAre its.toList xs) (few : xs.length + 1 < scanBound)
    (k : ∀ (h2 : Heap) (tk : Nat), HasSet P w h2 s.heap.objs.size (metS xs) → (∀ b o, b < s.heap.objs.size → s.heap.get? b = some o → h2.get? b = some o) → Q (.ref s.heap.objs.size) { s with heap := h2, toks := tk }) :
    wpAny (model P w) A (call (.type "set") [.ref l]) Q E s := by
  have ⟨mc, mt, mro⟩ := F.called_set.mro
  have made := F.called_set.made
  have isub := F.called_set.sub
  have nT := F.called_set.notType
  have cC := F.called_set.canCreate
  have tC := F.typeCall_set_1 (.ref l)
  refine wpAny_call (codeAny_of_tree (by
    show wpAny _ _ (callAny (.type "set") _) _ _ _
    refine wpAny_pure ⟨Code.quiet_builtin _ (by decide +kernel), codeAny_builtin F.entry_type_call (by
      rw [Around.under_plain (weight_type_call_type "set" [.ref l] []) rfl]
      repeat (any_goals (first | assumption | wp_step))
      refine codeAny_mono (code_set_new_1 (.ref l) (E := E) (Q₁ := fun v s1 => ∃ led : Bool, v = .ref s.heap.objs.size ∧ s1 = { s with heap := s.heap.push (freshSet led) }) fun led => ⟨led, rfl, rfl⟩) fun r s1 hr => ?_
      cases r with
      | error e => exact hr
      | ok fl =>
        cases fl with
        | ret v =>
          have ⟨led, e1, e2⟩ := hr
          subst e1
          subst e2
          have gS : (s.heap.push (freshSet led)).get? s.heap.objs.size = some (freshSet led) := Heap.get?_push_size _ rfl
          have tS : Shared.TypeIs { s with heap := s.heap.push (freshSet led) } (.ref s.heap.objs.size) "set" := ⟨_, gS, rfl⟩
          have iL := F.called_set.init.lookup
          have iB := F.called_set.init.bind (.ref s.heap.objs.size)
          repeat (any_goals (first | assumption | wp_step))
          refine codeAny_mono (codeAny_call_builtin (R := wants (fun r s2 => r = .none ∧ ∃ h2 tk, s2 = { s with heap := h2, toks := tk } ∧ HasSet P w h2 s.heap.objs.size (metS xs) ∧ (∀ b o, b < s.heap.objs.size → s.heap.get? b = some o → h2.get? b = some o)) E)
            F.called_set.init.plain F.entry_set_init (check_set_init_1 tS ?_)) fun r2 s2 hr2 => ?_
          · obtain ⟨⟨oc, od, odt, osl⟩, hol, hcl, nl, hdl⟩ := hl
            have hcl' : oc = .type "tuple" := hcl
            have hdl' : odt = .seq its nl := hdl
            subst hcl'
            subst hdl'
            have g1 : (s.heap.push (freshSet led)).get? l = some { cls := .type "tuple", dict := od, data := .seq its nl, slots := osl } := Heap.get?_push_of_some _ hol
            have u1 := F.sub_tuple_set
            have u2 := F.sub_tuple_frozenset
            have u3 : (Value.type "tuple" == Value.type "dict") = false := by decide
            have at1 : (s.heap.push (freshSet led)).IsTuple l its := ⟨_, g1, rfl, nl, rfl⟩
            unfold Builtin.«set.__init__» noKeywords Builtin.Frozenset.updateFrom
            generalize hG : pyIter = G
            wp_walk
            subst hG
            refine wpAny_pyIter_tuple at1 (wpAny_bind (wpAny_runValue ?_))
            have lS : l < s.heap.objs.size := Heap.lt_size hol
            have z1 : (s.heap.push (freshSet led)).objs.size = s.heap.objs.size + 1 := Heap.size_push _ _
            have nL : l ≠ (s.heap.push (freshSet led)).objs.size := fun z => absurd (show l = s.heap.objs.size + 1 from z.trans z1) (Nat.ne_of_lt (Nat.lt_succ_of_lt lS))
            have nS : s.heap.objs.size ∉ [(s.heap.push (freshSet led)).objs.size, l] := by
              intro z
              rcases List.mem_cons.mp z with z | z
              · exact absurd (show s.heap.objs.size = s.heap.objs.size + 1 from z.trans z1) (Nat.ne_of_lt (Nat.lt_succ_self _))
              · exact absurd (List.mem_singleton.mp z) (Nat.ne_of_gt lS)
            have zx : xs.length = its.size := by rw [← StrsAre.len_eq hi, Array.length_toList]
            have vx : ∀ (i : Nat) (v : Value), its[i]? = some v → ∃ t, v = .str (xs.getD i Str.empty) t := fun i v z => SS.strs_at hi i v (by rw [Array.getElem?_toList]; exact z)
            refine fill_set ((Walks.tuple (by simp [noH]) _ l nL its).toS) s.heap.objs.size nS xs zx (by omega) vx its.size 0 _ (by omega) ⟨⟨_, Heap.get?_push_size _ rfl, rfl, rfl⟩, at1.push _⟩ ?first ?last
            case first =>
              have g2 : ((s.heap.push (freshSet led)).push { cls := .type "tuple_iterator", data := .fields #[.ref l, .int 0 0] }).get? s.heap.objs.size = some (freshSet led) := Heap.get?_push_of_some _ gS
              exact SetOf_congr ((setObjOf_fresh (knd := PySem.strKind P w) led).setOf g2 (by unfold scanBound; omega)) (fun _ => rfl) rfl
            case last =>
              intro s3 mv hs3
              obtain ⟨h3, g3, d3, tk3, os3⟩ := s3
              have eg : g3 = s.gens := mv.gens
              have ed : d3 = s.drawn := mv.drawn
              have eo : os3 = s.os := mv.os
              subst eg
              subst ed
              subst eo
              show wpAny _ _ _ _ _ _
              refine wpAny_pure (show wpAny _ _ (ret Value.none) _ _ _ from wpAny_pure ⟨rfl, h3, tk3, rfl, hs3, fun b o lb e => ?_⟩)
              refine mv.heap b o (fun z => ?_) (Heap.get?_push_of_some _ (Heap.get?_push_of_some _ e))
              rcases List.mem_cons.mp z with z | z
              · exact absurd z (Nat.ne_of_lt lb)
              · exact absurd (show b = s.heap.objs.size + 1 from (List.mem_singleton.mp z).trans z1) (Nat.ne_of_lt (Nat.lt_succ_of_lt lb))
          · cases r2 with
            | error e => exact hr2
            | ok f2 =>
              cases f2 with
              | ret r =>
                have ⟨e0, h2, tk, e1, hs, hk⟩ := hr2
                subst e0
                subst e1
                repeat (any_goals (first | assumption | wp_step))
                exact k _ _ hs hk
              | _ => exact hr2.elim
        | _ => exact hr.elim)⟩))
end
end PI
namespace PI
open PySem PySem.Spec PyProof.Rows
/-! ### a set of texts that may be walked -/
structure TxSet (P : Program) (w : World) (h : Heap) (a : Addr) (l : List Str) : Prop where
  ex : ∃ (es : Array (Int × Value)) (ep : Nat) (t : SetTable), h.get? a = some (Froz.sObj "set" (es, ep, t)) ∧ Froz.TxOk P w (es, ep, t) l ∧ L2.Ris t.place.toList ∧ (w.params.followText "set-order" = true ∨ t.led = true)
  nd : l.Nodup
def addL (l : List Str) (k : Str) : List Str := if k ∈ l then l else k :: l
theorem addL_nd {l : List Str} (h : l.Nodup) (k : Str) : (addL l k).Nodup := by
  unfold addL
  split
  · exact h
  · next c => exact List.nodup_cons.mpr ⟨c, h⟩
theorem addL_len (l : List Str) (k : Str) : (addL l k).length ≤ l.length + 1 := by
  unfold addL
  split
  · omega
  · simp
theorem addL_mem {l : List Str} {k j : Str} : j ∈ addL l k ↔ j = k ∨ j ∈ l := by
  unfold addL
  split
  · next c => exact ⟨.inr, fun h => h.elim (fun e => e ▸ c) id⟩
  · exact List.mem_cons
section
variable {P : Program} {w : World} {A : Around} {E : Value → Shared → Prop} {s : Shared}
theorem TxSet.at {h g : Heap} {a : Addr} {l : List Str} (T : TxSet P w h a l) (k : ∀ o, h.get? a = some o → g.get? a = some o) : TxSet P w g a l := by
  obtain ⟨⟨es, ep, t, at_, rest⟩, nd⟩ := T
  exact ⟨⟨es, ep, t, k _ at_, rest⟩, nd⟩
theorem tail_place (ep : Nat) (es1 : Array (Int × Value)) (t2 : SetTable) (d : Bool) (r : L2.Ris t2.place.toList) : L2.Ris (Froz.tailTx ep es1 t2 d).2.2.place.toList ∧ (Froz.tailTx ep es1 t2 d).2.2.led = t2.led := by
  unfold Froz.tailTx
  split
  · exact ⟨L2.relayAll_ris _ _ _, L2.relayAll_led _ _ _⟩
  · exact ⟨r, rfl⟩
theorem add_place (k : Int) (v : Value) (es : Array (Int × Value)) (ep : Nat) (t : SetTable) (r : L2.Ris t.place.toList) : L2.Ris (Froz.addTx k v (es, ep, t)).2.2.place.toList ∧ (Froz.addTx k v (es, ep, t)).2.2.led = t.led := by
  have r1 := L2.layNew_ris t es k v r
  have l1 := L2.layNew_led t es k v
  have q : ∀ z : SetTable, L2.Ris z.place.toList → z.led = t.led → L2.Ris (if z.plain = true then { z with plain := false } else z).place.toList ∧ (if z.plain = true then { z with plain := false } else z).led = t.led := fun z a b => by
    split
    · exact ⟨a, b⟩
    · exact ⟨a, b⟩
  have q1 := q _ r1 l1
  have q2 := tail_place ep (layNew t es k v).1 _ (layNew t es k v).2.2.1 q1.1
  exact ⟨q2.1, q2.2.trans q1.2⟩
theorem tx_add {a : Addr} {l : List Str} {k : Str} {u : Tok} {Q : Bool → Shared → Prop} (T : TxSet P w s.heap a l) (room : l.length + 1 < scanBound)
    (fin : ∀ (g : Heap) (b : Bool), Heap.SameBut a s.heap g → TxSet P w g a (addL l k) → Q b { s with heap := g }) : wpAny (model P w) A (setAddHashed a (.str k u) (hashStr w k)) Q E s := by
  obtain ⟨⟨es, ep, t, at_, F, ris, led⟩, nd⟩ := T
  by_cases c : k ∈ l
  · have e0 : addL l k = l := if_pos c
    obtain ⟨j, hj⟩ : ∃ j, List.findIdx? (fun q => (strKind P w).is k q.2) es.toList = some j := by
      cases hz : List.findIdx? (fun q => (strKind P w).is k q.2) es.toList with
      | some j => exact ⟨j, rfl⟩
      | none =>
        obtain ⟨q, hq, z⟩ := (F.mem k).mp c
        have := List.findIdx?_eq_none_iff.mp hz q hq
        rw [z] at this
        cases this
    have dat : (Froz.sObj "set" (es, ep, t)).data = .set es ep t := rfl
    have fit : t.fits es.size = true := F.fit
    have els : ElemsOf (strKind P w) es.toList := F.el
    have cnt : es.size = l.length := F.sz
    have few : es.size < scanBound := by omega
    unfold setAddHashed
    unfold setAddHashedIn
    refine wpAny_holding ?_
    refine wpAny_bind ?_
    refine wpAny_setState_of at_ dat fit ?_
    dsimp only
    rw [byScan_of (x := Value.str k u) rfl few els]
    rw [if_pos rfl]
    unfold setAddByScan
    refine wpAny_bind (wpAny_bind ?_)
    refine wpAny_rule (wpAny_bind ?_)
    refine wpAny_setScan_of (knd := strKind P w) (Froz.is_str k u) at_ dat fit els ?_
    rw [hj]
    dsimp only
    refine wpAny_pure ?_
    dsimp only
    refine wpAny_pure ?_
    exact fin s.heap _ (Heap.SameBut.refl a s.heap) (by rw [e0]; exact ⟨⟨es, ep, t, at_, F, ris, led⟩, nd⟩)
  · have e0 : addL l k = k :: l := if_neg c
    refine Froz.add_x at_ F c room (fin _ true (Heap.SameBut.update s.heap a _) ?_)
    have p := add_place (hashStr w k) (.str k u) es ep t ris
    rw [e0]
    have p2 : w.params.followText "set-order" = true ∨ (Froz.addTx (hashStr w k) (.str k u) (es, ep, t)).2.2.led = true := led.imp id fun z => p.2.trans z
    have new := Froz.add_ok (k := k) u F
    have got := Froz.get_upd (Froz.sObj "set" (Froz.addTx (hashStr w k) (.str k u) (es, ep, t))) at_ rfl
    generalize Froz.addTx (hashStr w k) (.str k u) (es, ep, t) = D at p p2 new got
    obtain ⟨es2, ep2, t2⟩ := D
    exact ⟨⟨es2, ep2, t2, got, new, p.1, p2⟩, List.nodup_cons.mpr ⟨c, nd⟩⟩
end
/-- all of them, one after another -/
def allL (xs : List Str) : List Str := xs.foldl addL []
theorem allL_succ {xs : List Str} {i : Nat} (hi : i < xs.length) : allL (xs.take (i + 1)) = addL (allL (xs.take i)) (xs.getD i Str.empty) := by
  unfold allL
  rw [List.take_add_one, List.getElem?_eq_getElem hi, List.getD_eq_getElem?_getD, List.getElem?_eq_getElem hi, List.foldl_append]
  rfl
theorem fold_addL : ∀ (xs acc : List Str), (xs.foldl addL acc).length ≤ acc.length + xs.length
  | [], acc => Nat.le_refl _
  | x :: r, acc => by
    have h1 := fold_addL r (addL acc x)
    have h2 := addL_len acc x
    show (r.foldl addL (addL acc x)).length ≤ acc.length + (r.length + 1)
    omega
theorem allL_le (xs : List Str) : (allL xs).length ≤ xs.length := by simpa [allL] using fold_addL xs []
theorem allL_mem : ∀ (xs acc : List Str) (j : Str), j ∈ xs.foldl addL acc ↔ j ∈ acc ∨ j ∈ xs
  | [], acc, j => by simp
  | x :: r, acc, j => by
    show j ∈ r.foldl addL (addL acc x) ↔ _
    rw [allL_mem r (addL acc x) j, addL_mem, List.mem_cons]
    constructor
    · rintro ((h | h) | h)
      · exact .inr (.inl h)
      · exact .inl h
      · exact .inr (.inr h)
    · rintro (h | h | h)
      · exact .inl (.inr h)
      · exact .inl (.inl h)
      · exact .inr h
theorem allL_nd : ∀ (xs acc : List Str), acc.Nodup → (xs.foldl addL acc).Nodup
  | [], acc, h => h
  | x :: r, acc, h => allL_nd r _ (addL_nd h x)
abbrev newSet (w : World) : Obj := { cls := .type "set", dict := none, data := .set #[] 0 (.fresh 0 0 (!w.params.followText "set-order")) }
theorem tx_fresh {P : Program} {w : World} {h : Heap} {a : Addr} (g : h.get? a = some (newSet w)) : TxSet P w h a [] := by
  refine ⟨⟨#[], 0, _, g, Froz.TxOk.nil rfl, List.Pairwise.nil, ?_⟩, List.nodup_nil⟩
  show _ ∨ (!w.params.followText "set-order") = true
  cases w.params.followText "set-order"
  · exact .inr rfl
  · exact .inl rfl
section
variable {P : Program} {w : World} {A : Around} {R : Result → Shared → Prop} {it : Addr} {fp wr : List Addr} {G : Array GenState → Array GenState → Prop} {n : Nat} {Pv : Nat → Value → Prop} {St : Nat → Shared → Prop}
theorem fill_tx (W : WalksS P w A.in1 it fp wr G n Pv St) (a : Addr) (ha : a ∉ fp) (xs : List Str) (hn : xs.length = n) (few : n + 1 < scanBound) (hv : ∀ i v, Pv i v → ∃ t, v = .str (xs.getD i Str.empty) t) :
    ∀ (m i : Nat) (s : Shared), i + m = n → St i s → TxSet P w s.heap a (allL (xs.take i)) → (∀ s', Moved (a :: wr) G s s' → TxSet P w s'.heap a (allL xs) → R (.ok (.ret .none)) s') →
      codeAny (model P w) A (.builtin "set.update.loop" ⟨[.ref a, .ref it], []⟩) R s := by
  have aw : a ∉ wr := fun z => ha (W.sub _ z)
  have sub : ∀ b ∈ wr, b ∈ a :: wr := fun b z => List.mem_cons_of_mem _ z
  have keep : ∀ {s s' : Shared} {l : List Str}, Moved wr G s s' → TxSet P w s.heap a l → TxSet P w s'.heap a l := fun mv z => z.at fun o e => mv.heap a _ aw e
  intro m
  induction m with
  | zero =>
    intro i s him st hs done
    have ei : i = n := by omega
    subst ei
    refine codeAny_builtin F.entry_set_update_loop (by
      rw [Around.under_plainId F.plain_set_update_loop _]
      show wpAny _ A.in1 (pyNext (.ref it) >>= _) _ _ s
      refine wpAny_bind (W.done s _ _ st fun s' mv => ?_)
      show wpAny _ A.in1 (ret Value.none) _ _ s'
      refine wpAny_pure (done s' (mv.mono sub) ?_)
      have q := keep mv hs
      rw [← hn, List.take_length] at q
      exact q)
  | succ m ih =>
    intro i s him st hs done
    have lt : i < n := by omega
    refine codeAny_builtin F.entry_set_update_loop (by
      rw [Around.under_plainId F.plain_set_update_loop _]
      show wpAny _ A.in1 (pyNext (.ref it) >>= _) _ _ s
      refine wpAny_bind (W.item i s _ _ lt st fun v s1 pv st1 mv => ?_)
      obtain ⟨t, rfl⟩ := hv i v pv
      have hs1 := keep mv hs
      show wpAny _ A.in1 (holding [Value.str (xs.getD i Str.empty) t] (setAdd a (.str (xs.getD i Str.empty) t)) >>= _) _ _ s1
      refine wpAny_bind (wpAny_holding ?_)
      unfold setAdd
      refine wpAny_holding (wpAny_bind ((PySem.strKind P w).pyHash (k := xs.getD i Str.empty) (strKind_is _ _ _ _) ?_))
      have room : (allL (xs.take i)).length + 1 < scanBound := by
        have := allL_le (xs.take i)
        rw [List.length_take] at this
        omega
      refine tx_add (s := { s1 with toks := s1.toks + 1 }) hs1 room fun h2 b sb hs2 => ?_
      have hs3 : TxSet P w h2 a (allL (xs.take (i + 1))) := by
        rw [allL_succ (by omega)]
        exact hs2
      have stay : ∀ b o, b ≠ a → s1.heap.get? b = some o → h2.get? b = some o := fun b o nb e => by
        rw [sb.2 b nb]
        exact e
      refine wpAny_pure ⟨plainId_quiet F.plain_set_update_loop _, ih (i + 1) _ (by omega) (W.frame _ s1 _ _ st1 (Nat.le_succ _) fun b z o e => stay b o (fun q => ha (by rw [← q]; exact z)) e) hs3 fun s4 mv4 hs4 => ?_⟩
      exact done s4 (Moved.trans W.gtrans ((mv.mono sub).then_heap (Nat.le_succ _) fun b o z e => stay b o (fun q => z (by rw [q]; exact List.mem_cons_self)) e) mv4) hs4)
end
end PI
namespace PI
open PySem PySem.Spec PyProof.Rows
section
variable {P : Program} {w : World} {A : Around} {E : Value → Shared → Prop} {s : Shared}
theorem tx_of_list {l : Addr} {its : Array Value} {xs : List Str} {Q : Value → Shared → Prop} (noH : A.handled = none) (hl : s.heap.IsList l its) (hi : StrsAre its.toList xs) (few : xs.length + 1 < scanBound)
    (k : ∀ (h2 : Heap) (tk : Nat), TxSet P w h2 s.heap.objs.size (allL xs) → (∀ b o, b < s.heap.objs.size → s.heap.get? b = some o → h2.get? b = some o) → Q (.ref s.heap.objs.size) { s with heap := h2, toks := tk }) :
    wpAny (model P w) A (call (.type "set") [.ref l]) Q E s := by
  have ⟨mc, mt, mro⟩ := F.called_set.mro
  have made := F.called_set.made
  have isub := F.called_set.sub
  have nT := F.called_set.notType
  have cC := F.called_set.canCreate
  have tC := F.typeCall_set_1 (.ref l)
  refine wpAny_call (codeAny_of_tree (by
    show wpAny _ _ (callAny (.type "set") _) _ _ _
    refine wpAny_pure ⟨Code.quiet_builtin _ (by decide +kernel), codeAny_builtin F.entry_type_call (by
      rw [Around.under_plain (weight_type_call_type "set" [.ref l] []) rfl]
      repeat (any_goals (first | assumption | wp_step))
      refine codeAny_mono (L2.code_set_led1 (.ref l) (E := E) (Q₁ := fun v s1 => v = .ref s.heap.objs.size ∧ s1 = { s with heap := s.heap.push (newSet w) }) ⟨rfl, rfl⟩) fun r s1 hr => ?_
      cases r with
      | error e => exact hr
      | ok fl =>
        cases fl with
        | ret v =>
          have ⟨e1, e2⟩ := hr
          subst e1
          subst e2
          have gS : (s.heap.push (newSet w)).get? s.heap.objs.size = some (newSet w) := Heap.get?_push_size _ rfl
          have tS : Shared.TypeIs { s with heap := s.heap.push (newSet w) } (.ref s.heap.objs.size) "set" := ⟨_, gS, rfl⟩
          have iL := F.called_set.init.lookup
          have iB := F.called_set.init.bind (.ref s.heap.objs.size)
          repeat (any_goals (first | assumption | wp_step))
          refine codeAny_mono (codeAny_call_builtin (R := wants (fun r s2 => r = .none ∧ ∃ h2 tk, s2 = { s with heap := h2, toks := tk } ∧ TxSet P w h2 s.heap.objs.size (allL xs) ∧ (∀ b o, b < s.heap.objs.size → s.heap.get? b = some o → h2.get? b = some o)) E)
            F.called_set.init.plain F.entry_set_init (check_set_init_1 tS ?_)) fun r2 s2 hr2 => ?_
          · obtain ⟨⟨oc, od, odt, osl⟩, hol, hcl, nl, hdl⟩ := hl
            have hcl' : oc = .type "list" := hcl
            have hdl' : odt = .seq its nl := hdl
            subst hcl'
            subst hdl'
            have g1 : (s.heap.push (newSet w)).get? l = some { cls := .type "list", dict := od, data := .seq its nl, slots := osl } := Heap.get?_push_of_some _ hol
            have u1 := F.sub_list_set
            have u2 := F.sub_list_frozenset
            have u3 : (Value.type "list" == Value.type "dict") = false := by decide
            have at1 : (s.heap.push (newSet w)).IsList l its := ⟨_, g1, rfl, nl, rfl⟩
            unfold Builtin.«set.__init__» noKeywords Builtin.Frozenset.updateFrom
            generalize hG : pyIter = G
            wp_walk
            subst hG
            refine wpAny_pyIter_list at1 (wpAny_bind (wpAny_runValue ?_))
            have lS : l < s.heap.objs.size := Heap.lt_size hol
            have z1 : (s.heap.push (newSet w)).objs.size = s.heap.objs.size + 1 := Heap.size_push _ _
            have nL : l ≠ (s.heap.push (newSet w)).objs.size := fun z => absurd (show l = s.heap.objs.size + 1 from z.trans z1) (Nat.ne_of_lt (Nat.lt_succ_of_lt lS))
            have nS : s.heap.objs.size ∉ [(s.heap.push (newSet w)).objs.size, l] := by
              intro z
              rcases List.mem_cons.mp z with z | z
              · exact absurd (show s.heap.objs.size = s.heap.objs.size + 1 from z.trans z1) (Nat.ne_of_lt (Nat.lt_succ_self _))
              · exact absurd (List.mem_singleton.mp z) (Nat.ne_of_gt lS)
            have zx : xs.length = its.size := by rw [← StrsAre.len_eq hi, Array.length_toList]
            have vx : ∀ (i : Nat) (v : Value), its[i]? = some v → ∃ t, v = .str (xs.getD i Str.empty) t := fun i v z => SS.strs_at hi i v (by rw [Array.getElem?_toList]; exact z)
            refine fill_tx ((Walks.list (by simp [noH]) _ l nL its).toS) s.heap.objs.size nS xs zx (by omega) vx its.size 0 _ (by omega) ⟨⟨_, Heap.get?_push_size _ rfl, rfl, rfl⟩, at1.push _⟩ ?first ?last
            case first => exact tx_fresh (Heap.get?_push_of_some _ gS)
            case last =>
              intro s3 mv hs3
              obtain ⟨h3, g3, d3, tk3, os3⟩ := s3
              have eg : g3 = s.gens := mv.gens
              have ed : d3 = s.drawn := mv.drawn
              have eo : os3 = s.os := mv.os
              subst eg
              subst ed
              subst eo
              show wpAny _ _ _ _ _ _
              refine wpAny_pure (show wpAny _ _ (ret Value.none) _ _ _ from wpAny_pure ⟨rfl, h3, tk3, rfl, hs3, fun b o lb e => ?_⟩)
              refine mv.heap b o (fun z => ?_) (Heap.get?_push_of_some _ (Heap.get?_push_of_some _ e))
              rcases List.mem_cons.mp z with z | z
              · exact absurd z (Nat.ne_of_lt lb)
              · exact absurd (show b = s.heap.objs.size + 1 from (List.mem_singleton.mp z).trans z1) (Nat.ne_of_lt (Nat.lt_succ_of_lt lb))
          · cases r2 with
            | error e => exact hr2
            | ok f2 =>
              cases f2 with
              | ret r =>
                have ⟨e0, h2, tk, e1, hs, hk⟩ := hr2
                subst e0
                subst e1
                repeat (any_goals (first | assumption | wp_step))
                exact k _ _ hs hk
              | _ => exact hr2.elim
        | _ => exact hr.elim)⟩))
end
end PI
namespace PI
open PySem PySem.Spec PyProof.Rows
theorem perm_sub : ∀ {l m : List Str}, l.Nodup → (∀ k ∈ l, k ∈ m) → m.length = l.length → l.Perm m
  | [], m, _, _, h => by
    obtain rfl := List.eq_nil_of_length_eq_zero h
    exact List.Perm.nil
  | k :: r, m, nd, hm, hl => by
    have ⟨n1, n2⟩ := List.nodup_cons.mp nd
    have hk := hm k List.mem_cons_self
    have pe := List.perm_cons_erase hk
    refine List.Perm.trans (List.Perm.cons k (perm_sub n2 (fun j hj => ?_) ?_)) pe.symm
    · exact (List.mem_erase_of_ne (fun z => n1 (by rw [← z]; exact hj))).mpr (hm j (List.mem_cons_of_mem _ hj))
    · have := pe.length_eq
      simp only [List.length_cons] at this hl
      omega
theorem texts_of : ∀ {vs : List Value}, (∀ v ∈ vs, ∃ x t, v = Value.str x t) → ∃ ss, StrsAre vs ss
  | [], _ => ⟨[], .nil⟩
  | v :: r, h => by
    obtain ⟨x, t, rfl⟩ := h v List.mem_cons_self
    obtain ⟨ss, q⟩ := texts_of fun u hu => h u (List.mem_cons_of_mem _ hu)
    exact ⟨x :: ss, .cons x t q⟩
theorem texts_mem : ∀ {vs : List Value} {ss : List Str}, StrsAre vs ss → ∀ {x : Str} {t : Tok}, Value.str x t ∈ vs → x ∈ ss
  | _, _, .nil, x, t, h => by cases h
  | _, _, .cons y u q, x, t, h => by
    rcases List.mem_cons.mp h with e | e
    · cases e
      exact List.mem_cons_self
    · exact List.mem_cons_of_mem _ (texts_mem q e)
theorem is_text {P : Program} {w : World} {k : Str} {v : Value} (h : (strKind P w).is k v = true) : ∃ t, v = Value.str k t := by
  have h : Value.isStrOf k v = true := h
  cases v with
  | str y t =>
    have e : y = k := by simpa [Value.isStrOf] using h
    rw [e]
    exact ⟨t, rfl⟩
  | _ => simp [Value.isStrOf] at h
theorem vals_texts {P : Program} {w : World} {es : Array (Int × Value)} {ep : Nat} {t : SetTable} {l : List Str} (F : Froz.TxOk P w (es, ep, t) l) (nd : l.Nodup) {vs : List Value} (pm : vs.Perm (es.toList.map (·.2))) : ∃ ss, StrsAre vs ss ∧ ss.Perm l := by
  obtain ⟨ss, hS⟩ := texts_of (vs := vs) fun v hv => by
    obtain ⟨e, he, rfl⟩ := List.mem_map.mp (pm.mem_iff.mp hv)
    obtain ⟨⟨k, hk, _⟩, _⟩ := F.el e he
    obtain ⟨u, q⟩ := is_text hk
    exact ⟨k, u, q⟩
  refine ⟨ss, hS, (perm_sub nd (fun k hk => ?_) ?_).symm⟩
  · obtain ⟨e, he, q⟩ := (F.mem k).mp hk
    obtain ⟨u, z⟩ := is_text q
    refine texts_mem hS (t := u) ?_
    rw [← z]
    exact pm.mem_iff.mpr (List.mem_map_of_mem (f := (·.2)) he)
  · have z1 := StrsAre.length hS
    have z2 := pm.length_eq
    have z4 : (es.toList.map (·.2)).length = es.size := by rw [List.length_map, Array.length_toList]
    have z3 : es.size = l.length := F.sz
    omega
section
variable {P : Program} {w : World} {A : Around} {E : Value → Shared → Prop} {s : Shared}
theorem sorted_tx {a : Addr} {l : List Str} {Q : Value → Shared → Prop} (T : TxSet P w s.heap a l) (noH : A.handled = none) (few : l.length < 64)
    (fin : ∀ (s2 : Shared) (p : Addr) (out : Array Value) (c : Nat) (ss : List Str), (∀ b o, s.heap.get? b = some o → s2.heap.get? b = some o) → s2.gens = s.gens → s2.os = s.os → s.heap.objs.size ≤ p →
      s2.heap.get? p = some (seqObj "list" out c) → StrsAre out.toList ss → ss.Perm l → sortedS ss = true → Q (.ref p) s2) :
    wpAny (model P w) A (call (.builtin "sorted") [.ref a]) Q E s := by
  obtain ⟨⟨es, ep, t, at_, F, ris, led⟩, nd⟩ := T
  have cnt : es.size = l.length := F.sz
  have small : es.size < scanBound := by rw [cnt]; exact Nat.lt_trans few (by decide)
  refine Calls.call_function_entry kind_sorted plain_sorted entry_sorted (args_sorted1 (.ref a)) ?_
  unfold Builtin.«sorted»
  refine wpAny_bind (m := checkCount "sorted" 1 1 1) (wpAny_pure ?_)
  refine wpAny_bind (L2.collect_set (A := A.in1) noH ⟨_, at_, rfl, rfl⟩ F.fit small ris led fun s1 vs k1 z1 g1 o1 pm => ?_)
  obtain ⟨ss, hS, hp⟩ := vals_texts F nd pm
  have hvl : vs.length = l.length := by rw [pm.length_eq, List.length_map, Array.length_toList]; exact cnt
  refine wpAny_bind (wpAny_newList ?_ (by rw [hvl, sizeLine_eq]; omega))
  have at1 : (s1.heap.push (seqObj "list" vs.toArray 0)).get? s1.heap.objs.size = some (seqObj "list" vs.toArray 0) := Heap.get?_push_size s1.heap rfl
  refine wpAny_bind (wpAny_holding (wpAny_call_entry slot_list_sort ⟨_, at1, rfl⟩ entry_list_sort (list_sort_treeK strKind_oneLt at1 hS.keysOf (fun v₁ v₂ rest e => keyKind_strs (by rw [← e]; exact hS)) (by omega) fun st' pp so => ⟨_, rfl, ?_⟩) (args_list_sort (.ref s1.heap.objs.size))))
  obtain ⟨ys, y1, y2, y3⟩ := sorted_out_str hS pp so
  obtain ⟨c, hc⟩ := sortedHeap_at (vs := vs) (out := (arrOf st').map (·.2)) at1
  refine wpAny_pure ⟨_, rfl, fin _ s1.heap.objs.size _ c ys (fun b u e => ?_) g1 o1 z1 hc y1 (y2.trans hp) y3⟩
  have q := k1 b u e
  have below := Heap.lt_size q
  show (sortedHeap (s1.heap.push (seqObj "list" vs.toArray 0)) s1.heap.objs.size vs ((arrOf st').map (·.2))).get? b = some u
  rw [sortedHeap_old (Nat.ne_of_lt below) (by rw [size_push']; exact Nat.lt_succ_of_lt below)]
  exact Heap.get?_push_of_some _ q
end
/-! ### the order of texts -/
theorem ltN_irr : ∀ a, ltN a a = false
  | [] => rfl
  | x :: r => by unfold ltN; simp [ltN_irr r]
theorem ltN_tri : ∀ {a b : List Nat}, ltN a b = false → ltN b a = false → a = b
  | [], [], _, _ => rfl
  | [], _ :: _, h, _ => by cases h
  | _ :: _, [], _, h => by cases h
  | x :: r, y :: q, h, g => by
    unfold ltN at h g
    by_cases c : x < y
    · rw [if_pos c] at h; cases h
    · by_cases d : y < x
      · rw [if_pos d] at g; cases g
      · have e : x = y := by omega
        subst e
        rw [if_neg c, if_pos rfl] at h
        rw [if_neg d, if_pos rfl] at g
        rw [ltN_tri h g]
theorem ltN_trans : ∀ {a b c : List Nat}, ltN a b = true → ltN b c = true → ltN a c = true
  | a, b, [], h, g => by cases b <;> cases g
  | a, [], z :: p, h, g => by cases a <;> cases h
  | [], _ :: _, _ :: _, _, _ => rfl
  | x :: r, y :: q, z :: p, h, g => by
    unfold ltN at h g ⊢
    by_cases c : x < y
    · by_cases d : y < z
      · rw [if_pos (by omega)]
      · rw [if_neg d] at g
        by_cases e : y = z
        · rw [if_pos (by omega)]
        · rw [if_neg e] at g; cases g
    · rw [if_neg c] at h
      by_cases e : x = y
      · rw [if_pos e] at h
        by_cases d : y < z
        · rw [if_pos (by omega)]
        · rw [if_neg d] at g
          by_cases f : y = z
          · rw [if_pos f] at g
            rw [if_neg (by omega), if_pos (by omega)]
            exact ltN_trans h g
          · rw [if_neg f] at g; cases g
      · rw [if_neg e] at h; cases h
theorem ltN_cps : ∀ a b : List Nat, ltCps a b = ltN a b
  | a, [] => by
    rw [ltCps_eq]
    cases a <;> rfl
  | [], y :: q => by
    rw [ltCps_eq]
    exact decide_eq_true (List.nil_lt_cons y q)
  | x :: r, y :: q => by
    rw [ltCps_eq]
    have ih := ltN_cps r q
    rw [ltCps_eq] at ih
    unfold ltN
    by_cases c : x < y
    · rw [if_pos c]
      exact decide_eq_true (List.cons_lt_cons_iff.mpr (.inl c))
    · rw [if_neg c]
      by_cases e : x = y
      · rw [if_pos e, ← ih]
        refine decide_eq_decide.mpr ?_
        rw [List.cons_lt_cons_iff]
        exact ⟨fun h => h.elim (fun z => absurd z c) (·.2), fun h => .inr ⟨e, h⟩⟩
      · rw [if_neg e]
        exact decide_eq_false fun h => (List.cons_lt_cons_iff.mp h).elim (fun z => c z) fun z => e z.1
theorem str_ext {x y : Str} (h : x.cps.toList = y.cps.toList) : x = y := by
  obtain ⟨⟨a⟩⟩ := x
  obtain ⟨⟨b⟩⟩ := y
  have h : a = b := h
  rw [h]
theorem insT_mem (x z : Str) : ∀ l : List Str, z ∈ insT x l ↔ z = x ∨ z ∈ l
  | [] => by simp [insT]
  | y :: r => by
    unfold insT
    split
    · exact List.mem_cons
    · split
      · next e =>
        constructor
        · exact fun h => .inr h
        · rintro (h | h)
          · rw [h, e]; exact List.mem_cons_self
          · exact h
      · rw [List.mem_cons, insT_mem x z r, List.mem_cons]
        constructor
        · rintro (h | h | h)
          · exact .inr (.inl h)
          · exact .inl h
          · exact .inr (.inr h)
        · rintro (h | h | h)
          · exact .inr (.inl h)
          · exact .inl h
          · exact .inr (.inr h)
def UpT (l : List Str) : Prop := l.Pairwise fun a b => ltN a.cps.toList b.cps.toList = true
theorem insT_up (x : Str) : ∀ l : List Str, UpT l → UpT (insT x l)
  | [], _ => List.pairwise_singleton _ _
  | y :: r, h => by
    have ⟨h1, h2⟩ := List.pairwise_cons.mp h
    unfold insT
    split
    · next c =>
      refine List.pairwise_cons.mpr ⟨fun z hz => ?_, h⟩
      rcases List.mem_cons.mp hz with e | e
      · rw [e]; exact c
      · exact ltN_trans c (h1 z e)
    · next c =>
      split
      · exact h
      · next d =>
        refine List.pairwise_cons.mpr ⟨fun z hz => ?_, insT_up x r h2⟩
        rcases (insT_mem x z r).mp hz with e | e
        · rw [e]
          cases q : ltN y.cps.toList x.cps.toList with
          | true => rfl
          | false => exact absurd (str_ext (ltN_tri (by simpa using c) q)) d
        · exact h1 z e
theorem srtT_up : ∀ xs : List Str, UpT (srtT xs)
  | [] => .nil
  | x :: r => insT_up x _ (srtT_up r)
theorem srtT_mem (z : Str) : ∀ xs : List Str, z ∈ srtT xs ↔ z ∈ xs
  | [] => by simp [srtT]
  | x :: r => by
    show z ∈ insT x (srtT r) ↔ _
    rw [insT_mem, srtT_mem z r, List.mem_cons]
theorem up_ext : ∀ {l m : List Str}, UpT l → UpT m → (∀ k, k ∈ l ↔ k ∈ m) → l = m
  | [], [], _, _, _ => rfl
  | [], y :: r, _, _, h => absurd ((h y).mpr List.mem_cons_self) (by simp)
  | x :: r, [], _, _, h => absurd ((h x).mp List.mem_cons_self) (by simp)
  | x :: r, y :: q, h1, h2, h => by
    have ⟨a1, a2⟩ := List.pairwise_cons.mp h1
    have ⟨b1, b2⟩ := List.pairwise_cons.mp h2
    have e : x = y := by
      rcases List.mem_cons.mp ((h x).mp List.mem_cons_self) with e | e
      · exact e
      · rcases List.mem_cons.mp ((h y).mpr List.mem_cons_self) with e2 | e2
        · exact e2.symm
        · have := ltN_trans (a1 y e2) (b1 x e)
          rw [ltN_irr] at this
          cases this
    subst e
    congr 1
    refine up_ext a2 b2 fun k => ⟨fun hk => ?_, fun hk => ?_⟩
    · rcases List.mem_cons.mp ((h k).mp (List.mem_cons_of_mem _ hk)) with e | e
      · have := a1 k hk
        rw [e, ltN_irr] at this
        cases this
      · exact e
    · rcases List.mem_cons.mp ((h k).mpr (List.mem_cons_of_mem _ hk)) with e | e
      · have := b1 k hk
        rw [e, ltN_irr] at this
        cases this
      · exact e
theorem rise_up : ∀ (p : Str) (l : List Str), risingS p l = true → (p :: l).Nodup → UpT (p :: l)
  | p, [], _, _ => List.pairwise_singleton _ _
  | p, x :: r, h, nd => by
    have h : (!ltCps x.cps.toList p.cps.toList && risingS x r) = true := h
    rw [Bool.and_eq_true] at h
    have ⟨n1, n2⟩ := List.nodup_cons.mp nd
    have u := rise_up x r h.2 n2
    have px : ltN p.cps.toList x.cps.toList = true := by
      have c := h.1
      rw [ltN_cps] at c
      cases q : ltN p.cps.toList x.cps.toList with
      | true => rfl
      | false =>
        exfalso
        refine n1 ?_
        rw [str_ext (ltN_tri q (by simpa using c))]
        exact List.mem_cons_self
    refine List.pairwise_cons.mpr ⟨fun z hz => ?_, u⟩
    rcases List.mem_cons.mp hz with e | e
    · rw [e]; exact px
    · exact ltN_trans px ((List.pairwise_cons.mp u).1 z e)
theorem sorted_up : ∀ {l : List Str}, sortedS l = true → l.Nodup → UpT l
  | [], _, _ => .nil
  | x :: r, h, nd => rise_up x r h nd
theorem srtT_of {ys xs : List Str} (p : ys.Perm (allL xs)) (h : sortedS ys = true) : ys = srtT xs := by
  have nd : (allL xs).Nodup := allL_nd xs [] List.nodup_nil
  refine up_ext (sorted_up h (p.nodup_iff.mpr nd)) (srtT_up xs) fun k => ?_
  rw [p.mem_iff, srtT_mem]
  have := allL_mem xs [] k
  simpa [allL] using this
end PI
namespace PI
open PySem PySem.Spec PyProof.Rows
section
variable {P : Program} {w : World} {A : Around} {E : Value → Shared → Prop} {s : Shared}
/-- set(xs), xs a list of ints -/
theorem ins_of_list {l : Addr} {its : Array Value} {xs : List Int} {Q : Value → Shared → Prop} (noH : A.handled = none) (hl : s.heap.IsList l its) (hi : IntsAre its.toList xs) (few : xs.length + 1 < scanBound)
    (k : ∀ (h2 : Heap) (tk c : Nat), L2.SetR w h2 s.heap.objs.size (fun j => decide (j ∈ xs)) c → c ≤ xs.length → (∀ b o, s.heap.get? b = some o → h2.get? b = some o) → Q (.ref s.heap.objs.size) { s with heap := h2, toks := tk }) :
    wpAny (model P w) A (call (.type "set") [.ref l]) Q E s := by
  have ⟨mc, mt, mro⟩ := F.called_set.mro
  have made := F.called_set.made
  have isub := F.called_set.sub
  have nT := F.called_set.notType
  have cC := F.called_set.canCreate
  have tC := F.typeCall_set_1 (.ref l)
  refine wpAny_call (codeAny_of_tree (by
    show wpAny _ _ (callAny (.type "set") _) _ _ _
    refine wpAny_pure ⟨Code.quiet_builtin _ (by decide +kernel), codeAny_builtin F.entry_type_call (by
      rw [Around.under_plain (weight_type_call_type "set" [.ref l] []) rfl]
      repeat (any_goals (first | assumption | wp_step))
      refine codeAny_mono (L2.code_set_led1 (.ref l) (E := E) (Q₁ := fun v s1 => v = .ref s.heap.objs.size ∧ s1 = { s with heap := s.heap.push (newSet w) }) ⟨rfl, rfl⟩) fun r s1 hr => ?_
      cases r with
      | error e => exact hr
      | ok fl =>
        cases fl with
        | ret v =>
          have ⟨e1, e2⟩ := hr
          subst e1
          subst e2
          have gS : (s.heap.push (newSet w)).get? s.heap.objs.size = some (newSet w) := Heap.get?_push_size _ rfl
          have tS : Shared.TypeIs { s with heap := s.heap.push (newSet w) } (.ref s.heap.objs.size) "set" := ⟨_, gS, rfl⟩
          have iL := F.called_set.init.lookup
          have iB := F.called_set.init.bind (.ref s.heap.objs.size)
          repeat (any_goals (first | assumption | wp_step))
          refine codeAny_mono (codeAny_call_builtin (R := wants (fun r s2 => r = .none ∧ ∃ h2 tk c, s2 = { s with heap := h2, toks := tk } ∧ L2.SetR w h2 s.heap.objs.size (fun j => decide (j ∈ xs)) c ∧ c ≤ xs.length ∧ (∀ b o, s.heap.get? b = some o → h2.get? b = some o)) E)
            F.called_set.init.plain F.entry_set_init (check_set_init_1 tS ?_)) fun r2 s2 hr2 => ?_
          · obtain ⟨⟨oc, od, odt, osl⟩, hol, hcl, nl, hdl⟩ := hl
            have hcl' : oc = .type "list" := hcl
            have hdl' : odt = .seq its nl := hdl
            subst hcl'
            subst hdl'
            have g1 : (s.heap.push (newSet w)).get? l = some { cls := .type "list", dict := od, data := .seq its nl, slots := osl } := Heap.get?_push_of_some _ hol
            have u1 := F.sub_list_set
            have u2 := F.sub_list_frozenset
            have u3 : (Value.type "list" == Value.type "dict") = false := by decide
            have at1 : (s.heap.push (newSet w)).IsList l its := ⟨_, g1, rfl, nl, rfl⟩
            unfold Builtin.«set.__init__» noKeywords Builtin.Frozenset.updateFrom
            generalize hG : pyIter = G
            wp_walk
            subst hG
            refine wpAny_pyIter_list at1 (wpAny_bind (wpAny_runValue ?_))
            have lS : l < s.heap.objs.size := Heap.lt_size hol
            have z1 : (s.heap.push (newSet w)).objs.size = s.heap.objs.size + 1 := Heap.size_push _ _
            have nL : l ≠ (s.heap.push (newSet w)).objs.size := fun z => absurd (show l = s.heap.objs.size + 1 from z.trans z1) (Nat.ne_of_lt (Nat.lt_succ_of_lt lS))
            have nS : s.heap.objs.size ∉ [(s.heap.push (newSet w)).objs.size, l] := by
              intro z
              rcases List.mem_cons.mp z with z | z
              · exact absurd (show s.heap.objs.size = s.heap.objs.size + 1 from z.trans z1) (Nat.ne_of_lt (Nat.lt_succ_self _))
              · exact absurd (List.mem_singleton.mp z) (Nat.ne_of_gt lS)
            have zx : its.size = xs.length := by
              have q := hi.length
              rw [Array.length_toList] at q
              exact q
            have vx : ∀ (i : Nat) (v : Value), its[i]? = some v → ∃ k t, xs[i]? = some k ∧ v = .int k t := fun i v z => by
              have lt : i < xs.length := by rw [← zx]; exact (Array.getElem?_eq_some_iff.mp z).1
              obtain ⟨t, e⟩ := PyProof.Rows.IntsAre.int_at hi i v (by rw [Array.getElem?_toList]; exact z)
              rw [List.getD_eq_getElem?_getD, List.getElem?_eq_getElem lt] at e
              exact ⟨xs[i], t, List.getElem?_eq_getElem lt, e⟩
            refine L2.set_update_ints ((Walks.list (by simp [noH]) _ l nL its).toS) s.heap.objs.size nS xs zx few vx its.size 0 _ (by omega) (Nat.zero_le _) ⟨⟨_, Heap.get?_push_size _ rfl, rfl, rfl⟩, at1.push _⟩ ?first ?last
            case first => exact ⟨0, Nat.le_refl 0, L2.setR_new_at (Heap.get?_push_of_some _ gS)⟩
            case last =>
              intro s3 c3 mv hc3 hs3
              obtain ⟨h3, g3, d3, tk3, os3⟩ := s3
              have eg : g3 = s.gens := mv.gens
              have ed : d3 = s.drawn := mv.drawn
              have eo : os3 = s.os := mv.os
              subst eg
              subst ed
              subst eo
              rw [zx] at hc3
              show wpAny _ _ _ _ _ _
              refine wpAny_pure (show wpAny _ _ (ret Value.none) _ _ _ from wpAny_pure ⟨rfl, h3, tk3, c3, rfl, hs3, hc3, fun b o e => ?_⟩)
              have lb : b < s.heap.objs.size := Heap.lt_size e
              refine mv.heap b o (fun z => ?_) (Heap.get?_push_of_some _ (Heap.get?_push_of_some _ e))
              rcases List.mem_cons.mp z with z | z
              · exact absurd z (Nat.ne_of_lt lb)
              · exact absurd (show b = s.heap.objs.size + 1 from (List.mem_singleton.mp z).trans z1) (Nat.ne_of_lt (Nat.lt_succ_of_lt lb))
          · cases r2 with
            | error e => exact hr2
            | ok f2 =>
              cases f2 with
              | ret r =>
                have ⟨e0, h2, tk, c, e1, hs, hc, hk⟩ := hr2
                subst e0
                subst e1
                repeat (any_goals (first | assumption | wp_step))
                exact k _ _ _ hs hc hk
              | _ => exact hr2.elim
        | _ => exact hr.elim)⟩))
end
end PI
namespace PI
open PySem L2 PyProof.Rows
theorem kv_rel {K : PySem.W.Frag} : ∀ {kvs : List (Str × D)} {vs : List (Str × Value)} (s : Str), Paired (fun p q => p.1 = q.1 ∧ ∃ v, RelV v q.2 ∧ ∀ ρ H, Rel K ρ H p.2 v) kvs vs →
    ∃ v, RelV v ((valueAt vs s).getD .none) ∧ ∀ ρ H, Rel K ρ H (kvD kvs s) v
  | [], [], s, .nil => ⟨.non, rfl, fun _ _ => .non⟩
  | (k, d) :: r, (k2, u) :: q, s, .cons h t => by
    obtain ⟨e, v, rv, rr⟩ := h
    have e' : k = k2 := e
    subst e'
    by_cases c : k = s
    · refine ⟨v, ?_, fun ρ H => ?_⟩
      · have : valueAt ((k, u) :: q) s = some u := by simp [valueAt, List.find?_cons, c]
        rw [this]; exact rv
      · unfold kvD
        rw [if_pos c]
        exact rr ρ H
    · obtain ⟨v, rv, rr⟩ := kv_rel s t
      refine ⟨v, ?_, fun ρ H => ?_⟩
      · have : valueAt ((k, u) :: q) s = valueAt q s := by simp [valueAt, List.find?_cons, c]
        rw [this]; exact rv
      · unfold kvD
        rw [if_neg c]
        exact rr ρ H
section
variable {X : Cx} {T : List (Addr × Str)} {E : XK} {cls : Nat → Addr} {pg : Pg} {n : Nat} {lm : Bool} {ρ : List Addr} {h : Hs} {H : Hp} {Q : VK} {x y : Expr} {pos p : Pos}
theorem sn_gget {i : Nat} {s : Str} {kvs : List (Str × D)} {a : PI.E} {apos : Pos} (g : GX X T E cls pg n lm) (hd : pg.dic[i]? = some (s, kvs)) (hg : Gl X s) (hdb : (s == ("__debug__" : Str)) = false) (hb : baseOk (.Name s p) = true)
    (hl : (apos.endLine == pos.line) = true) (hs : notStar x = true) (ha : PE X x (tE X.K T E cls (cal pg n) a)) : PE X (.Call (.Attribute (.Name s p) "get" apos) [x] [] pos) (tE X.K T E cls (cal pg n) (.gget i a)) := by
  obtain ⟨ad, vs, hm, hsm, hD, hP⟩ := (g.gf.dic i s kvs hd).ex
  refine ⟨fun pins s0 σ H Q I hq => ?_⟩
  have q1 : tE X.K T E cls (cal pg n) a σ H (fun v H1 => ∃ k, [v] = [V.str k] ∧ ∀ w, (∀ ρ H, Rel X.K ρ H (kvD kvs k) w) → Q w H1) := by
    refine (tG.bind (f := evE (cal pg n) a) (g := fun x δ h1 => getD1 (cal pg n).dic[i]? x h1) hq).mono fun ρ1 h1 H1 d1 r1 q v1 l1 => ?_
    obtain ⟨δ, r, f, q⟩ := q
    have hk : (cal pg n).dic[i]? = some kvs := by
      show (pg.dic.map (·.2))[i]? = _
      rw [List.getElem?_map, hd]; rfl
    rw [hk] at q
    unfold getD1 at q
    cases l1 with
    | str k => exact ⟨k, rfl, fun w hw => Post.ok r q w (hw _ _)⟩
    | _ => exact (q : False).elim
  have few : ((backTo pos (starEach [x] X.env)).all (fun x => !x.1) && (backToKw pos (keywordEach [] X.env)).all (fun x => x.1.isSome) && decide ((x :: ([] : List Expr)).length + ([] : List Keyword).length + (if ([] : List Keyword).isEmpty then 0 else 1) < 30)) = true := by
    have := back_all_star (pos := pos) (env := X.env) (es := [x]) (by simp [hs])
    rw [this]; rfl
  refine wpAny_Call_method_late (base_ok hb) few hl rfl (ld_glob I hg hm ?_ hdb)
  refine ⟨"dict", "dict.get", PySem.F.plainAttrs_dict, PySem.F.slot_dict_get, PySem.F.type_dict_get, (hD _ I.kIn).typeIs, (hD _ I.kIn).mapOf.noDict, ?_⟩
  have hA := (pa_cons ha pa_nil (star_cons hs)).run pos pins s0 σ H (fun us H2 => ∃ k, us = [V.str k] ∧ ∀ w, (∀ ρ H, Rel X.K ρ H (kvD kvs k) w) → Q w H2) I q1
  rw [star_cons hs] at hA ⊢
  refine Calls.callWith_builtin rfl (Calls.evalArgs_plain ?_)
  refine thn hA fun us s2 ⟨ws, H2, I2, r2, k, e2, q2⟩ => ?_
  subst e2
  obtain ⟨u, rfl, t, rfl⟩ := vals1 r2
  have dd := hD _ I2.kIn
  obtain ⟨v, rv, rr⟩ := kv_rel k hP
  exact call_meetsIn PySem.F.slot_dict_get dd.typeIs PySem.F.entry_dict_get (PySem.F.args_dict_get_2 _ _) (PySem.meets_dict_get (PySem.strKind X.prog X.w) ad (strKind_is _ _ _ _) hsm) ⟨_, dd.mapOf, ⟨v, H2, I2.tok _, rv, q2 v rr⟩⟩
theorem strs_of {K : PySem.W.Frag} : ∀ {ds : List D} {vs : List V} {bs : List Str}, RelAll K ρ H ds vs → strs? ds = some bs → vs = bs.map V.str
  | [], _, _, .nil, e => by
    cases e; rfl
  | d :: ds, _, bs, .cons q r, e => by
    cases d with
    | str b =>
      obtain ⟨t, h1, rfl⟩ := Option.map_eq_some_iff.mp (show (strs? ds).map (b :: ·) = some bs from e)
      cases q
      rw [strs_of r h1]; rfl
    | _ => cases e
theorem stT_eq : stT = stS := rfl
theorem sn_lenSet {a : PI.E} {p2 q2 : Pos} (g : GX X T E cls pg n lm) (hg : Gl X "len") (hg2 : Gl X "set") (hs : notStar x = true) (ha : PE X x (tE X.K T E cls (cal pg n) a)) :
    PE X (.Call (.Name "len" p) [.Call (.Name "set" p2) [x] [] q2] [] pos) (tE X.K T E cls (cal pg n) (.lenSet a)) := by
  refine ⟨fun pins s σ H Q I hq => ?_⟩
  have hm := g.gf.bn "len" (by decide)
  have hm2 := g.gf.bn "set" (by decide)
  have q1 : tE X.K T E cls (cal pg n) a σ H (fun v H1 => ∃ (l : Addr) (ss : List Str), v = .ref l ∧ (SqL X.K H1 l (ss.map V.str) ∨ SqT X.K H1 l (ss.map V.str)) ∧ ss.length ≤ 4000 ∧ Q (.int (metS ss).length) H1) := by
    refine (tG.bind (f := evE (cal pg n) a) (g := fun x δ h1 => lenSetD x h1) hq).mono fun ρ1 h1 H1 d1 r1 q v1 l1 => ?_
    obtain ⟨δ, r, f, q⟩ := q
    unfold lenSetD at q
    cases hx : seqD h1 d1 with
    | none => rw [hx] at q; exact (q : False).elim
    | some xs =>
      rw [hx] at q
      have q : Post X.K T E cls ρ1 H1 (GD X.K Q) (match strs? xs with | some ss => if ss.length ≤ 4000 then .ok (.int (ss.foldl stT []).length) h1 else .no | none => .no) := q
      cases hy : strs? xs with
      | none => rw [hy] at q; exact (q : False).elim
      | some ss =>
        rw [hy] at q
        have q : Post X.K T E cls ρ1 H1 (GD X.K Q) (if ss.length ≤ 4000 then .ok (.int (ss.foldl stT []).length) h1 else .no) := q
        split at q
        case isFalse => exact (q : False).elim
        case isTrue hz =>
          obtain ⟨ad, vs, rfl, hq, q2⟩ := l1.sq r hx
          rw [strs_of q2 hy] at hq
          exact ⟨ad, ss, rfl, hq, hz, Post.ok r q _ (.int _)⟩
  refine Call_ (ld_blt I hg hm PySem.boot_len (PyProof.Rows.callWith_builtin1 (PyProof.Rows.args_cons ?_ rfl) rfl rfl))
  refine Call_ (ld_blt I hg2 hm2 PyProof.Rows.boot_set (PyProof.Rows.callWith_type1 (PyProof.Rows.args_cons (thn (ha.run pins s σ H _ I q1) fun v s1 hh => PyProof.Rows.args_nil ?_) (star_cons hs)) (star_cons hs) rfl))
  obtain ⟨v1, H1, I1, r1, l, ss, e1, hq, hz, q1⟩ := hh
  subst e1
  cases r1
  have fin : ∀ (h' : Heap) (tk : Nat), HasSet X.prog X.w h' s1.heap.objs.size (metS ss) → (∀ b o, b < s1.heap.objs.size → s1.heap.get? b = some o → h'.get? b = some o) →
      wpAny (model X.prog X.w) X.A (spliced (backTo pos (starEach [] X.env))) (fun vs s₂ => wpAny (model X.prog X.w) X.A (call (.builtin "len") (Value.ref s1.heap.objs.size :: vs)) (EP X pins σ Q) X.xe s₂) X.xe { s1 with heap := h', toks := tk } := fun h' tk hS hk => by
    refine PyProof.Rows.args_nil ?_
    obtain ⟨o, es, ep, t, ho, hex, hd, _, _, _, hf, hn⟩ := hS
    have I2 : Inv X pins σ H1 { s1 with heap := h', toks := tk } := I1.kept fun b o e => hk b o (Heap.lt_size e) e
    have le := metS_le ss
    refine call_len_set ho hex hd hf (by rw [hn] <;> omega) ⟨.int (metS ss).length, H1, I2.tok _, ⟨_, by rw [hn]⟩, q1⟩
  have few : ss.length + 1 < scanBound := Nat.lt_of_le_of_lt (Nat.succ_le_succ hz) (by decide)
  rcases hq with hq | hq
  · obtain ⟨its, r, pl, hzz⟩ := I1.list hq
    exact set_of_list (I1.ok.hd g.calm) pl.isList (by simpa using strsAre_of r) few fun h' tk hS hk => fin h' tk hS hk
  · obtain ⟨its, r, pl, hzz⟩ := I1.tuple hq
    exact set_of_tuple (I1.ok.hd g.calm) pl (by simpa using strsAre_of r) few fun h' tk hS hk => fin h' tk hS hk
/-! ### sorted(set(xs)), xs a tuple of ints -/
theorem insI_mem (x k : Int) : ∀ l : List Int, k ∈ insI x l ↔ k = x ∨ k ∈ l
  | [] => by simp [insI]
  | y :: r => by
    unfold insI
    split
    · simp
    · split
      · next e => subst e; simp
      · simp only [List.mem_cons, insI_mem x k r]
        constructor
        · rintro (h | h | h)
          · exact .inr (.inl h)
          · exact .inl h
          · exact .inr (.inr h)
        · rintro (h | h | h)
          · exact .inr (.inl h)
          · exact .inl h
          · exact .inr (.inr h)
theorem insI_lt (x : Int) : ∀ l : List Int, l.Pairwise (· < ·) → (insI x l).Pairwise (· < ·)
  | [], _ => by simp [insI]
  | y :: r, h => by
    have ⟨h1, h2⟩ := List.pairwise_cons.mp h
    unfold insI
    split
    · next c =>
      refine List.pairwise_cons.mpr ⟨fun z hz => ?_, h⟩
      rcases List.mem_cons.mp hz with e | e
      · rw [e]; exact c
      · exact Int.lt_trans c (h1 z e)
    · next c =>
      split
      · exact h
      · next c2 =>
        refine List.pairwise_cons.mpr ⟨fun z hz => ?_, insI_lt x r h2⟩
        rcases (insI_mem x z r).mp hz with e | e
        · rw [e]; omega
        · exact h1 z e
theorem srt_lt : ∀ ns : List Int, (ns.foldr insI []).Pairwise (· < ·)
  | [] => .nil
  | x :: r => insI_lt x _ (srt_lt r)
theorem srt_mem (k : Int) : ∀ ns : List Int, k ∈ ns.foldr insI [] ↔ k ∈ ns
  | [] => by simp
  | x :: r => by
    show k ∈ insI x (r.foldr insI []) ↔ _
    rw [insI_mem, srt_mem k r, List.mem_cons]
theorem lt_ext : ∀ {l m : List Int}, l.Pairwise (· < ·) → m.Pairwise (· < ·) → (∀ k, k ∈ l ↔ k ∈ m) → l = m
  | [], [], _, _, _ => rfl
  | [], y :: r, _, _, h => absurd ((h y).mpr List.mem_cons_self) (by simp)
  | x :: r, [], _, _, h => absurd ((h x).mp List.mem_cons_self) (by simp)
  | x :: r, y :: q, h1, h2, h => by
    have ⟨a1, a2⟩ := List.pairwise_cons.mp h1
    have ⟨b1, b2⟩ := List.pairwise_cons.mp h2
    have e : x = y := by
      rcases List.mem_cons.mp ((h x).mp List.mem_cons_self) with e | e
      · exact e
      · rcases List.mem_cons.mp ((h y).mpr List.mem_cons_self) with e2 | e2
        · exact e2.symm
        · have := a1 y e2
          have := b1 x e
          omega
    subst e
    congr 1
    refine lt_ext a2 b2 fun k => ⟨fun hk => ?_, fun hk => ?_⟩
    · rcases List.mem_cons.mp ((h k).mp (List.mem_cons_of_mem _ hk)) with e | e
      · have := a1 k hk
        omega
      · exact e
    · rcases List.mem_cons.mp ((h k).mpr (List.mem_cons_of_mem _ hk)) with e | e
      · have := b1 k hk
        omega
      · exact e
theorem rel_ints {K : PySem.W.Frag} : ∀ ns : List Int, RelAll K ρ H (ns.map D.int) (ns.map V.int)
  | [] => .nil
  | n :: r => .cons (.int n) (rel_ints r)
theorem intsAre_of : ∀ {ns : List Int} {us : List Value}, Vals (ns.map V.int) us → IntsAre us ns
  | [], _, .nil => .nil
  | n :: ns, _, .cons r t => by
    obtain ⟨k, rfl⟩ := r
    exact .cons n k (intsAre_of t)
def rSetT (w : World) (K : PySem.W.Frag) : List V → Hp → VK → Prop := fun vs H Q => ∃ (a : Addr) (ns : List Int), vs = [V.ref a] ∧ SqT K H a (ns.map V.int) ∧ ns.length < 63 ∧ ∀ p c, H p = none → c ≤ ns.length → Q (.ref p) (upd H p (SetO w p (fun j => decide (j ∈ ns)) c))
theorem cr_setT (hc : X.calm = true) : CallR X (.type "set") (rSetT X.w X.K) := by
  intro pins s σ H vs us Q I r hh
  obtain ⟨a, ns, rfl, hq, hz, q⟩ := hh
  rw [Vals.ref1 r]
  obtain ⟨its, rr, pl, hzz⟩ := I.tuple hq
  refine call_set_tupI ns (I.ok.hd hc) pl (by simpa using intsAre_of rr) (Nat.lt_trans (Nat.succ_lt_succ hz) (by decide)) fun h' tk c R hcn k => ?_
  exact ⟨.ref _, _, I.laid (t' := tk) k (Nat.le_refl _) (setO_new R), rfl, q _ c (I.hok.fresh (Nat.le_refl _)) hcn⟩
/-- the same of a list -/
def rSetI (w : World) : List V → Hp → VK → Prop := fun vs H Q => ∃ (a : Addr) (ns : List Int), vs = [V.ref a] ∧ H a = some (.lst (ns.map V.int)) ∧ ns.length < 63 ∧ ∀ p c, H p = none → c ≤ ns.length → Q (.ref p) (upd H p (SetO w p (fun j => decide (j ∈ ns)) c))
theorem cr_setI (hc : X.calm = true) : CallR X (.type "set") (rSetI X.w) := by
  intro pins s σ H vs us Q I r hh
  obtain ⟨a, ns, rfl, hq, hz, q⟩ := hh
  rw [Vals.ref1 r]
  obtain ⟨its, nn, rr, pl, hzz⟩ := I.lst hq
  refine ins_of_list (I.ok.hd hc) ⟨_, pl, rfl, nn, rfl⟩ (xs := ns) (by simpa using intsAre_of rr) (Nat.lt_trans (Nat.succ_lt_succ hz) (by decide)) fun h' tk c R hcn k => ?_
  exact ⟨.ref _, _, I.laid (t' := tk) k (Nat.le_refl _) (setO_new R), rfl, q _ c (I.hok.fresh (Nat.le_refl _)) hcn⟩
theorem rel_strs {K : PySem.W.Frag} : ∀ ns : List Str, RelAll K ρ H (ns.map D.str) (ns.map V.str)
  | [] => .nil
  | n :: r => .cons (.str n) (rel_strs r)
theorem srt_len (xs : List Str) : (allL xs).length = (srtT xs).length := by
  have nd : (allL xs).Nodup := allL_nd xs [] List.nodup_nil
  have up := srtT_up xs
  have nd2 : (srtT xs).Nodup := List.Pairwise.imp (fun {a b} h e => by
    subst e
    rw [ltN_irr] at h
    cases h) up
  have m : ∀ k, k ∈ allL xs ↔ k ∈ srtT xs := fun k => by
    rw [srtT_mem]
    have := allL_mem xs [] k
    simpa [allL] using this
  exact ((List.perm_ext_iff_of_nodup nd nd2).mpr m).length_eq
theorem sn_sortSet {a : PI.E} {p2 q2 : Pos} (g : GX X T E cls pg n lm) (hg : Gl X "sorted") (hg2 : Gl X "set") (hs : notStar x = true) (ha : PE X x (tE X.K T E cls (cal pg n) a)) :
    PE X (.Call (.Name "sorted" p) [.Call (.Name "set" p2) [x] [] q2] [] pos) (tE X.K T E cls (cal pg n) (.sortSet a)) := by
  refine ⟨fun pins s σ H Q I hq => ?_⟩
  have hm := g.gf.bn "sorted" (by decide)
  have hm2 := g.gf.bn "set" (by decide)
  have q1 : tE X.K T E cls (cal pg n) a σ H (fun v H1 => rSetT X.w X.K [v] H1 (fun u H2 => rSortedSet X.w [u] H2 Q) ∨ rSetI X.w [v] H1 (fun u H2 => rSortedSet X.w [u] H2 Q) ∨
      ∃ (l : Addr) (ss : List Str), v = .ref l ∧ H1 l = some (.lst (ss.map V.str)) ∧ ss.length ≤ 4000 ∧ (srtT ss).length < 64 ∧ ∀ p, H1 p = none → Q (.ref p) (upd H1 p (.lst ((srtT ss).map V.str)))) := by
    refine (tG.bind (f := evE (cal pg n) a) (g := fun x δ h1 => sortSetD x h1) hq).mono fun ρ1 h1 H1 d1 r1 q v1 l1 => ?_
    obtain ⟨δ, r, f, q⟩ := q
    cases l1 with
    | tup hT sn l2 =>
      rename_i ad xs vs
      have q : Post X.K T E cls ρ1 H1 (GD X.K Q) (match ints? xs with | some ns => if ns.length < 63 then .ok (.ref h1.length) (h1 ++ [.lst ((ns.foldr insI []).map .int)]) else .no | none => .no) := q
      cases hy : ints? xs with
      | none => rw [hy] at q; exact (q : False).elim
      | some ns =>
        rw [hy] at q
        have q : Post X.K T E cls ρ1 H1 (GD X.K Q) (if ns.length < 63 then .ok (.ref h1.length) (h1 ++ [.lst ((ns.foldr insI []).map .int)]) else .no) := q
        split at q
        case isFalse => exact (q : False).elim
        case isTrue hz =>
          refine .inl ⟨_, ns, rfl, by rw [← ints_of l2 hy]; exact hT, hz, fun p c hp hc => ?_⟩
          refine ⟨p, _, c, rfl, upd_same, by omega, fun ns2 p2 hlt hmem hlen hp2 => ?_⟩
          have e : ns2 = ns.foldr insI [] := lt_ext hlt (srt_lt ns) fun k => by
            rw [hmem, srt_mem]
            simp
          subst e
          have E1 := Ext.new_ r (o := SetO X.w p (fun j => decide (j ∈ ns)) c) hp
          exact GD.push E1.rel (rel_ints _) (Post.ext E1 q) hp2
    | ref hk =>
      rename_i k ad
      have q : Post X.K T E cls ρ1 H1 (GD X.K Q) (match lstD' h1 (.ref k) with
        | some xs => (match strs? xs with
          | some ss => if ss.length ≤ 4000 ∧ (srtT ss).length < 64 then .ok (.ref h1.length) (h1 ++ [.lst ((srtT ss).map .str)]) else .no
          | none => (match ints? xs with
            | some ns => if ns.length < 63 then .ok (.ref h1.length) (h1 ++ [.lst ((ns.foldr insI []).map .int)]) else .no
            | none => .no))
        | none => .no) := q
      cases hx : lstD' h1 (.ref k) with
      | none => rw [hx] at q; exact (q : False).elim
      | some xs =>
        rw [hx] at q
        have q : Post X.K T E cls ρ1 H1 (GD X.K Q) (match strs? xs with
          | some ss => if ss.length ≤ 4000 ∧ (srtT ss).length < 64 then .ok (.ref h1.length) (h1 ++ [.lst ((srtT ss).map .str)]) else .no
          | none => (match ints? xs with
            | some ns => if ns.length < 63 then .ok (.ref h1.length) (h1 ++ [.lst ((ns.foldr insI []).map .int)]) else .no
            | none => .no)) := q
        cases hy : strs? xs with
        | none =>
          rw [hy] at q
          have q : Post X.K T E cls ρ1 H1 (GD X.K Q) (match ints? xs with
            | some ns => if ns.length < 63 then .ok (.ref h1.length) (h1 ++ [.lst ((ns.foldr insI []).map .int)]) else .no
            | none => .no) := q
          cases hi : ints? xs with
          | none => rw [hi] at q; exact (q : False).elim
          | some ns =>
            rw [hi] at q
            have q : Post X.K T E cls ρ1 H1 (GD X.K Q) (if ns.length < 63 then .ok (.ref h1.length) (h1 ++ [.lst ((ns.foldr insI []).map .int)]) else .no) := q
            split at q
            case isFalse => exact (q : False).elim
            case isTrue hz =>
              obtain ⟨b, vs, e1, rel, hb⟩ := lst'_of r (.ref hk) hx
              cases e1
              rw [ints_of rel hi] at hb
              refine .inr (.inl ⟨ad, ns, rfl, hb, hz, fun p c hp hc => ?_⟩)
              refine ⟨p, _, c, rfl, upd_same, by omega, fun ns2 p2 hlt hmem hlen hp2 => ?_⟩
              have e : ns2 = ns.foldr insI [] := lt_ext hlt (srt_lt ns) fun k => by
                rw [hmem, srt_mem]
                simp
              subst e
              have E1 := Ext.new_ r (o := SetO X.w p (fun j => decide (j ∈ ns)) c) hp
              exact GD.push E1.rel (rel_ints _) (Post.ext E1 q) hp2
        | some ss =>
          rw [hy] at q
          have q : Post X.K T E cls ρ1 H1 (GD X.K Q) (if ss.length ≤ 4000 ∧ (srtT ss).length < 64 then .ok (.ref h1.length) (h1 ++ [.lst ((srtT ss).map .str)]) else .no) := q
          split at q
          case isFalse => exact (q : False).elim
          case isTrue hz =>
            obtain ⟨b, vs, e1, rel, hb⟩ := lst'_of r (.ref hk) hx
            cases e1
            rw [strs_of rel hy] at hb
            exact .inr (.inr ⟨ad, ss, rfl, hb, hz.1, hz.2, fun p hp => GD.push r (rel_strs _) q hp⟩)
    | _ => exact (q : False).elim
  refine Call_ (ld_blt I hg hm PyProof.Rows.boot_sorted (PyProof.Rows.callWith_builtin1 (PyProof.Rows.args_cons ?_ rfl) rfl rfl))
  refine Call_ (ld_blt I hg2 hm2 PyProof.Rows.boot_set (PyProof.Rows.callWith_type1 (PyProof.Rows.args_cons (thn (ha.run pins s σ H _ I q1) fun v s1 hh => PyProof.Rows.args_nil ?_) (star_cons hs)) (star_cons hs) rfl))
  obtain ⟨v1, H1, I1, r1, hh⟩ := hh
  rcases hh with hA | hA | ⟨l, ss, e1, hl, hz, h64, q1⟩
  · refine thn (cr_setT g.calm pins s1 σ H1 [v1] [v] _ I1 (.cons r1 .nil) hA) fun u s2 hu => PyProof.Rows.args_nil ?_
    obtain ⟨x2, H2, I2, r2, hB⟩ := hu
    exact cr_sortedSet g.calm pins s2 σ H2 [x2] [u] Q I2 (.cons r2 .nil) hB
  · refine thn (cr_setI g.calm pins s1 σ H1 [v1] [v] _ I1 (.cons r1 .nil) hA) fun u s2 hu => PyProof.Rows.args_nil ?_
    obtain ⟨x2, H2, I2, r2, hB⟩ := hu
    exact cr_sortedSet g.calm pins s2 σ H2 [x2] [u] Q I2 (.cons r2 .nil) hB
  · subst e1
    cases r1
    obtain ⟨its, nn, rr, pl, hzz⟩ := I1.lst hl
    have hi : StrsAre its ss := rr.strs
    have few : ss.length + 1 < scanBound := Nat.lt_of_le_of_lt (Nat.succ_le_succ hz) (by decide)
    refine tx_of_list (I1.ok.hd g.calm) ⟨_, pl, rfl, nn, rfl⟩ (xs := ss) (by simpa using hi) few fun h' tk hS hk => PyProof.Rows.args_nil ?_
    have I2 : Inv X pins σ H1 { s1 with heap := h', toks := tk } := I1.kept fun b o e => hk b o (Heap.lt_size e) e
    refine sorted_tx (s := { s1 with heap := h', toks := tk }) hS (I1.ok.hd g.calm) (by rw [srt_len]; exact h64) fun s3 p3 out c ys k1 g1 o1 z1 at3 y1 y2 y3 => ?_
    have ey := srtT_of y2 y3
    subst ey
    have fresh : H1 p3 = none := I2.hok.fresh z1
    have room : ((srtT ss).map V.str).length ≤ sizeLine := by rw [List.length_map, sizeLine_eq]; omega
    have J : Inv X pins σ (upd H1 p3 (.lst ((srtT ss).map V.str))) { ({ s1 with heap := h', toks := tk } : Shared) with heap := s3.heap, gens := s3.gens, drawn := s3.drawn, toks := s3.toks } :=
      I2.call (ch := []) (Un.laid k1 z1 fresh) (I2.hok.laid k1 z1 ⟨room, out.toList, c, vals_of_strs y1, at3⟩) (by rw [g1]; exact I2.bare) (fun _ z => nomatch z)
    have same : s3 = { ({ s1 with heap := h', toks := tk } : Shared) with heap := s3.heap, gens := s3.gens, drawn := s3.drawn, toks := s3.toks } := by
      cases s3
      cases s1
      cases o1
      rfl
    rw [same]
    exact ⟨.ref p3, _, J, rfl, q1 p3 fresh⟩
/-! the greatest first -/
theorem insR_ge (x : Int) : ∀ (l : List Int), l.Pairwise (· ≥ ·) → (insR x l).Pairwise (· ≥ ·) ∧ ∀ z, z ∈ insR x l → z = x ∨ z ∈ l
  | [], _ => ⟨List.pairwise_singleton _ _, fun z hz => .inl (by simpa [insR] using hz)⟩
  | y :: r, h => by
    have ⟨h1, h2⟩ := List.pairwise_cons.mp h
    unfold insR
    split
    · next c =>
      refine ⟨List.pairwise_cons.mpr ⟨fun z hz => ?_, h⟩, fun z hz => by simpa using hz⟩
      rcases List.mem_cons.mp hz with e | e
      · rw [e]; exact c
      · exact Int.le_trans (h1 z e) c
    · next c =>
      have ⟨a1, a2⟩ := insR_ge x r h2
      refine ⟨List.pairwise_cons.mpr ⟨fun z hz => ?_, a1⟩, fun z hz => ?_⟩
      · rcases a2 z hz with e | e
        · rw [e]; show x ≤ y; omega
        · exact h1 z e
      · rcases List.mem_cons.mp hz with e | e
        · exact .inr (by rw [e]; exact List.mem_cons_self)
        · rcases a2 z e with e | e
          · exact .inl e
          · exact .inr (List.mem_cons_of_mem _ e)
theorem insR_perm (x : Int) : ∀ (l : List Int), (insR x l).Perm (x :: l)
  | [] => List.Perm.refl _
  | y :: r => by
    unfold insR
    split
    · exact List.Perm.refl _
    · exact ((insR_perm x r).cons y).trans (List.Perm.swap x y r)
theorem srtR_ge : ∀ ns : List Int, (ns.foldr insR []).Pairwise (· ≥ ·)
  | [] => .nil
  | x :: r => (insR_ge x _ (srtR_ge r)).1
theorem srtR_perm : ∀ ns : List Int, (ns.foldr insR []).Perm ns
  | [] => List.Perm.refl _
  | x :: r => (insR_perm x _).trans ((srtR_perm r).cons x)
theorem ge_ext : ∀ {l m : List Int}, l.Pairwise (· ≥ ·) → m.Pairwise (· ≥ ·) → l.Perm m → l = m
  | [], m, _, _, h => (List.Perm.nil_eq h).symm ▸ rfl
  | x :: r, [], _, _, h => absurd h.symm.length_eq (by simp)
  | x :: r, y :: q, h1, h2, h => by
    have ⟨a1, a2⟩ := List.pairwise_cons.mp h1
    have ⟨b1, b2⟩ := List.pairwise_cons.mp h2
    have e : x = y := by
      have m1 : x ∈ y :: q := h.mem_iff.mp List.mem_cons_self
      have m2 : y ∈ x :: r := h.mem_iff.mpr List.mem_cons_self
      rcases List.mem_cons.mp m1 with e | e
      · exact e
      · rcases List.mem_cons.mp m2 with e2 | e2
        · exact e2.symm
        · have c1 : x ≥ y := a1 y e2
          have c2 : y ≥ x := b1 x e
          omega
    subst e
    rw [ge_ext a2 b2 (List.Perm.cons_inv h)]
theorem sn_sortR {a : PI.E} {y : Expr} {kp : Pos} (g : GX X T E cls pg n lm) (hg : Gl X "sorted") (hs : notStar x = true) (ha : PE X x (tE X.K T E cls (cal pg n) a)) (hy : PE X y (tC (.bl true))) :
    PE X (.Call (.Name "sorted" p) [x] [⟨some "reverse", y, kp⟩] pos) (tE X.K T E cls (cal pg n) (.sortR a)) := by
  have hm := g.gf.bn "sorted" (by decide)
  refine PE.weak (pe_callBK (cr_sortedRev (b := true)) hg hm PyProof.Rows.boot_sorted (pa_cons ha pa_nil (star_cons hs)) (pk_cons hy pk_nil) (he := by rw [star_cons hs]; rfl) (hpl := by rw [star_cons hs]; rfl)) fun σ H Q hq => ?_
  refine (tG.bind (f := evE (cal pg n) a) (g := fun x δ h1 => sortRD x h1) hq).mono fun ρ1 h1 H1 d1 r1 q v1 l1 => ?_
  obtain ⟨δ, r, f, q⟩ := q
  unfold sortRD at q
  split at q
  case h_2 => exact (q : False).elim
  case h_1 xs hx =>
    obtain ⟨ad, vs, rfl, l2, hl⟩ := lst'_of r l1 hx
    split at q
    case h_2 => exact (q : False).elim
    case h_1 ns hn =>
      refine ⟨ad, ns, rfl, rfl, by rw [← ints_of l2 hn]; exact SqL.of hl, fun ns' p' hp ho hp' => ?_⟩
      have e : ns' = ns.foldr insR [] := ge_ext ho (srtR_ge ns) (hp.trans (srtR_perm ns).symm)
      subst e
      exact GD.push r (rel_ints _) q hp'
/-! global dicts of any values -/
theorem kvO_rel {K : PySem.W.Frag} : ∀ {kvs : List (Str × D)} {vs : List (Str × Value)} (s : Str), Paired (fun p q => p.1 = q.1 ∧ ∃ v, RelV v q.2 ∧ ∀ ρ H, Rel K ρ H p.2 v) kvs vs →
    (kvO kvs s = none ∧ valueAt vs s = none) ∨ ∃ d u v, kvO kvs s = some d ∧ valueAt vs s = some u ∧ RelV v u ∧ ∀ ρ H, Rel K ρ H d v
  | [], [], s, .nil => .inl ⟨rfl, rfl⟩
  | (k, d) :: r, (k2, u) :: q, s, .cons h t => by
    obtain ⟨e, v, rv, rr⟩ := h
    have e' : k = k2 := e
    subst e'
    by_cases c : k = s
    · refine .inr ⟨d, u, v, ?_, ?_, rv, rr⟩
      · unfold kvO; rw [if_pos c]
      · simp [valueAt, List.find?_cons, c]
    · have e1 : kvO ((k, d) :: r) s = kvO r s := by
        show (if k = s then some d else kvO r s) = _
        rw [if_neg c]
      have e2 : valueAt ((k, u) :: q) s = valueAt q s := by simp [valueAt, List.find?_cons, c]
      rw [e1, e2]
      exact kvO_rel s t
theorem sn_gin {b : Bool} {i : Nat} {s : Str} {kvs : List (Str × D)} {a : PI.E} {o : CmpOp} {p2 : Pos} (ho : o = if b then CmpOp.NotIn else CmpOp.In) (g : GX X T E cls pg n lm) (hd : pg.dic[i]? = some (s, kvs)) (hg : Gl X s) (hdb : (s == ("__debug__" : Str)) = false)
    (hm2 : behindInMarks o (.Name s p2) = false) (ha : PE X x (tE X.K T E cls (cal pg n) a)) : PE X (.Compare x [o] [.Name s p2] pos) (tE X.K T E cls (cal pg n) (.gin b i a)) := by
  obtain ⟨ad, vs, hm, hsm, hD, hP⟩ := (g.gf.dic i s kvs hd).ex
  have op : OpR X (compareOp o) (fun x y H Q => ∃ z, x = .str z ∧ y = .ref ad ∧ Q (.bl (if b then !(kvO kvs z).isSome else (kvO kvs z).isSome)) H) := by
    intro pins s0 σ H x y v u Q I rx ry hh
    obtain ⟨z, rfl, rfl, q⟩ := hh
    obtain ⟨t, rfl⟩ := rx
    cases ry
    have dd := hD _ I.kIn
    have e : (valueAt vs z).isSome = (kvO kvs z).isSome := by
      rcases kvO_rel z hP with ⟨e1, e2⟩ | ⟨d, u, v, e1, e2, _⟩
      · rw [e1, e2]
        rfl
      · rw [e1, e2]
        rfl
    cases b with
    | false =>
      subst ho
      refine wpAny_in_of (PySem.strKind_is X.prog X.w z t) hsm dd.mapOf ?_
      rw [e]
      exact ⟨.bl _, H, I.tok _, rfl, q⟩
    | true =>
      subst ho
      refine wpAny_notIn_of (PySem.strKind_is X.prog X.w z t) hsm dd.mapOf ?_
      rw [e]
      exact ⟨.bl _, H, I.tok _, rfl, q⟩
  refine PE.weak (pe_cmpR op ha (pe_glob hg hm (v := .ref ad) rfl hdb) hm2) fun σ H Q p => ?_
  refine (tG.bind (f := evE (cal pg n) a) (g := fun x δ h1 => ginD b (cal pg n).dic[i]? x h1) p).mono fun ρ1 h1 H1 d1 r1 q v1 l1 => ?_
  obtain ⟨δ, r, f, q⟩ := q
  have hk : (cal pg n).dic[i]? = some kvs := by
    show (pg.dic.map (·.2))[i]? = _
    rw [List.getElem?_map, hd]; rfl
  rw [hk] at q
  cases l1 with
  | str z => exact ⟨z, rfl, rfl, Post.ok r q _ (.bl _)⟩
  | _ => exact (q : False).elim
theorem sn_of_gin {b : Bool} {i : Nat} {s : Str} {kvs : List (Str × D)} {a : PI.E} {o : CmpOp} {p2 : Pos} (ho : o = if b then CmpOp.NotIn else CmpOp.In) (g : GX X T E cls pg n lm) (hd : pg.dic[i]? = some (s, kvs)) (hg : Gl X s) (hdb : (s == ("__debug__" : Str)) = false)
    (hm2 : behindInMarks o (.Name s p2) = false) (ha : PE X x (tE X.K T E cls (cal pg n) a)) : PT X (.Compare x [o] [.Name s p2] pos) (tT X.K T E cls (cal pg n) (.of (.gin b i a))) := by
  obtain ⟨ad, vs, hm, hsm, hD, hP⟩ := (g.gf.dic i s kvs hd).ex
  have op : OpR X (compareOp o) (fun x y H Q => ∃ z, x = .str z ∧ y = .ref ad ∧ Q (.bl (if b then !(kvO kvs z).isSome else (kvO kvs z).isSome)) H) := by
    intro pins s0 σ H x y v u Q I rx ry hh
    obtain ⟨z, rfl, rfl, q⟩ := hh
    obtain ⟨t, rfl⟩ := rx
    cases ry
    have dd := hD _ I.kIn
    have e : (valueAt vs z).isSome = (kvO kvs z).isSome := by
      rcases kvO_rel z hP with ⟨e1, e2⟩ | ⟨d, u, v, e1, e2, _⟩
      · rw [e1, e2]
        rfl
      · rw [e1, e2]
        rfl
    cases b with
    | false =>
      subst ho
      refine wpAny_in_of (PySem.strKind_is X.prog X.w z t) hsm dd.mapOf ?_
      rw [e]
      exact ⟨.bl _, H, I.tok _, rfl, q⟩
    | true =>
      subst ho
      refine wpAny_notIn_of (PySem.strKind_is X.prog X.w z t) hsm dd.mapOf ?_
      rw [e]
      exact ⟨.bl _, H, I.tok _, rfl, q⟩
  refine PT.weak (pt_cmpR op ha (pe_glob hg hm (v := .ref ad) rfl hdb) hm2) fun σ H Q p => ?_
  have p' := tru_read σ H Q p
  refine (tG.bind (f := evE (cal pg n) a) (g := fun x δ h1 => ginD b (cal pg n).dic[i]? x h1) p').mono fun ρ1 h1 H1 d1 r1 q v1 l1 => ?_
  obtain ⟨δ, r, f, q⟩ := q
  have hk : (cal pg n).dic[i]? = some kvs := by
    show (pg.dic.map (·.2))[i]? = _
    rw [List.getElem?_map, hd]; rfl
  rw [hk] at q
  cases l1 with
  | str z =>
    obtain ⟨k, hk, q2⟩ := Post.ok r q _ (.bl _)
    refine ⟨z, rfl, rfl, k, ?_, q2⟩
    have hk : k = _ := hk
    rw [hk]
  | _ => exact (q : False).elim
theorem sn_gix {i : Nat} {s : Str} {kvs : List (Str × D)} {a : PI.E} {p2 : Pos} (g : GX X T E cls pg n lm) (hd : pg.dic[i]? = some (s, kvs)) (hg : Gl X s) (hdb : (s == ("__debug__" : Str)) = false)
    (hs : PlainIx x) (ha : PE X x (tE X.K T E cls (cal pg n) a)) : PE X (.Subscript (.Name s p2) x pos) (tE X.K T E cls (cal pg n) (.gix i a)) := by
  obtain ⟨ad, vs, hm, hsm, hD, hP⟩ := (g.gf.dic i s kvs hd).ex
  have op : IxR X (fun x y H Q => ∃ z d, x = .ref ad ∧ y = .str z ∧ kvO kvs z = some d ∧ ∀ v, (∀ ρ H, Rel X.K ρ H d v) → Q v H) := by
    intro value slice pins s0 σ H x y v u Q I rx ry hh hs
    obtain ⟨z, d, rfl, rfl, hz, q⟩ := hh
    obtain ⟨t, rfl⟩ := ry
    obtain rfl : v = Value.ref ad := rx
    have dd := hD _ I.kIn
    rcases kvO_rel z hP with ⟨e1, e2⟩ | ⟨d', u, w, e1, e2, e3, e4⟩
    · rw [hz] at e1; cases e1
    · rw [hz] at e1
      cases e1
      exact tail_any dd.typeIs slot_dict_getitem.lookup (wpAny_getItem_of (PySem.strKind_is X.prog X.w z t) dd.mapOf e2 ⟨w, H, I.tok _, e3, q w e4⟩) hs
  refine PE.weak (pe_ix op (pe_glob hg hm (v := .ref ad) rfl hdb) ha hs) fun σ H Q p => ?_
  refine (tG.bind (f := evE (cal pg n) a) (g := fun x δ h1 => gixD (cal pg n).dic[i]? x h1) p).mono fun ρ1 h1 H1 d1 r1 q v1 l1 => ?_
  obtain ⟨δ, r, f, q⟩ := q
  have hk : (cal pg n).dic[i]? = some kvs := by
    show (pg.dic.map (·.2))[i]? = _
    rw [List.getElem?_map, hd]; rfl
  rw [hk] at q
  unfold gixD at q
  cases l1 with
  | str z =>
    simp only at q
    split at q
    case h_2 => exact (q : False).elim
    case h_1 d hz => exact ⟨z, d, rfl, rfl, hz, fun v hv => Post.ok r q v (hv _ _)⟩
  | _ => exact (q : False).elim
end
end PI
namespace PI
open PySem L2 PyProof.Rows

/-! ### enumerate over a tuple -/
def IteT (K : PySem.W.Frag) (a : Addr) : It :=
  ⟨fun i H => ∃ (xs : List V) (x : V), SqT K H a xs ∧ xs[i]? = some x, fun i H v H' => ∃ T x, v = .ref T ∧ H T = none ∧ H' = upd H T (.tup [.int (i : Nat), x]) ∧ ∀ xs, SqT K H a xs → xs[i]? = some x, fun i H => ∃ xs : List V, SqT K H a xs ∧ xs.length ≤ i⟩
theorem turn_enumT {P : Program} {w : World} {K : PySem.W.Frag} {elts : List Expr} {kk : Nat} {tpos : Pos} (a e it : Addr) :
    Turn P w K (.Tuple elts kk tpos) (IteT K a) [e, it] e (fun i h => (∃ old, IsEnum h e it ((i : Nat) : Int) old) ∧ h.IsTupleIter it a i ∧ e ≠ it ∧ a ≠ it ∧ e ≠ a) where
  mem := by simp
  obj := fun i h st b hb => by
    obtain ⟨⟨old, he⟩, ⟨o, ho, hc, hd⟩, _⟩ := st
    have e' : b = e ∨ b = it := by simpa using hb
    rcases e' with z | z
    · rw [z]; exact ⟨_, he, fun v q => nomatch q⟩
    · rw [z]; exact ⟨o, ho, fun v q => by rw [hd] at q; cases q⟩
  keep := fun i h h' st k => let ⟨⟨old, he⟩, hi, hne⟩ := st; ⟨⟨old, k e (by simp) _ he⟩, hi.at fun o q => k it (by simp) o q, hne⟩
  item := by
    intro X hP hw hK hc i pins s σ H E I hf st hg
    subst hP hw hK
    obtain ⟨⟨old, he⟩, hit, hne, hai, hea⟩ := st
    obtain ⟨xs, x, hq, hx⟩ := hg
    obtain ⟨its, rv, p, hz⟩ := I.tuple hq
    obtain ⟨u, hu, ru⟩ := rv.get hx
    have hel : e < s.heap.objs.size := Heap.lt_size he
    have hil : it < s.heap.objs.size := by obtain ⟨_, q, _⟩ := hit; exact Heap.lt_size q
    have hlt : i < its.toArray.size := by
      have := (List.getElem?_eq_some_iff.mp hu).1
      simpa using this
    refine wpAny_pyNext_enum_itemD (Draws.tuple (show X.A.in1.handled = none from I.ok.hd hc) it a hai its.toArray) he ⟨hit, show s.heap.IsTuple a its.toArray from p⟩ hlt hne (by simp only [List.mem_cons, List.not_mem_nil, or_false, not_or]; exact ⟨hne, hea⟩)
      fun y h' tk hP ho hst' hT hsz hk => ?_
    have ey : y = u := by
      have h2 : its.toArray[i]? = some u := by simpa using hu
      exact Option.some.inj (hP.symm.trans h2)
    subst ey
    refine ⟨_, rfl, wpAny_letOwnedTupleGo_enum (s := { s with heap := h', toks := tk + 1 }) ho fun h'' he' sb => ?_⟩
    have hT2 : h''.get? s.heap.objs.size = some { cls := .type "tuple", data := .seq #[.int i tk, y] } := (sb.2 _ (Nat.ne_of_gt hel)).trans hT
    have new : ObjOk X.prog X.w (upd H s.heap.objs.size (.tup [.int (i : Nat), x])) h'' s.heap.objs.size (.tup [.int (i : Nat), x]) :=
      ⟨by show 2 ≤ sizeLine; decide, [.int i tk, y], .cons ⟨_, rfl⟩ (.cons ru .nil), ⟨_, hT2, rfl, _, rfl⟩⟩
    have I1 : Inv X pins σ (upd H s.heap.objs.size (.tup [.int (i : Nat), x])) { s with heap := h'', toks := tk + 1 } :=
      I.turnedNew (ch := [e, it]) (fun b ob hb q => (sb.2 b (fun z => hb (by simp [z]))).trans (hk b ob (fun z => hb (by simp [z])) (fun z => hb (by simp [z])) q)) hf (Nat.le_refl _) new
    refine ⟨.ref s.heap.objs.size, _, I1, rfl, ⟨_, x, rfl, I.hok.fresh (Nat.le_refl _), rfl, fun ys hy => by rw [I.tuple_inj hy hq]; exact hx⟩, ⟨⟨y, ?_⟩, hst'.1.at fun o q => (sb.2 it (Ne.symm hne)).trans q, hne, hai, hea⟩, fun b hb => ?_⟩
    · have e1 : ((i + 1 : Nat) : Int) = (i : Int) + 1 := by omega
      rw [e1]; exact he'
    · have hb' : b < s.heap.objs.size := by
        have e' : b = e ∨ b = it := by simpa using hb
        rcases e' with z | z
        · rw [z]; exact hel
        · rw [z]; exact hil
      rw [upd_ne (Nat.ne_of_lt hb')]
      exact (hf b hb).1
  done := by
    intro X hP hw hK hc i pins s σ H E I hf st hg
    subst hP hw hK
    obtain ⟨⟨old, he⟩, hit, hne, hai, hea⟩ := st
    obtain ⟨xs, hq, hx⟩ := hg
    obtain ⟨its, rv, p, hz⟩ := I.tuple hq
    obtain ⟨f0, f1, f2, f3, f4, f5⟩ := hf it (by simp)
    have hl := rv.length
    have hx' : its.toArray[i]? = none := by simp; omega
    -- the draws that end at this very turn
    have D : Draws X.prog X.w X.A.in1 it [it, a] i (fun j v => False) (fun j h => j = i ∧ h.IsTupleIter it a i ∧ h.IsTuple a its.toArray) := {
      live := fun _ _ st => let ⟨_, ⟨o, ho, _⟩, _⟩ := st; ⟨o, ho⟩
      frame := fun _ _ _ st hk => ⟨st.1, st.2.1.at fun o e => hk it (by simp) o e, st.2.2.at fun o e => hk a (by simp) o e⟩
      item := fun j s Q E hj st hQ => absurd st.1 (Nat.ne_of_lt hj)
      done := fun s Q E st hE => wpAny_nextOf_tuple_end (show X.A.in1.handled = none from I.ok.hd hc) st.2.1 st.2.2 hx' hE }
    exact wpAny_pyNext_enum_endD D he ⟨rfl, hit, show s.heap.IsTuple a its.toArray from p⟩ fun h' eb => ⟨rfl, I.turned (t' := s.toks) (fun b o hb q => eb b o hb q) f0 f1 f3 f4 f5⟩
  self := fun A i s Q E st h => let ⟨⟨_, he⟩, _⟩ := st; wpAny_pyIter_enum he h
open Sem (wp) in
theorem meets_enumerate_new1 {v : Value} {o : Obj} {H : Heap → Prop} (B : PySem.Begins v o H) :
    Meets (Builtin.«enumerate.__new__» ⟨[.type "enumerate", v], []⟩) (fun _ R s => H s.heap ∧
      R (.ok (.ret (.ref (s.heap.push o).objs.size))) { s with heap := (s.heap.push o).push { cls := .type "enumerate", data := .fields #[.none, .bool false, .ref s.heap.objs.size, rawInt 0, .none, .none] } }) :=
  .of_wp fun prog w A R s h => by
    obtain ⟨hp, g, d, tk, os⟩ := s; obtain ⟨h1, h⟩ := h
    have hsub := sub_enumerate
    have q1 : ∀ {A' : Around} {E : Value → Shared → Prop} {Q : Value → Shared → Prop}, Q (.ref hp.objs.size) ⟨hp.push o, g, d, tk, os⟩ → wpAny (model prog w) A' (pyIter v) Q E ⟨hp, g, d, tk, os⟩ :=
      fun q => B.iter prog w _ _ ⟨hp, g, d, tk, os⟩ _ h1 q
    wp_walk using q1
    refine wpAny_stack_any fun st => wpAny_pure ?_
    split
    · rename_i c _ _ _ _ _
      cases (c == Value.type "enumerate")
      · wp_walk using q1
        exact ⟨_, rfl, h⟩
      · wp_walk using q1
        exact ⟨_, rfl, h⟩
    · wp_walk using q1
      exact ⟨_, rfl, h⟩
theorem call_enumerate_tuple {prog : Program} {w : World} {A : Around} {E : Value → Shared → Prop} {s : Shared} {l : Addr} {items : Array Value} {Q : Value → Shared → Prop} (hL : s.heap.IsTuple l items)
    (h : ∀ h', IsEnum h' (s.heap.objs.size + 1) s.heap.objs.size 0 .none → h'.IsTupleIter s.heap.objs.size l 0 → h'.objs.size = s.heap.objs.size + 2 →
      (∀ b o, s.heap.get? b = some o → h'.get? b = some o) → Q (.ref (s.heap.objs.size + 1)) { s with heap := h' }) :
    wpAny (model prog w) A (call (.type "enumerate") [.ref l]) Q E s := by
  refine callType_new F.called_enumerate (by decide) (F.typeCall_enumerate_1 _) (F.newCall_enumerate_1 _) (fun obj => F.args_object_init_2 obj _) F.entry_enumerate_new
    (meets_enumerate_new1 (PySem.begins_tuple l items)) ⟨hL, ?_⟩
  have hz : (s.heap.push { cls := .type "tuple_iterator", data := .fields #[.ref l, .int 0 0] }).objs.size = s.heap.objs.size + 1 := Heap.size_push ..
  show _ ∧ _
  rw [hz]
  have he : IsEnum ((s.heap.push { cls := .type "tuple_iterator", data := .fields #[.ref l, .int 0 0] }).push
      { cls := .type "enumerate", data := .fields #[.none, .bool false, .ref s.heap.objs.size, rawInt 0, .none, .none] }) (s.heap.objs.size + 1) s.heap.objs.size 0 .none := by
    have := Heap.get?_push_size (s.heap.push { cls := .type "tuple_iterator", data := .fields #[.ref l, .int 0 0] })
      (o := { cls := .type "enumerate", data := .fields #[.none, .bool false, .ref s.heap.objs.size, rawInt 0, .none, .none] }) rfl
    rw [hz] at this; exact this
  refine ⟨⟨_, he, rfl⟩, h _ he ⟨_, Heap.get?_push_of_some _ (Heap.get?_push_size _ rfl), rfl, rfl⟩ (by rw [Heap.size_push, hz]) fun b o x => Heap.get?_push_of_some _ (Heap.get?_push_of_some _ x)⟩

/-! ### enumerate over a text -/
def IteS (z : Str) : It :=
  ⟨fun i _ => i < z.cps.size, fun i H v H' => ∃ T c, v = .ref T ∧ H T = none ∧ H' = upd H T (.tup [.int (i : Nat), .str ⟨#[c]⟩]) ∧ z.cps[i]? = some c, fun i _ => z.cps.size ≤ i⟩
theorem turn_enumS {P : Program} {w : World} {K : PySem.W.Frag} {elts : List Expr} {kk : Nat} {tpos : Pos} (z : Str) (t : Tok) (e it : Addr) :
    Turn P w K (.Tuple elts kk tpos) (IteS z) [e, it] e (fun i h => (∃ old, IsEnum h e it ((i : Nat) : Int) old) ∧ h.IsStrIter it (strIterType z) z t i ∧ e ≠ it) where
  mem := by simp
  obj := fun i h st b hb => by
    obtain ⟨⟨old, he⟩, ⟨o, ho, hc, hd⟩, _⟩ := st
    have e' : b = e ∨ b = it := by simpa using hb
    rcases e' with z | z
    · rw [z]; exact ⟨_, he, fun v q => nomatch q⟩
    · rw [z]; exact ⟨o, ho, fun v q => by rw [hd] at q; cases q⟩
  keep := fun i h h' st k => by
    obtain ⟨⟨old, he⟩, ⟨o, ho, r⟩, hne⟩ := st
    exact ⟨⟨old, k e (by simp) _ he⟩, ⟨o, k it (by simp) o ho, r⟩, hne⟩
  item := by
    intro X hP hw hK hc i pins s σ H E I hf st hg
    subst hP hw hK
    obtain ⟨⟨old, he⟩, hit, hne⟩ := st
    have hel : e < s.heap.objs.size := Heap.lt_size he
    have hil : it < s.heap.objs.size := by obtain ⟨_, q, _⟩ := hit; exact Heap.lt_size q
    refine wpAny_pyNext_enum_itemD (Draws.text (show X.A.in1.handled = none from I.ok.hd hc) it z t) he hit hg hne (by simp only [List.mem_cons, List.not_mem_nil, or_false]; exact hne)
      fun y h' tk hP ho hst' hT hsz hk => ?_
    obtain ⟨c, u, hcx, rfl⟩ := hP
    refine ⟨_, rfl, wpAny_letOwnedTupleGo_enum (s := { s with heap := h', toks := tk + 1 }) ho fun h'' he' sb => ?_⟩
    have hT2 : h''.get? s.heap.objs.size = some { cls := .type "tuple", data := .seq #[.int i tk, .str ⟨#[c]⟩ u] } := (sb.2 _ (Nat.ne_of_gt hel)).trans hT
    have new : ObjOk X.prog X.w (upd H s.heap.objs.size (.tup [.int (i : Nat), .str ⟨#[c]⟩])) h'' s.heap.objs.size (.tup [.int (i : Nat), .str ⟨#[c]⟩]) :=
      ⟨by show 2 ≤ sizeLine; decide, [.int i tk, .str ⟨#[c]⟩ u], .cons ⟨_, rfl⟩ (.cons ⟨_, rfl⟩ .nil), ⟨_, hT2, rfl, _, rfl⟩⟩
    have I1 : Inv X pins σ (upd H s.heap.objs.size (.tup [.int (i : Nat), .str ⟨#[c]⟩])) { s with heap := h'', toks := tk + 1 } :=
      I.turnedNew (ch := [e, it]) (fun b ob hb q => (sb.2 b (fun z => hb (by simp [z]))).trans (hk b ob (fun z => hb (by simp [z])) (fun z => hb (by simp [z])) q)) hf (Nat.le_refl _) new
    refine ⟨.ref s.heap.objs.size, _, I1, rfl, ⟨_, c, rfl, I.hok.fresh (Nat.le_refl _), rfl, hcx⟩, ⟨⟨.str ⟨#[c]⟩ u, ?_⟩, ?_, hne⟩, fun b hb => ?_⟩
    · have e1 : ((i + 1 : Nat) : Int) = (i : Int) + 1 := by omega
      rw [e1]; exact he'
    · obtain ⟨o, ho2, r⟩ := hst'
      exact ⟨o, (sb.2 it (Ne.symm hne)).trans ho2, r⟩
    · have hb' : b < s.heap.objs.size := by
        have e' : b = e ∨ b = it := by simpa using hb
        rcases e' with z | z
        · rw [z]; exact hel
        · rw [z]; exact hil
      rw [upd_ne (Nat.ne_of_lt hb')]
      exact (hf b hb).1
  done := by
    intro X hP hw hK hc i pins s σ H E I hf st hg
    subst hP hw hK
    obtain ⟨⟨old, he⟩, hit, hne⟩ := st
    obtain ⟨f0, f1, f2, f3, f4, f5⟩ := hf it (by simp)
    have hx : z.cps[i]? = none := Array.getElem?_eq_none hg
    have D : Draws X.prog X.w X.A.in1 it [it] i (fun j v => False) (fun j h => j = i ∧ h.IsStrIter it (strIterType z) z t i) := {
      live := fun _ _ st => let ⟨_, ⟨o, ho, _⟩⟩ := st; ⟨o, ho⟩
      frame := fun _ _ _ st hk => by
        obtain ⟨e, o, ho, r⟩ := st
        exact ⟨e, o, hk it (by simp) o ho, r⟩
      item := fun j s Q E hj st hQ => absurd st.1 (Nat.ne_of_lt hj)
      done := fun s Q E st hE => by
        obtain ⟨_, st⟩ := st
        have hx : z.cps[i]? = none := hx
        cases ha : z.cps.all (· < 128)
        · have e : strIterType z = "str_iterator" := by simp [strIterType, ha]
          rw [e] at st
          exact wpAny_nextOf_wide_end (show X.A.in1.handled = none from I.ok.hd hc) st hx hE
        · have e : strIterType z = "str_ascii_iterator" := by simp [strIterType, ha]
          rw [e] at st
          exact wpAny_nextOf_ascii_end (show X.A.in1.handled = none from I.ok.hd hc) st hx hE }
    exact wpAny_pyNext_enum_endD D he ⟨rfl, hit⟩ fun h' eb => ⟨rfl, I.turned (t' := s.toks) (fun b o hb q => eb b o hb q) f0 f1 f3 f4 f5⟩
  self := fun A i s Q E st h => let ⟨⟨_, he⟩, _⟩ := st; wpAny_pyIter_enum he h
theorem call_enumerate_text {prog : Program} {w : World} {A : Around} {E : Value → Shared → Prop} {s : Shared} {z : Str} {t : Tok} {Q : Value → Shared → Prop}
    (h : ∀ h', IsEnum h' (s.heap.objs.size + 1) s.heap.objs.size 0 .none → h'.IsStrIter s.heap.objs.size (strIterType z) z t 0 → h'.objs.size = s.heap.objs.size + 2 →
      (∀ b o, s.heap.get? b = some o → h'.get? b = some o) → Q (.ref (s.heap.objs.size + 1)) { s with heap := h' }) :
    wpAny (model prog w) A (call (.type "enumerate") [.str z t]) Q E s := by
  refine callType_new F.called_enumerate (by decide) (F.typeCall_enumerate_1 _) (F.newCall_enumerate_1 _) (fun obj => F.args_object_init_2 obj _) F.entry_enumerate_new
    (meets_enumerate_new1 (PySem.begins_text z t)) ⟨trivial, ?_⟩
  have hz : (s.heap.push { cls := .type (strIterType z), data := .fields #[.str z t, .int 0 0] }).objs.size = s.heap.objs.size + 1 := Heap.size_push ..
  show _ ∧ _
  rw [hz]
  have he : IsEnum ((s.heap.push { cls := .type (strIterType z), data := .fields #[.str z t, .int 0 0] }).push
      { cls := .type "enumerate", data := .fields #[.none, .bool false, .ref s.heap.objs.size, rawInt 0, .none, .none] }) (s.heap.objs.size + 1) s.heap.objs.size 0 .none := by
    have := Heap.get?_push_size (s.heap.push { cls := .type (strIterType z), data := .fields #[.str z t, .int 0 0] })
      (o := { cls := .type "enumerate", data := .fields #[.none, .bool false, .ref s.heap.objs.size, rawInt 0, .none, .none] }) rfl
    rw [hz] at this; exact this
  refine ⟨⟨_, he, rfl⟩, h _ he ⟨_, Heap.get?_push_of_some _ (Heap.get?_push_size _ rfl), rfl, rfl⟩ (by rw [Heap.size_push, hz]) fun b o x => Heap.get?_push_of_some _ (Heap.get?_push_of_some _ x)⟩

/-! ### what is gone over -/
section
variable {X : Cx} {T : List (Addr × Str)} {E : XK} {cls : Nat → Addr} {c : Cal} {pg : Pg} {n : Nat} {lm : Bool} {ρ : List Addr} {h : Hs} {H : Hp} {tg x y : Expr} {pos p : Pos} {a b : PI.E}
theorem gOk_one {k : Nat} {xs : List D} (g : gOk [(k, xs)] h = true) : ∃ ys, h[k]? = some (.lst ys) ∧ D.sameL ys xs = true := by
  unfold gOk at g
  simp only [List.all_cons, List.all_nil, Bool.and_true] at g
  split at g
  case h_1 ys hy => exact ⟨ys, hy, g⟩
  case h_2 => cases g
mutual
theorem same_eq : ∀ {x y : D}, D.same x y = true → x = y
  | .non, .non, _ => rfl
  | .bl a, .bl b, h => by simp only [D.same, beq_iff_eq] at h; rw [h]
  | .int a, .int b, h => by simp only [D.same, beq_iff_eq] at h; rw [h]
  | .str a, .str b, h => by simp only [D.same, decide_eq_true_eq] at h; rw [h]
  | .tup p a, .tup q b, h => by
    simp only [D.same, Bool.and_eq_true, beq_iff_eq] at h
    rw [h.1, sameL_eq h.2]
  | .frz a, .frz b, h => by simp only [D.same] at h; rw [sameL_eq h]
  | .ref a, .ref b, h => by simp only [D.same, beq_iff_eq] at h; rw [h]
  | .non, .bl _, h | .non, .int _, h | .non, .str _, h | .non, .tup _ _, h | .non, .frz _, h | .non, .ref _, h => by cases h
  | .bl _, .non, h | .bl _, .int _, h | .bl _, .str _, h | .bl _, .tup _ _, h | .bl _, .frz _, h | .bl _, .ref _, h => by cases h
  | .int _, .non, h | .int _, .bl _, h | .int _, .str _, h | .int _, .tup _ _, h | .int _, .frz _, h | .int _, .ref _, h => by cases h
  | .str _, .non, h | .str _, .bl _, h | .str _, .int _, h | .str _, .tup _ _, h | .str _, .frz _, h | .str _, .ref _, h => by cases h
  | .tup _ _, .non, h | .tup _ _, .bl _, h | .tup _ _, .int _, h | .tup _ _, .str _, h | .tup _ _, .frz _, h | .tup _ _, .ref _, h => by cases h
  | .frz _, .non, h | .frz _, .bl _, h | .frz _, .int _, h | .frz _, .str _, h | .frz _, .tup _ _, h | .frz _, .ref _, h => by cases h
  | .ref _, .non, h | .ref _, .bl _, h | .ref _, .int _, h | .ref _, .str _, h | .ref _, .tup _ _, h | .ref _, .frz _, h => by cases h
theorem sameL_eq : ∀ {x y : List D}, D.sameL x y = true → x = y
  | [], [], _ => rfl
  | a :: r, b :: q, h => by
    simp only [D.sameL, Bool.and_eq_true] at h
    rw [same_eq h.1, sameL_eq h.2]
  | [], _ :: _, h => by cases h
  | _ :: _, [], h => by cases h
end
theorem gOk_at {k : Nat} {xs : List D} (g : gOk [(k, xs)] h = true) : h[k]? = some (.lst xs) := by
  obtain ⟨ys, h1, h2⟩ := gOk_one g
  rw [h1, sameL_eq h2]
theorem gOk_at2 {k m : Nat} {xs ys : List D} (g : gOk [(k, xs), (m, ys)] h = true) : h[k]? = some (.lst xs) ∧ h[m]? = some (.lst ys) := by
  have g1 : gOk [(k, xs)] h = true ∧ gOk [(m, ys)] h = true := by
    unfold gOk at g ⊢
    simp only [List.all_cons, List.all_nil, Bool.and_true, Bool.and_eq_true] at g ⊢
    exact g
  exact ⟨gOk_at g1.1, gOk_at g1.2⟩
/-- a tuple, a frozen list -/
theorem walkI_tup {a : Addr} {xs : List D} {vs : List V} (r0 : HRel X.K T ρ h H) (hq : SqT X.K H a vs) (q : RelAll X.K ρ H xs vs) : WalkI X.K T ρ H ⟨xs, []⟩ (Itt X.K a) := by
  refine ⟨_, _, by rw [show (IT.mk xs []).items.length = vs.length from q.length]; exact walk_tup, fun ρ' h' H' e _ => ⟨(e.mono r0).sqt hq, fun i x H2 hi y => ?_⟩⟩
  obtain ⟨rfl, hx⟩ := y
  obtain ⟨d, hd, rd⟩ := (q.ext e r0).of_get hx
  exact ⟨d, hd, Ext.refl e.rel, rd⟩
theorem walkI_frz {a : Addr} {xs : List D} {vs : List V} (r0 : HRel X.K T ρ h H) (hq : FrzL X.K H a vs) (q : RelAll X.K ρ H xs vs) : WalkI X.K T ρ H ⟨xs, []⟩ (Itl X.K a) := by
  refine ⟨_, _, by rw [show (IT.mk xs []).items.length = vs.length from q.length]; exact walk_list, fun ρ' h' H' e _ => ⟨((e.mono r0).frzl hq).sql, fun i x H2 hi y => ?_⟩⟩
  obtain ⟨rfl, hx⟩ := y
  obtain ⟨d, hd, rd⟩ := (q.ext e r0).of_get hx
  exact ⟨d, hd, Ext.refl e.rel, rd⟩
/-- a list of ours -/
theorem walkI_ref {k : Nat} {a : Addr} {xs : List D} (r0 : HRel X.K T ρ h H) (ha : ρ[k]? = some a) (hk : h[k]? = some (.lst xs)) : WalkI X.K T ρ H ⟨xs, [(k, xs)]⟩ (Itl X.K a) := by
  obtain ⟨vs0, h0, q0⟩ := r0.lst ha hk
  refine ⟨fun H' => ∃ vs, vs.length = xs.length ∧ SqL X.K H' a vs, fun i H' x H2 => H2 = H' ∧ ∀ vs, SqL X.K H' a vs → vs[i]? = some x, ?_, fun ρ' h' H' e g => ?_⟩
  · refine ⟨fun i H' hi ⟨vs, hl, q⟩ => ?_, fun H' ⟨vs, hl, q⟩ => ⟨vs, q, by rw [hl]; exact Nat.le_refl _⟩, fun i H' x H2 hi _ y => y⟩
    have hi' : i < vs.length := by rw [hl]; exact hi
    exact ⟨vs, vs[i], q, List.getElem?_eq_getElem hi'⟩
  · obtain ⟨vs, q1, q2⟩ := e.rel.lst (e.at ha) (gOk_at g)
    refine ⟨⟨vs, q2.length.symm, SqL.of q1⟩, fun i x H2 hi y => ?_⟩
    obtain ⟨rfl, hy⟩ := y
    obtain ⟨d, hd, rd⟩ := q2.of_get (hy vs (SqL.of q1))
    exact ⟨d, hd, Ext.refl e.rel, rd⟩
/-- a list just made, not ours -/
theorem walkI_new {a : Addr} {xs : List D} {vs : List V} (r0 : HRel X.K T ρ h H) (na : a ∉ ρ) (ha : H a = some (.lst vs)) (q : RelAll X.K ρ H xs vs) : WalkI X.K T ρ H ⟨xs, []⟩ (Itl X.K a) := by
  refine ⟨_, _, by rw [show (IT.mk xs []).items.length = vs.length from q.length]; exact walk_list, fun ρ' h' H' e _ => ⟨SqL.of (e.keep a _ ha na fun _ z => by cases z), fun i x H2 hi y => ?_⟩⟩
  obtain ⟨rfl, hx⟩ := y
  obtain ⟨d, hd, rd⟩ := (q.ext e r0).of_get hx
  exact ⟨d, hd, Ext.refl e.rel, rd⟩
theorem walkI_str {z : Str} (r0 : HRel X.K T ρ h H) : WalkI X.K T ρ H ⟨z.cps.toList.map fun c => .str ⟨#[c]⟩, []⟩ (Its z) := by
  have hn : (z.cps.toList.map fun c => D.str ⟨#[c]⟩).length = z.cps.size := by simp
  refine ⟨_, _, by rw [show (IT.mk (z.cps.toList.map fun c => D.str ⟨#[c]⟩) []).items.length = z.cps.size from hn]; exact walk_str, fun ρ' h' H' e _ => ⟨trivial, fun i x H2 hi y => ?_⟩⟩
  obtain ⟨rfl, ch, hc, rfl⟩ := y
  refine ⟨.str ⟨#[ch]⟩, ?_, Ext.refl e.rel, .str _⟩
  show (z.cps.toList.map fun c => D.str ⟨#[c]⟩)[i]? = _
  rw [List.getElem?_map, Array.getElem?_toList, hc]
  rfl
theorem walkI_range {lo : Int} {m : Nat} (r0 : HRel X.K T ρ h H) : WalkI X.K T ρ H ⟨(List.range m).map fun (i : Nat) => D.int (lo + (i : Int)), []⟩ (Itr lo m) := by
  have hn : ((List.range m).map fun (i : Nat) => D.int (lo + (i : Int))).length = m := by simp
  refine ⟨_, _, by rw [show (IT.mk ((List.range m).map fun (i : Nat) => D.int (lo + (i : Int))) []).items.length = m from hn]; exact walk_range, fun ρ' h' H' e _ => ⟨trivial, fun i x H2 hi y => ?_⟩⟩
  obtain ⟨rfl, rfl⟩ := y
  have hi' : i < m := by simpa using hi
  exact ⟨.int (lo + i), by simp [hi'], Ext.refl e.rel, .int _⟩
/-- a new pair of two known things -/
theorem pair_new {T' : Addr} {d1 d2 : D} {v1 v2 : V} (r : HRel X.K T ρ h H) (q1 : Rel X.K ρ H d1 v1) (q2 : Rel X.K ρ H d2 v2) (hT : H T' = none) :
    Ext X.K T ρ H ρ h (upd H T' (.tup [v1, v2])) ∧ Rel X.K ρ (upd H T' (.tup [v1, v2])) (.tup false [d1, d2]) (.ref T') :=
  have e := Ext.new_ r (o := .tup [v1, v2]) hT
  ⟨e, .tupW (SqT.of upd_same) (.cons (q1.ext e r) (.cons (q2.ext e r) .nil))⟩
theorem zipIdx_at {xs : List D} {i : Nat} {d : D} (h : xs[i]? = some d) : (xs.zipIdx.map fun p => D.tup false [.int (p.2 : Nat), p.1])[i]? = some (.tup false [.int (i : Nat), d]) := by
  rw [List.getElem?_map, List.getElem?_zipIdx, h]
  simp
theorem walkI_enumT {a : Addr} {xs : List D} {vs : List V} (r0 : HRel X.K T ρ h H) (hq : SqT X.K H a vs) (q : RelAll X.K ρ H xs vs) : WalkI X.K T ρ H ⟨xs.zipIdx.map fun p => .tup false [.int (p.2 : Nat), p.1], []⟩ (IteT X.K a) := by
  refine ⟨fun H' => SqT X.K H' a vs, fun i H' v H2 => ∃ T' x, v = .ref T' ∧ H' T' = none ∧ H2 = upd H' T' (.tup [.int (i : Nat), x]) ∧ vs[i]? = some x, ?_, fun ρ' h' H' e _ => ⟨(e.mono r0).sqt hq, fun i x H2 hi y => ?_⟩⟩
  · have hn : (IT.mk (xs.zipIdx.map fun p => D.tup false [.int (p.2 : Nat), p.1]) []).items.length = vs.length := by simp [q.length]
    rw [hn]
    refine ⟨fun i H' hi hs => ⟨vs, vs[i], hs, List.getElem?_eq_getElem hi⟩, fun H' hs => ⟨vs, hs, Nat.le_refl _⟩, fun i H' v H2 hi hs y => ?_⟩
    obtain ⟨T', x, e1, e2, e3, e4⟩ := y
    exact ⟨T', x, e1, e2, e3, e4 vs hs⟩
  · obtain ⟨T', w, rfl, hT, rfl, hw⟩ := y
    obtain ⟨d, hd, rd⟩ := (q.ext e r0).of_get hw
    obtain ⟨e2, r2⟩ := pair_new e.rel (.int (i : Nat)) rd hT
    exact ⟨_, zipIdx_at hd, e2, r2⟩
theorem walkI_enumL {a : Addr} {gs : List (Nat × List D)} {xs : List D} (hv : ∀ ρ' h' H', Ext X.K T ρ H ρ' h' H' → gOk gs h' = true → ∃ vs, SqL X.K H' a vs ∧ RelAll X.K ρ' H' xs vs) : WalkI X.K T ρ H ⟨xs.zipIdx.map fun p => .tup false [.int (p.2 : Nat), p.1], gs⟩ (Ite X.K a) := by
  refine ⟨fun H' => ∃ vs, vs.length = xs.length ∧ SqL X.K H' a vs, fun i H' v H2 => ∃ T' x, v = .ref T' ∧ H' T' = none ∧ H2 = upd H' T' (.tup [.int (i : Nat), x]) ∧ ∀ vs, SqL X.K H' a vs → vs[i]? = some x, ?_, fun ρ' h' H' e g => ?_⟩
  · have hn : (IT.mk (xs.zipIdx.map fun p => D.tup false [.int (p.2 : Nat), p.1]) gs).items.length = xs.length := by simp
    rw [hn]
    refine ⟨fun i H' hi ⟨vs, hl, hs⟩ => ⟨vs, vs[i], hs, List.getElem?_eq_getElem (by rw [hl]; exact hi)⟩, fun H' ⟨vs, hl, hs⟩ => ⟨vs, hs, by rw [hl]; exact Nat.le_refl _⟩, fun i H' v H2 hi hs y => y⟩
  · obtain ⟨vs, hs, q⟩ := hv ρ' h' H' e g
    refine ⟨⟨vs, q.length.symm, hs⟩, fun i x H2 hi y => ?_⟩
    obtain ⟨T', w, rfl, hT, rfl, hw⟩ := y
    obtain ⟨d, hd, rd⟩ := q.of_get (hw vs hs)
    obtain ⟨e2, r2⟩ := pair_new e.rel (.int (i : Nat)) rd hT
    exact ⟨_, zipIdx_at hd, e2, r2⟩
theorem walkI_enumS {z : Str} (r0 : HRel X.K T ρ h H) : WalkI X.K T ρ H ⟨(z.cps.toList.map fun c => D.str ⟨#[c]⟩).zipIdx.map fun p => .tup false [.int (p.2 : Nat), p.1], []⟩ (IteS z) := by
  have hn : (IT.mk ((z.cps.toList.map fun c => D.str ⟨#[c]⟩).zipIdx.map fun p => D.tup false [.int (p.2 : Nat), p.1]) []).items.length = z.cps.size := by simp
  refine ⟨fun _ => True, fun i H' v H2 => ∃ T' c, v = .ref T' ∧ H' T' = none ∧ H2 = upd H' T' (.tup [.int (i : Nat), .str ⟨#[c]⟩]) ∧ z.cps[i]? = some c, ?_, fun ρ' h' H' e _ => ⟨trivial, fun i x H2 hi y => ?_⟩⟩
  · rw [hn]
    exact ⟨fun i H' hi _ => hi, fun H' _ => Nat.le_refl _, fun i H' v H2 hi _ y => y⟩
  · obtain ⟨T', c, rfl, hT, rfl, hw⟩ := y
    have hd : (z.cps.toList.map fun c => D.str ⟨#[c]⟩)[i]? = some (.str ⟨#[c]⟩) := by
      rw [List.getElem?_map, Array.getElem?_toList, hw]
      rfl
    obtain ⟨e2, r2⟩ := pair_new e.rel (.int (i : Nat)) (.str ⟨#[c]⟩) hT
    exact ⟨_, zipIdx_at hd, e2, r2⟩
theorem zip_at {xs ys : List D} {i : Nat} {d e : D} (h1 : xs[i]? = some d) (h2 : ys[i]? = some e) : ((xs.zip ys).map fun p => D.tup false [p.1, p.2])[i]? = some (.tup false [d, e]) := by
  rw [List.getElem?_map, (List.getElem?_zip_eq_some (z := (d, e))).mpr ⟨h1, h2⟩]
  rfl
theorem walkI_zipT {a b : Addr} {xs ys : List D} {vs ws : List V} (r0 : HRel X.K T ρ h H) (hq : SqT X.K H a vs) (q : RelAll X.K ρ H xs vs) (hq2 : SqT X.K H b ws) (q2 : RelAll X.K ρ H ys ws) : WalkI X.K T ρ H ⟨(xs.zip ys).map fun p => .tup false [p.1, p.2], []⟩ (RZ.ItzT X.K a b) := by
  refine ⟨fun H' => SqT X.K H' a vs ∧ SqT X.K H' b ws, fun i H' v H2 => ∃ T' x y, v = .ref T' ∧ H' T' = none ∧ H2 = upd H' T' (.tup [x, y]) ∧ vs[i]? = some x ∧ ws[i]? = some y, ?_, fun ρ' h' H' e _ => ⟨⟨(e.mono r0).sqt hq, (e.mono r0).sqt hq2⟩, fun i x H2 hi y => ?_⟩⟩
  · have hn : (IT.mk ((xs.zip ys).map fun p => D.tup false [p.1, p.2]) []).items.length = min vs.length ws.length := by simp [q.length, q2.length]
    rw [hn]
    refine ⟨fun i H' hi hs => ⟨vs, ws, vs[i]'(by omega), ws[i]'(by omega), hs.1, hs.2, List.getElem?_eq_getElem _, List.getElem?_eq_getElem _⟩, fun H' hs => ⟨vs, ws, hs.1, hs.2, by omega⟩, fun i H' v H2 hi hs y => ?_⟩
    obtain ⟨T', x, y, e1, e2, e3, e4, e5⟩ := y
    exact ⟨T', x, y, e1, e2, e3, e4 vs hs.1, e5 ws hs.2⟩
  · obtain ⟨T', v, w, rfl, hT, rfl, hv, hw⟩ := y
    obtain ⟨d, hd, rd⟩ := (q.ext e r0).of_get hv
    obtain ⟨d2, hd2, rd2⟩ := (q2.ext e r0).of_get hw
    obtain ⟨e2, r2⟩ := pair_new e.rel rd rd2 hT
    exact ⟨_, zip_at hd hd2, e2, r2⟩
theorem walkI_zipL {a b : Addr} {k m : Nat} {xs ys : List D} (r0 : HRel X.K T ρ h H) (ha : ρ[k]? = some a) (hb : ρ[m]? = some b) : WalkI X.K T ρ H ⟨(xs.zip ys).map fun p => .tup false [p.1, p.2], [(k, xs), (m, ys)]⟩ (Itz X.K a b) := by
  refine ⟨fun H' => ∃ vs ws, vs.length = xs.length ∧ ws.length = ys.length ∧ SqL X.K H' a vs ∧ SqL X.K H' b ws, fun i H' v H2 => ∃ T' x y, v = .ref T' ∧ H' T' = none ∧ H2 = upd H' T' (.tup [x, y]) ∧ (∀ vs, SqL X.K H' a vs → vs[i]? = some x) ∧ ∀ ws, SqL X.K H' b ws → ws[i]? = some y, ?_, fun ρ' h' H' e g => ?_⟩
  · have hn : (IT.mk ((xs.zip ys).map fun p => D.tup false [p.1, p.2]) [(k, xs), (m, ys)]).items.length = min xs.length ys.length := by simp
    rw [hn]
    exact ⟨fun i H' hi ⟨vs, ws, l1, l2, s1, s2⟩ => ⟨vs, ws, vs[i]'(by omega), ws[i]'(by omega), s1, s2, List.getElem?_eq_getElem _, List.getElem?_eq_getElem _⟩, fun H' ⟨vs, ws, l1, l2, s1, s2⟩ => ⟨vs, ws, s1, s2, by omega⟩, fun i H' v H2 hi hs y => y⟩
  · obtain ⟨g1, g2⟩ := gOk_at2 g
    obtain ⟨vs, q1, q2⟩ := e.rel.lst (e.at ha) g1
    obtain ⟨ws, q3, q4⟩ := e.rel.lst (e.at hb) g2
    refine ⟨⟨vs, ws, q2.length.symm, q4.length.symm, SqL.of q1, SqL.of q3⟩, fun i x H2 hi y => ?_⟩
    obtain ⟨T', v, w, rfl, hT, rfl, hv, hw⟩ := y
    obtain ⟨d, hd, rd⟩ := q2.of_get (hv vs (SqL.of q1))
    obtain ⟨d2, hd2, rd2⟩ := q4.of_get (hw ws (SqL.of q3))
    obtain ⟨e2, r2⟩ := pair_new e.rel rd rd2 hT
    exact ⟨_, zip_at hd hd2, e2, r2⟩
/-! ### the rules -/
/-- a list, a tuple, a text: by its value -/
theorem pi_one' {o : Obj} {pins : List (Addr × Obj)} {σ : L2.St} {s : Shared} {R : It → Hp → Prop} {J : It} {tn : Nat → Heap → Prop} (I : Inv X pins σ H s) (hd : o.data ≠ .cell none)
    (Tn : Turn X.prog X.w X.K tg J [s.heap.objs.size] s.heap.objs.size tn) (h0 : tn 0 (s.heap.push o)) (q : R J H) : PIE X pins σ tg R (.ref s.heap.objs.size) { s with heap := s.heap.push o } :=
  ⟨s.heap.objs.size, [s.heap.objs.size], tn, J, H, rfl, I.kept (t' := s.toks) fun b o e => Heap.get?_push_of_some _ e, Tn, h0, fun b hb => by
    have e : b = s.heap.objs.size := by simpa using hb
    subst e
    exact I.fpOk (Nat.le_refl _) (I.hok.fresh (Nat.le_refl _)), q⟩
def iAny (K : PySem.W.Frag) (te : TE) : TI := fun σ H R => te σ H fun v H1 => (∃ a, v = .ref a ∧ (∃ xs, SqL K H1 a xs) ∧ R (Itl K a) H1) ∨ (∃ a, v = .ref a ∧ (∃ xs, SqT K H1 a xs) ∧ R (Itt K a) H1) ∨ (∃ z, v = .str z ∧ R (Its z) H1)
theorem pi_any {te : TE} (he : PE X x te) : L2.PI X tg x (iAny X.K te) := by
  refine ⟨fun pins s σ H R I h => ?_⟩
  refine thn (he.run pins s σ H _ I h) fun v s1 ⟨y, H1, I1, r1, q⟩ => ?_
  rcases q with ⟨a, e, ⟨xs, hq⟩, q⟩ | ⟨a, e, ⟨xs, hq⟩, q⟩ | ⟨z, e, q⟩
  · subst e
    cases r1
    obtain ⟨its, rv, p, hz⟩ := I1.list hq
    exact wpAny_pyIter_list p.isList (pi_one' I1 (fun z => by cases z) (turn_list a _) ⟨_, Heap.get?_push_size _ rfl, rfl, rfl⟩ q)
  · subst e
    cases r1
    obtain ⟨its, rv, p, hz⟩ := I1.tuple hq
    exact wpAny_pyIter_tuple (show s1.heap.IsTuple a its.toArray from p) (pi_one' I1 (fun z => by cases z) (turn_tuple a _) ⟨_, Heap.get?_push_size _ rfl, rfl, rfl⟩ q)
  · subst e
    obtain ⟨t, rfl⟩ := r1
    cases ha : z.cps.all (· < 128)
    · exact wpAny_pyIter_wide ha (pi_one' I1 (fun z => by cases z) (turn_str _ z t "str_iterator" (.inr rfl)) ⟨_, Heap.get?_push_size _ rfl, rfl, rfl⟩ q)
    · exact wpAny_pyIter_ascii ha (pi_one' I1 (fun z => by cases z) (turn_str _ z t "str_ascii_iterator" (.inl rfl)) ⟨_, Heap.get?_push_size _ rfl, rfl, rfl⟩ q)
theorem itOf_read {ρ1 : List Addr} {h1 : Hs} {H1 : Hp} {d : D} {v : V} {R : It → Hp → Prop} (r : HRel X.K T ρ1 h1 H1) (l : Rel X.K ρ1 H1 d v) (q : Post X.K T E cls ρ1 H1 (GI X.K T R) (itOf d h1)) :
    (∃ a, v = .ref a ∧ (∃ xs, SqL X.K H1 a xs) ∧ R (Itl X.K a) H1) ∨ (∃ a, v = .ref a ∧ (∃ xs, SqT X.K H1 a xs) ∧ R (Itt X.K a) H1) ∨ (∃ z, v = .str z ∧ R (Its z) H1) := by
  cases l with
  | tup e sn l => exact .inr (.inl ⟨_, rfl, ⟨_, e⟩, Post.ok r q _ (walkI_tup r e l)⟩)
  | frz e l => exact .inl ⟨_, rfl, ⟨_, e.sql⟩, Post.ok r q _ (walkI_frz r e l)⟩
  | str z => exact .inr (.inr ⟨z, rfl, Post.ok r q _ (walkI_str r)⟩)
  | ref hk =>
    unfold itOf at q
    simp only at q
    split at q
    case h_1 xs hx =>
      obtain ⟨vs, q1, q2⟩ := r.lst hk hx
      exact .inl ⟨_, rfl, ⟨_, SqL.of q1⟩, Post.ok r q _ (walkI_ref r hk hx)⟩
    case h_2 => exact (q : False).elim
  | _ => exact (q : False).elim
theorem sn_iof (ha : PE X x (tE X.K T E cls c a)) : L2.PI X tg x (tI X.K T E cls c (.of a)) := by
  refine PI.weak (pi_any ha) fun σ H R p => ?_
  refine (tG.bind (f := evE c a) (g := fun x δ h1 => itOf x h1) p).mono fun ρ1 h1 H1 d r1 q v l1 => ?_
  obtain ⟨δ, r, f, q⟩ := q
  exact itOf_read r l1 q
theorem sn_iofL {l : PI.L} (ha : PE X x (tL X.K T E cls c l)) : L2.PI X tg x (tI X.K T E cls c (.ofL l)) := by
  refine PI.weak (pi_list ha) fun σ H R p => ?_
  refine (tG.bind (f := evL c l) (g := fun xs δ h1 => PI.R.ok (IT.mk xs []) h1) p).mono fun ρ1 h1 H1 ds r1 q a vs n0 np ha l1 => ?_
  obtain ⟨δ, r, f, q⟩ := q
  exact ⟨a, rfl, ⟨vs, SqL.of ha⟩, Post.ok r q _ (walkI_new r np ha l1)⟩
theorem sn_range1 (g : GX X T E cls pg n lm) (hg : Gl X "range") (hs : notStar x = true) (ha : PE X x (tE X.K T E cls (cal pg n) a)) : L2.PI X tg (.Call (.Name "range" p) [x] [] pos) (tI X.K T E cls (cal pg n) (.range1 a)) := by
  refine PI.weak (pi_range1 hg (g.gf.bn _ (by decide +kernel)) (pa_cons ha pa_nil (star_cons hs)) (star_cons hs)) fun σ H R p => ?_
  refine (tG.bind (f := evE (cal pg n) a) (g := fun x δ h1 => rng1 x h1) p).mono fun ρ1 h1 H1 d r1 q v l1 => ?_
  obtain ⟨δ, r, f, q⟩ := q
  cases l1 with
  | int j =>
    unfold rng1 at q
    simp only at q
    split at q
    case isTrue hj =>
      unfold i62 at hj
      simp only [Bool.and_eq_true, decide_eq_true_eq] at hj
      refine ⟨j, rfl, hj.1, hj.2, Post.ok r q _ ?_⟩
      have := walkI_range (X := X) (lo := 0) (m := j.toNat) r
      unfold rangeD
      rw [Int.sub_zero]
      exact this
    case isFalse => exact (q : False).elim
  | _ => exact (q : False).elim
theorem sn_range2 (g : GX X T E cls pg n lm) (hg : Gl X "range") (hs : notStar x = true) (hs2 : notStar y = true) (ha : PE X x (tE X.K T E cls (cal pg n) a)) (hb : PE X y (tE X.K T E cls (cal pg n) b)) : L2.PI X tg (.Call (.Name "range" p) [x, y] [] pos) (tI X.K T E cls (cal pg n) (.range2 a b)) := by
  refine PI.weak (pi_range2 hg (g.gf.bn _ (by decide +kernel)) (pa_cons ha (pa_cons hb pa_nil (star_cons hs2)) (star_cons hs)) (by rw [star_cons hs, star_cons hs2]; rfl) (star_cons hs2)) fun σ H R p => ?_
  refine (tG.bind (f := evE (cal pg n) a) (g := fun x δ h1 => (evE (cal pg n) b δ h1).bind fun y h2 => rng2 x y h2) p).mono fun ρ1 h1 H1 d r1 q v l1 => ?_
  obtain ⟨δ, r, f, q⟩ := q
  refine tG.of r f ((Post.bind q).mono fun ρ2 h2 H2 d2 e2 q v2 l2 => ?_)
  cases l1 with
  | int i =>
    cases l2 with
    | int j =>
      unfold rng2 at q
      simp only at q
      split at q
      case isTrue hj =>
        unfold i62 at hj
        simp only [Bool.and_eq_true, decide_eq_true_eq] at hj
        exact ⟨i, j, rfl, ⟨hj.1.1, hj.1.2, hj.2.1, hj.2.2⟩, Post.ok e2.rel q _ (walkI_range e2.rel)⟩
      case isFalse => exact (q : False).elim
    | _ => exact (q : False).elim
  | _ => exact (q : False).elim
theorem walkI_rangeC {lo k : Int} {m : Nat} (r0 : HRel X.K T ρ h H) : WalkI X.K T ρ H ⟨(List.range m).map fun (i : Nat) => D.int (lo + (i : Int) * k), []⟩ (Itc lo k m) := by
  have hn : ((List.range m).map fun (i : Nat) => D.int (lo + (i : Int) * k)).length = m := by simp
  refine ⟨_, _, by rw [show (IT.mk ((List.range m).map fun (i : Nat) => D.int (lo + (i : Int) * k)) []).items.length = m from hn]; exact walk_rangeC, fun ρ' h' H' e _ => ⟨trivial, fun i x H2 hi y => ?_⟩⟩
  obtain ⟨rfl, rfl⟩ := y
  have hi' : i < m := by simpa using hi
  exact ⟨.int (lo + (i : Int) * k), by simp [hi'], Ext.refl e.rel, .int _⟩
theorem sn_range3 {z : Expr} {d : PI.E} (g : GX X T E cls pg n lm) (hg : Gl X "range") (hs : notStar x = true) (hs2 : notStar y = true) (hs3 : notStar z = true) (ha : PE X x (tE X.K T E cls (cal pg n) a)) (hb : PE X y (tE X.K T E cls (cal pg n) b)) (hd : PE X z (tE X.K T E cls (cal pg n) d)) :
    L2.PI X tg (.Call (.Name "range" p) [x, y, z] [] pos) (tI X.K T E cls (cal pg n) (.range3 a b d)) := by
  refine PI.weak (pi_range3 hg (g.gf.bn _ (by decide +kernel)) (pa_cons ha (pa_cons hb (pa_cons hd pa_nil (star_cons hs3)) (star_cons hs2)) (star_cons hs)) (star_cons hs) (by rw [star_cons hs2, star_cons hs3]; rfl)) fun σ H R p => ?_
  refine (tG.bind (f := evE (cal pg n) a) (g := fun x δ h1 => (evE (cal pg n) b δ h1).bind fun y h2 => (evE (cal pg n) d δ h2).bind fun z h3 => rng3 x y z h3) p).mono fun ρ1 h1 H1 d1 r1 q v1 l1 => ?_
  obtain ⟨δ, r, f, q⟩ := q
  refine tG.of r f ((Post.bind q).mono fun ρ2 h2 H2 d2 e2 q v2 l2 => ?_)
  refine tG.of e2.rel (f.ext e2 r) ((Post.bind q).mono fun ρ3 h3 H3 d3 e3 q v3 l3 => ?_)
  cases l1 with
  | int i =>
    cases l2 with
    | int j =>
      cases l3 with
      | int k =>
        unfold rng3 at q
        simp only at q
        split at q
        case isTrue hj =>
          obtain ⟨c1, c2, c3, c4⟩ := hj
          exact ⟨i, j, k, _, rfl, ⟨c1, c2, c3, by omega⟩, Post.ok e3.rel q _ (walkI_rangeC e3.rel)⟩
        case isFalse => exact (q : False).elim
      | _ => exact (q : False).elim
    | _ => exact (q : False).elim
  | _ => exact (q : False).elim
/-- enumerate(x) -/
def iEnumA (K : PySem.W.Frag) (te : TE) : TI := fun σ H R => te σ H fun v H1 => (∃ a xs, v = .ref a ∧ SqL K H1 a xs ∧ R (Ite K a) H1) ∨ (∃ a xs, v = .ref a ∧ SqT K H1 a xs ∧ R (IteT K a) H1) ∨ (∃ z, v = .str z ∧ R (IteS z) H1)
theorem pi_enumA {te : TE} {elts : List Expr} {kk : Nat} {tpos : Pos} (hg : Gl X "enumerate") (hm : X.mg "enumerate" = none) (hs : notStar x = true) (he : PE X x te) : L2.PI X (.Tuple elts kk tpos) (.Call (.Name "enumerate" p) [x] [] pos) (iEnumA X.K te) := by
  refine ⟨fun pins s σ H R I h => ?_⟩
  have ha : PA X [x] (tCons te tNil) := pa_cons he pa_nil (star_cons hs)
  have h' : tCons te tNil σ H (fun vs H1 => ∃ v, vs = [v] ∧ ((∃ a xs, v = .ref a ∧ SqL X.K H1 a xs ∧ R (Ite X.K a) H1) ∨ (∃ a xs, v = .ref a ∧ SqT X.K H1 a xs ∧ R (IteT X.K a) H1) ∨ (∃ z, v = .str z ∧ R (IteS z) H1))) := by
    show te σ H _
    have k : (fun v H1 => (∃ a xs, v = V.ref a ∧ SqL X.K H1 a xs ∧ R (Ite X.K a) H1) ∨ (∃ a xs, v = .ref a ∧ SqT X.K H1 a xs ∧ R (IteT X.K a) H1) ∨ (∃ z, v = .str z ∧ R (IteS z) H1)) = fun v H1 => ∃ w, [v] = [w] ∧ ((∃ a xs, w = V.ref a ∧ SqL X.K H1 a xs ∧ R (Ite X.K a) H1) ∨ (∃ a xs, w = .ref a ∧ SqT X.K H1 a xs ∧ R (IteT X.K a) H1) ∨ (∃ z, w = .str z ∧ R (IteS z) H1)) := by
      funext v H1
      apply propext
      constructor
      · exact fun q => ⟨v, rfl, q⟩
      · rintro ⟨w, e, q⟩
        cases e
        exact q
    exact k ▸ h
  refine Call_ (ld_blt I hg hm boot_enumerate (PyProof.Rows.callWith_type1 (thn (ha.run pos pins s σ H _ I h') fun us s1 ⟨vs, H1, I1, r1, q1⟩ => ?_) (star_cons hs) rfl))
  obtain ⟨v, ev, q1⟩ := q1
  subst ev
  cases r1 with
  | cons r rr =>
    cases rr
    have fr : ∀ b ∈ [s1.heap.objs.size + 1, s1.heap.objs.size], FpOk X pins H1 b := fun b hb => by
      have e' : b = s1.heap.objs.size + 1 ∨ b = s1.heap.objs.size := by simpa using hb
      have hle : s1.heap.objs.size ≤ b := by
        rcases e' with z | z
        · rw [z]; exact Nat.le_add_right _ _
        · rw [z]; exact Nat.le_refl _
      exact I1.fpOk hle (I1.hok.fresh hle)
    rcases q1 with ⟨a, xs, ex, hq, q⟩ | ⟨a, xs, ex, hq, q⟩ | ⟨z, ex, q⟩
    · subst ex
      cases r
      obtain ⟨its, rv, p', hz⟩ := I1.list hq
      refine call_enumerate_list p'.isList fun h' he hit hsz hk => wpAny_pyIter_enum he ?_
      exact ⟨s1.heap.objs.size + 1, [s1.heap.objs.size + 1, s1.heap.objs.size], _, _, H1, rfl, I1.kept (t' := s1.toks) hk, turn_enum a (s1.heap.objs.size + 1) s1.heap.objs.size, ⟨⟨.none, he⟩, hit, Nat.succ_ne_self _⟩, fr, q⟩
    · subst ex
      cases r
      obtain ⟨its, rv, p', hz⟩ := I1.tuple hq
      have hlt : a < s1.heap.objs.size := by obtain ⟨o, e, _⟩ := id p'; exact Heap.lt_size e
      refine call_enumerate_tuple (show s1.heap.IsTuple a its.toArray from p') fun h' he hit hsz hk => wpAny_pyIter_enum he ?_
      exact ⟨s1.heap.objs.size + 1, [s1.heap.objs.size + 1, s1.heap.objs.size], _, _, H1, rfl, I1.kept (t' := s1.toks) hk, turn_enumT a (s1.heap.objs.size + 1) s1.heap.objs.size, ⟨⟨.none, he⟩, hit, Nat.succ_ne_self _, Nat.ne_of_lt hlt, Nat.ne_of_gt (Nat.lt_succ_of_lt hlt)⟩, fr, q⟩
    · subst ex
      obtain ⟨tk, rfl⟩ := r
      refine call_enumerate_text fun h' he hit hsz hk => wpAny_pyIter_enum he ?_
      exact ⟨s1.heap.objs.size + 1, [s1.heap.objs.size + 1, s1.heap.objs.size], _, _, H1, rfl, I1.kept (t' := s1.toks) hk, turn_enumS z tk (s1.heap.objs.size + 1) s1.heap.objs.size, ⟨⟨.none, he⟩, hit, Nat.succ_ne_self _⟩, fr, q⟩
theorem sn_enum {elts : List Expr} {kk : Nat} {tpos : Pos} (g : GX X T E cls pg n lm) (hg : Gl X "enumerate") (hs : notStar x = true) (ha : PE X x (tE X.K T E cls (cal pg n) a)) : L2.PI X (.Tuple elts kk tpos) (.Call (.Name "enumerate" p) [x] [] pos) (tI X.K T E cls (cal pg n) (.enum a)) := by
  refine PI.weak (pi_enumA hg (g.gf.bn _ (by decide +kernel)) hs ha) fun σ H R p => ?_
  refine (tG.bind (f := evE (cal pg n) a) (g := fun x δ h1 => itEnum x h1) p).mono fun ρ1 h1 H1 d r1 q v l1 => ?_
  obtain ⟨δ, r, f, q⟩ := q
  cases l1 with
  | tup e sn l => exact .inr (.inl ⟨_, _, rfl, e, Post.ok r q _ (walkI_enumT r e l)⟩)
  | frz e l => exact .inl ⟨_, _, rfl, e.sql, Post.ok r q _ (walkI_enumL fun ρ' h' H' e' _ => ⟨_, ((e'.mono r).frzl e).sql, l.ext e' r⟩)⟩
  | ref hk =>
    unfold itEnum itOf at q
    simp only at q
    split at q
    case h_1 it h2 he =>
      split at he
      case h_1 xs hx =>
        cases he
        obtain ⟨vs, q1, q2⟩ := r.lst hk hx
        exact .inl ⟨_, _, rfl, SqL.of q1, Post.ok r q _ (walkI_enumL fun ρ' h' H' e' gg => by
          obtain ⟨ws, q3, q4⟩ := e'.rel.lst (e'.at hk) (gOk_at gg)
          exact ⟨ws, SqL.of q3, q4⟩)⟩
      case h_2 => cases he
    case h_2 => exact (q : False).elim
  | str z => exact .inr (.inr ⟨z, rfl, Post.ok r q _ (walkI_enumS r)⟩)
  | _ => exact (q : False).elim
theorem sn_zip {elts : List Expr} {kk : Nat} {tpos : Pos} (g : GX X T E cls pg n lm) (hg : Gl X "zip") (hs : notStar x = true) (hs2 : notStar y = true) (ha : PE X x (tE X.K T E cls (cal pg n) a)) (hb : PE X y (tE X.K T E cls (cal pg n) b)) :
    L2.PI X (.Tuple elts kk tpos) (.Call (.Name "zip" p) [x, y] [] pos) (tI X.K T E cls (cal pg n) (.zip a b)) := by
  refine PI.weak (RZ.pi_zipA hg (g.gf.bn _ (by decide +kernel)) (pa_cons ha (pa_cons hb pa_nil (star_cons hs2)) (star_cons hs)) (star_cons hs) (back_none_star (by simp [hs2]))) fun σ H R p => ?_
  refine (tG.bind (f := evE (cal pg n) a) (g := fun x δ h1 => (evE (cal pg n) b δ h1).bind fun y h2 => itZip x y h2) p).mono fun ρ1 h1 H1 d r1 q v l1 => ?_
  obtain ⟨δ, r, f, q⟩ := q
  refine tG.of r f ((Post.bind q).mono fun ρ2 h2 H2 d2 e2 q v2 l2 => ?_)
  have l1' := l1.ext e2 r
  cases l1' with
  | tup e sn l =>
    cases l2 with
    | tup e' sn' l' => exact ⟨_, _, _, _, rfl, .inr ⟨e, e', Post.ok e2.rel q _ (walkI_zipT e2.rel e l e' l')⟩⟩
    | _ => exact (q : False).elim
  | ref hk =>
    cases l2 with
    | ref hm =>
      unfold itZip at q
      simp only at q
      split at q
      case h_1 xs ys hx hy =>
        obtain ⟨vs, q1, q2⟩ := e2.rel.lst hk hx
        obtain ⟨ws, q3, q4⟩ := e2.rel.lst hm hy
        exact ⟨_, _, _, _, rfl, .inl ⟨SqL.of q1, SqL.of q3, Post.ok e2.rel q _ (walkI_zipL e2.rel hk hm)⟩⟩
      case h_2 => exact (q : False).elim
    | _ => exact (q : False).elim
  | _ => exact (q : False).elim
end
end PI
namespace PI
open PySem L2
/-! ### slots -/
theorem wipe_wipe (σ : L2.St) : ∀ vs : List Nat, wipe (wipe σ vs) vs = wipe σ vs := by
  suffices h : ∀ (vs us : List Nat), (∀ v ∈ us, v ∈ vs) → wipe (wipe σ vs) us = wipe σ vs from fun vs => h vs vs fun _ q => q
  intro vs us
  induction us with
  | nil => intro _; rfl
  | cons u us ih =>
    intro hu
    show (wipe (wipe σ vs) us).set u none = wipe σ vs
    rw [ih fun v q => hu v (List.mem_cons_of_mem _ q)]
    have key : ∀ (ws : List Nat), u ∈ ws → (wipe σ ws).set u none = wipe σ ws := by
      intro ws
      induction ws with
      | nil => intro h; cases h
      | cons w ws ih2 =>
        intro h
        unfold wipe
        by_cases e : u = w
        · rw [e, List.set_set]
        · rcases List.mem_cons.mp h with z | z
          · exact absurd z e
          · rw [List.set_comm _ _ (Ne.symm e), ih2 z]
    exact key vs (hu u List.mem_cons_self)
theorem wipe_set {σ : L2.St} {v : Option V} {i : Nat} : ∀ {vs : List Nat}, i ∈ vs → wipe (σ.set i v) vs = wipe σ vs
  | [], h => by cases h
  | w :: vs, h => by
    unfold wipe
    by_cases e : i ∈ vs
    · rw [wipe_set e]
    · have e1 : i = w := by rcases List.mem_cons.mp h with z | z; exact z; exact absurd z e
      subst e1
      have key : ∀ us : List Nat, i ∉ us → wipe (σ.set i v) us = (wipe σ us).set i v := by
        intro us
        induction us with
        | nil => intro _; rfl
        | cons u us ih =>
          intro hn
          unfold wipe
          rw [ih fun z => hn (List.mem_cons_of_mem _ z), List.set_comm _ _ (fun z => hn (by rw [z]; exact List.mem_cons_self))]
      rw [key vs e, List.set_set]
theorem wipeF_len (δ : Fr) : ∀ vs, (wipeF δ vs).length = δ.length
  | [] => rfl
  | v :: vs => by unfold wipeF; rw [List.length_set, wipeF_len δ vs]
section
variable {K : PySem.W.Frag} {ρ : List Addr} {H : Hp} {δ : Fr} {σ : L2.St}
theorem FrRel.set (f : FrRel K ρ H δ σ) {i : Nat} {d : D} {v : V} (r : Rel K ρ H d v) : FrRel K ρ H (δ.set i (some d)) (σ.set i (some v)) := by
  refine ⟨by simp [f.1], fun j e h => ?_⟩
  by_cases hj : j = i
  · subst hj
    have hlt : j < δ.length := by
      have := (List.getElem?_eq_some_iff.mp h).1
      simpa using this
    rw [List.getElem?_set_self hlt] at h
    cases h
    exact ⟨v, by rw [List.getElem?_set_self (by rw [← f.1]; exact hlt)], r⟩
  · rw [List.getElem?_set_ne (Ne.symm hj)] at h
    obtain ⟨w, e1, e2⟩ := f.2 j e h
    exact ⟨w, by rw [List.getElem?_set_ne (Ne.symm hj)]; exact e1, e2⟩
theorem FrRel.unset (f : FrRel K ρ H δ σ) {i : Nat} : FrRel K ρ H (δ.set i none) (σ.set i none) := by
  refine ⟨by simp [f.1], fun j e h => ?_⟩
  by_cases hj : j = i
  · subst hj
    have hlt : j < δ.length := by
      have := (List.getElem?_eq_some_iff.mp h).1
      simpa using this
    rw [List.getElem?_set_self hlt] at h
    cases h
  · rw [List.getElem?_set_ne (Ne.symm hj)] at h
    obtain ⟨w, e1, e2⟩ := f.2 j e h
    exact ⟨w, by rw [List.getElem?_set_ne (Ne.symm hj)]; exact e1, e2⟩
theorem FrRel.wipe (f : FrRel K ρ H δ σ) : ∀ vs, FrRel K ρ H (wipeF δ vs) (L2.wipe σ vs)
  | [] => f
  | v :: vs => (FrRel.wipe f vs).unset
end
/-! ### targets -/
def gTg (K : PySem.W.Frag) : Tg → TG
  | .one i => gName i
  | .two i j => gTup K 2 (gCons (gName i) (gCons (gName j) gNil))
  | .three i j l => gTup K 3 (gCons (gName i) (gCons (gName j) (gCons (gName l) gNil)))
def Tg.mem (tg : Tg) (own : List Nat) : Bool := match tg with
  | .one i => own.contains i
  | .two i j => own.contains i && own.contains j
  | .three i j l => own.contains i && own.contains j && own.contains l
theorem tg_read {K : PySem.W.Frag} {ρ : List Addr} {h : Hs} {H : Hp} {T : List (Addr × Str)} {tg : Tg} {d : D} {v : V} {δ δ' : Fr} {σ : L2.St} (f : FrRel K ρ H δ σ) (l : Rel K ρ H d v) (e : bindTg tg d δ = some δ') {Q : L2.St → Hp → Prop}
    (k : ∀ σ', FrRel K ρ H δ' σ' → (∀ own, tg.mem own = true → L2.wipe σ' own = L2.wipe σ own) → Q σ' H) : gTg K tg v σ H Q := by
  cases tg with
  | one i =>
    have e' : (if i < δ.length then some (δ.set i (some d)) else none) = some δ' := e
    split at e'
    case isTrue hi =>
      cases e'
      exact k _ (f.set l) fun own ho => wipe_set (by simpa [Tg.mem] using ho)
    case isFalse => cases e'
  | two i j =>
    cases l with
    | tup hq sn q =>
      rename_i a xs vs
      match xs, q, e with
      | [x, y], q, e =>
        have e' : (if i < δ.length ∧ j < δ.length then some ((δ.set i (some x)).set j (some y)) else none) = some δ' := e
        split at e'
        case isTrue hi =>
          cases e'
          cases q with
          | cons q1 q2 =>
            cases q2 with
            | cons q2 q3 =>
              cases q3
              refine ⟨a, _, rfl, hq, rfl, _, _, rfl, _, _, rfl, rfl, ?_⟩
              refine k _ ((f.set q1).set q2) fun own ho => ?_
              have ho' : i ∈ own ∧ j ∈ own := by simpa [Tg.mem] using ho
              rw [wipe_set ho'.2, wipe_set ho'.1]
        case isFalse => cases e'
      | [], _, e => cases e
      | [_], _, e => cases e
      | _ :: _ :: _ :: _, _, e => cases e
    | _ => cases e
  | three i j m =>
    cases l with
    | tup hq sn q =>
      rename_i a xs vs
      match xs, q, e with
      | [x, y, z], q, e =>
        have e' : (if i < δ.length ∧ j < δ.length ∧ m < δ.length then some (((δ.set i (some x)).set j (some y)).set m (some z)) else none) = some δ' := e
        split at e'
        case isTrue hi =>
          cases e'
          cases q with
          | cons q1 q2 =>
            cases q2 with
            | cons q2 q3 =>
              cases q3 with
              | cons q3 q4 =>
                cases q4
                refine ⟨a, _, rfl, hq, rfl, _, _, rfl, _, _, rfl, _, _, rfl, rfl, ?_⟩
                refine k _ (((f.set q1).set q2).set q3) fun own ho => ?_
                have ho' : (i ∈ own ∧ j ∈ own) ∧ m ∈ own := by simpa [Tg.mem] using ho
                rw [wipe_set ho'.2, wipe_set ho'.1.2, wipe_set ho'.1.1]
        case isFalse => cases e'
      | [], _, e => cases e
      | [_], _, e => cases e
      | [_, _], _, e => cases e
      | _ :: _ :: _ :: _ :: _, _, e => cases e
    | _ => cases e

/-! ### comprehensions -/
def E0' : XK := fun _ _ _ => False
theorem Ext.upd_out {K : PySem.W.Frag} {T : List (Addr × Str)} {ρ ρ' : List Addr} {h' : Hs} {H H' : Hp} (e : Ext K T ρ H ρ' h' H') {p : Addr} {vs ws : List V} (np : p ∉ ρ') (hp : Nu H p) (hp' : H' p = some (.lst vs)) : Ext K T ρ H ρ' h' (upd H' p (.lst ws)) := by
  have M : Mono ρ' H' ρ' (upd H' p (.lst ws)) := ⟨fun _ _ q => q, fun b us q => by rw [upd_ne (ne_of q hp' (by intro z; cases z))]; exact q, fun b ob u q => by rw [upd_ne (ne_of q hp' (by intro z; cases z))]; exact q⟩
  refine ⟨e.pre, e.new, fun b o q hn ht => by rw [upd_ne (hp.ne q ht)]; exact e.keep b o q hn ht, e.rel.len, e.rel.nd, fun k o q => ?_, tabs_own e.rel.tabs (.inl ⟨_, hp', .inl ⟨vs, rfl⟩⟩)⟩
  obtain ⟨a, e1, e2⟩ := e.rel.obj k o q
  exact ⟨a, e1, e2.mono M (upd_ne fun z => np (z ▸ List.mem_of_getElem? e1))⟩
section
variable {X : Cx} {T : List (Addr × Str)} {E : XK} {cls : Nat → Addr} {c : Cal}
/-- one turn's test and element -/
def turnF (c : Cal) (t : PI.T) (el : PI.E) (δ : Fr) (h : Hs) : R (Option D) := (evT c t δ h).bind fun b h3 => iteK (fun h3 => (evE c el δ h3).bind someR) noneR b h3
def turnU (c : Cal) (el : PI.E) (δ : Fr) (h : Hs) : R (Option D) := (evE c el δ h).bind someR
theorem turnU_read {el : PI.E} {ρ : List Addr} {h h1 : Hs} {H : Hp} {δ : Fr} {σ : L2.St} {o : Option D} {QS : VK} (r : HRel X.K T ρ h H) (fr : FrRel X.K ρ H δ σ) (e : turnU c el δ h = .ok o h1)
    (kS : ∀ ρ4 H4 d y, o = some d → Ext X.K T ρ H ρ4 h1 H4 → Rel X.K ρ4 H4 d y → QS y H4) : tE X.K T E0' cls c el σ H QS := by
  refine ⟨ρ, h, δ, r, fr, ?_⟩
  unfold turnU at e
  cases he : evE c el δ h with
  | ok d h2 =>
    rw [he] at e
    have e' : (PI.R.ok (some d) h2 : R (Option D)) = .ok o h1 := e
    cases e'
    exact fun ρ4 H4 e4 v rv => kS ρ4 H4 d v rfl e4 rv
  | ex k h2 => rw [he] at e; cases e
  | no => rw [he] at e; cases e
theorem turnF_read {t : PI.T} {el : PI.E} {ρ : List Addr} {h h1 : Hs} {H : Hp} {δ : Fr} {σ : L2.St} {o : Option D} {QS : VK} {QN : Hp → Prop} (r : HRel X.K T ρ h H) (fr : FrRel X.K ρ H δ σ) (e : turnF c t el δ h = .ok o h1)
    (kS : ∀ ρ4 H4 d y, o = some d → Ext X.K T ρ H ρ4 h1 H4 → Rel X.K ρ4 H4 d y → QS y H4) (kN : ∀ ρ3 H3, o = none → Ext X.K T ρ H ρ3 h1 H3 → QN H3) :
    tT X.K T E0' cls c t σ H fun b H3 => if b = true then tE X.K T E0' cls c el σ H3 QS else QN H3 := by
  refine ⟨ρ, h, δ, r, fr, ?_⟩
  unfold turnF at e
  cases he : evT c t δ h with
  | ok b h2 =>
    rw [he] at e
    intro ρ3 H3 e3
    cases b with
    | true =>
      have e' : turnU c el δ h2 = .ok o h1 := e
      exact iteT (B := QN H3) (turnU_read (cls := cls) e3.rel (fr.ext e3 r) e' fun ρ4 H4 d y eo e4 ry => kS ρ4 H4 d y eo (e3.trans e4) ry)
    | false =>
      have e' : (PI.R.ok none h2 : R (Option D)) = .ok o h1 := e
      cases e'
      exact iteF (A := tE X.K T E0' cls c el σ H3 QS) (kN ρ3 H3 rfl e3)
  | ex k h2 => rw [he] at e; cases e
  | no => rw [he] at e; cases e
theorem compLoop_g {f : D → Hs → R (Option D)} {g : Hs → Bool} {xs : List D} {h h' : Hs} {r : List D} (e : compLoop f g xs h = .ok r h') : g h = true := by
  cases xs with
  | nil =>
    unfold compLoop at e
    split at e
    case isTrue hg => exact hg
    case isFalse => cases e
  | cons x xs =>
    unfold compLoop at e
    split at e
    case isTrue hg => exact hg
    case isFalse => cases e
def consO (o : Option D) (r : List D) : List D := match o with
  | some d => d :: r
  | none => r
theorem compLoop_cons {f : D → Hs → R (Option D)} {g : Hs → Bool} {x : D} {xs : List D} {h h' : Hs} {r : List D} (e : compLoop f g (x :: xs) h = .ok r h') : ∃ o h1 r', f x h = .ok o h1 ∧ compLoop f g xs h1 = .ok r' h' ∧ r = consO o r' := by
  unfold compLoop at e
  split at e
  case isTrue hg =>
    split at e
    case h_1 o h1 ho =>
      split at e
      case h_1 r' h2 hr =>
        cases e
        exact ⟨o, h1, r', ho, hr, by cases o <;> rfl⟩
      case h_2 => cases e
    case h_2 => cases e
  case isFalse => cases e
/-- the reading of a comprehension's loop; kk: one turn's reading -/
theorem comp_read {wi : TI} {tg : Tg} {own : List Nat} {tt : TT} {te : TE} {f : Fr → Hs → R (Option D)} {fi : Fr → Hs → R IT} {σ : L2.St} {H : Hp} {Q : VK} (hm : tg.mem own = true)
    (hi : ∀ R, tG X.K T E cls fi σ H (GI X.K T R) → wi σ H R)
    (kk : ∀ {ρ : List Addr} {h h1 : Hs} {H : Hp} {δ : Fr} {σ : L2.St} {o : Option D} {QS : VK} {QN : Hp → Prop}, HRel X.K T ρ h H → FrRel X.K ρ H δ σ → f δ h = .ok o h1 →
      (∀ ρ4 H4 d y, o = some d → Ext X.K T ρ H ρ4 h1 H4 → Rel X.K ρ4 H4 d y → QS y H4) → (∀ ρ3 H3, o = none → Ext X.K T ρ H ρ3 h1 H3 → QN H3) → tt σ H fun b H3 => if b = true then te σ H3 QS else QN H3)
    (p : tG X.K T E cls (fun δ h => (fi δ h).bind fun J h1 => loopR (fun x h2 => bindK f (bindTg tg x (wipeF δ own)) h2) J h1) σ H (GLst X.K H Q)) : tLc wi (gTg X.K tg) tt te own σ H Q := by
  refine hi _ ?_
  obtain ⟨ρ, h, δ, r, fr, p⟩ := p
  have p : Post X.K T E cls ρ H (GLst X.K H Q) ((fi δ h).bind fun J h1 => loopR (fun x h2 => bindK f (bindTg tg x (wipeF δ own)) h2) J h1) := p
  refine ⟨ρ, h, δ, r, fr, ?_⟩
  cases he : fi δ h with
  | ex k h2 => rw [he] at p; exact p
  | no => rw [he] at p; exact p
  | ok it h1 =>
    rw [he] at p
    have p : Post X.K T E cls ρ H (GLst X.K H Q) (loopR (fun x h2 => bindK f (bindTg tg x (wipeF δ own)) h2) it h1) := p
    intro ρ1 H1 e1 J wJ D hD
    obtain ⟨G, Y, Wk, st⟩ := wJ
    unfold loopR at p
    split at p
    case isFalse => exact (p : False).elim
    case isTrue hz =>
      cases hc : compLoop (fun x h2 => bindK f (bindTg tg x (wipeF δ own)) h2) (gOk it.gs) it.items h1 with
      | no => rw [hc] at p; exact (p : False).elim
      | ex k h2 =>
        -- a loop lets nothing out
        exfalso
        have key : ∀ (xs : List PI.D) (h : Hs), compLoop (fun x h2 => bindK f (bindTg tg x (wipeF δ own)) h2) (gOk it.gs) xs h ≠ .ex k h2 := by
          intro xs
          induction xs with
          | nil => intro h z; unfold compLoop at z; split at z <;> cases z
          | cons x xs ih =>
            intro h z
            unfold compLoop at z
            split at z
            · split at z
              · split at z
                · cases z
                · cases z
              · cases z
            · cases z
        exact key _ _ hc
      | ok ds hf =>
        rw [hc] at p
        refine lc_it Wk (D := D) (fun i Hc => ∃ ρ' h' done accV r', Ext X.K T ρ1 H1 ρ' h' Hc ∧ D ∉ ρ' ∧ Hc D = some (.lst accV) ∧ RelAll X.K ρ' Hc done accV ∧ done.length ≤ i ∧
          compLoop (fun x h2 => bindK f (bindTg tg x (wipeF δ own)) h2) (gOk it.gs) (it.items.drop i) h' = .ok r' hf ∧ ds = done ++ r') ?_ ?_ ?_ ?_
        · exact ⟨ρ1, h1, [], [], ds, Ext.new_ e1.rel hD, e1.rel.nmem_none hD, upd_same, .nil, Nat.le_refl _, by simpa using hc, rfl⟩
        · rintro i Hc hi' ⟨ρ', h', done, accV, r', e2, nD, hDc, rA, hl, hcl, _⟩
          exact (st ρ' h' Hc e2 (compLoop_g hcl)).1
        · rintro i x Hc H' hi' ⟨ρ', h', done, accV, r', e2, nD, hDc, rA, hl, hcl, hds⟩ hy
          obtain ⟨d, hd, e3, rd⟩ := (st ρ' h' Hc e2 (compLoop_g hcl)).2 i x H' hi' hy
          have hdr : it.items.drop i = d :: it.items.drop (i + 1) := by
            obtain ⟨hlt, hget⟩ := List.getElem?_eq_some_iff.mp hd
            rw [List.drop_eq_getElem_cons hlt, hget]
          rw [hdr] at hcl
          obtain ⟨o, h2, r'', hf1, hf2, hr'⟩ := compLoop_cons hcl
          have hb : ∃ δ', bindTg tg d (wipeF δ own) = some δ' ∧ f δ' h' = .ok o h2 := by
            cases hbt : bindTg tg d (wipeF δ own) with
            | none => rw [hbt] at hf1; cases hf1
            | some δ' => rw [hbt] at hf1; exact ⟨δ', rfl, hf1⟩
          obtain ⟨δ', hbt, hf1⟩ := hb
          have D' : H' D = some (.lst accV) := e3.keep D _ hDc nD fun _ z => by cases z
          have fr3 : FrRel X.K ρ' H' (wipeF δ own) (L2.wipe σ own) := (((fr.ext e1 r).ext e2 e1.rel).ext e3 e2.rel).wipe own
          refine tg_read (tg := tg) (h := h') (T := T) fr3 rd hbt fun σ2 fr2 hw => ⟨by rw [hw own hm, wipe_wipe], ?_⟩
          refine kk e3.rel fr2 hf1 (fun ρ4 H4 d4 y eo e4 ry => ?_) (fun ρ4 H4 eo e4 => ?_)
          · have D4 : H4 D = some (.lst accV) := e4.keep D _ D' nD fun _ z => by cases z
            have nD4 : D ∉ ρ4 := fun z => by
              obtain ⟨ps, z2⟩ := e4.new D z nD _ D'
              cases z2
            have big := (e2.trans (e3.trans e4)).upd_out (ws := accV ++ [y]) nD4 (.of_none hD) D4
            have M : Mono ρ4 H4 ρ4 (upd H4 D (.lst (accV ++ [y]))) := ⟨fun _ _ q => q, fun b us q => by rw [upd_ne (ne_of q D4 (by intro z; cases z))]; exact q, fun b ob u q => by rw [upd_ne (ne_of q D4 (by intro z; cases z))]; exact q⟩
            refine ⟨accV, D4, ?_, ρ4, h2, done ++ [d4], accV ++ [y], r'', big, nD4, upd_same, (((rA.ext e3 e2.rel).ext e4 e3.rel).append (.cons ry .nil)).mono M, by simpa using hl, hf2, ?_⟩
            · have hz' : it.items.length < LIM := hz
              rw [← rA.length, ← lim_eq]
              exact Nat.lt_of_le_of_lt hl (Nat.lt_trans hi' hz')
            · rw [hds, hr', eo]
              show done ++ (d4 :: r'') = done ++ [d4] ++ r''
              simp
          · have D4 : H4 D = some (.lst accV) := e4.keep D _ D' nD fun _ z => by cases z
            have nD4 : D ∉ ρ4 := fun z => by
              obtain ⟨ps, z2⟩ := e4.new D z nD _ D'
              cases z2
            exact ⟨ρ4, h2, done, accV, r'', e2.trans (e3.trans e4), nD4, D4, (rA.ext e3 e2.rel).ext e4 e3.rel, Nat.le_succ_of_le hl, hf2, by rw [hds, hr', eo]; rfl⟩
        · rintro Hc ⟨ρ', h', done, accV, r', e2, nD, hDc, rA, hl, hcl, hds⟩
          rw [List.drop_length] at hcl
          have hfin : r' = [] ∧ h' = hf := by
            unfold compLoop at hcl
            split at hcl
            · cases hcl; exact ⟨rfl, rfl⟩
            · cases hcl
          obtain ⟨rfl, rfl⟩ := hfin
          rw [List.append_nil] at hds
          subst hds
          exact p ρ' Hc (e1.trans e2) D accV (back_nu r e1 (.of_none hD)) nD hDc rA
end
end PI
namespace PI
open PySem L2
/-! ### dicts made at once: displays, comprehensions -/
section
variable {K : PySem.W.Frag} {T : List (Addr × Str)} {ρ ρ' : List Addr} {h h' : Hs} {H H' : Hp}
theorem Ext.outD (e : Ext K T ρ H ρ' h' H') {p : Addr} {vs ws : List (Key × V)} (np : p ∉ ρ') (hp : Nu H p) (hp' : H' p = some (.dK vs)) : Ext K T ρ H ρ' h' (upd H' p (.dK ws)) ∧ Mono ρ' H' ρ' (upd H' p (.dK ws)) := by
  have M : Mono ρ' H' ρ' (upd H' p (.dK ws)) := ⟨fun _ _ q => q, fun b us q => by rw [upd_ne (ne_of q hp' (by intro z; cases z))]; exact q, fun b ob u q => by rw [upd_ne (ne_of q hp' (by intro z; cases z))]; exact q⟩
  refine ⟨⟨e.pre, e.new, fun b o q hn ht => by rw [upd_ne (hp.ne q ht)]; exact e.keep b o q hn ht, e.rel.len, e.rel.nd, fun k o q => ?_, tabs_own e.rel.tabs (.inl ⟨_, hp', .inr (.inl ⟨vs, rfl⟩)⟩)⟩, M⟩
  obtain ⟨a, e1, e2⟩ := e.rel.obj k o q
  exact ⟨a, e1, e2.mono M (upd_ne fun z => np (z ▸ List.mem_of_getElem? e1))⟩
theorem Ext.takeD (e : Ext K T ρ H ρ' h' H') {p : Addr} {kvs : List (Key × D)} {vs : List (Key × V)} (np : p ∉ ρ') (hp : Nu H p) (ha : H' p = some (.dK vs)) (q : RelKV K ρ' H' kvs vs) : Ext K T ρ H (ρ' ++ [p]) (h' ++ [.dct kvs]) H' := by
  have M : Mono ρ' H' (ρ' ++ [p]) H' := .push
  have r := e.rel
  obtain ⟨l', hl'⟩ := e.pre
  refine ⟨⟨l' ++ [p], by rw [hl', List.append_assoc]⟩, fun b hb hn => ?_, e.keep, by simp [r.len], ?_, fun i o e => ?_, r.tabs⟩
  · rcases List.mem_append.mp hb with z | z
    · exact e.new b z hn
    · rw [List.mem_singleton.mp z]; exact hp
  · rw [List.nodup_append]
    exact ⟨r.nd, by simp, fun a ha b hb => by rw [List.mem_singleton.mp hb]; exact fun z => np (z ▸ ha)⟩
  · by_cases hi : i < h'.length
    · rw [List.getElem?_append_left hi] at e
      obtain ⟨b, e1, e2⟩ := r.obj i o e
      exact ⟨b, M.at_ _ _ e1, e2.mono M rfl⟩
    · have hi' : i = h'.length := by
        have := (List.getElem?_eq_some_iff.mp e).1
        simp at this
        omega
      subst hi'
      rw [List.getElem?_append_right (Nat.le_refl _)] at e
      simp at e
      subst e
      refine ⟨p, ?_, vs, ha, q.mono M⟩
      rw [← r.len, List.getElem?_append_right (Nat.le_refl _)]
      simp
theorem mergD_go : ∀ {ks : List (Key × D)} {vs : List (Key × V)} {as : List (Key × D)} {bs : List (Key × V)}, RelKV K ρ H ks vs → RelKV K ρ H as bs → RelKV K ρ H (ks.foldl (fun acc p => putD acc p.1 p.2) as) (mergeK bs vs)
  | _, _, _, _, .nil, r => r
  | _, _, _, _, .cons (k := k) (d := d) (v := v) (r := ks) (q := vs) p q, r => by
    show RelKV K ρ H (ks.foldl (fun acc p => putD acc p.1 p.2) (putD _ k d)) (mergeK (putK _ k v) vs)
    exact mergD_go q (r.put p)
theorem mergD_ok {ks : List (Key × D)} {vs : List (Key × V)} (r : RelKV K ρ H ks vs) : RelKV K ρ H (mergD ks) (mergeK [] vs) := mergD_go r .nil
theorem last_at (r : HRel K T ρ h H) {p : Addr} : (ρ ++ [p])[h.length]? = some p := by
  rw [← r.len, List.getElem?_append_right (Nat.le_refl _)]
  simp
end
section
variable {X : Cx} {T : List (Addr × Str)} {E : XK} {cls : Nat → Addr} {c : Cal} {ρ : List Addr} {h : Hs} {H : Hp} {Q : VK} {pos : Pos}
def trsOf (K : PySem.W.Frag) (T : List (Addr × Str)) (E : XK) (cls : Nat → Addr) (c : Cal) : Ps → List (TE × TE)
  | .nil => []
  | .cons k v r => (tE K T E cls c k, tE K T E cls c v) :: trsOf K T E cls c r
theorem ps_read : ∀ (ps : Ps) {σ : L2.St} {H : Hp} {G : List (V × V) → Hp → Prop}, tG X.K T E cls (evPs c ps) σ H (fun ρ _ H kvs => ∀ vs, RelKV X.K ρ H kvs vs → G (vs.map fun kv => (kV kv.1, kv.2)) H) → tPairs (trsOf X.K T E cls c ps) σ H G
  | .nil, σ, H, G, p => by
    obtain ⟨ρ, h, δ, r, f, p⟩ := p
    exact Post.ok r p [] .nil
  | .cons k v ps, σ, H, G, p => by
    refine (tG.bind (f := evE c k) (g := fun x δ h1 => (evE c v δ h1).bind fun y h2 => keyK (fun q h2 => (evPs c ps δ h2).bind fun ps h3 => .ok ((q, y) :: ps) h3) x h2) p).mono fun ρ1 h1 H1 d r1 q x l1 => ?_
    obtain ⟨δ, r, f, q⟩ := q
    refine tG.of r f ((Post.bind q).mono fun ρ2 h2 H2 d2 e2 q y l2 => ?_)
    have q : Post X.K T E cls ρ2 H2 (fun ρ _ H kvs => ∀ vs, RelKV X.K ρ H kvs vs → G (vs.map fun kv => (kV kv.1, kv.2)) H) (keyK (fun q h2 => (evPs c ps δ h2).bind fun ps h3 => .ok ((q, d2) :: ps) h3) d h2) := q
    unfold keyK at q
    split at q
    case h_2 => exact (q : False).elim
    case h_1 key hk =>
      have ex := key_rel l1 hk
      subst ex
      refine ps_read ps ⟨ρ2, h2, δ, e2.rel, f.ext e2 r, (Post.bind q).mono fun ρ3 h3 H3 kvs e3 q vs rk => ?_⟩
      exact Post.ok e3.rel q ((key, y) :: vs) (.cons (l2.ext e3 e2.rel) rk)
theorem sn_dlit {keys : List (Option Expr)} {values : List Expr} {ps : Ps} (hp : PPs X pos keys values (trsOf X.K T E cls c ps)) (hall : keys.all (·.isSome) = true) (hl : keys.length = values.length) (h0 : keys ≠ []) (h15 : keys.length ≤ 15) : PE X (.Dict keys values pos) (tE X.K T E cls c (.dlit ps)) := by
  refine PE.weak (pe_disp hp hall hl h0 h15) fun σ H Q p a ha => ?_
  obtain ⟨ρ, h, δ, r, f, p⟩ := p
  have p : Post X.K T E cls ρ H (GD X.K Q) ((evPs c ps δ h).bind dispR) := p
  have e0 := Ext.new_ (T := T) r (o := .dK []) ha
  refine ps_read ps ⟨ρ, h, δ, e0.rel, f.ext e0 r, ?_⟩
  cases he : evPs c ps δ h with
  | no => rw [he] at p; exact (p : False).elim
  | ex k h1 => rw [he] at p; exact fun ρ1 H1 e1 => p ρ1 H1 (e0.trans e1)
  | ok kvs h1 =>
    rw [he] at p
    have p : Post X.K T E cls ρ H (GD X.K Q) (dispR kvs h1) := p
    unfold dispR at p
    split at p
    case isFalse => exact (p : False).elim
    case isTrue hl =>
      intro ρ1 H1 e1 vs rk
      have na := r.nmem_none ha
      have kp : H1 a = some (.dK []) := e1.keep a _ upd_same na fun _ z => by cases z
      have na1 : a ∉ ρ1 := fun z => by
        obtain ⟨qs, z2⟩ := e1.new a z na _ upd_same
        cases z2
      obtain ⟨e2, M⟩ := (e0.trans e1).outD (ws := mergeK [] vs) na1 (.of_none ha) kp
      have e3 := e2.takeD na1 (.of_none ha) upd_same ((mergD_ok rk).mono M)
      exact ⟨kp, vs, rfl, by rw [← rk.length]; exact hl, p _ _ e3 _ (.ref (last_at e1.rel))⟩
/-! comprehensions -/
theorem dc_it {J : It} {n : Nat} {Gd : Hp → Prop} {Y : Nat → Hp → V → Hp → Prop} (w : Walk J n Gd Y) {g : TG} {tt : TT} {tk tv : TE} {vs : List Nat} {σ : L2.St} {H1 : Hp} {D : Addr} {Qd : Hp → Prop} (Pv : Nat → Hp → Prop) (h0 : Pv 0 (upd H1 D (.dK []))) (hG : ∀ i H, i ≤ n → Pv i H → Gd H)
    (hs : ∀ i x H H', i < n → Pv i H → Y i H x H' → g x (L2.wipe σ vs) H' fun σ2 H2 => L2.wipe σ2 vs = L2.wipe σ vs ∧ tt σ2 H2 fun b H3 =>
      if b = true then tk σ2 H3 fun y H4 => tv σ2 H4 fun z H5 => ∃ kvs k, y = kV k ∧ H5 D = some (.dK kvs) ∧ kvs.length < sizeLine ∧ Pv (i + 1) (upd H5 D (.dK (putK kvs k z))) else Pv (i + 1) H3) (hd : ∀ H, Pv n H → Qd H) :
    ∃ W : Nat → Nat → Hp → Prop, (∃ m, W 0 m (upd H1 D (.dK []))) ∧ ∀ i m H, W i m H →
      (J.stop i H ∧ Qd H) ∨ (J.go i H ∧ ∃ Nx : Hp → Prop, (∀ H', Nx H' → ∃ m', m' < m ∧ W (i + 1) m' H') ∧ ∀ x H', J.yld i H x H' → g x (L2.wipe σ vs) H' fun σ2 H2 => L2.wipe σ2 vs = L2.wipe σ vs ∧ tt σ2 H2 fun b H3 =>
        if b = true then tk σ2 H3 fun y H4 => tv σ2 H4 fun z H5 => ∃ kvs k, y = kV k ∧ H5 D = some (.dK kvs) ∧ kvs.length < sizeLine ∧ Nx (upd H5 D (.dK (putK kvs k z))) else Nx H3) := by
  refine ⟨fun i m H => m = n - i ∧ i ≤ n ∧ Pv i H, ⟨n, by simp, Nat.zero_le _, h0⟩, ?_⟩
  rintro i m H ⟨rfl, hi, p⟩
  have q := hG i H hi p
  by_cases hlt : i < n
  · exact .inr ⟨w.goes i H hlt q, Pv (i + 1), fun H' p' => ⟨n - (i + 1), by omega, rfl, hlt, p'⟩, fun x H' y => hs i x H H' hlt p (w.yields i H x H' hlt q y)⟩
  · have e : i = n := by omega
    subst e
    exact .inl ⟨w.stops H q, hd H p⟩
theorem putD_len (kvs : List (Key × D)) (k : Key) (d : D) : (putD kvs k d).length ≤ kvs.length + 1 := by
  unfold putD
  split
  · rw [List.length_map]; omega
  · rw [List.length_append]; simp
theorem mergD_len : ∀ (ks as : List (Key × D)), (ks.foldl (fun acc p => putD acc p.1 p.2) as).length ≤ as.length + ks.length
  | [], as => by simp
  | p :: r, as => by
    have h1 := mergD_len r (putD as p.1 p.2)
    have h2 := putD_len as p.1 p.2
    show (r.foldl (fun acc p => putD acc p.1 p.2) (putD as p.1 p.2)).length ≤ _
    rw [List.length_cons]; omega
theorem pairs2_snoc {a b : D} {q : Key} (hq : keyD a = some q) : ∀ {ps : List D} {kvs : List (Key × D)}, pairs2 ps = some kvs → pairs2 (ps ++ [PI.D.tup false [a, b]]) = some (kvs ++ [(q, b)])
  | [], kvs, e => by
    cases e
    show (match keyD a with | some q => (pairs2 []).map ((q, b) :: ·) | none => none) = _
    rw [hq]
    rfl
  | x :: ps, kvs, e => by
    cases x with
    | tup f l =>
      match l, e with
      | [], e => cases e
      | [_], e => cases e
      | _ :: _ :: _ :: _, e => cases e
      | [a2, b2], e =>
        have e : (match keyD a2 with | some q => (pairs2 ps).map ((q, b2) :: ·) | none => none) = some kvs := e
        show (match keyD a2 with | some q => (pairs2 (ps ++ [PI.D.tup false [a, b]])).map ((q, b2) :: ·) | none => none) = _
        cases hk : keyD a2 with
        | none => rw [hk] at e; cases e
        | some q2 =>
          rw [hk] at e
          cases hr : pairs2 ps with
          | none => rw [hr] at e; cases e
          | some l =>
            rw [hr] at e
            cases e
            show (pairs2 (ps ++ [PI.D.tup false [a, b]])).map ((q2, b2) :: ·) = _
            rw [pairs2_snoc hq hr]
            rfl
    | _ => cases e
theorem mergD_snoc (kvs : List (Key × D)) (q : Key) (b : D) : mergD (kvs ++ [(q, b)]) = putD (mergD kvs) q b := by
  unfold mergD
  rw [List.foldl_append]
  rfl
def turnP (c : Cal) (k v : PI.E) (δ : Fr) (h : Hs) : R (Option D) := (evE c k δ h).bind fun a h3 => (evE c v δ h3).bind (pairR a)
theorem if_yes {A B : Prop} (a : A) : if true = true then A else B := by
  rw [if_pos rfl]
  exact a
theorem dcomp_read {it : PI.I} {tg : Tg} {own : List Nat} {k v : PI.E} {σ : L2.St} (hm : tg.mem own = true) (p : tE X.K T E cls c (.dcomp tg it own k v) σ H Q) :
    tDc (tI X.K T E cls c it) (gTg X.K tg) tYes (tE X.K T E0' cls c k) (tE X.K T E0' cls c v) own σ H Q := by
  obtain ⟨ρ, h, δ, r, fr, p⟩ := p
  have p : Post X.K T E cls ρ H (GD X.K Q) (((evI c it δ h).bind fun J h1 => loopR (fun x h2 => bindK (turnP c k v) (bindTg tg x (wipeF δ own)) h2) J h1).bind dcR) := p
  refine ⟨ρ, h, δ, r, fr, ?_⟩
  cases he : evI c it δ h with
  | ex k h2 => rw [he] at p; exact p
  | no => rw [he] at p; exact p
  | ok it h1 =>
    rw [he] at p
    have p : Post X.K T E cls ρ H (GD X.K Q) ((loopR (fun x h2 => bindK (turnP c k v) (bindTg tg x (wipeF δ own)) h2) it h1).bind dcR) := p
    intro ρ1 H1 e1 J wJ D hD
    obtain ⟨G, Y, Wk, st⟩ := wJ
    unfold loopR at p
    split at p
    case isFalse => exact (p : False).elim
    case isTrue hz =>
      cases hc : compLoop (fun x h2 => bindK (turnP c k v) (bindTg tg x (wipeF δ own)) h2) (gOk it.gs) it.items h1 with
      | no => rw [hc] at p; exact (p : False).elim
      | ex k2 h2 =>
        -- a loop lets nothing out
        exfalso
        have key : ∀ (xs : List PI.D) (h : Hs), compLoop (fun x h2 => bindK (turnP c k v) (bindTg tg x (wipeF δ own)) h2) (gOk it.gs) xs h ≠ .ex k2 h2 := by
          intro xs
          induction xs with
          | nil => intro h z; unfold compLoop at z; split at z <;> cases z
          | cons x xs ih =>
            intro h z
            unfold compLoop at z
            split at z
            · split at z
              · split at z
                · cases z
                · cases z
              · cases z
            · cases z
        exact key _ _ hc
      | ok ds hf =>
        rw [hc] at p
        have p : Post X.K T E cls ρ H (GD X.K Q) (dcR ds hf) := p
        refine dc_it Wk (D := D) (fun i Hc => ∃ ρ' h' done kvs accV r', Ext X.K T ρ1 H1 ρ' h' Hc ∧ D ∉ ρ' ∧ Hc D = some (.dK accV) ∧ pairs2 done = some kvs ∧ RelKV X.K ρ' Hc (mergD kvs) accV ∧ kvs.length ≤ i ∧
          compLoop (fun x h2 => bindK (turnP c k v) (bindTg tg x (wipeF δ own)) h2) (gOk it.gs) (it.items.drop i) h' = .ok r' hf ∧ ds = done ++ r') ?_ ?_ ?_ ?_
        · exact ⟨ρ1, h1, [], [], [], ds, Ext.new_ e1.rel hD, e1.rel.nmem_none hD, upd_same, rfl, .nil, Nat.le_refl _, by simpa using hc, rfl⟩
        · rintro i Hc hi' ⟨ρ', h', done, kvs, accV, r', e2, nD, hDc, hp, rA, hl, hcl, _⟩
          exact (st ρ' h' Hc e2 (compLoop_g hcl)).1
        · rintro i x Hc H' hi' ⟨ρ', h', done, kvs, accV, r', e2, nD, hDc, hp, rA, hl, hcl, hds⟩ hy
          obtain ⟨d, hd, e3, rd⟩ := (st ρ' h' Hc e2 (compLoop_g hcl)).2 i x H' hi' hy
          have hdr : it.items.drop i = d :: it.items.drop (i + 1) := by
            obtain ⟨hlt, hget⟩ := List.getElem?_eq_some_iff.mp hd
            rw [List.drop_eq_getElem_cons hlt, hget]
          rw [hdr] at hcl
          obtain ⟨o, h2, r'', hf1, hf2, hr'⟩ := compLoop_cons hcl
          have hb : ∃ δ', bindTg tg d (wipeF δ own) = some δ' ∧ turnP c k v δ' h' = .ok o h2 := by
            cases hbt : bindTg tg d (wipeF δ own) with
            | none => rw [hbt] at hf1; cases hf1
            | some δ' => rw [hbt] at hf1; exact ⟨δ', rfl, hf1⟩
          obtain ⟨δ', hbt, hf1⟩ := hb
          have D' : H' D = some (.dK accV) := e3.keep D _ hDc nD fun _ z => by cases z
          have fr3 : FrRel X.K ρ' H' (wipeF δ own) (L2.wipe σ own) := (((fr.ext e1 r).ext e2 e1.rel).ext e3 e2.rel).wipe own
          refine tg_read (tg := tg) (h := h') (T := T) fr3 rd hbt fun σ2 fr2 hw => ⟨by rw [hw own hm, wipe_wipe], ?_⟩
          unfold turnP at hf1
          unfold tYes
          simp only [if_true]
          cases hk : evE c k δ' h' with
          | no => rw [hk] at hf1; cases hf1
          | ex k2 h3 => rw [hk] at hf1; cases hf1
          | ok a h3 =>
            rw [hk] at hf1
            have hf1 : (evE c v δ' h3).bind (pairR a) = .ok o h2 := hf1
            refine ⟨ρ', h', δ', e3.rel, fr2, ?_⟩
            rw [hk]
            intro ρ4 H4 e4 y ly
            cases hv : evE c v δ' h3 with
            | no => rw [hv] at hf1; cases hf1
            | ex k2 h4 => rw [hv] at hf1; cases hf1
            | ok b h4 =>
              rw [hv] at hf1
              have hf1 : pairR a b h4 = .ok o h2 := hf1
              refine ⟨ρ4, h3, δ', e4.rel, fr2.ext e4 e3.rel, ?_⟩
              rw [hv]
              intro ρ5 H5 e5 z lz
              unfold pairR at hf1
              split at hf1
              case h_2 => cases hf1
              case h_1 q hq =>
                cases hf1
                have ey := key_rel ly hq
                subst ey
                have e45 := e4.trans e5
                have D5 : H5 D = some (.dK accV) := e45.keep D _ D' nD fun _ z => by cases z
                have nD5 : D ∉ ρ5 := fun z => by
                  obtain ⟨ps, z2⟩ := e45.new D z nD _ D'
                  cases z2
                obtain ⟨big, M⟩ := (e2.trans (e3.trans e45)).outD (ws := putK accV q z) nD5 (.of_none hD) D5
                have rk := ((rA.mono (e3.mono e2.rel)).mono (e45.mono e3.rel))
                refine ⟨accV, q, rfl, D5, ?_, ρ5, h2, done ++ [.tup false [a, b]], kvs ++ [(q, b)], putK accV q z, r'', big, nD5, upd_same, pairs2_snoc hq hp, ?_, by simp; omega, hf2, ?_⟩
                · have hz' : it.items.length < LIM := hz
                  have l1 := mergD_len kvs []
                  rw [← rA.length, ← lim_eq]
                  simp at l1
                  unfold mergD
                  omega
                · rw [mergD_snoc]
                  exact (RelKV.put lz rk).mono M
                · rw [hds, hr']
                  show done ++ (PI.D.tup false [a, b] :: r'') = done ++ [PI.D.tup false [a, b]] ++ r''
                  simp
        · rintro Hc ⟨ρ', h', done, kvs, accV, r', e2, nD, hDc, hp, rA, hl, hcl, hds⟩
          rw [List.drop_length] at hcl
          have hfin : r' = [] ∧ h' = hf := by
            unfold compLoop at hcl
            split at hcl
            · cases hcl; exact ⟨rfl, rfl⟩
            · cases hcl
          obtain ⟨rfl, rfl⟩ := hfin
          rw [List.append_nil] at hds
          subst hds
          unfold dcR at p
          rw [hp] at p
          have nu := back_nu r e1 (.of_none hD)
          exact p _ _ ((e1.trans e2).takeD nD nu hDc rA) _ (.ref (last_at e2.rel))
end
end PI
namespace PI
open PySem L2
theorem insB_le (x : Int) : ∀ (l : List Int), l.Pairwise (· ≤ ·) → (insB x l).Pairwise (· ≤ ·) ∧ ∀ z, z ∈ insB x l → z = x ∨ z ∈ l
  | [], _ => ⟨List.pairwise_singleton _ _, fun z hz => .inl (by simpa [insB] using hz)⟩
  | y :: r, h => by
    have ⟨h1, h2⟩ := List.pairwise_cons.mp h
    unfold insB
    split
    · next c =>
      refine ⟨List.pairwise_cons.mpr ⟨fun z hz => ?_, h⟩, fun z hz => by simpa using hz⟩
      rcases List.mem_cons.mp hz with e | e
      · rw [e]; exact c
      · exact Int.le_trans c (h1 z e)
    · next c =>
      have ⟨a1, a2⟩ := insB_le x r h2
      refine ⟨List.pairwise_cons.mpr ⟨fun z hz => ?_, a1⟩, fun z hz => ?_⟩
      · rcases a2 z hz with e | e
        · rw [e]; show y ≤ x; omega
        · exact h1 z e
      · rcases List.mem_cons.mp hz with e | e
        · exact .inr (by rw [e]; exact List.mem_cons_self)
        · rcases a2 z e with e | e
          · exact .inl e
          · exact .inr (List.mem_cons_of_mem _ e)
theorem insB_perm (x : Int) : ∀ (l : List Int), (insB x l).Perm (x :: l)
  | [] => List.Perm.refl _
  | y :: r => by
    unfold insB
    split
    · exact List.Perm.refl _
    · exact ((insB_perm x r).cons y).trans (List.Perm.swap x y r)
theorem sortI_le : ∀ ns : List Int, (sortI ns).Pairwise (· ≤ ·)
  | [] => .nil
  | x :: r => (insB_le x _ (sortI_le r)).1
theorem sortI_perm : ∀ ns : List Int, (sortI ns).Perm ns
  | [] => List.Perm.refl _
  | x :: r => (insB_perm x _).trans ((sortI_perm r).cons x)
theorem le_ext : ∀ {l m : List Int}, l.Pairwise (· ≤ ·) → m.Pairwise (· ≤ ·) → l.Perm m → l = m
  | [], m, _, _, h => (List.Perm.nil_eq h).symm ▸ rfl
  | x :: r, [], _, _, h => absurd h.symm.length_eq (by simp)
  | x :: r, y :: q, h1, h2, h => by
    have ⟨a1, a2⟩ := List.pairwise_cons.mp h1
    have ⟨b1, b2⟩ := List.pairwise_cons.mp h2
    have e : x = y := by
      have m1 : x ∈ y :: q := h.mem_iff.mp List.mem_cons_self
      have m2 : y ∈ x :: r := h.mem_iff.mpr List.mem_cons_self
      rcases List.mem_cons.mp m1 with e | e
      · exact e
      · rcases List.mem_cons.mp m2 with e2 | e2
        · exact e2.symm
        · have c1 : x ≤ y := a1 y e2
          have c2 : y ≤ x := b1 x e
          omega
    subst e
    rw [le_ext a2 b2 (List.Perm.cons_inv h)]
section
variable {X : Cx} {T : List (Addr × Str)} {E : XK} {cls : Nat → Addr} {pg : Pg} {n : Nat} {lm : Bool} {ρ : List Addr} {h : Hs} {H : Hp} {Q : VK} {x y : Expr} {pos p : Pos} {c : Cal}
theorem sn_rev {a : PI.E} {k : Nat} {p1 p2 p3 : Pos} (ha : PE X x (tE X.K T E cls c a)) : PE X (.Subscript x (.Slice none none (some (.UnaryOp .USub (.Constant (.int 1) k p1) p2)) p3) pos) (tE X.K T E cls c (.rev a)) := by
  refine PE.weak (pe_revL ha) fun σ H Q hq => ?_
  refine (tG.bind (f := evE c a) (g := fun x δ h1 => revD x h1) hq).mono fun ρ1 h1 H1 d1 r1 q v1 l1 => ?_
  obtain ⟨δ, r, f, q⟩ := q
  unfold revD at q
  split at q
  case h_2 => exact (q : False).elim
  case h_1 xs hx =>
    obtain ⟨ad, vs, rfl, l2, hl⟩ := lst'_of r l1 hx
    refine ⟨ad, vs, rfl, SqL.of hl, fun p' hp' => ?_⟩
    exact GD.push r l2.rev q hp'
theorem sn_sortL {a : PI.E} (g : GX X T E cls pg n lm) (hg : Gl X "sorted") (hs : notStar x = true) (ha : PE X x (tE X.K T E cls (cal pg n) a)) :
    PE X (.Call (.Name "sorted" p) [x] [] pos) (tE X.K T E cls (cal pg n) (.sortL a)) := by
  have hm := g.gf.bn "sorted" (by decide)
  refine PE.weak (pe_callB cr_sortedI hg hm PyProof.Rows.boot_sorted (pa_cons ha pa_nil (star_cons hs)) (he := star_cons hs) (hpl := by rfl)) fun σ H Q hq => ?_
  refine (tG.bind (f := evE (cal pg n) a) (g := fun x δ h1 => sortLD x h1) hq).mono fun ρ1 h1 H1 d1 r1 q v1 l1 => ?_
  obtain ⟨δ, r, f, q⟩ := q
  unfold sortLD at q
  split at q
  case h_2 => exact (q : False).elim
  case h_1 xs hx =>
    obtain ⟨ad, vs, rfl, l2, hl⟩ := lst'_of r l1 hx
    split at q
    case h_2 => exact (q : False).elim
    case h_1 ns hn =>
      refine ⟨ad, ns, rfl, by rw [← ints_of l2 hn]; exact SqL.of hl, fun ns' p' hp ho hp' => ?_⟩
      have e : ns' = sortI ns := le_ext ho (sortI_le ns) (hp.trans (sortI_perm ns).symm)
      subst e
      exact GD.push r (rel_ints _) q hp'
end
end PI
namespace PI
open PySem L2
/-! ### does the text say this? -/
def visB (sc : Scope) (x : Str) : Bool := match sc.names.lookup x with
  | some .local => true
  | some .cell => true
  | some .free => true
  | _ => false
def locB (sc : Scope) (x : Str) : Bool := match sc.names.lookup x with
  | some .local => true
  | _ => false
/-- a name of a comprehension's block -/
def locC (scope sc : Scope) (x : Str) : Bool := locB (relS scope sc) x || decide (scope.names.lookup x = some .cell)
def glB (sc : Scope) (x : Str) : Bool := decide (sc.names.lookup x = some .globalImplicit)
def okN (x : Str) : Bool := !(x == ("__debug__" : Str)) && !(x == ("__classdict__" : Str))
def conB (d : D) (x : Expr) : Bool := match x with
  | .Constant (.int i) _ _ => match d with
    | .int j => decide (i = j)
    | _ => false
  | .Constant (.bool i) _ _ => match d with
    | .bl j => decide (i = j)
    | _ => false
  | .Constant (.str i) _ _ => match d with
    | .str j => decide (i = j)
    | _ => false
  | .Constant .none _ _ => match d with
    | .non => true
    | _ => false
  | _ => false
def plainIxB : Expr → Bool
  | .Slice _ _ _ _ => false
  | _ => true
def notSetB : Expr → Bool
  | .Set _ _ _ => false
  | _ => true
def truthB : Expr → Bool
  | .Name _ _ => true
  | .Constant _ _ _ => true
  | .Call _ _ _ _ => true
  | .Subscript _ _ _ => true
  | .BinOp _ _ _ _ => true
  | .Attribute _ _ _ => true
  | _ => false
def cmpB : PI.E → Bool
  | .cmp _ _ _ => true
  | .chain _ _ _ _ _ => true
  | .gin _ _ _ => true
  | _ => false
def tgB (N : List Str) (ok : Str → Bool) : Tg → Expr → Bool
  | .one i, x => match x with
    | .Name s _ => decide (N[i]? = some s) && ok s
    | _ => false
  | .two i j, x => match x with
    | .Tuple [.Name s _, .Name t _] _ _ => decide (N[i]? = some s) && ok s && (decide (N[j]? = some t) && ok t)
    | _ => false
  | .three i j l, x => match x with
    | .Tuple [.Name s _, .Name t _, .Name u _] _ _ => decide (N[i]? = some s) && ok s && (decide (N[j]? = some t) && ok t) && (decide (N[l]? = some u) && ok u)
    | _ => false
def isTupB : Expr → Bool
  | .Tuple _ _ _ => true
  | _ => false
def ownOf (N : List Str) (own : List Nat) : List (Str × Nat) := own.map fun i => (N.getD i Str.empty, i)
/-- a class of the program; its attribute -/
def insCB (pg : Pg) (c : Str) : Bool := pg.ins.any fun p => decide (p.1 = c)
def insAB (pg : Pg) (c f : Str) : Bool := pg.ins.any fun p => decide (p.1 = c) && p.2.any fun g => decide (g = f)
theorem insCB_ok {pg : Pg} {c : Str} (h : insCB pg c = true) : ∃ as, (c, as) ∈ pg.ins := by
  obtain ⟨p, hp, e⟩ := List.any_eq_true.mp h
  have e : p.1 = c := of_decide_eq_true e
  exact ⟨p.2, by rw [← e]; exact hp⟩
theorem insAB_ok {pg : Pg} {c f : Str} (h : insAB pg c f = true) : ∃ as, (c, as) ∈ pg.ins ∧ f ∈ as := by
  obtain ⟨p, hp, e⟩ := List.any_eq_true.mp h
  rw [Bool.and_eq_true] at e
  have e1 : p.1 = c := of_decide_eq_true e.1
  obtain ⟨g, hg, e2⟩ := List.any_eq_true.mp e.2
  have e2 : g = f := of_decide_eq_true e2
  exact ⟨p.2, by rw [← e1]; exact hp, by rw [← e2]; exact hg⟩
section
variable (N : List Str) (pg : Pg)
mutual
def chkE (lm : Bool) : PI.E → Scope → Expr → Bool
  | .var i, sc, x => match x with
    | .Name s _ => decide (N[i]? = some s) && visB sc s && okN s
    | _ => false
  | .con d, sc, x => conB d x
  | .glob i, sc, x => match x with
    | .Name s _ => (match pg.con[i]? with | some p => decide (p.1 = s) | none => false) && glB sc s && okN s
    | _ => false
  | .bin op a b, sc, x => match x with
    | .BinOp l o r _ => decide (o = op.op) && chkE lm a sc l && chkE lm b sc r
    | _ => false
  | .neg a, sc, x => match x with
    | .UnaryOp .USub l _ => chkE lm a sc l
    | _ => false
  | .notV a, sc, x => match x with
    | .UnaryOp .Not l _ => chkE lm a sc l
    | _ => false
  | .cmp op a b, sc, x => match x with
    | .Compare l [o] [r] _ => decide (o = op.op) && !behindInMarks op.op r && chkE lm a sc l && chkE lm b sc r
    | _ => false
  | .chain o1 o2 a b d, sc, x => match x with
    | .Compare l [p, q] [m, r] _ => decide (p = o1.op) && decide (q = o2.op) && !lastMarks [o1.op, o2.op] [m, r] && chkE lm a sc l && chkE lm b sc m && chkE lm d sc r
    | _ => false
  | .andV a b, sc, x => match x with
    | .BoolOp .And (l :: r :: rest) pos => chkE lm a sc l && (match rest with | [] => chkE lm b sc r | _ :: _ => chkE lm b sc (.BoolOp .And (r :: rest) pos))
    | _ => false
  | .orV a b, sc, x => match x with
    | .BoolOp .Or (l :: r :: rest) pos => chkE lm a sc l && (match rest with | [] => chkE lm b sc r | _ :: _ => chkE lm b sc (.BoolOp .Or (r :: rest) pos))
    | _ => false
  | .ite t a b, sc, x => match x with
    | .IfExp k l r _ => chkT lm t sc k && chkE lm a sc l && chkE lm b sc r
    | _ => false
  | .tup es, sc, x => match x with
    | .Tuple xs _ _ => chkEs lm es sc xs
    | _ => false
  | .newL l, sc, x => chkL lm l sc x
  | .ix a b, sc, x => match x with
    | .Subscript o i _ => plainIxB i && chkE lm a sc o && chkE lm b sc i
    | _ => false
  | .lix l i, sc, x => match x with
    | .Subscript o (.Name s _) _ => decide (N[i]? = some s) && visB sc s && okN s && chkL lm l sc o
    | _ => false
  | .sl a lo hi, sc, x => match x with
    | .Subscript o (.Slice l h none _) _ => chkE lm a sc o && chkOE lm lo sc l && chkOE lm hi sc h
    | _ => false
  | .call f es, sc, x => match x with
    | .Call (.Name s _) args [] _ => (match pg.fns[f]? with | some fn => decide (fn.name = s) | none => false) && (pg.ow f).isNone && glB sc s && okN s && args.all notStar && chkEs lm es sc args
    | _ => false
  | .bi b es, sc, x => match x with
    | .Call (.Name s _) args [] _ => decide (s = b.nm) && glB sc s && !args.isEmpty && args.all notStar && chkEs lm es sc args
    | _ => false
  | .isT t e, sc, x => match x with
    | .Call (.Name s _) [o, .Name ty _] [] _ => decide (s = ("isinstance" : Str)) && decide (t.py = some ty) && glB sc s && glB sc ty && notStar o && chkE lm e sc o
    | _ => false
  | .bl b l, sc, x => match x with
    | .Call (.Name s _) [o] [] _ => decide (b.nm = some s) && glB sc s && notStar o && chkL lm l sc o
    | _ => false
  | .me m o es, sc, x => match x with
    | .Call (.Attribute ob a apos) args [] cpos => baseOk ob && (apos.endLine == cpos.line) && chkE lm o sc ob && (match m with
      | .append => decide (a = ("append" : Str)) && decide (args.length = 1) && args.all notStar && chkEs lm es sc args
      | .extend => decide (a = ("extend" : Str)) && decide (args.length = 1) && args.all notStar && chkEs lm es sc args
      | .pop => decide (a = ("pop" : Str)) && args.isEmpty && chkEs lm es sc args
      | _ => false)
    | _ => false
  | .gget i e, sc, x => match x with
    | .Call (.Attribute (.Name s p) a apos) [o] [] cpos => (match pg.dic[i]? with | some q => decide (q.1 = s) | none => false) && glB sc s && okN s && decide (a = ("get" : Str)) && baseOk (.Name s p) && (apos.endLine == cpos.line) && notStar o && chkE lm e sc o
    | _ => false
  | .lenSet e, sc, x => match x with
    | .Call (.Name s _) [.Call (.Name t _) [o] [] _] [] _ => decide (s = ("len" : Str)) && decide (t = ("set" : Str)) && glB sc s && glB sc t && notStar o && chkE lm e sc o
    | _ => false
  | .sortSet e, sc, x => match x with
    | .Call (.Name s _) [.Call (.Name t _) [o] [] _] [] _ => decide (s = ("sorted" : Str)) && decide (t = ("set" : Str)) && glB sc s && glB sc t && notStar o && chkE lm e sc o
    | _ => false
  | .newD, sc, x => match x with
    | .Dict [] [] _ => true
    | _ => false
  | .sortR e, sc, x => match x with
    | .Call (.Name s _) [o] [⟨some k, v, _⟩] _ => decide (s = ("sorted" : Str)) && decide (k = ("reverse" : Str)) && glB sc s && notStar o && conB (.bl true) v && chkE lm e sc o
    | _ => false
  | .fmt e, sc, x => match x with
    | .FormattedValue o c none _ => decide (c = -1) && chkE lm e sc o
    | _ => false
  | .jstr es, sc, x => match x with
    | .JoinedStr (v :: w :: r) _ => noStarEs es && chkEs lm es sc (v :: w :: r)
    | _ => false
  | .join a b, sc, x => match x with
    | .Call (.Attribute o s apos) [y] [] pos => decide (s = ("join" : Str)) && baseOk o && (apos.endLine == pos.line) && notStar y && chkE lm a sc o && chkE lm b sc y
    | _ => false
  | .split a b, sc, x => match x with
    | .Call (.Attribute o s apos) [y] [] pos => decide (s = ("split" : Str)) && baseOk o && (apos.endLine == pos.line) && notStar y && chkE lm a sc o && chkE lm b sc y
    | _ => false
  | .gin b i e, sc, x => match x with
    | .Compare o [op] [.Name s p2] _ => decide (op = if b then CmpOp.NotIn else CmpOp.In) && (match pg.dic[i]? with | some q => decide (q.1 = s) | none => false) && glB sc s && okN s && !behindInMarks op (.Name s p2) && chkE lm e sc o
    | _ => false
  | .gix i e, sc, x => match x with
    | .Subscript (.Name s _) o _ => (match pg.dic[i]? with | some q => decide (q.1 = s) | none => false) && glB sc s && okN s && plainIxB o && chkE lm e sc o
    | _ => false
  | .attr c a f, sc, x => match x with
    | .Attribute o s _ => decide (s = f) && insAB pg c f && baseOk o && chkE lm a sc o
    | _ => false
  | .make c i es, sc, x => match x with
    | .Call (.Name s _) args [] _ => decide (s = c) && insCB pg c && (match pg.fns[i]? with | some fn => decide (fn.name = ("__init__" : Str)) | none => false) && decide (pg.ow i = some c) && glB sc s && args.all notStar && chkEs lm es sc args
    | _ => false
  | .meth c m i o es, sc, x => match x with
    | .Call (.Attribute ob a apos) args [] cpos => decide (a = m) && insCB pg c && (match pg.fns[i]? with | some fn => decide (fn.name = m) | none => false) && decide (pg.ow i = some c) && baseOk ob && (apos.endLine == cpos.line) && args.all notStar && decide (args.length < 29) && chkE lm o sc ob && chkEs lm es sc args
    | _ => false
  | .dlit ps, sc, x => match x with
    | .Dict keys values _ => !keys.isEmpty && decide (keys.length ≤ 15) && chkPs lm ps sc keys values
    | _ => false
  | .dcomp tg it own k v, sc, x => match x with
    | .DictComp kx vx [⟨tgt, iter, [], 0⟩] scope _ => tg.mem own && notSetB iter && tgB N (locC scope sc) tg tgt && blkC N sc scope (ownOf N own) && chkI lm it sc tgt iter && chkE lm k (relS scope sc) kx && chkE lm v (relS scope sc) vx
    | _ => false
  | .rev a, sc, x => match x with
    | .Subscript o (.Slice none none (some (.UnaryOp .USub (.Constant (.int 1) _ _) _)) _) _ => chkE lm a sc o
    | _ => false
  | .sortL e, sc, x => match x with
    | .Call (.Name s _) [o] [] _ => decide (s = ("sorted" : Str)) && glB sc s && notStar o && chkE lm e sc o
    | _ => false
  | .told e, sc, x => match x with
    | .Call (.Name s _) [.Lambda params body scope _] [] _ => lm && decide (s = ("_law_told" : Str)) && glB sc s && noParams params && LamX.lamSB sc scope && chkE false e scope body
    | _ => false
def chkOE (lm : Bool) : OE → Scope → Option Expr → Bool
  | .none, _, x => x.isNone
  | .some e, sc, x => match x with
    | some y => chkE lm e sc y
    | none => false
def chkEs (lm : Bool) : Es → Scope → List Expr → Bool
  | .nil, _, xs => xs.isEmpty
  | .cons e r, sc, xs => match xs with
    | x :: ys => notStar x && chkE lm e sc x && chkEs lm r sc ys
    | [] => false
  | .star e r, sc, xs => match xs with
    | .Starred x _ :: ys => chkE lm e sc x && chkEs lm r sc ys
    | _ => false
def chkPs (lm : Bool) : Ps → Scope → List (Option Expr) → List Expr → Bool
  | .nil, _, ks, vs => ks.isEmpty && vs.isEmpty
  | .cons k v r, sc, ks, vs => match ks with
    | some x :: ks => (match vs with
      | y :: vs => chkE lm k sc x && chkE lm v sc y && chkPs lm r sc ks vs
      | [] => false)
    | _ => false
def chkT (lm : Bool) : PI.T → Scope → Expr → Bool
  | .of e, sc, x => (truthB x || cmpB e) && chkE lm e sc x
  | .and a b, sc, x => match x with
    | .BoolOp .And (l :: r :: rest) pos => chkT lm a sc l && (match rest with | [] => chkT lm b sc r | _ :: _ => chkT lm b sc (.BoolOp .And (r :: rest) pos))
    | _ => false
  | .or a b, sc, x => match x with
    | .BoolOp .Or (l :: r :: rest) pos => chkT lm a sc l && (match rest with | [] => chkT lm b sc r | _ :: _ => chkT lm b sc (.BoolOp .Or (r :: rest) pos))
    | _ => false
  | .not a, sc, x => match x with
    | .UnaryOp .Not l _ => chkT lm a sc l
    | _ => false
def chkL (lm : Bool) : PI.L → Scope → Expr → Bool
  | .lit es, sc, x => match x with
    | .List xs _ => chkEs lm es sc xs
    | _ => false
  | .comp tg it own t el, sc, x => match x with
    | .ListComp elt [⟨tgt, iter, [k], 0⟩] scope _ => tg.mem own && notSetB iter && tgB N (locC scope sc) tg tgt && blkC N sc scope (ownOf N own) && chkI lm it sc tgt iter && chkT lm t (relS scope sc) k && chkE lm el (relS scope sc) elt
    | _ => false
  | .compU tg it own el, sc, x => match x with
    | .ListComp elt [⟨tgt, iter, [], 0⟩] scope _ => tg.mem own && notSetB iter && tgB N (locC scope sc) tg tgt && blkC N sc scope (ownOf N own) && chkI lm it sc tgt iter && chkE lm el (relS scope sc) elt
    | _ => false
def chkI (lm : Bool) : PI.I → Scope → Expr → Expr → Bool
  | .of e, sc, _, x => chkE lm e sc x
  | .ofL l, sc, _, x => chkL lm l sc x
  | .range1 a, sc, _, x => match x with
    | .Call (.Name s _) [o] [] _ => decide (s = ("range" : Str)) && glB sc s && notStar o && chkE lm a sc o
    | _ => false
  | .range2 a b, sc, _, x => match x with
    | .Call (.Name s _) [o, q] [] _ => decide (s = ("range" : Str)) && glB sc s && notStar o && notStar q && chkE lm a sc o && chkE lm b sc q
    | _ => false
  | .range3 a b d, sc, _, x => match x with
    | .Call (.Name s _) [o, q, u] [] _ => decide (s = ("range" : Str)) && glB sc s && notStar o && notStar q && notStar u && chkE lm a sc o && chkE lm b sc q && chkE lm d sc u
    | _ => false
  | .enum a, sc, tg, x => match x with
    | .Call (.Name s _) [o] [] _ => decide (s = ("enumerate" : Str)) && isTupB tg && glB sc s && notStar o && chkE lm a sc o
    | _ => false
  | .zip a b, sc, tg, x => match x with
    | .Call (.Name s _) [o, q] [] _ => decide (s = ("zip" : Str)) && isTupB tg && glB sc s && notStar o && notStar q && chkE lm a sc o && chkE lm b sc q
    | _ => false
end
end
theorem chkEs_nil {N : List Str} {pg : Pg} {lm : Bool} {es : Es} {sc : Scope} (h : chkEs N pg lm es sc [] = true) : es = .nil := by
  cases es with
  | nil => rfl
  | cons e r => unfold chkEs at h; cases h
  | star e r => unfold chkEs at h; cases h
/-! ### what the checks say -/
theorem visB_ok {sc : Scope} {x : Str} (h : visB sc x = true) : Vis sc x := by
  unfold visB at h
  split at h
  case h_1 e => exact .inl e
  case h_2 e => exact .inr (.inl e)
  case h_3 e => exact .inr (.inr e)
  case h_4 => cases h
theorem locB_ok {sc : Scope} {x : Str} (h : locB sc x = true) : sc.names.lookup x = some .local := by
  unfold locB at h
  split at h
  case h_1 e => exact e
  case h_2 => cases h
theorem okN_ok {x : Str} (h : okN x = true) : (x == ("__debug__" : Str)) = false ∧ (x == ("__classdict__" : Str)) = false := by
  unfold okN at h
  simpa using h
theorem glB_ok {X : Cx} {x : Str} (h : glB X.env.scope x = true) : Gl X x := by
  show X.env.kindOf x = some .globalImplicit
  exact of_decide_eq_true h
theorem notSet_ok {e : Expr} {env : Env} (h : notSetB e = true) : ∀ x, foldedSetIterable e env x = pure x := by
  intro x
  cases e <;> first | rfl | cases h
theorem plainIx_ok {e : Expr} (h : plainIxB e = true) : PlainIx e := by
  intro o i
  cases e <;> first | rfl | cases h
theorem truth_ok {e : Expr} {env : Env} (h : truthB e = true) : ∀ (whole : Sem Value), isTrue e env whole = (do let v ← whole; standAt e.pos; holding [v] (truthy v)) := by
  intro w
  cases e <;> first | rfl | cases h
section
variable {X : Cx} {T : List (Addr × Str)} {E : XK} {cls : Nat → Addr} {pg : Pg} {n : Nat} {lm : Bool}
theorem con_ok {c : Cal} {d : D} {x : Expr} (h : conB d x = true) : PE X x (tE X.K T E cls c (.con d)) := by
  unfold conB at h
  split at h
  case h_1 i _ _ =>
    cases d with
    | int j =>
      have e : i = j := of_decide_eq_true h
      subst e
      exact sn_con pe_int fun _ _ => .int _
    | _ => cases h
  case h_2 i _ _ =>
    cases d with
    | bl j =>
      have e : i = j := of_decide_eq_true h
      subst e
      exact sn_con pe_bl fun _ _ => .bl _
    | _ => cases h
  case h_3 i _ _ =>
    cases d with
    | str j =>
      have e : i = j := of_decide_eq_true h
      subst e
      exact sn_con pe_str fun _ _ => .str _
    | _ => cases h
  case h_4 =>
    cases d with
    | non => exact sn_con pe_non fun _ _ => .non
    | _ => cases h
  case h_5 => cases h
theorem true_ok {x : Expr} (h : conB (.bl true) x = true) : PE X x (tC (.bl true)) := by
  unfold conB at h
  split at h
  case h_2 i _ _ =>
    have e : i = true := of_decide_eq_true h
    subst e
    exact pe_bl
  all_goals cases h
theorem tg_one {N : List Str} {ok : Str → Bool} {i : Nat} {x : Expr} (h : tgB N ok (.one i) x = true) : ∃ s p, x = .Name s p ∧ N[i]? = some s ∧ ok s = true := by
  cases x with
  | Name s p =>
    have h' : (decide (N[i]? = some s) && ok s) = true := h
    rw [Bool.and_eq_true] at h'
    exact ⟨s, p, rfl, of_decide_eq_true h'.1, h'.2⟩
  | _ => cases h
theorem tg_two {N : List Str} {ok : Str → Bool} {i j : Nat} {x : Expr} (h : tgB N ok (.two i j) x = true) : ∃ s p t q k r, x = .Tuple [.Name s p, .Name t q] k r ∧ N[i]? = some s ∧ ok s = true ∧ N[j]? = some t ∧ ok t = true := by
  unfold tgB at h
  simp only at h
  split at h
  next s p t q k r =>
    simp only [Bool.and_eq_true, decide_eq_true_eq] at h
    exact ⟨s, p, t, q, k, r, rfl, h.1.1, h.1.2, h.2.1, h.2.2⟩
  next => cases h
theorem tg_three {N : List Str} {ok : Str → Bool} {i j l : Nat} {x : Expr} (h : tgB N ok (.three i j l) x = true) : ∃ s p t q u w k r, x = .Tuple [.Name s p, .Name t q, .Name u w] k r ∧ N[i]? = some s ∧ ok s = true ∧ N[j]? = some t ∧ ok t = true ∧ N[l]? = some u ∧ ok u = true := by
  unfold tgB at h
  simp only at h
  split at h
  next s p t q u w k r =>
    simp only [Bool.and_eq_true, decide_eq_true_eq] at h
    exact ⟨s, p, t, q, u, w, k, r, rfl, h.1.1.1, h.1.1.2, h.1.2.1, h.1.2.2, h.2.1, h.2.2⟩
  next => cases h
/-- a target by its names; every name is the block's own -/
theorem pg_of {tg : Tg} {x : Expr} {ok : Str → Bool} (nd : X.N.Nodup) (hc : X.calm = true) (hok : ∀ s, ok s = true → Loc X.env.scope s ∧ (X.fn s = true ∨ X.env.scope.names.lookup s = some .local)) (h : tgB X.N ok tg x = true) : PG X x (gTg X.K tg) := by
  cases tg with
  | one i =>
    obtain ⟨s, p, rfl, h1, h2⟩ := tg_one h
    exact pg_name nd h1 (hok s h2).1 (hok s h2).2
  | two i j =>
    obtain ⟨s, p, t, q, k, r, rfl, h1, h2, h3, h4⟩ := tg_two h
    exact pg_tup hc (pgs_cons (pg_name nd h1 (hok s h2).1 (hok s h2).2) (pgs_cons (pg_name nd h3 (hok t h4).1 (hok t h4).2) pgs_nil))
  | three i j l =>
    obtain ⟨s, p, t, q, u, w, k, r, rfl, h1, h2, h3, h4, h5, h6⟩ := tg_three h
    exact pg_tup hc (pgs_cons (pg_name nd h1 (hok s h2).1 (hok s h2).2) (pgs_cons (pg_name nd h3 (hok t h4).1 (hok t h4).2) (pgs_cons (pg_name nd h5 (hok u h6).1 (hok u h6).2) pgs_nil)))
theorem locC_ok {scope sc : Scope} {x : Str} (h : locC scope sc x = true) : Loc (relS scope sc) x ∧ ((scope.names.lookup x == some .cell) = true ∨ (relS scope sc).names.lookup x = some .local) := by
  unfold locC at h
  rw [Bool.or_eq_true] at h
  rcases h with h | h
  · exact ⟨.inl (locB_ok h), .inr (locB_ok h)⟩
  · have e : scope.names.lookup x = some .cell := of_decide_eq_true h
    exact ⟨.inr (lookup_relS_keep (by decide) e), .inl (by rw [e]; rfl)⟩
theorem ownOf_snd (N : List Str) (own : List Nat) : (ownOf N own).map (·.2) = own := by
  unfold ownOf
  rw [List.map_map]
  exact List.map_id _
theorem passL' {X : Cx} : Passes (L2N.CX X.prog X.w) X E0' := fun _ _ _ _ _ _ _ h => by
  obtain ⟨_, _, _, _, _, _, _, _, _, _, _, _, z⟩ := h
  exact z.elim
/-- within a comprehension nothing is let out -/
theorem GX.blk (g : GX X T E cls pg n lm) (s : Shared) (H : Hp) (scope : Scope) (cenv : Env) (fp : List Addr) (h1 : cenv.code = X.env.code := by rfl) (h2 : cenv.qual = X.env.qual := by rfl) : GX (X.blk s H scope cenv fp) T E0' cls pg n lm := by
  refine ⟨g.gf, g.gfl, g.room, g.nd, g.calm, passL', fun z => ?_⟩
  obtain ⟨a, b, ⟨c, P, d1, d2, d3, d4⟩, d⟩ := g.lam z
  exact ⟨a, b, ⟨c, P, d1, h1.trans d2, by rw [show (X.blk s H scope cenv fp).env.qual = X.env.qual from h2]; exact d3, fun p hp e => by rw [show (X.blk s H scope cenv fp).env.qual = X.env.qual from h2]; exact d4 p hp e⟩, d⟩

/-! ### a comparison as a test -/
theorem ofB_bl {o : Option Bool} {h h' : Hs} {d : D} (e : R.ofB o h = .ok d h') : ∃ b, d = .bl b := by
  cases o with
  | none => cases e
  | some b => cases e; exact ⟨b, rfl⟩
theorem cmpD_bl {op : CO} {x y d : D} {h h' : Hs} (e : cmpD op x y h = .ok d h') : ∃ b, d = .bl b := by
  cases op with
  | isN =>
    cases y with
    | non => cases e; exact ⟨_, rfl⟩
    | _ => cases e
  | notN =>
    cases y with
    | non => cases e; exact ⟨_, rfl⟩
    | _ => cases e
  | _ => exact ofB_bl e
theorem rCmp_bl {op : CO} {x y : V} {H : Hp} {Q : Bool → Hp → Prop} (p : rCmp X.K T E cls op x y H fun z H' => ∃ k, TruV X.K z H' k ∧ Q k H') : rCmp X.K T E cls op x y H fun z H' => ∃ k, z = .bl k ∧ Q k H' := by
  obtain ⟨ρ, h, d1, d2, r, l1, l2, p⟩ := p
  refine ⟨ρ, h, d1, d2, r, l1, l2, ?_⟩
  cases he : cmpD op d1 d2 h with
  | ok d h' =>
    rw [he] at p
    obtain ⟨b, rfl⟩ := cmpD_bl he
    intro ρ' H' e v lv
    obtain ⟨k, hk, q⟩ := p ρ' H' e v lv
    cases lv
    obtain rfl : k = b := hk
    exact ⟨k, rfl, q⟩
  | ex k h' => rw [he] at p; exact p
  | no => rw [he] at p; exact p
variable {c : Cal} {a b d : PI.E} {x y z : Expr} {pos : Pos}
theorem sn_of_cmp {op : CO} (hu : X.A.units + 64 < cLine) (hm : behindInMarks op.op y = false) (ha : PE X x (tE X.K T E cls c a)) (hb : PE X y (tE X.K T E cls c b)) : PT X (.Compare x [op.op] [y] pos) (tT X.K T E cls c (.of (.cmp op a b))) := by
  refine PT.weak (pt_cmpR (op_cmp (T := T) (E := E) (cls := cls) hu op) ha hb hm) fun σ H Q p => ?_
  have p' := tru_read σ H Q p
  refine (tG.bind (f := evE c a) (g := fun x δ h1 => (evE c b δ h1).bind fun y h2 => cmpD op x y h2) p').mono fun ρ1 h1 H1 d1 r1 q v1 l1 => ?_
  obtain ⟨δ, r, f, q⟩ := q
  exact tG.of r f ((Post.bind q).mono fun ρ2 h2 H2 d2 e2 q v2 l2 => rCmp_bl ⟨ρ2, h2, d1, d2, e2.rel, l1.ext e2 r, l2, q⟩)
theorem sn_of_chain {o1 o2 : CO} (hu : X.A.units + 64 < cLine) (hm : lastMarks [o1.op, o2.op] [y, z] = false) (ha : PE X x (tE X.K T E cls c a)) (hb : PE X y (tE X.K T E cls c b)) (hd : PE X z (tE X.K T E cls c d)) :
    PT X (.Compare x [o1.op, o2.op] [y, z] pos) (tT X.K T E cls c (.of (.chain o1 o2 a b d))) := by
  refine PT.weak (pt_chain (op_cmp (T := T) (E := E) (cls := cls) hu o1) (op_cmp (T := T) (E := E) (cls := cls) hu o2) ha hb hd hm) fun σ H Q p => ?_
  have p' := tru_read σ H Q p
  refine (tG.bind (f := evE c a) (g := fun x δ h1 => (evE c b δ h1).bind fun y h2 => (cmpD o1 x y h2).bind fun z h3 => andK (fun h3 => (evE c d δ h3).bind fun u h4 => cmpD o2 y u h4) z h3) p').mono fun ρ1 h1 H1 d1 r1 q v1 l1 => ?_
  obtain ⟨δ, r, f, q⟩ := q
  refine tG.of r f ((Post.bind q).mono fun ρ2 h2 H2 d2 e2 q v2 l2 => ⟨ρ2, h2, d1, d2, e2.rel, l1.ext e2 r, l2, ?_⟩)
  refine (Post.bind q).mono fun ρ3 h3 H3 d3 e3 q v3 l3 => ?_
  cases l3 with
  | bl k =>
    refine ⟨k, rfl, ?_⟩
    cases k with
    | true =>
      refine iteT (tG.of e3.rel (f.ext (e2.trans e3) r) ((Post.bind q).mono fun ρ4 h4 H4 d4 e4 q v4 l4 => rCmp_bl ⟨ρ4, h4, d2, d4, e4.rel, (l2.ext e3 e2.rel).ext e4 e3.rel, l4, q⟩))
    | false =>
      obtain ⟨k, hk, qk⟩ := q ρ3 H3 (Ext.refl e3.rel) _ (.bl false)
      obtain rfl : k = false := hk
      exact iteF ⟨false, rfl, qk⟩
  | _ => exact (q : False).elim
end
end PI
namespace PI
open PySem L2
section
variable {T : List (Addr × Str)} {cls : Nat → Addr} {pg : Pg}
theorem con_at {n i : Nat} {p : Str × D} (h : pg.con[i]? = some p) : (cal pg n).con[i]? = some p.2 := by
  show (pg.con.map (·.2))[i]? = _
  rw [List.getElem?_map, h]; rfl
mutual
theorem snE : ∀ (e : PI.E) {X : Cx} {E : XK} {n : Nat} {lm : Bool} (g : GX X T E cls pg n lm) (x : Expr), chkE X.N pg lm e X.env.scope x = true → PE X x (tE X.K T E cls (cal pg n) e)
  | .var i, X, E, n, lm, g, x, h => by
    unfold chkE at h
    split at h
    next s p =>
      simp only [Bool.and_eq_true, decide_eq_true_eq] at h
      obtain ⟨h1, h2⟩ := okN_ok h.2
      exact sn_var h.1.1 (visB_ok h.1.2) h1 h2
    next => cases h
  | .con d, X, E, n, lm, g, x, h => con_ok h
  | .glob i, X, E, n, lm, g, x, h => by
    unfold chkE at h
    split at h
    next s p =>
      simp only [Bool.and_eq_true] at h
      obtain ⟨⟨h1, h2⟩, h3⟩ := h
      split at h1
      next q hq =>
        have e : q.1 = s := of_decide_eq_true h1
        obtain ⟨v, u, hm, rv, rr⟩ := g.gf.con i q.1 q.2 hq
        rw [e] at hm
        exact sn_glob (con_at hq) (pe_glob (glB_ok h2) hm rv (okN_ok h3).1) rr
      next => cases h1
    next => cases h
  | .bin op a b, X, E, n, lm, g, x, h => by
    unfold chkE at h
    split at h
    next l o r p =>
      simp only [Bool.and_eq_true, decide_eq_true_eq] at h
      obtain ⟨⟨rfl, h2⟩, h3⟩ := h
      exact sn_bin (snE a g l h2) (snE b g r h3)
    next => cases h
  | .neg a, X, E, n, lm, g, x, h => by
    unfold chkE at h
    split at h
    next l p => exact sn_neg (snE a g l h)
    next => cases h
  | .notV a, X, E, n, lm, g, x, h => by
    unfold chkE at h
    split at h
    next l p => exact sn_not (snE a g l h)
    next => cases h
  | .cmp op a b, X, E, n, lm, g, x, h => by
    unfold chkE at h
    split at h
    next l o r p =>
      simp only [Bool.and_eq_true, decide_eq_true_eq, Bool.not_eq_true'] at h
      obtain ⟨⟨⟨rfl, hm⟩, h2⟩, h3⟩ := h
      exact sn_cmp g.hu hm (snE a g l h2) (snE b g r h3)
    next => cases h
  | .chain o1 o2 a b d, X, E, n, lm, g, x, h => by
    unfold chkE at h
    split at h
    next l p q m r pos =>
      simp only [Bool.and_eq_true, decide_eq_true_eq, Bool.not_eq_true'] at h
      obtain ⟨⟨⟨⟨⟨rfl, rfl⟩, hm⟩, h2⟩, h3⟩, h4⟩ := h
      exact sn_chain g.hu hm (snE a g l h2) (snE b g m h3) (snE d g r h4)
    next => cases h
  | .andV a b, X, E, n, lm, g, x, h => by
    unfold chkE at h
    split at h
    next l r rest pos =>
      simp only [Bool.and_eq_true] at h
      obtain ⟨h1, h2⟩ := h
      cases rest with
      | nil => exact sn_and (snE a g l h1) (pe_one (snE b g r h2))
      | cons y ys => exact sn_and (snE a g l h1) (snE b g _ h2)
    next => cases h
  | .orV a b, X, E, n, lm, g, x, h => by
    unfold chkE at h
    split at h
    next l r rest pos =>
      simp only [Bool.and_eq_true] at h
      obtain ⟨h1, h2⟩ := h
      cases rest with
      | nil => exact sn_or (snE a g l h1) (pe_one (snE b g r h2))
      | cons y ys => exact sn_or (snE a g l h1) (snE b g _ h2)
    next => cases h
  | .ite t a b, X, E, n, lm, g, x, h => by
    unfold chkE at h
    split at h
    next k l r p =>
      simp only [Bool.and_eq_true] at h
      exact sn_ite (snT t g k h.1.1) (snE a g l h.1.2) (snE b g r h.2)
    next => cases h
  | .tup es, X, E, n, lm, g, x, h => by
    unfold chkE at h
    split at h
    next xs k p => exact sn_tup (snEs es g xs h)
    next => cases h
  | .newL l, X, E, n, lm, g, x, h => by
    unfold chkE at h
    exact sn_newL (snL l g x h)
  | .ix a b, X, E, n, lm, g, x, h => by
    unfold chkE at h
    split at h
    next o i p =>
      simp only [Bool.and_eq_true] at h
      exact sn_ix g.hu (plainIx_ok h.1.1) (snE a g o h.1.2) (snE b g i h.2)
    next => cases h
  | .lix l i, X, E, n, lm, g, x, h => by
    unfold chkE at h
    split at h
    next o s p2 p =>
      simp only [Bool.and_eq_true, decide_eq_true_eq] at h
      obtain ⟨⟨⟨h1, h2⟩, h3⟩, h4⟩ := h
      exact sn_lix (plainIx_ok rfl) (snL l g o h4) (pe_var (i := i) h1 (visB_ok h2) (okN_ok h3).1 (okN_ok h3).2)
    next => cases h
  | .sl a lo hi, X, E, n, lm, g, x, h => by
    unfold chkE at h
    split at h
    next o l u p2 p =>
      simp only [Bool.and_eq_true] at h
      exact sn_sl (snE a g o h.1.1) (snOE lo g l h.1.2) (snOE hi g u h.2)
    next => cases h
  | .call f es, X, E, n, lm, g, x, h => by
    unfold chkE at h
    split at h
    next s p args pos =>
      simp only [Bool.and_eq_true] at h
      obtain ⟨⟨⟨⟨⟨h1, h0⟩, h2⟩, h3⟩, h4⟩, h5⟩ := h
      have h0 : pg.ow f = none := by simpa using h0
      split at h1
      next fn hf =>
        have e : fn.name = s := of_decide_eq_true h1
        subst e
        cases args with
        | nil =>
          cases es with
          | nil => exact sn_call0 g hf h0 (glB_ok h2) (okN_ok h3).1
          | cons a r => unfold chkEs at h5; cases h5
          | star a r => unfold chkEs at h5; cases h5
        | cons y ys =>
          rw [List.all_cons, Bool.and_eq_true] at h4
          exact sn_call g hf h0 (glB_ok h2) h4.1 h4.2 (okN_ok h3).1 (snEs es g _ h5)
      next => cases h1
    next => cases h
  | .bi b es, X, E, n, lm, g, x, h => by
    unfold chkE at h
    split at h
    next s p args pos =>
      simp only [Bool.and_eq_true, decide_eq_true_eq, Bool.not_eq_true'] at h
      obtain ⟨⟨⟨⟨rfl, h2⟩, h3⟩, h4⟩, h5⟩ := h
      cases args with
      | nil => cases h3
      | cons y ys =>
        rw [List.all_cons, Bool.and_eq_true] at h4
        exact sn_bi g (glB_ok h2) h4.1 h4.2 (snEs es g _ h5)
    next => cases h
  | .isT t e, X, E, n, lm, g, x, h => by
    unfold chkE at h
    split at h
    next s p o ty p2 pos =>
      simp only [Bool.and_eq_true, decide_eq_true_eq] at h
      obtain ⟨⟨⟨⟨⟨rfl, h1⟩, h2⟩, h3⟩, h4⟩, h5⟩ := h
      exact sn_isT g h1 (glB_ok h2) (glB_ok h3) h4 (snE e g o h5)
    next => cases h
  | .bl b l, X, E, n, lm, g, x, h => by
    unfold chkE at h
    split at h
    next s p o pos =>
      simp only [Bool.and_eq_true, decide_eq_true_eq] at h
      obtain ⟨⟨⟨h1, h2⟩, h3⟩, h4⟩ := h
      exact sn_bl g h1 (glB_ok h2) h3 (snL l g o h4)
    next => cases h
  | .me m o es, X, E, n, lm, g, x, h => by
    unfold chkE at h
    split at h
    next ob a apos args cpos =>
      simp only [Bool.and_eq_true] at h
      obtain ⟨⟨⟨h1, h2⟩, h3⟩, h4⟩ := h
      cases m with
      | append =>
        simp only [Bool.and_eq_true, decide_eq_true_eq] at h4
        obtain ⟨⟨⟨rfl, h5⟩, h6⟩, h7⟩ := h4
        match args, h5, h6, h7 with
        | [y], _, h6, h7 =>
          have h6' : notStar y = true := by simpa using h6
          exact sn_append h1 h2 h6' (snE o g ob h3) (snEs es g _ h7)
      | extend =>
        simp only [Bool.and_eq_true, decide_eq_true_eq] at h4
        obtain ⟨⟨⟨rfl, h5⟩, h6⟩, h7⟩ := h4
        match args, h5, h6, h7 with
        | [y], _, h6, h7 =>
          have h6' : notStar y = true := by simpa using h6
          exact sn_extend h1 h2 h6' (snE o g ob h3) (snEs es g _ h7)
      | pop =>
        simp only [Bool.and_eq_true, decide_eq_true_eq] at h4
        obtain ⟨⟨rfl, h5⟩, h6⟩ := h4
        cases args with
        | nil =>
          cases es with
          | nil => exact sn_pop h1 h2 (snE o g ob h3)
          | cons a r => unfold chkEs at h6; cases h6
          | star a r => unfold chkEs at h6; cases h6
        | cons y ys => cases h5
      | _ => cases h4
    next => cases h
  | .gget i e, X, E, n, lm, g, x, h => by
    unfold chkE at h
    split at h
    next s p a apos o cpos =>
      simp only [Bool.and_eq_true, decide_eq_true_eq] at h
      obtain ⟨⟨⟨⟨⟨⟨⟨h1, h2⟩, h3⟩, rfl⟩, h5⟩, h6⟩, h7⟩, h8⟩ := h
      split at h1
      next q hq =>
        obtain ⟨y, kvs⟩ := q
        have e1 : y = s := of_decide_eq_true h1
        subst e1
        exact sn_gget g hq (glB_ok h2) (okN_ok h3).1 h5 h6 h7 (snE e g o h8)
      next => cases h1
    next => cases h
  | .lenSet e, X, E, n, lm, g, x, h => by
    unfold chkE at h
    split at h
    next s p t q o q2 pos =>
      simp only [Bool.and_eq_true, decide_eq_true_eq] at h
      obtain ⟨⟨⟨⟨⟨rfl, rfl⟩, h3⟩, h4⟩, h5⟩, h6⟩ := h
      exact sn_lenSet g (glB_ok h3) (glB_ok h4) h5 (snE e g o h6)
    next => cases h
  | .sortSet e, X, E, n, lm, g, x, h => by
    unfold chkE at h
    split at h
    next s p t q o q2 pos =>
      simp only [Bool.and_eq_true, decide_eq_true_eq] at h
      obtain ⟨⟨⟨⟨⟨rfl, rfl⟩, h3⟩, h4⟩, h5⟩, h6⟩ := h
      exact sn_sortSet g (glB_ok h3) (glB_ok h4) h5 (snE e g o h6)
    next => cases h
  | .newD, X, E, n, lm, g, x, h => by
    unfold chkE at h
    split at h
    next pos => exact sn_newD
    next => cases h
  | .sortR e, X, E, n, lm, g, x, h => by
    unfold chkE at h
    split at h
    next s p o k v kp pos =>
      simp only [Bool.and_eq_true, decide_eq_true_eq] at h
      obtain ⟨⟨⟨⟨⟨rfl, rfl⟩, h3⟩, h4⟩, h5⟩, h6⟩ := h
      exact sn_sortR g (glB_ok h3) h4 (snE e g o h6) (true_ok h5)
    next => cases h
  | .rev e, X, E, n, lm, g, x, h => by
    unfold chkE at h
    split at h
    next o k p1 p2 p3 pos => exact sn_rev (snE e g o h)
    next => cases h
  | .sortL e, X, E, n, lm, g, x, h => by
    unfold chkE at h
    split at h
    next s p o pos =>
      simp only [Bool.and_eq_true, decide_eq_true_eq] at h
      obtain ⟨⟨⟨rfl, h3⟩, h4⟩, h6⟩ := h
      exact sn_sortL g (glB_ok h3) h4 (snE e g o h6)
    next => cases h
  | .fmt e, X, E, n, lm, g, x, h => by
    unfold chkE at h
    split at h
    next o c pos =>
      simp only [Bool.and_eq_true, decide_eq_true_eq] at h
      obtain ⟨rfl, h2⟩ := h
      exact sn_fmt (snE e g o h2)
    next => cases h
  | .jstr es, X, E, n, lm, g, x, h => by
    unfold chkE at h
    split at h
    next v w r pos =>
      simp only [Bool.and_eq_true] at h
      exact sn_jstr h.1 (snJ es g _ h.2 h.1)
    next => cases h
  | .join a b, X, E, n, lm, g, x, h => by
    unfold chkE at h
    split at h
    next o s apos y pos =>
      simp only [Bool.and_eq_true, decide_eq_true_eq] at h
      obtain ⟨⟨⟨⟨⟨rfl, h2⟩, h3⟩, h4⟩, h5⟩, h6⟩ := h
      exact sn_join (base_ok h2) h3 (star_cons h4) (snE a g o h5) (snE b g y h6)
    next => cases h
  | .split a b, X, E, n, lm, g, x, h => by
    unfold chkE at h
    split at h
    next o s apos y pos =>
      simp only [Bool.and_eq_true, decide_eq_true_eq] at h
      obtain ⟨⟨⟨⟨⟨rfl, h2⟩, h3⟩, h4⟩, h5⟩, h6⟩ := h
      exact sn_split (base_ok h2) h3 (star_cons h4) (snE a g o h5) (snE b g y h6)
    next => cases h
  | .gin b i e, X, E, n, lm, g, x, h => by
    unfold chkE at h
    split at h
    next o op s p2 pos =>
      simp only [Bool.and_eq_true, decide_eq_true_eq, Bool.not_eq_true'] at h
      obtain ⟨⟨⟨⟨⟨h1, h2⟩, h3⟩, h4⟩, h5⟩, h6⟩ := h
      split at h2
      next q hq =>
        obtain ⟨y, kvs⟩ := q
        have e1 : y = s := of_decide_eq_true h2
        subst e1
        exact sn_gin h1 g hq (glB_ok h3) (okN_ok h4).1 h5 (snE e g o h6)
      next => cases h2
    next => cases h
  | .gix i e, X, E, n, lm, g, x, h => by
    unfold chkE at h
    split at h
    next s p2 o pos =>
      simp only [Bool.and_eq_true, decide_eq_true_eq] at h
      obtain ⟨⟨⟨⟨h2, h3⟩, h4⟩, h5⟩, h6⟩ := h
      split at h2
      next q hq =>
        obtain ⟨y, kvs⟩ := q
        have e1 : y = s := of_decide_eq_true h2
        subst e1
        exact sn_gix g hq (glB_ok h3) (okN_ok h4).1 (plainIx_ok h5) (snE e g o h6)
      next => cases h2
    next => cases h
  | .attr c a f, X, E, n, lm, g, x, h => by
    unfold chkE at h
    split at h
    next o s p =>
      simp only [Bool.and_eq_true, decide_eq_true_eq] at h
      obtain ⟨⟨⟨rfl, h1⟩, h2⟩, h3⟩ := h
      obtain ⟨as, hi, hf⟩ := insAB_ok h1
      exact sn_attr g hi hf h2 (snE a g o h3)
    next => cases h
  | .make c i es, X, E, n, lm, g, x, h => by
    unfold chkE at h
    split at h
    next s p args pos =>
      simp only [Bool.and_eq_true, decide_eq_true_eq] at h
      obtain ⟨⟨⟨⟨⟨⟨rfl, h1⟩, h2⟩, h3⟩, h4⟩, h5⟩, h6⟩ := h
      obtain ⟨as, hi⟩ := insCB_ok h1
      split at h2
      next fn hf => exact sn_make g hi hf h3 (of_decide_eq_true h2) (glB_ok h4) h5 (fun z => by subst z; exact chkEs_nil h6) (snEs es g args h6)
      next => cases h2
    next => cases h
  | .meth c m i a es, X, E, n, lm, g, x, h => by
    unfold chkE at h
    split at h
    next ob s apos args pos =>
      simp only [Bool.and_eq_true, decide_eq_true_eq] at h
      obtain ⟨⟨⟨⟨⟨⟨⟨⟨⟨rfl, h1⟩, h2⟩, h3⟩, h4⟩, h5⟩, h6⟩, h7⟩, h8⟩, h9⟩ := h
      obtain ⟨as, hi⟩ := insCB_ok h1
      split at h2
      next fn hf => exact sn_meth g hi hf h3 (of_decide_eq_true h2) h4 h5 h6 h7 (fun z => by subst z; exact chkEs_nil h9) (snE a g ob h8) (snEs es g args h9)
      next => cases h2
    next => cases h
  | .dlit ps, X, E, n, lm, g, x, h => by
    unfold chkE at h
    split at h
    next keys values p =>
      simp only [Bool.and_eq_true, decide_eq_true_eq, Bool.not_eq_true'] at h
      obtain ⟨⟨h1, h2⟩, h3⟩ := h
      obtain ⟨a1, a2, a3⟩ := snPs ps g p keys values h3
      exact sn_dlit a1 a2 a3 (by intro z; rw [z] at h1; cases h1) h2
    next => cases h
  | .dcomp tg it own k v, X, E, n, lm, g, x, h => by
    unfold chkE at h
    split at h
    next kx vx tgt iter scope p =>
      simp only [Bool.and_eq_true] at h
      obtain ⟨⟨⟨⟨⟨⟨h1, h2⟩, h3⟩, h4⟩, h5⟩, h6⟩, h7⟩ := h
      have base := pe_dc (own := ownOf X.N own) (g := gTg X.K tg) (tt := tYes) (tk := tE X.K T E0' cls (cal pg n) k) (tv := tE X.K T E0' cls (cal pg n) v) g.calm g.nd (snI it g tgt iter h5) (blkOk_by h4) (pos := p)
        (fun s H C cl fp => pg_of (X := X.blk s H scope (compEnvC scope cl C X.env) fp) (ok := locC scope X.env.scope) g.nd g.calm (fun s hs => locC_ok hs) h3)
        (fun s H C cl fp => pts_nil)
        (fun s H C cl fp => snE k (g.blk s H scope (compEnvC scope cl C X.env) fp) kx h6)
        (fun s H C cl fp => snE v (g.blk s H scope (compEnvC scope cl C X.env) fp) vx h7)
        (notSet_ok h2)
      rw [ownOf_snd] at base
      exact PE.weak base fun σ H Q q => dcomp_read h1 q
    next => cases h
  | .told e, X, E, n, lm, g, x, h => by
    unfold chkE at h
    split at h
    next s p params body scope lpos pos =>
      simp only [Bool.and_eq_true, decide_eq_true_eq] at h
      obtain ⟨⟨⟨⟨⟨h1, rfl⟩, h2⟩, h3⟩, h4⟩, h5⟩ := h
      refine sn_told g (g.lam h1) (glB_ok h2) h3 h4 fun X2 E2 m g2 e1 e2 e3 => ?_
      exact snE e g2 body (by rw [e1, e2]; exact h5)
    next => cases h
theorem snPs : ∀ (ps : Ps) {X : Cx} {E : XK} {n : Nat} {lm : Bool} (g : GX X T E cls pg n lm) (pos : Pos) (ks : List (Option Expr)) (vs : List Expr), chkPs X.N pg lm ps X.env.scope ks vs = true → PPs X pos ks vs (trsOf X.K T E cls (cal pg n) ps) ∧ ks.all (·.isSome) = true ∧ ks.length = vs.length
  | .nil, X, E, n, lm, g, pos, ks, vs, h => by
    unfold chkPs at h
    rw [Bool.and_eq_true] at h
    cases ks with
    | cons => cases h.1
    | nil =>
      cases vs with
      | cons => cases h.2
      | nil => exact ⟨pps_nil, rfl, rfl⟩
  | .cons k v r, X, E, n, lm, g, pos, ks, vs, h => by
    unfold chkPs at h
    split at h
    next x ks =>
      split at h
      next y vs =>
        simp only [Bool.and_eq_true] at h
        obtain ⟨⟨h1, h2⟩, h3⟩ := h
        obtain ⟨a1, a2, a3⟩ := snPs r g pos ks vs h3
        exact ⟨pps_cons (snE k g x h1) (snE v g y h2) a1, by rw [List.all_cons, a2]; rfl, by rw [List.length_cons, List.length_cons, a3]⟩
      next => cases h
    next => cases h
theorem snOE : ∀ (e : OE) {X : Cx} {E : XK} {n : Nat} {lm : Bool} (g : GX X T E cls pg n lm) (x : Option Expr), chkOE X.N pg lm e X.env.scope x = true → PO X x (tOE X.K T E cls (cal pg n) e)
  | .none, X, E, n, lm, g, x, h => by
    unfold chkOE at h
    cases x with
    | none => exact sn_none
    | some y => cases h
  | .some e, X, E, n, lm, g, x, h => by
    unfold chkOE at h
    split at h
    next y => exact sn_some (snE e g y h)
    next => cases h
theorem snEs : ∀ (e : Es) {X : Cx} {E : XK} {n : Nat} {lm : Bool} (g : GX X T E cls pg n lm) (x : List Expr), chkEs X.N pg lm e X.env.scope x = true → PA X x (tEs X.K T E cls (cal pg n) e)
  | .nil, X, E, n, lm, g, x, h => by
    unfold chkEs at h
    cases x with
    | nil => exact sn_nil
    | cons y ys => cases h
  | .cons e r, X, E, n, lm, g, x, h => by
    unfold chkEs at h
    split at h
    next y ys =>
      simp only [Bool.and_eq_true] at h
      exact sn_cons (star_cons h.1.1) (snE e g y h.1.2) (snEs r g ys h.2)
    next => cases h
  | .star e r, X, E, n, lm, g, x, h => by
    unfold chkEs at h
    split at h
    next y p ys =>
      simp only [Bool.and_eq_true] at h
      exact sn_star (snE e g y h.1) (snEs r g ys h.2)
    next => cases h
theorem snJ : ∀ (e : Es) {X : Cx} {E : XK} {n : Nat} {lm : Bool} (g : GX X T E cls pg n lm) (x : List Expr), chkEs X.N pg lm e X.env.scope x = true → noStarEs e = true → PJ X x (tsJ X.K T E cls (cal pg n) e)
  | .nil, X, E, n, lm, g, x, h, _ => by
    unfold chkEs at h
    cases x with
    | nil => exact .nil
    | cons y ys => cases h
  | .cons e r, X, E, n, lm, g, x, h, k => by
    unfold chkEs at h
    split at h
    next y ys =>
      simp only [Bool.and_eq_true] at h
      exact .cons (snE e g y h.1.2) (snJ r g ys h.2 k)
    next => cases h
  | .star e r, X, E, n, lm, g, x, h, k => by cases k
theorem snT : ∀ (e : PI.T) {X : Cx} {E : XK} {n : Nat} {lm : Bool} (g : GX X T E cls pg n lm) (x : Expr), chkT X.N pg lm e X.env.scope x = true → PT X x (tT X.K T E cls (cal pg n) e)
  | .of e, X, E, n, lm, g, x, h => by
    unfold chkT at h
    simp only [Bool.and_eq_true, Bool.or_eq_true] at h
    obtain ⟨h1, h2⟩ := h
    rcases h1 with h1 | h1
    · exact sn_of (truth_ok h1) (snE e g x h2)
    · cases e with
      | cmp op a b =>
        unfold chkE at h2
        split at h2
        next l o r p =>
          simp only [Bool.and_eq_true, decide_eq_true_eq, Bool.not_eq_true'] at h2
          obtain ⟨⟨⟨rfl, hm⟩, h3⟩, h4⟩ := h2
          exact sn_of_cmp g.hu hm (snE a g l h3) (snE b g r h4)
        next => cases h2
      | chain o1 o2 a b d =>
        unfold chkE at h2
        split at h2
        next l p q m r pos =>
          simp only [Bool.and_eq_true, decide_eq_true_eq, Bool.not_eq_true'] at h2
          obtain ⟨⟨⟨⟨⟨rfl, rfl⟩, hm⟩, h3⟩, h4⟩, h5⟩ := h2
          exact sn_of_chain g.hu hm (snE a g l h3) (snE b g m h4) (snE d g r h5)
        next => cases h2
      | gin b i e =>
        unfold chkE at h2
        split at h2
        next o op s p2 pos =>
          simp only [Bool.and_eq_true, decide_eq_true_eq, Bool.not_eq_true'] at h2
          obtain ⟨⟨⟨⟨⟨k1, k2⟩, k3⟩, k4⟩, k5⟩, k6⟩ := h2
          split at k2
          next q hq =>
            obtain ⟨y, kvs⟩ := q
            have e1 : y = s := of_decide_eq_true k2
            subst e1
            exact sn_of_gin k1 g hq (glB_ok k3) (okN_ok k4).1 k5 (snE e g o k6)
          next => cases k2
        next => cases h2
      | _ => cases h1
  | .and a b, X, E, n, lm, g, x, h => by
    unfold chkT at h
    split at h
    next l r rest pos =>
      simp only [Bool.and_eq_true] at h
      obtain ⟨h1, h2⟩ := h
      cases rest with
      | nil => exact sn_tand1 (snT a g l h1) (snT b g r h2)
      | cons y ys => exact sn_tand (snT a g l h1) (snT b g _ h2)
    next => cases h
  | .or a b, X, E, n, lm, g, x, h => by
    unfold chkT at h
    split at h
    next l r rest pos =>
      simp only [Bool.and_eq_true] at h
      obtain ⟨h1, h2⟩ := h
      cases rest with
      | nil => exact sn_tor1 (snT a g l h1) (snT b g r h2)
      | cons y ys => exact sn_tor (snT a g l h1) (snT b g _ h2)
    next => cases h
  | .not a, X, E, n, lm, g, x, h => by
    unfold chkT at h
    split at h
    next l p => exact sn_tnot (snT a g l h)
    next => cases h
theorem snL : ∀ (e : PI.L) {X : Cx} {E : XK} {n : Nat} {lm : Bool} (g : GX X T E cls pg n lm) (x : Expr), chkL X.N pg lm e X.env.scope x = true → PE X x (tL X.K T E cls (cal pg n) e)
  | .lit es, X, E, n, lm, g, x, h => by
    unfold chkL at h
    split at h
    next xs p =>
      refine PE.weak (pe_lst (snEs es g xs h)) fun σ H Q q => ?_
      obtain ⟨ρ, h, δ, r, f, q⟩ := q
      have q' : Post X.K T E cls ρ H (GLst X.K H Q) ((evEs (cal pg n) es δ h).bind litR) := q
      refine ⟨ρ, h, δ, r, f, ?_⟩
      cases he : evEs (cal pg n) es δ h with
      | ok ds h1 =>
        rw [he] at q'
        have q2 : Post X.K T E cls ρ H (GLst X.K H Q) (litR ds h1) := q'
        unfold litR at q2
        split at q2
        case isTrue hl =>
          intro ρ1 H1 e vs l1
          refine ⟨by rw [← l1.length, ← lim_eq]; exact hl, fun a ha => ?_⟩
          have e2 := Ext.new_ e.rel (o := .lst vs) ha
          exact q2 ρ1 _ (e.trans e2) a vs (back_nu r e (.of_none ha)) (e.rel.nmem_none ha) upd_same (l1.ext e2 e.rel)
        case isFalse => exact (q2 : False).elim
      | ex k h1 => rw [he] at q'; exact q'
      | no => rw [he] at q'; exact (q' : False).elim
    next => cases h
  | .comp tg it own t el, X, E, n, lm, g, x, h => by
    unfold chkL at h
    split at h
    next elt tgt iter k scope p =>
      simp only [Bool.and_eq_true] at h
      obtain ⟨⟨⟨⟨⟨⟨h1, h2⟩, h3⟩, h4⟩, h5⟩, h6⟩, h7⟩ := h
      have base := pe_lc (own := ownOf X.N own) (g := gTg X.K tg) (tt := tT X.K T E0' cls (cal pg n) t) (te := tE X.K T E0' cls (cal pg n) el) g.calm g.nd (snI it g tgt iter h5) (blkOk_by h4) (pos := p)
        (fun s H C cl fp => pg_of (X := X.blk s H scope (compEnvC scope cl C X.env) fp) (ok := locC scope X.env.scope) g.nd g.calm (fun s hs => locC_ok hs) h3)
        (fun s H C cl fp => pts_one (snT t (g.blk s H scope (compEnvC scope cl C X.env) fp) k h6))
        (fun s H C cl fp => snE el (g.blk s H scope (compEnvC scope cl C X.env) fp) elt h7)
        (notSet_ok h2)
      rw [ownOf_snd] at base
      exact PE.weak base fun σ H Q q => comp_read (f := turnF (cal pg n) t el) (fi := evI (cal pg n) it) h1 (fun R q => q) (fun r f e kS kN => turnF_read r f e kS kN) q
    next => cases h
  | .compU tg it own el, X, E, n, lm, g, x, h => by
    unfold chkL at h
    split at h
    next elt tgt iter scope p =>
      simp only [Bool.and_eq_true] at h
      obtain ⟨⟨⟨⟨⟨h1, h2⟩, h3⟩, h4⟩, h5⟩, h7⟩ := h
      have base := pe_lc (own := ownOf X.N own) (g := gTg X.K tg) (tt := tYes) (te := tE X.K T E0' cls (cal pg n) el) g.calm g.nd (snI it g tgt iter h5) (blkOk_by h4) (pos := p)
        (fun s H C cl fp => pg_of (X := X.blk s H scope (compEnvC scope cl C X.env) fp) (ok := locC scope X.env.scope) g.nd g.calm (fun s hs => locC_ok hs) h3)
        (fun s H C cl fp => pts_nil)
        (fun s H C cl fp => snE el (g.blk s H scope (compEnvC scope cl C X.env) fp) elt h7)
        (notSet_ok h2)
      rw [ownOf_snd] at base
      exact PE.weak base fun σ H Q q => comp_read (f := turnU (cal pg n) el) (fi := evI (cal pg n) it) h1 (fun R q => q) (fun {ρ h h1 H δ σ o QS QN} r f e kS kN => iteT (B := QN H) (turnU_read r f e kS)) q
    next => cases h
theorem snI : ∀ (e : PI.I) {X : Cx} {E : XK} {n : Nat} {lm : Bool} (g : GX X T E cls pg n lm) (tg x : Expr), chkI X.N pg lm e X.env.scope tg x = true → L2.PI X tg x (tI X.K T E cls (cal pg n) e)
  | .of e, X, E, n, lm, g, tg, x, h => by
    unfold chkI at h
    exact sn_iof (snE e g x h)
  | .ofL l, X, E, n, lm, g, tg, x, h => by
    unfold chkI at h
    exact sn_iofL (snL l g x h)
  | .range1 a, X, E, n, lm, g, tg, x, h => by
    unfold chkI at h
    split at h
    next s p o pos =>
      simp only [Bool.and_eq_true, decide_eq_true_eq] at h
      obtain ⟨⟨⟨rfl, h1⟩, h2⟩, h3⟩ := h
      exact sn_range1 g (glB_ok h1) h2 (snE a g o h3)
    next => cases h
  | .range2 a b, X, E, n, lm, g, tg, x, h => by
    unfold chkI at h
    split at h
    next s p o q pos =>
      simp only [Bool.and_eq_true, decide_eq_true_eq] at h
      obtain ⟨⟨⟨⟨⟨rfl, h1⟩, h2⟩, h3⟩, h4⟩, h5⟩ := h
      exact sn_range2 g (glB_ok h1) h2 h3 (snE a g o h4) (snE b g q h5)
    next => cases h
  | .range3 a b d, X, E, n, lm, g, tg, x, h => by
    unfold chkI at h
    split at h
    next s p o q u pos =>
      simp only [Bool.and_eq_true, decide_eq_true_eq] at h
      obtain ⟨⟨⟨⟨⟨⟨⟨rfl, h1⟩, h2⟩, h3⟩, h3b⟩, h4⟩, h5⟩, h6⟩ := h
      exact sn_range3 g (glB_ok h1) h2 h3 h3b (snE a g o h4) (snE b g q h5) (snE d g u h6)
    next => cases h
  | .enum a, X, E, n, lm, g, tg, x, h => by
    unfold chkI at h
    split at h
    next s p o pos =>
      simp only [Bool.and_eq_true, decide_eq_true_eq] at h
      obtain ⟨⟨⟨⟨rfl, h1⟩, h2⟩, h3⟩, h4⟩ := h
      cases tg with
      | Tuple es k q => exact sn_enum g (glB_ok h2) h3 (snE a g o h4)
      | _ => cases h1
    next => cases h
  | .zip a b, X, E, n, lm, g, tg, x, h => by
    unfold chkI at h
    split at h
    next s p o q pos =>
      simp only [Bool.and_eq_true, decide_eq_true_eq] at h
      obtain ⟨⟨⟨⟨⟨⟨rfl, h1⟩, h2⟩, h3⟩, h4⟩, h5⟩, h6⟩ := h
      cases tg with
      | Tuple es k tpos => exact sn_zip g (glB_ok h2) h3 h4 (snE a g o h5) (snE b g q h6)
      | _ => cases h1
    next => cases h
end
end
end PI
namespace PI
open PySem L2
def locLB (sc : Scope) (x : Str) : Bool := match sc.names.lookup x with
  | some .local => true
  | some .cell => true
  | _ => false
def notCompB : Expr → Bool
  | .ListComp _ _ _ _ => false
  | .SetComp _ _ _ _ => false
  | .DictComp _ _ _ _ _ => false
  | _ => true
def swB (sc scope : Scope) (y : Str) (py p : Pos) : Bool := locB sc y && (py.line == p.line) && !(scope.names.any fun (n, k) => n == y && (k == .local || k == .cell))
def cellB (sc : Scope) (y : Str) : Bool := decide (sc.names.lookup y = some .cell)
def notTupB : Expr → Bool
  | .Tuple _ _ _ => false
  | _ => true
def foldB : Expr → Bool
  | .Tuple [a, b] _ _ => foldedForSure 8 a && foldedForSure 8 b
  | _ => false
/-- not both of them fast -/
def cell2B (sc : Scope) : List Expr → Bool
  | [.Name s _, .Name t _] => !(locB sc s && locB sc t)
  | _ => false
/-- not all three fast -/
def cell3B (sc : Scope) : List Expr → Bool
  | [.Name s _, .Name t _, .Name u _] => !(locB sc s && locB sc t && locB sc u)
  | _ => false
section
variable (N : List Str) (pg : Pg) (lm : Bool)
def chkTa (t : Ta) (sc : Scope) (x : Expr) : Bool := match t with
  | .nm i => match x with
    | .Name s _ => decide (N[i]? = some s) && locLB sc s
    | _ => false
  | .at_ c o f => match x with
    | .Attribute ob a _ => decide (a = f) && insAB pg c f && chkE N pg lm o sc ob
    | _ => false
mutual
def chkS : Sx → Scope → Stmt → Bool
  | .set i e, sc, x => match x with
    | .Assign [.Name y py] v _ => decide (N[i]? = some y) && (match v with
      | .ListComp elt cs scope p => (swB sc scope y py p && (match e with | .newL l => chkL N pg lm l sc (.ListComp elt cs scope p) | _ => false)) || (cellB sc y && chkE N pg lm e sc (.ListComp elt cs scope p))
      | v => locLB sc y && notCompB v && chkE N pg lm e sc v)
    | _ => false
  | .two i j e, sc, x => match x with
    | .Assign [.Tuple ts k p] v _ => tgB N (locLB sc) (.two i j) (.Tuple ts k p) && notCompB v && (notTupB v || foldB v || cell2B sc ts) && chkE N pg lm e sc v
    | _ => false
  | .three i j l e, sc, x => match x with
    | .Assign [.Tuple ts k p] v _ => tgB N (locLB sc) (.three i j l) (.Tuple ts k p) && notCompB v && (notTupB v || cell3B sc ts) && chkE N pg lm e sc v
    | _ => false
  | .par i j a b, sc, x => match x with
    | .Assign [.Tuple [.Name s ps, .Name t pt] _ _] (.Tuple [u, v] _ _) _ => decide (N[i]? = some s) && decide (N[j]? = some t) && decide (i ≠ j) && locB sc s && locB sc t && (ps.line == pt.line) && !(foldedForSure 8 u && foldedForSure 8 v) && !(constantsAlone 8 u && constantsAlone 8 v) && notStar u && notStar v && chkE N pg lm a sc u && chkE N pg lm b sc v
    | _ => false
  | .par3 i j l a b d, sc, x => match x with
    | .Assign [.Tuple [.Name s ps, .Name t pt, .Name r pr] _ _] (.Tuple [u, v, q] _ _) _ => decide (N[i]? = some s) && decide (N[j]? = some t) && decide (N[l]? = some r) && decide (i ≠ j) && decide (i ≠ l) && decide (j ≠ l) && locB sc s && locB sc t && locB sc r && (ps.line == pt.line) && (ps.line == pr.line) &&
      !(foldedForSure 8 u && foldedForSure 8 v && foldedForSure 8 q) && !(constantsAlone 8 u && constantsAlone 8 v && constantsAlone 8 q) && notStar u && notStar v && notStar q && chkE N pg lm a sc u && chkE N pg lm b sc v && chkE N pg lm d sc q
    | _ => false
  | .setix o i e, sc, x => match x with
    | .Assign [.Subscript ob ix _] v _ => plainIxB ix && chkE N pg lm e sc v && chkE N pg lm o sc ob && chkE N pg lm i sc ix
    | _ => false
  | .setA c o f e, sc, x => match x with
    | .Assign [.Attribute ob a _] v _ => decide (a = f) && insAB pg c f && chkE N pg lm e sc v && chkE N pg lm o sc ob
    | _ => false
  | .augA c o f e, sc, x => match x with
    | .AugAssign (.Attribute ob a _) .Add v _ => decide (a = f) && insAB pg c f && chkE N pg lm e sc v && chkE N pg lm o sc ob
    | _ => false
  | .twoA t u e, sc, x => match x with
    | .Assign [.Tuple [y, z] _ _] v _ => chkTa N pg lm t sc y && chkTa N pg lm u sc z && notCompB v && notTupB v && chkE N pg lm e sc v
    | _ => false
  | .aug i e, sc, x => match x with
    | .AugAssign (.Name y _) .Add v _ => decide (N[i]? = some y) && locLB sc y && chkE N pg lm e sc v
    | _ => false
  | .expr e, sc, x => match x with
    | .Expr v _ => notCompB v && chkE N pg lm e sc v
    | _ => false
  | .ret e, sc, x => match x with
    | .Return (some v) _ => chkE N pg lm e sc v
    | _ => false
  | .retN, _, x => match x with
    | .Return none _ => true
    | _ => false
  | .ifS t a b, sc, x => match x with
    | .If k u v _ => chkT N pg lm t sc k && chkSs a sc u && chkSs b sc v
    | _ => false
  | .whileS t b, sc, x => match x with
    | .While k u [] _ => chkT N pg lm t sc k && chkSs b sc u
    | _ => false
  | .forS tg it b, sc, x => match x with
    | .For t v u [] _ => tgB N (locLB sc) tg t && notSetB v && chkI N pg lm it sc t v && chkSs b sc u
    | _ => false
  | .raiseS k, sc, x => match x with
    | .Raise (some (.Call (.Name s _) [.Constant (.str _) _ _] [] _)) none _ => decide (pg.cls[k]? = some s) && glB sc s
    | _ => false
  | .pass, _, x => match x with
    | .Pass _ => true
    | _ => false
  | .brk, _, x => match x with
    | .Break _ => true
    | _ => false
  | .cnt, _, x => match x with
    | .Continue _ => true
    | _ => false
  | .never, _, _ => true
def chkSs : Ss → Scope → List Stmt → Bool
  | .nil, _, xs => xs.isEmpty
  | .cons s r, sc, xs => match xs with
    | x :: ys => chkS s sc x && chkSs r sc ys
    | [] => false
end
end
section
variable (K : PySem.W.Frag) (T : List (Addr × Str)) (E : XK) (cls : Nat → Addr) (c : Cal) (wl : Nat)
def GO (D : Ends) : List Addr → Hs → Hp → Out → Prop := fun ρ _ H o => match o with
  | .nx δ => ∀ σ', FrRel K ρ H δ σ' → D.nx σ' H
  | .rt d => ∀ v, Rel K ρ H d v → D.rt v H
  | .bk δ => ∀ σ', FrRel K ρ H δ σ' → D.bk σ' H
  | .ct δ => ∀ σ', FrRel K ρ H δ σ' → D.ct σ' H
def tS (s : Sx) : TS := fun D σ H => tG K T E cls (evS c wl s) σ H (GO K D)
def tSs (s : Ss) : TS := fun D σ H => tG K T E cls (evSs c wl s) σ H (GO K D)
end
/-- where statements run -/
structure GS (X : Cx) (T : List (Addr × Str)) (E : XK) (cls : Nat → Addr) (pg : Pg) (n : Nat) (lm : Bool) : Prop extends GX X T E cls pg n lm where
  own : PassesOwn (model X.prog X.w) X.A X.env X.xe
  fnc : ∀ x, X.fn x = true
  kind : X.env.scope.kind = .function
  rs : ∀ (k : Nat) (s m : Str) (p p2 pos pos2 : Pos) (j : Nat), pg.cls[k]? = some s → Gl X s → PS X (.Raise (some (.Call (.Name s p) [.Constant (.str m) j p2] [] pos)) none pos2) (fun _ σ H => E (.ref (cls k)) none H)
theorem locLB_ok {sc : Scope} {x : Str} (h : locLB sc x = true) : Loc sc x := by
  unfold locLB at h
  split at h
  case h_1 e => exact .inl e
  case h_2 e => exact .inr e
  case h_3 => cases h
theorem notComp_sw {e : Expr} {t : Option Expr} {l : Nat} {env : Env} (h : notCompB e = true) : swapsWith e t l env = pure false := by
  cases e <;> first | rfl | cases h
theorem notTup_sw {e : Expr} {ts : List Expr} {env : Env} (h : notTupB e = true) : swappedStores ts e env = pure none := by
  unfold swappedStores
  split
  next h1 =>
    split at h1
    · cases h
    · cases h
    · cases h1
  next => rfl
theorem fold_sw {e t : Expr} {env : Env} (h : foldB e = true) : swappedStores [t] e env = pure none := by
  unfold foldB at h
  split at h
  next a b k p =>
    rw [Bool.and_eq_true] at h
    have hall : [a, b].all (foldedForSure 8) = true := by simp [h.1, h.2]
    unfold swappedStores
    split
    · rename_i ts vs heq
      have hv : vs = [a, b] := by
        split at heq
        · rename_i h1 h2
          cases h1
          cases h2
          cases heq
          rfl
        · rename_i h1 h2
          cases h1
          cases h2
          cases heq
          rfl
        · cases heq
      subst hv
      split
      · rfl
      · split
        · rfl
        · dsimp only
          split
          · rfl
          · first | rfl | (rw [if_pos hall]; rfl) | rw [if_pos hall]
    · rfl
  next => cases h
theorem two_sw {e t : Expr} {ts : List Expr} {k : Nat} {p : Pos} {env : Env} (h : (notTupB e || foldB e) = true) : swappedStores [.Tuple ts k p] e env = pure none := by
  rcases Bool.or_eq_true_iff.mp h with h | h
  · exact notTup_sw h
  · exact fold_sw h
section
variable {X : Cx} {T : List (Addr × Str)} {E : XK} {cls : Nat → Addr} {pg : Pg} {n : Nat} {lm : Bool} {c : Cal} {wl : Nat}
theorem cell_sw {e : Expr} {ts : List Expr} {k : Nat} {p : Pos} {env : Env} (h : cell2B env.scope ts = true) : swappedStores [.Tuple ts k p] e env = pure none := by
  unfold cell2B at h
  split at h
  next s ps t pt =>
    have kk : (env.kindOf s == some .local) = locB env.scope s := by
      show (env.scope.names.lookup s == some .local) = _
      unfold locB
      cases env.scope.names.lookup s with
      | none => rfl
      | some z => cases z <;> rfl
    have kt : (env.kindOf t == some .local) = locB env.scope t := by
      show (env.scope.names.lookup t == some .local) = _
      unfold locB
      cases env.scope.names.lookup t with
      | none => rfl
      | some z => cases z <;> rfl
    have tail : ∀ us : List Expr, (if (!(([Expr.Name s ps, Expr.Name t pt] : List Expr).length == 2 || ([Expr.Name s ps, Expr.Name t pt] : List Expr).length == 3) || us.length != ([Expr.Name s ps, Expr.Name t pt] : List Expr).length || env.blockKind != ScopeKind.function) = true then (pure none : Sem (Option (List Str)))
        else if (us.any fun x => match x with | .Starred .. => true | _ => false) = true then pure none
        else
          have line := (Option.map (fun x => x.pos.line) ([Expr.Name s ps, Expr.Name t pt] : List Expr).head?).getD 0
          have names := List.filterMap (fun x => match x with | Expr.Name id pos => if (env.kindOf id == some NameKind.local && pos.line == line) = true then some id else none | x => none) [Expr.Name s ps, Expr.Name t pt]
          if (names.length != ([Expr.Name s ps, Expr.Name t pt] : List Expr).length || names.eraseDups.length != names.length) = true then pure none
          else if us.all (foldedForSure 8) = true then pure none
          else
            have __do_jp := fun (__r : PUnit) => (pure (some names) : Sem (Option (List Str)))
            if us.all (constantsAlone 8) = true then do
              let __r ← unsupported "assign.tuple-of-constant-expressions:order-of-the-stores"
              __do_jp __r
            else __do_jp ()) = pure none := fun us => by
      split
      · rfl
      · split
        · rfl
        · dsimp only
          rw [if_pos]
          simp only [List.filterMap_cons, List.filterMap_nil, kk, kt]
          cases hs : locB env.scope s <;> cases ht : locB env.scope t
          · rfl
          · simp only [Bool.false_and, Bool.false_eq_true, if_false, Bool.true_and]
            split <;> simp
          · simp only [Bool.false_and, Bool.false_eq_true, if_false, Bool.true_and]
            split <;> simp
          · rw [hs, ht] at h
            cases h
    cases e <;> first | rfl | exact tail _
  next => cases h
theorem cell3_sw {e : Expr} {ts : List Expr} {k : Nat} {p : Pos} {env : Env} (h : cell3B env.scope ts = true) : swappedStores [.Tuple ts k p] e env = pure none := by
  unfold cell3B at h
  split at h
  next s ps t pt u pu =>
    have kk : (env.kindOf s == some .local) = locB env.scope s := by
      show (env.scope.names.lookup s == some .local) = _
      unfold locB
      cases env.scope.names.lookup s with
      | none => rfl
      | some z => cases z <;> rfl
    have kt : (env.kindOf t == some .local) = locB env.scope t := by
      show (env.scope.names.lookup t == some .local) = _
      unfold locB
      cases env.scope.names.lookup t with
      | none => rfl
      | some z => cases z <;> rfl
    have ku : (env.kindOf u == some .local) = locB env.scope u := by
      show (env.scope.names.lookup u == some .local) = _
      unfold locB
      cases env.scope.names.lookup u with
      | none => rfl
      | some z => cases z <;> rfl
    have tail : ∀ us : List Expr, (if (!(([Expr.Name s ps, Expr.Name t pt, Expr.Name u pu] : List Expr).length == 2 || ([Expr.Name s ps, Expr.Name t pt, Expr.Name u pu] : List Expr).length == 3) || us.length != ([Expr.Name s ps, Expr.Name t pt, Expr.Name u pu] : List Expr).length || env.blockKind != ScopeKind.function) = true then (pure none : Sem (Option (List Str)))
        else if (us.any fun x => match x with | .Starred .. => true | _ => false) = true then pure none
        else
          have line := (Option.map (fun x => x.pos.line) ([Expr.Name s ps, Expr.Name t pt, Expr.Name u pu] : List Expr).head?).getD 0
          have names := List.filterMap (fun x => match x with | Expr.Name id pos => if (env.kindOf id == some NameKind.local && pos.line == line) = true then some id else none | x => none) [Expr.Name s ps, Expr.Name t pt, Expr.Name u pu]
          if (names.length != ([Expr.Name s ps, Expr.Name t pt, Expr.Name u pu] : List Expr).length || names.eraseDups.length != names.length) = true then pure none
          else if us.all (foldedForSure 8) = true then pure none
          else
            have __do_jp := fun (__r : PUnit) => (pure (some names) : Sem (Option (List Str)))
            if us.all (constantsAlone 8) = true then do
              let __r ← unsupported "assign.tuple-of-constant-expressions:order-of-the-stores"
              __do_jp __r
            else __do_jp ()) = pure none := fun us => by
      split
      · rfl
      · split
        · rfl
        · dsimp only
          rw [if_pos]
          simp only [List.filterMap_cons, List.filterMap_nil, kk, kt, ku]
          cases hs : locB env.scope s <;> cases ht : locB env.scope t <;> cases hu : locB env.scope u
          case true.true.true =>
            rw [hs, ht, hu] at h
            cases h
          all_goals
            simp only [Bool.false_and, Bool.false_eq_true, if_false, Bool.true_and]
            repeat' split
            all_goals simp
    cases e <;> first | rfl | exact tail _
  next => cases h
theorem three_or {e : Expr} {ts : List Expr} {k : Nat} {p : Pos} {env : Env} (h : (notTupB e || cell3B env.scope ts) = true) : swappedStores [.Tuple ts k p] e env = pure none := by
  rcases Bool.or_eq_true_iff.mp h with h | h
  · exact notTup_sw h
  · exact cell3_sw h
theorem two_or {e : Expr} {ts : List Expr} {k : Nat} {p : Pos} {env : Env} (h : (notTupB e || foldB e || cell2B env.scope ts) = true) : swappedStores [.Tuple ts k p] e env = pure none := by
  cases h2 : (notTupB e || foldB e) with
  | true => exact two_sw (t := e) h2
  | false =>
    rw [h2] at h
    exact cell_sw h
theorem pg_ofL {tg : Tg} {x : Expr} (g : GS X T E cls pg n lm) (h : tgB X.N (locLB X.env.scope) tg x = true) : PG X x (gTg X.K tg) := by
  cases tg with
  | one i =>
    obtain ⟨s, p, rfl, h1, h2⟩ := tg_one h
    exact pg_name g.nd h1 (locLB_ok h2) (.inl (g.fnc s))
  | two i j =>
    obtain ⟨s, p, t, q, k, r, rfl, h1, h2, h3, h4⟩ := tg_two h
    exact pg_tup g.calm (pgs_cons (pg_name g.nd h1 (locLB_ok h2) (.inl (g.fnc s))) (pgs_cons (pg_name g.nd h3 (locLB_ok h4) (.inl (g.fnc t))) pgs_nil))
  | three i j l =>
    obtain ⟨s, p, t, q, u, w, k, r, rfl, h1, h2, h3, h4, h5, h6⟩ := tg_three h
    exact pg_tup g.calm (pgs_cons (pg_name g.nd h1 (locLB_ok h2) (.inl (g.fnc s))) (pgs_cons (pg_name g.nd h3 (locLB_ok h4) (.inl (g.fnc t))) (pgs_cons (pg_name g.nd h5 (locLB_ok h6) (.inl (g.fnc u))) pgs_nil)))
variable {D : Ends} {σ : L2.St} {H : Hp} {ρ : List Addr} {h : Hs} {δ : Fr}
theorem setF_read {i : Nat} {d : PI.D} {v : V} {D : Ends} (r : HRel X.K T ρ h H) (f : FrRel X.K ρ H δ σ) (l : Rel X.K ρ H d v) (q : Post X.K T E cls ρ H (GO X.K D) (setF δ i d h)) : D.nx (σ.set i (some v)) H := by
  unfold setF at q
  split at q
  case isTrue hi => exact Post.ok r q _ (f.set l)
  case isFalse => exact (q : False).elim
theorem set_read {i : Nat} {e : PI.E} (p : tS X.K T E cls c wl (.set i e) D σ H) : tE X.K T E cls c e σ H fun x H1 => D.nx (σ.set i (some x)) H1 := by
  refine (tG.bind (f := evE c e) (g := fun x δ h1 => setF δ i x h1) p).mono fun ρ1 h1 H1 d r1 q v l1 => ?_
  obtain ⟨δ, r, f, q⟩ := q
  exact setF_read r f l1 q
theorem while_read {t : PI.T} {b : Ss} : ∀ m, ∀ D σ H, tG X.K T E cls (whileLoop (evT c t) (evSs c wl b) m) σ H (GO X.K D) → tWhile (tT X.K T E cls c t) (tSs X.K T E cls c wl b) D σ H := fun m0 D σ H p => by
  refine ⟨fun m σ H => tG X.K T E cls (whileLoop (evT c t) (evSs c wl b) m) σ H (GO X.K D), ⟨m0, p⟩, fun m σ H w => ?_⟩
  cases m with
  | zero =>
    obtain ⟨_, _, _, _, _, p⟩ := w
    exact (p : False).elim
  | succ k =>
    refine (tG.bind (f := evT c t) (g := fun c' δ h1 => iteK (fun h1 => (evSs c wl b δ h1).bind (afterB (whileLoop (evT c t) (evSs c wl b) k))) (nxR δ) c' h1) w).mono fun ρ1 h1 H1 d r1 q => ?_
    obtain ⟨δ, r, f, q⟩ := q
    cases d with
    | true =>
      refine iteT (B := D.nx σ H1) ⟨fun σ H => tG X.K T E cls (whileLoop (evT c t) (evSs c wl b) k) σ H (GO X.K D), fun σ' H' w' => ⟨k, Nat.lt_succ_self k, w'⟩, ?_⟩
      have q' : Post X.K T E cls ρ1 H1 (GO X.K D) ((evSs c wl b δ h1).bind (afterB (whileLoop (evT c t) (evSs c wl b) k))) := q
      refine ⟨ρ1, h1, δ, r, f, (Post.bind q').mono fun ρ2 h2 H2 o e2 q => ?_⟩
      cases o with
      | nx δ' => exact fun σ' f' => tG.of e2.rel f' q
      | ct δ' => exact fun σ' f' => tG.of e2.rel f' q
      | bk δ' => exact fun σ' f' => Post.ok e2.rel q _ f'
      | rt d => exact fun v l => Post.ok e2.rel q _ l
    | false =>
      refine iteF (A := False) ?_
      exact Post.ok r q _ f
theorem forLoop_g {f : PI.D → Fr → Hs → R Out} {g : Hs → Bool} {xs : List PI.D} {G : List Addr → Hs → Hp → Out → Prop} (p : Post X.K T E cls ρ H G (forLoop f g xs δ h)) : g h = true := by
  cases xs with
  | nil =>
    unfold forLoop at p
    split at p
    case isTrue hg => exact hg
    case isFalse => exact (p : False).elim
  | cons x xs =>
    unfold forLoop at p
    split at p
    case isTrue hg => exact hg
    case isFalse => exact (p : False).elim
theorem for_read {tg : Tg} {it : PI.I} {b : Ss} (p : tS X.K T E cls c wl (.forS tg it b) D σ H) : tFor (tI X.K T E cls c it) (gTg X.K tg) (tSs X.K T E cls c wl b) D σ H := by
  obtain ⟨ρ, h, δ, r, fr, p⟩ := p
  refine ⟨ρ, h, δ, r, fr, ?_⟩
  have p : Post X.K T E cls ρ H (GO X.K D) ((evI c it δ h).bind fun J h1 => forLoop (fun x δ' h2 => bindK (fun δ2 h2 => evSs c wl b δ2 h2) (bindTg tg x δ') h2) (gOk J.gs) J.items δ h1) := p
  cases he : evI c it δ h with
  | ex k h2 => rw [he] at p; exact p
  | no => rw [he] at p; exact p
  | ok J h1 =>
    rw [he] at p
    have p : Post X.K T E cls ρ H (GO X.K D) (forLoop (fun x δ' h2 => bindK (fun δ2 h2 => evSs c wl b δ2 h2) (bindTg tg x δ') h2) (gOk J.gs) J.items δ h1) := p
    intro ρ1 H1 e1 Jt wJ
    obtain ⟨G, Y, Wk, st⟩ := wJ
    refine for_it Wk (fun i σ Hc => ∃ ρ' h' δ', Ext X.K T ρ1 H1 ρ' h' Hc ∧ FrRel X.K ρ' Hc δ' σ ∧ Post X.K T E cls ρ' Hc (GO X.K D) (forLoop (fun x δ' h2 => bindK (fun δ2 h2 => evSs c wl b δ2 h2) (bindTg tg x δ') h2) (gOk J.gs) (J.items.drop i) δ' h')) ?_ ?_ ?_ ?_
    · exact ⟨ρ1, h1, δ, Ext.refl e1.rel, fr.ext e1 r, by simpa using Post.ext e1 p⟩
    · rintro i σ' Hc hi ⟨ρ', h', δ', e2, f2, p2⟩
      exact (st ρ' h' Hc e2 (forLoop_g p2)).1
    · rintro i x σ' Hc H' hi ⟨ρ', h', δ', e2, f2, p2⟩ hy
      have hg := forLoop_g p2
      obtain ⟨d, hd, e3, rd⟩ := (st ρ' h' Hc e2 hg).2 i x H' hi hy
      have hdr : J.items.drop i = d :: J.items.drop (i + 1) := by
        obtain ⟨hlt, hget⟩ := List.getElem?_eq_some_iff.mp hd
        rw [List.drop_eq_getElem_cons hlt, hget]
      rw [hdr] at p2
      unfold forLoop at p2
      rw [if_pos hg] at p2
      cases hbt : bindTg tg d δ' with
      | none =>
        have p2' : Post X.K T E cls ρ' Hc (GO X.K D) ((bindK (fun δ2 h2 => evSs c wl b δ2 h2) (bindTg tg d δ') h').bind (afterB (forLoop (fun x δ' h2 => bindK (fun δ2 h2 => evSs c wl b δ2 h2) (bindTg tg x δ') h2) (gOk J.gs) (J.items.drop (i + 1))))) := p2
        rw [hbt] at p2'
        exact (p2' : False).elim
      | some δ2 =>
        have p2' : Post X.K T E cls ρ' Hc (GO X.K D) ((bindK (fun δ2 h2 => evSs c wl b δ2 h2) (bindTg tg d δ') h').bind (afterB (forLoop (fun x δ' h2 => bindK (fun δ2 h2 => evSs c wl b δ2 h2) (bindTg tg x δ') h2) (gOk J.gs) (J.items.drop (i + 1))))) := p2
        rw [hbt] at p2'
        have p3 := Post.bind p2'
        refine tg_read (tg := tg) (h := h') (T := T) (f2.ext e3 e2.rel) rd hbt fun σ2 fr2 _ => ?_
        refine ⟨ρ', h', δ2, e3.rel, fr2, (Post.ext e3 p3).mono fun ρ4 h4 H4 o e4 q => ?_⟩
        cases o with
        | nx δ4 => exact fun σ4 f4 => ⟨ρ4, h4, δ4, e2.trans (e3.trans e4), f4, q⟩
        | ct δ4 => exact fun σ4 f4 => ⟨ρ4, h4, δ4, e2.trans (e3.trans e4), f4, q⟩
        | bk δ4 => exact fun σ4 f4 => Post.ok e4.rel q _ f4
        | rt d4 => exact fun v l => Post.ok e4.rel q _ l
    · rintro σ' Hc ⟨ρ', h', δ', e2, f2, p2⟩
      rw [List.drop_length] at p2
      have hg := forLoop_g p2
      unfold forLoop at p2
      rw [if_pos hg] at p2
      exact Post.ok e2.rel p2 _ f2
theorem par_sw {s t : Str} {ps pt p0 p2 : Pos} {k k2 : Nat} {u v : Expr} {env : Env} (hk : env.scope.kind = .function) (hs : env.scope.names.lookup s = some .local) (ht : env.scope.names.lookup t = some .local) (hl : (ps.line == pt.line) = true) (hne : s ≠ t)
    (hf : (foldedForSure 8 u && foldedForSure 8 v) = false) (hc : (constantsAlone 8 u && constantsAlone 8 v) = false) (hu : notStar u = true) (hv : notStar v = true) :
    swappedStores [.Tuple [.Name s ps, .Name t pt] k p0] (.Tuple [u, v] k2 p2) env = pure (some [s, t]) := by
  have ks : env.kindOf s = some .local := hs
  have kt : env.kindOf t = some .local := ht
  have hb : env.blockKind = .function := by unfold Env.blockKind; rw [hk]; rfl
  have hl' : ps.line = pt.line := by simpa using hl
  have hne' : ¬ s = t := hne
  have hts : (t == s) = false := by simpa using Ne.symm hne
  unfold swappedStores
  simp only [hb]
  simp [ks, kt, Expr.pos, hl', List.eraseDups, List.eraseDupsBy, List.eraseDupsBy.loop, hf, hc]
  rw [if_neg ?_]
  · simp only [hts]
    simp
  · intro h
    rcases h with h | h
    · split at h
      · cases hu
      · cases h
    · split at h
      · cases hv
      · cases h
theorem par_sw3 {s t r : Str} {ps pt pr p0 p2 : Pos} {k k2 : Nat} {u v q : Expr} {env : Env} (hk : env.scope.kind = .function) (hs : env.scope.names.lookup s = some .local) (ht : env.scope.names.lookup t = some .local) (hr : env.scope.names.lookup r = some .local) (hl : (ps.line == pt.line) = true) (hl2 : (ps.line == pr.line) = true)
    (hne : s ≠ t) (hne2 : s ≠ r) (hne3 : t ≠ r) (hf : (foldedForSure 8 u && foldedForSure 8 v && foldedForSure 8 q) = false) (hc : (constantsAlone 8 u && constantsAlone 8 v && constantsAlone 8 q) = false) (hu : notStar u = true) (hv : notStar v = true) (hq : notStar q = true) :
    swappedStores [.Tuple [.Name s ps, .Name t pt, .Name r pr] k p0] (.Tuple [u, v, q] k2 p2) env = pure (some [s, t, r]) := by
  have ks : env.kindOf s = some .local := hs
  have kt : env.kindOf t = some .local := ht
  have kr : env.kindOf r = some .local := hr
  have hb : env.blockKind = .function := by unfold Env.blockKind; rw [hk]; rfl
  have hl' : ps.line = pt.line := by simpa using hl
  have hl2' : ps.line = pr.line := by simpa using hl2
  have a1 : (t == s) = false := by simpa using Ne.symm hne
  have a2 : (r == s) = false := by simpa using Ne.symm hne2
  have a3 : (r == t) = false := by simpa using Ne.symm hne3
  have ha : [u, v, q].all (foldedForSure 8) = false := by simpa [Bool.and_assoc] using hf
  have hd : [u, v, q].all (constantsAlone 8) = false := by simpa [Bool.and_assoc] using hc
  have st : ∀ {e : Expr}, notStar e = true → (match e with | .Starred .. => true | _ => false) = false := fun {e} h => by
    cases e <;> first | rfl | cases h
  unfold swappedStores
  simp only [hb, ha, hd]
  simp [ks, kt, kr, Expr.pos, ← hl', ← hl2', List.eraseDups, List.eraseDupsBy, List.eraseDupsBy.loop]
  rw [if_neg ?_]
  · simp only [a1, a2, a3]
    simp
  · intro h
    rcases h with h | h | h
    · split at h
      · cases hu
      · cases h
    · split at h
      · cases hv
      · cases h
    · split at h
      · cases hq
      · cases h
end
end PI
namespace PI
open PySem L2
theorem plainIx_store {o i : Expr} {pos : Pos} {env : Env} (h : plainIxB i = true) : ∀ v, assign (.Subscript o i pos) env v = (do
      let ov ← holding [v] (eval o env)
      let iv ← holding [v, ov] (eval i env)
      standAt pos
      holding [v, ov, iv] (setItem ov iv v)
      release [v, ov, iv] []) := by
  intro v
  cases i <;> first | rfl | cases h
theorem sws_ok {e t : Expr} {l : Nat} {env : Env} (h : notCompB e = true) : swapsWithSole [t] e l env = pure false := notComp_sw h
theorem cell_sw1 {elt : Expr} {cs : List Comprehension} {scope : Scope} {p py : Pos} {y : Str} {l : Nat} {env : Env} (h : env.scope.names.lookup y = some .cell) : swapsWith (.ListComp elt cs scope p) (some (.Name y py)) l env = pure false := by
  have k : env.kindOf y = some .cell := h
  have z : (NameKind.cell == NameKind.local) = false := rfl
  unfold swapsWith
  simp [k, z]
theorem sub_sw {o i v : Expr} {p : Pos} {l : Nat} {env : Env} : swapsWithSole [.Subscript o i p] v l env = pure false := by
  unfold swapsWithSole swapsWith
  cases v <;> rfl
section
variable {X : Cx} {T : List (Addr × Str)} {E : XK} {cls : Nat → Addr} {pg : Pg} {n : Nat} {lm : Bool} {c : Cal} {wl : Nat}
variable {D : Ends} {σ : L2.St} {H : Hp}
theorem two_read {i j : Nat} {e : PI.E} (p : tS X.K T E cls c wl (.two i j e) D σ H) : tAsg (tE X.K T E cls c e) (gTg X.K (.two i j)) D σ H := by
  refine (tG.bind (f := evE c e) (g := fun x δ h1 => twoR i j δ x h1) p).mono fun ρ1 h1 H1 d r1 q v l1 => ?_
  obtain ⟨δ, r, f, q⟩ := q
  have q' : Post X.K T E cls ρ1 H1 (GO X.K D) (bindK nxR (bindTg (.two i j) d δ) h1) := q
  cases hb : bindTg (.two i j) d δ with
  | none => rw [hb] at q'; exact (q' : False).elim
  | some δ2 =>
    rw [hb] at q'
    exact tg_read (tg := .two i j) (h := h1) (T := T) f l1 hb fun σ2 fr2 _ => Post.ok r q' _ fr2
theorem three_read {i j l : Nat} {e : PI.E} (p : tS X.K T E cls c wl (.three i j l e) D σ H) : tAsg (tE X.K T E cls c e) (gTg X.K (.three i j l)) D σ H := by
  refine (tG.bind (f := evE c e) (g := fun x δ h1 => threeR i j l δ x h1) p).mono fun ρ1 h1 H1 d r1 q v l1 => ?_
  obtain ⟨δ, r, f, q⟩ := q
  have q' : Post X.K T E cls ρ1 H1 (GO X.K D) (bindK nxR (bindTg (.three i j l) d δ) h1) := q
  cases hb : bindTg (.three i j l) d δ with
  | none => rw [hb] at q'; exact (q' : False).elim
  | some δ2 =>
    rw [hb] at q'
    exact tg_read (tg := .three i j l) (h := h1) (T := T) f l1 hb fun σ2 fr2 _ => Post.ok r q' _ fr2
theorem par_read {i j : Nat} {a b : PI.E} (p : tS X.K T E cls c wl (.par i j a b) D σ H) : tPar i j (tEs X.K T E cls c (.cons a (.cons b .nil))) D σ H := by
  obtain ⟨ρ, h, δ, r, f, p⟩ := p
  refine ⟨ρ, h, δ, r, f, ?_⟩
  have p' : Post X.K T E cls ρ H (GO X.K D) ((evE c a δ h).bind fun x h1 => (evE c b δ h1).bind fun y h2 => parR i j δ x y h2) := p
  show Post X.K T E cls ρ H _ ((evE c a δ h).bind fun x h1 => ((evE c b δ h1).bind fun x h1 => R.bind (.ok [] h1) fun xs h2 => .ok (x :: xs) h2).bind fun xs h2 => .ok (x :: xs) h2)
  cases ha : evE c a δ h with
  | no => rw [ha] at p'; exact p'
  | ex k h1 => rw [ha] at p'; exact p'
  | ok x h1 =>
    rw [ha] at p'
    have p' : Post X.K T E cls ρ H (GO X.K D) ((evE c b δ h1).bind fun y h2 => parR i j δ x y h2) := p'
    show Post X.K T E cls ρ H _ (((evE c b δ h1).bind fun x h1 => R.bind (.ok [] h1) fun xs h2 => .ok (x :: xs) h2).bind fun xs h2 => .ok (x :: xs) h2)
    cases hb : evE c b δ h1 with
    | no => rw [hb] at p'; exact p'
    | ex k h2 => rw [hb] at p'; exact p'
    | ok y h2 =>
      rw [hb] at p'
      have p' : Post X.K T E cls ρ H (GO X.K D) (parR i j δ x y h2) := p'
      unfold parR at p'
      split at p'
      case isTrue hij =>
        intro ρ1 H1 e vs l
        cases l with
        | cons l1 l =>
          cases l with
          | cons l2 l =>
            cases l
            refine ⟨_, _, rfl, ?_⟩
            exact p' ρ1 H1 e _ (((f.ext e r).set l1).set l2)
      case isFalse => exact (p' : False).elim
theorem par3_read {i j l : Nat} {a b d : PI.E} (p : tS X.K T E cls c wl (.par3 i j l a b d) D σ H) : tPar3 i j l (tEs X.K T E cls c (.cons a (.cons b (.cons d .nil)))) D σ H := by
  obtain ⟨ρ, h, δ, r, f, p⟩ := p
  refine ⟨ρ, h, δ, r, f, ?_⟩
  have p' : Post X.K T E cls ρ H (GO X.K D) ((evE c a δ h).bind fun x h1 => (evE c b δ h1).bind fun y h2 => (evE c d δ h2).bind fun z h3 => par3R i j l δ x y z h3) := p
  show Post X.K T E cls ρ H _ ((evE c a δ h).bind fun x h1 => (evEs c (.cons b (.cons d .nil)) δ h1).bind fun xs h2 => .ok (x :: xs) h2)
  cases ha : evE c a δ h with
  | no => rw [ha] at p'; exact p'
  | ex k h1 => rw [ha] at p'; exact p'
  | ok x h1 =>
    rw [ha] at p'
    have p' : Post X.K T E cls ρ H (GO X.K D) ((evE c b δ h1).bind fun y h2 => (evE c d δ h2).bind fun z h3 => par3R i j l δ x y z h3) := p'
    show Post X.K T E cls ρ H _ (((evE c b δ h1).bind fun x h1 => (evEs c (.cons d .nil) δ h1).bind fun xs h2 => .ok (x :: xs) h2).bind fun xs h2 => .ok (x :: xs) h2)
    cases hb : evE c b δ h1 with
    | no => rw [hb] at p'; exact p'
    | ex k h2 => rw [hb] at p'; exact p'
    | ok y h2 =>
      rw [hb] at p'
      have p' : Post X.K T E cls ρ H (GO X.K D) ((evE c d δ h2).bind fun z h3 => par3R i j l δ x y z h3) := p'
      show Post X.K T E cls ρ H _ ((((evE c d δ h2).bind fun x h1 => R.bind (.ok [] h1) fun xs h2 => .ok (x :: xs) h2).bind fun xs h2 => .ok (y :: xs) h2).bind fun xs h2 => .ok (x :: xs) h2)
      cases hd : evE c d δ h2 with
      | no => rw [hd] at p'; exact p'
      | ex k h3 => rw [hd] at p'; exact p'
      | ok z h3 =>
        rw [hd] at p'
        have p' : Post X.K T E cls ρ H (GO X.K D) (par3R i j l δ x y z h3) := p'
        unfold par3R at p'
        split at p'
        case isTrue hij =>
          intro ρ1 H1 e vs q
          cases q with
          | cons l1 q =>
            cases q with
            | cons l2 q =>
              cases q with
              | cons l3 q =>
                cases q
                refine ⟨_, _, _, rfl, ?_⟩
                exact p' ρ1 H1 e _ ((((f.ext e r).set l1).set l2).set l3)
        case isFalse => exact (p' : False).elim
def rSetA : V → V → V → Hp → (Hp → Prop) → Prop := fun o i v H Q => rSetL o i v H Q ∨ ∃ a H', o = .ref a ∧ DPut H a i v H' ∧ Q H'
theorem set_any (hu : X.A.units + 64 < cLine) : PSet X rSetA := by
  intro pins s σ H o i v ov iv u Q I ro ri rv h
  rcases h with h | ⟨a, H', rfl, g, q⟩
  · exact set_list pins s σ H o i v ov iv u Q I ro ri rv h
  · obtain rfl : ov = Value.ref a := ro
    exact d_setItem (by omega) I g ri rv fun s' I' => ⟨H', I', q⟩
theorem setix_read {o i e : PI.E} (p : tS X.K T E cls c wl (.setix o i e) D σ H) : tAsg (tE X.K T E cls c e) (gSub (tE X.K T E cls c o) (tE X.K T E cls c i) rSetA) D σ H := by
  refine (tG.bind (f := evE c e) (g := fun v δ h1 => (evE c o δ h1).bind fun x h2 => (evE c i δ h2).bind fun y h3 => setixR δ v x y h3) p).mono fun ρ1 h1 H1 d r1 q v l1 => ?_
  obtain ⟨δ, r, f, q⟩ := q
  refine tG.of r f ((Post.bind q).mono fun ρ2 h2 H2 d2 e2 q v2 l2 => ?_)
  refine tG.of e2.rel (f.ext e2 r) ((Post.bind q).mono fun ρ3 h3 H3 d3 e3 q v3 l3 => ?_)
  have q' : Post X.K T E cls ρ3 H3 (GO X.K D) (setixR δ d d2 d3 h3) := q
  unfold setixR at q'
  split at q'
  case h_1 k kvs hl =>
    obtain ⟨a, vs, rfl, hk, ha, q2⟩ := dctD_of e3.rel (l2.ext e3 e2.rel) hl
    split at q'
    case h_2 => exact (q' : False).elim
    case h_1 key hkey =>
      split at q'
      case isFalse => exact (q' : False).elim
      case isTrue hz =>
        have hx := key_rel l3 hkey
        subst hx
        have w := Ext.writeD (T := T) e3.rel hk (RelKV.put (k := key) ((l1.ext e2 r).ext e3 e2.rel) q2)
        exact .inr ⟨a, _, rfl, DPut.k ha (by rw [← q2.length, ← lim_eq]; exact hz), q' _ _ w _ (((f.ext e2 r).ext e3 e2.rel).ext w e3.rel)⟩
  case h_2 =>
  unfold setixS at q'
  split at q'
  case h_2 => exact (q' : False).elim
  case h_1 k xs hl =>
    split at q'
    case h_2 => exact (q' : False).elim
    case h_1 m =>
      split at q'
      case h_2 => exact (q' : False).elim
      case h_1 j hj =>
        obtain ⟨a, vs, rfl, hk, ha, q2⟩ := lstD_of e3.rel (l2.ext e3 e2.rel) hl
        cases l3
        refine .inl ⟨a, vs, m, j, rfl, rfl, ha, by rw [← q2.length]; exact hj, ?_⟩
        have w := Ext.write (T := T) e3.rel hk (RelAll.set ((l1.ext e2 r).ext e3 e2.rel) j q2)
        exact q' _ _ w _ (((f.ext e2 r).ext e3 e2.rel).ext w e3.rel)
/-! attributes -/
theorem swA {v o : Expr} {f : Str} {p : Pos} {l : Nat} {env : Env} : swapsWith v (some (.Attribute o f p)) l env = pure false := by cases v <;> rfl
/-- o.f = .. among targets -/
def gFld (K : PySem.W.Frag) (to : TE) (f : Str) : TG := fun v σ H Q => to σ H fun x H1 => ∃ a C dx fs, x = .ref a ∧ H1 a = some (.ins C dx fs) ∧ Cls K C ∧ NoAttr K C f ∧ fs.length < 1000 ∧ Q σ (upd H1 a (.ins C dx (putF f v fs)))
theorem pg_fld {o : Expr} {to : TE} {f : Str} {pos : Pos} (ho : PE X o to) : PG X (.Attribute o f pos) (gFld X.K to f) := by
  refine ⟨fun pins s σ H v u Q I r h => ?_⟩
  rw [assign_Attribute]
  refine wpAny_bind (wpAny_holding (thn (ho.run pins s σ H _ I h) fun ov s1 ⟨x, H1, I1, r1, a, C, dx, fs, ex, ea, c, n, l, q⟩ => ?_))
  subst ex
  obtain rfl : ov = Value.ref a := r1
  refine wpAny_bind (wpAny_standAt (wpAny_bind (wpAny_holding ?_)))
  exact setattr_ok I1 ea c n l r fun s3 I3 => wpAny_release ⟨σ, _, I3, q⟩
theorem setA_read {k f : Str} {as : List Str} {o e : PI.E} (g : GX X T E cls pg n lm) (hi : (k, as) ∈ pg.ins) (hf : f ∈ as) (p : tS X.K T E cls (cal pg n) wl (.setA k o f e) D σ H) : sFld X.K (tE X.K T E cls (cal pg n) o) (tE X.K T E cls (cal pg n) e) f D σ H := by
  obtain ⟨C, n1, hm, cl, hdb, na⟩ := (g.gf.ins k as hi).ex
  refine (tG.bind (f := evE (cal pg n) e) (g := fun v δ h1 => (evE (cal pg n) o δ h1).bind fun x h2 => setAR δ k f v x h2) p).mono fun ρ1 h1 H1 d r1 q v l1 => ?_
  obtain ⟨δ, r, fr, q⟩ := q
  refine tG.of r fr ((Post.bind q).mono fun ρ2 h2 H2 d2 e2 q x l2 => ?_)
  unfold setAR at q
  split at q
  case h_2 => exact (q : False).elim
  case h_1 m fs hx =>
    split at q
    case isFalse => exact (q : False).elim
    case isTrue hl =>
      obtain ⟨b, C2, dx, vs, rfl, hk, n2, hH, rf⟩ := ins_of e2.rel l2 hx
      obtain rfl := ns_one n1 n2
      have ew := Ext.writeI (dx := dx) e2.rel hk n2 (RelF.put (f := f) (l1.ext e2 r) rf)
      exact ⟨b, _, dx, vs, rfl, hH, cl, na f hf, by rw [← rf.length]; exact hl, q _ _ ew σ ((fr.ext e2 r).ext ew e2.rel)⟩
theorem augA_read {k f : Str} {as : List Str} {o e : PI.E} (g : GX X T E cls pg n lm) (hi : (k, as) ∈ pg.ins) (hf : f ∈ as) (p : tS X.K T E cls (cal pg n) wl (.augA k o f e) D σ H) : sFldAug X.K (tE X.K T E cls (cal pg n) o) (tE X.K T E cls (cal pg n) e) rAdd f D σ H := by
  obtain ⟨C, n1, hm, cl, hdb, na⟩ := (g.gf.ins k as hi).ex
  refine (tG.bind (f := evE (cal pg n) o) (g := fun x δ h1 => augAR k f (fun i h1 => (evE (cal pg n) e δ h1).bind fun y h2 => intK (fun j h2 => setAR δ k f (.int (i + j)) x h2) y h2) x h1) p).mono fun ρ1 h1 H1 d r1 q v l1 => ?_
  obtain ⟨δ, r, fr, q⟩ := q
  unfold augAR at q
  split at q
  case h_2 => exact (q : False).elim
  case h_1 m fs hx =>
    obtain ⟨b, C2, dx, vs, rfl, hk, n2, hH, rf⟩ := ins_of r l1 hx
    obtain rfl := ns_one n1 n2
    split at q
    case h_2 => exact (q : False).elim
    case h_1 i hd =>
      rcases rf.look (k := f) with ⟨d3, v3, z1, z2, z3⟩ | ⟨z1, z2⟩
      · rw [hd] at z1
        cases z1
        cases z3
        refine ⟨b, _, dx, vs, _, rfl, hH, cl, na f hf, z2, tG.of r fr ((Post.bind q).mono fun ρ2 h2 H2 d2 e2 q y l2 => ?_)⟩
        unfold intK at q
        split at q
        case h_2 => exact (q : False).elim
        case h_1 j =>
          cases l2
          have q : Post X.K T E cls ρ2 H2 (GO X.K D) (setAR δ k f (.int (i + j)) d h2) := q
          unfold setAR at q
          split at q
          case h_2 => exact (q : False).elim
          case h_1 m2 fs2 hx2 =>
            split at q
            case isFalse => exact (q : False).elim
            case isTrue hl =>
              obtain ⟨b2, C3, dx2, vs2, eb, hk2, n3, hH2, rf2⟩ := ins_of e2.rel (l1.ext e2 r) hx2
              cases eb
              obtain rfl := ns_one n2 n3
              have ew := Ext.writeI (dx := dx2) e2.rel hk2 n3 (RelF.put (f := f) (.int (i + j)) rf2)
              exact ⟨i, j, rfl, rfl, dx2, vs2, hH2, by rw [← rf2.length]; exact hl, q _ _ ew σ ((fr.ext e2 r).ext ew e2.rel)⟩
      · rw [hd] at z1; cases z1
def gTa (X : Cx) (T : List (Addr × Str)) (E : XK) (cls : Nat → Addr) (c : Cal) : Ta → TG
  | .nm i => gName i
  | .at_ _ o f => gFld X.K (tE X.K T E cls c o) f
theorem ta_each {N : List Str} {t : Ta} {y : Expr} {sc : Scope} (h : chkTa N pg lm t sc y = true) (es : List Expr) (env : Env) : assignEach (y :: es) env = (false, assign y env) :: assignEach es env := by
  unfold chkTa at h
  split at h
  · split at h
    next s p => rfl
    next => cases h
  · split at h
    next ob a p => rfl
    next => cases h
theorem ta_pg {t : Ta} {x : Expr} (g : GS X T E cls pg n lm) (sn : ∀ (o : PI.E) (y : Expr), chkE X.N pg lm o X.env.scope y = true → PE X y (tE X.K T E cls (cal pg n) o)) (h : chkTa X.N pg lm t X.env.scope x = true) : PG X x (gTa X T E cls (cal pg n) t) := by
  unfold chkTa at h
  split at h
  · split at h
    next s p =>
      simp only [Bool.and_eq_true, decide_eq_true_eq] at h
      exact pg_name g.nd h.1 (locLB_ok h.2) (.inl (g.fnc s))
    next => cases h
  · split at h
    next ob a p =>
      simp only [Bool.and_eq_true, decide_eq_true_eq] at h
      obtain ⟨⟨rfl, _⟩, h3⟩ := h
      exact pg_fld (sn _ ob h3)
    next => cases h
theorem ta_read {t : Ta} {ρ : List Addr} {h : Hs} {δ : Fr} {d : PI.D} {v : V} {G : List Addr → Hs → Hp → Fr → Prop} {Q : L2.St → Hp → Prop} {x : Expr} (g : GX X T E cls pg n lm) (hc : chkTa X.N pg lm t X.env.scope x = true) (r : HRel X.K T ρ h H) (fr : FrRel X.K ρ H δ σ) (l : Rel X.K ρ H d v)
    (q : Post X.K T E cls ρ H G (evTa (cal pg n) t d δ h)) (k : ∀ ρ' h' H' δ' σ', Ext X.K T ρ H ρ' h' H' → FrRel X.K ρ' H' δ' σ' → G ρ' h' H' δ' → Q σ' H') : gTa X T E cls (cal pg n) t v σ H Q := by
  cases t with
  | nm i =>
    unfold evTa at q
    simp only at q
    split at q
    case isFalse => exact (q : False).elim
    case isTrue hi => exact k _ _ _ _ _ (Ext.refl r) (fr.set l) (Post.ok r q)
  | at_ c o f =>
    unfold chkTa at hc
    simp only at hc
    split at hc
    case h_2 => cases hc
    case h_1 ob a p =>
      simp only [Bool.and_eq_true, decide_eq_true_eq] at hc
      obtain ⟨⟨rfl, h2⟩, _⟩ := hc
      obtain ⟨as, hi, hf⟩ := insAB_ok h2
      obtain ⟨C, n1, hm, cl, hdb, na⟩ := (g.gf.ins c as hi).ex
      have q : Post X.K T E cls ρ H G ((evE (cal pg n) o δ h).bind fun x h1 => setAF δ c a d x h1) := q
      refine tG.of r fr ((Post.bind q).mono fun ρ2 h2 H2 d2 e2 q x l2 => ?_)
      unfold setAF at q
      split at q
      case h_2 => exact (q : False).elim
      case h_1 m fs hx =>
        split at q
        case isFalse => exact (q : False).elim
        case isTrue hl =>
          obtain ⟨b, C2, dx, vs, rfl, hk, n2, hH, rf⟩ := ins_of e2.rel l2 hx
          obtain rfl := ns_one n1 n2
          have ew := Ext.writeI (dx := dx) e2.rel hk n2 (RelF.put (f := a) (l.ext e2 r) rf)
          exact ⟨b, _, dx, vs, rfl, hH, cl, na a hf, by rw [← rf.length]; exact hl, k _ _ _ _ _ (e2.trans ew) ((fr.ext e2 r).ext ew e2.rel) (q _ _ ew)⟩
theorem twoA_read {t u : Ta} {e : PI.E} {x y : Expr} (g : GX X T E cls pg n lm) (h1 : chkTa X.N pg lm t X.env.scope x = true) (h2 : chkTa X.N pg lm u X.env.scope y = true) (p : tS X.K T E cls (cal pg n) wl (.twoA t u e) D σ H) :
    tAsg (tE X.K T E cls (cal pg n) e) (gTup X.K 2 (gCons (gTa X T E cls (cal pg n) t) (gCons (gTa X T E cls (cal pg n) u) gNil))) D σ H := by
  refine (tG.bind (f := evE (cal pg n) e) (g := fun x δ h1 => pairK (fun a b h1 => (evTa (cal pg n) t a δ h1).bind fun δ1 h2 => (evTa (cal pg n) u b δ1 h2).bind nxR) x h1) p).mono fun ρ1 h1' H1 d r1 q v l1 => ?_
  obtain ⟨δ, r, fr, q⟩ := q
  unfold pairK at q
  split at q
  case h_2 => exact (q : False).elim
  case h_1 a b =>
    cases l1 with
    | tup hs sn hr =>
      cases hr with
      | cons la hr =>
        cases hr with
        | cons lb hr =>
          cases hr
          refine ⟨_, _, rfl, hs, rfl, _, _, rfl, ?_⟩
          refine ta_read g h1 r fr la (Post.bind q) fun ρ2 h2' H2 δ2 σ2 e2 fr2 q2 => ⟨_, _, rfl, ?_⟩
          exact ta_read g h2 e2.rel fr2 (lb.ext e2 r) (Post.bind q2) fun ρ3 h3' H3 δ3 σ3 e3 fr3 q3 => ⟨rfl, Post.ok e3.rel q3 _ fr3⟩
theorem aug_read {i : Nat} {e : PI.E} (p : tS X.K T E cls c wl (.aug i e) D σ H) : tAug i (tE X.K T E cls c e) (ipI fun i j => i + j) D σ H := by
  obtain ⟨ρ, h, δ, r, f, p⟩ := p
  have p' : Post X.K T E cls ρ H (GO X.K D) (match δ[i]? with
    | some (some (.int x)) => (evE c e δ h).bind fun y h1 => augR i δ x y h1
    | _ => .no) := p
  split at p'
  case h_2 => exact (p' : False).elim
  case h_1 x hx =>
    obtain ⟨v, e1, rv⟩ := f.2 i _ hx
    cases rv
    refine ⟨_, e1, tG.of r f ((Post.bind p').mono fun ρ2 h2 H2 d2 e2 q v2 l2 => ?_)⟩
    have q' : Post X.K T E cls ρ2 H2 (GO X.K D) (augR i δ x d2 h2) := q
    unfold augR at q'
    split at q'
    case h_2 => exact (q' : False).elim
    case h_1 j =>
      cases l2
      exact ⟨x, j, rfl, rfl, setF_read e2.rel (f.ext e2 r) (.int _) q'⟩
theorem expr_read {e : PI.E} (p : tS X.K T E cls c wl (.expr e) D σ H) : tDrop (tE X.K T E cls c e) D σ H := by
  refine (tG.bind (f := evE c e) (g := fun x δ h1 => nxR δ h1) p).mono fun ρ1 h1 H1 d r1 q v l1 => ?_
  obtain ⟨δ, r, f, q⟩ := q
  exact Post.ok r q _ f
theorem ret_read {e : PI.E} (p : tS X.K T E cls c wl (.ret e) D σ H) : tRet (tE X.K T E cls c e) D σ H := by
  refine (tG.bind (f := evE c e) (g := fun x δ h1 => retR x h1) p).mono fun ρ1 h1 H1 d r1 q v l1 => ?_
  obtain ⟨δ, r, f, q⟩ := q
  exact Post.ok r q _ l1
theorem retN_read (p : tS X.K T E cls c wl .retN D σ H) : tRetN D σ H := by
  obtain ⟨ρ, h, δ, r, f, p⟩ := p
  exact Post.ok r p _ .non
theorem if_read {t : PI.T} {a b : Ss} (p : tS X.K T E cls c wl (.ifS t a b) D σ H) : tIfS (tT X.K T E cls c t) (tSs X.K T E cls c wl a) (tSs X.K T E cls c wl b) D σ H := by
  refine (tG.bind (f := evT c t) (g := fun x δ h1 => iteK (fun h1 => evSs c wl a δ h1) (fun h1 => evSs c wl b δ h1) x h1) p).mono fun ρ1 h1 H1 d r1 q => ?_
  obtain ⟨δ, r, f, q⟩ := q
  cases d with
  | true => exact iteT (B := tSs X.K T E cls c wl b D σ H1) (tG.of (f := evSs c wl a) r f q)
  | false => exact iteF (A := tSs X.K T E cls c wl a D σ H1) (tG.of (f := evSs c wl b) r f q)
theorem raise_read {k : Nat} (p : tS X.K T E cls c wl (.raiseS k) D σ H) : E (.ref (cls k)) none H := by
  obtain ⟨ρ, h, δ, r, f, p⟩ := p
  exact p ρ H (Ext.refl r)
theorem nx_read {s : Sx} (hs : ∀ δ h, evS c wl s δ h = nxR δ h) (p : tS X.K T E cls c wl s D σ H) : tNext D σ H := by
  obtain ⟨ρ, h, δ, r, f, p⟩ := p
  have p : Post X.K T E cls ρ H (GO X.K D) (evS c wl s δ h) := p
  rw [hs] at p
  exact Post.ok r p _ f
theorem brk_read (p : tS X.K T E cls c wl .brk D σ H) : tBreak D σ H := by
  obtain ⟨ρ, h, δ, r, f, p⟩ := p
  exact Post.ok r p _ f
theorem cnt_read (p : tS X.K T E cls c wl .cnt D σ H) : tCont D σ H := by
  obtain ⟨ρ, h, δ, r, f, p⟩ := p
  exact Post.ok r p _ f
theorem never_read (p : tS X.K T E cls c wl .never D σ H) : tNever D σ H := by
  obtain ⟨ρ, h, δ, r, f, p⟩ := p
  exact p
theorem seq_read {s : Sx} {b : Ss} (p : tSs X.K T E cls c wl (.cons s b) D σ H) : tSeq (tS X.K T E cls c wl s) (tSs X.K T E cls c wl b) D σ H := by
  obtain ⟨ρ, h, δ, r, f, p⟩ := p
  have p' : Post X.K T E cls ρ H (GO X.K D) ((evS c wl s δ h).bind (thenR fun δ h => evSs c wl b δ h)) := p
  refine ⟨ρ, h, δ, r, f, (Post.bind p').mono fun ρ1 h1 H1 o e1 q => ?_⟩
  cases o with
  | nx δ' => exact fun σ' f' => tG.of (f := evSs c wl b) e1.rel f' q
  | rt d =>
    have q' : Post X.K T E cls ρ1 H1 (GO X.K D) (.ok (.rt d) h1) := q
    exact Post.ok (G := GO X.K D) e1.rel q'
  | bk δ' =>
    have q' : Post X.K T E cls ρ1 H1 (GO X.K D) (.ok (.bk δ') h1) := q
    exact Post.ok (G := GO X.K D) e1.rel q'
  | ct δ' =>
    have q' : Post X.K T E cls ρ1 H1 (GO X.K D) (.ok (.ct δ') h1) := q
    exact Post.ok (G := GO X.K D) e1.rel q'
theorem nil_read (p : tSs X.K T E cls c wl .nil D σ H) : tNext D σ H := by
  obtain ⟨ρ, h, δ, r, f, p⟩ := p
  exact Post.ok r p _ f
end
section
variable {T : List (Addr × Str)} {cls : Nat → Addr} {pg : Pg} {n : Nat} {lm : Bool} {wl : Nat}
mutual
theorem snS : ∀ (s : Sx) {X : Cx} {E : XK} (g : GS X T E cls pg n lm) (x : Stmt), chkS X.N pg lm s X.env.scope x = true → PS X x (tS X.K T E cls (cal pg n) wl s)
  | .set i e, X, E, g, x, h => by
    unfold chkS at h
    split at h
    next y py v spos =>
      simp only [Bool.and_eq_true, decide_eq_true_eq] at h
      obtain ⟨h0, h⟩ := h
      split at h
      next elt cs scope p =>
       rw [Bool.or_eq_true] at h
       rcases h with h | h
       case inr =>
        simp only [Bool.and_eq_true] at h
        have hy : X.env.scope.names.lookup y = some .cell := of_decide_eq_true h.1
        exact PS.weak (ps_set g.nd h0 (.inr hy) (snE e g.toGX _ h.2) (cell_sw1 hy) (.inl (g.fnc y))) fun D σ H q => set_read q
       case inl =>
        simp only [Bool.and_eq_true] at h
        obtain ⟨hsw, h⟩ := h
        unfold swB at hsw
        simp only [Bool.and_eq_true, Bool.not_eq_true'] at hsw
        obtain ⟨⟨hl, hline⟩, hany⟩ := hsw
        split at h
        next l =>
          have hsw : swapsWith (.ListComp elt cs scope p) (some (.Name y py)) spos.line X.env = pure true := sw_true g.kind (locB_ok hl) hline hany
          cases l with
          | lit es => unfold chkL at h; cases h
          | comp tg it own t el =>
            unfold chkL at h
            split at h
            next elt2 tgt iter k scope2 p2 heq =>
              cases heq
              simp only [Bool.and_eq_true] at h
              obtain ⟨⟨⟨⟨⟨⟨h1, h2⟩, h3⟩, h4⟩, h5⟩, h6⟩, h7⟩ := h
              have base := ps_setLc (i := i) (spos := spos) (own := ownOf X.N own) (g := gTg X.K tg) (tt := tT X.K T E0' cls (cal pg n) t) (te := tE X.K T E0' cls (cal pg n) el) g.calm g.nd h0 (locB_ok hl) hsw (snI it g.toGX tgt iter h5) (blkOk_by h4)
                (fun s H C cl fp => pg_of (X := X.blk s H scope (compEnvC scope cl C X.env) fp) (ok := locC scope X.env.scope) g.nd g.calm (fun s hs => locC_ok hs) h3)
                (fun s H C cl fp => pts_one (snT t (g.toGX.blk s H scope (compEnvC scope cl C X.env) fp) k h6))
                (fun s H C cl fp => snE el (g.toGX.blk s H scope (compEnvC scope cl C X.env) fp) elt h7)
                (notSet_ok h2)
              rw [ownOf_snd] at base
              exact PS.weak base fun D σ H q => comp_read (f := turnF (cal pg n) t el) (fi := evI (cal pg n) it) h1 (fun R q => q) (fun r f e kS kN => turnF_read r f e kS kN) (newL_read (set_read q))
            next => cases h
          | compU tg it own el =>
            unfold chkL at h
            split at h
            next elt2 tgt iter scope2 p2 heq =>
              cases heq
              simp only [Bool.and_eq_true] at h
              obtain ⟨⟨⟨⟨⟨h1, h2⟩, h3⟩, h4⟩, h5⟩, h7⟩ := h
              have base := ps_setLc (i := i) (spos := spos) (own := ownOf X.N own) (g := gTg X.K tg) (tt := tYes) (te := tE X.K T E0' cls (cal pg n) el) g.calm g.nd h0 (locB_ok hl) hsw (snI it g.toGX tgt iter h5) (blkOk_by h4)
                (fun s H C cl fp => pg_of (X := X.blk s H scope (compEnvC scope cl C X.env) fp) (ok := locC scope X.env.scope) g.nd g.calm (fun s hs => locC_ok hs) h3)
                (fun s H C cl fp => pts_nil)
                (fun s H C cl fp => snE el (g.toGX.blk s H scope (compEnvC scope cl C X.env) fp) elt h7)
                (notSet_ok h2)
              rw [ownOf_snd] at base
              exact PS.weak base fun D σ H q => comp_read (f := turnU (cal pg n) el) (fi := evI (cal pg n) it) h1 (fun R q => q) (fun {ρ h h1 H δ σ o QS QN} r f e kS kN => iteT (B := QN H) (turnU_read r f e kS)) (newL_read (set_read q))
            next => cases h
        next => cases h
      next v' hv =>
        simp only [Bool.and_eq_true] at h
        obtain ⟨⟨h1, h2⟩, h3⟩ := h
        exact PS.weak (ps_set g.nd h0 (locLB_ok h1) (snE e g.toGX _ h3) (notComp_sw h2) (.inl (g.fnc y))) fun D σ H q => set_read q
    next => cases h
  | .two i j e, X, E, g, x, h => by
    unfold chkS at h
    split at h
    next ts k p v spos =>
      simp only [Bool.and_eq_true] at h
      obtain ⟨⟨⟨h1, h2⟩, h3⟩, h4⟩ := h
      exact PS.weak (ps_asg (snE e g.toGX v h4) (pg_ofL g h1) (sws_ok h2) (two_or h3)) fun D σ H q => two_read q
    next => cases h
  | .three i j l e, X, E, g, x, h => by
    unfold chkS at h
    split at h
    next ts k p v spos =>
      simp only [Bool.and_eq_true] at h
      obtain ⟨⟨⟨h1, h2⟩, h3⟩, h4⟩ := h
      exact PS.weak (ps_asg (snE e g.toGX v h4) (pg_ofL g h1) (sws_ok h2) (three_or h3)) fun D σ H q => three_read q
    next => cases h
  | .par i j a b, X, E, g, x, h => by
    unfold chkS at h
    split at h
    next s ps t pt k p u v k2 p2 spos =>
      simp only [Bool.and_eq_true, decide_eq_true_eq, Bool.not_eq_true'] at h
      obtain ⟨⟨⟨⟨⟨⟨⟨⟨⟨⟨⟨h1, h2⟩, h3⟩, h4⟩, h5⟩, h6⟩, h7⟩, h8⟩, h9⟩, h10⟩, h11⟩, h12⟩ := h
      have hne : s ≠ t := fun e => h3 ((List.getElem?_inj (List.getElem?_eq_some_iff.mp h1).1 g.nd).mp (by rw [h1, h2, e]))
      refine PS.weak (ps_par g.calm g.nd h1 h2 h3 (locB_ok h4) (locB_ok h5) ?_ (par_sw g.kind (locB_ok h4) (locB_ok h5) h6 hne h7 h8 h9 h10) rfl) fun D σ H q => par_read q
      exact sn_cons (star_cons h9) (snE a g.toGX u h11) (sn_cons (star_cons h10) (snE b g.toGX v h12) sn_nil)
    next => cases h
  | .par3 i j l a b d, X, E, g, x, h => by
    unfold chkS at h
    split at h
    next s ps t pt r pr k p u v q k2 p2 spos =>
      simp only [Bool.and_eq_true, decide_eq_true_eq, Bool.not_eq_true'] at h
      obtain ⟨⟨⟨⟨⟨⟨⟨⟨⟨⟨⟨⟨⟨⟨⟨⟨⟨⟨h1, h2⟩, h3⟩, h4⟩, h5⟩, h6⟩, h7⟩, h8⟩, h9⟩, h10⟩, h11⟩, h12⟩, h13⟩, h14⟩, h15⟩, h16⟩, h17⟩, h18⟩, h19⟩ := h
      have ne : ∀ {a b : Nat} {x y : Str}, X.N[a]? = some x → X.N[b]? = some y → a ≠ b → x ≠ y := fun {a b x y} ea eb hn e => hn ((List.getElem?_inj (List.getElem?_eq_some_iff.mp ea).1 g.nd).mp (by rw [ea, eb, e]))
      refine PS.weak (ps_par3 g.calm g.nd h1 h2 h3 h4 h5 h6 (locB_ok h7) (locB_ok h8) (locB_ok h9) ?_ (par_sw3 g.kind (locB_ok h7) (locB_ok h8) (locB_ok h9) h10 h11 (ne h1 h2 h4) (ne h1 h3 h5) (ne h2 h3 h6) h12 h13 h14 h15 h16) rfl) fun D σ H q => par3_read q
      exact sn_cons (star_cons h14) (snE a g.toGX u h17) (sn_cons (star_cons h15) (snE b g.toGX v h18) (sn_cons (star_cons h16) (snE d g.toGX q h19) sn_nil))
    next => cases h
  | .setix o i e, X, E, g, x, h => by
    unfold chkS at h
    split at h
    next ob ix p v spos =>
      simp only [Bool.and_eq_true] at h
      obtain ⟨⟨⟨h1, h3⟩, h4⟩, h5⟩ := h
      exact PS.weak (ps_asg (snE e g.toGX v h3) (pg_sub (snE o g.toGX ob h4) (snE i g.toGX ix h5) (set_any g.toGX.hu) (plainIx_store h1)) sub_sw (by unfold swappedStores; rfl)) fun D σ H q => setix_read q
    next => cases h
  | .setA c o f e, X, E, g, x, h => by
    unfold chkS at h
    split at h
    next ob a p v spos =>
      simp only [Bool.and_eq_true, decide_eq_true_eq] at h
      obtain ⟨⟨⟨rfl, h1⟩, h2⟩, h3⟩ := h
      obtain ⟨as, hi, hf⟩ := insAB_ok h1
      exact PS.weak (ps_fld (snE o g.toGX ob h3) (snE e g.toGX v h2) swA) fun D σ H q => setA_read g.toGX hi hf q
    next => cases h
  | .augA c o f e, X, E, g, x, h => by
    unfold chkS at h
    split at h
    next ob a p v spos =>
      simp only [Bool.and_eq_true, decide_eq_true_eq] at h
      obtain ⟨⟨⟨rfl, h1⟩, h2⟩, h3⟩ := h
      obtain ⟨as, hi, hf⟩ := insAB_ok h1
      exact PS.weak (ps_fldaug (snE o g.toGX ob h3) (snE e g.toGX v h2) in_add) fun D σ H q => augA_read g.toGX hi hf q
    next => cases h
  | .twoA t u e, X, E, g, x, h => by
    unfold chkS at h
    split at h
    next y z k p v spos =>
      simp only [Bool.and_eq_true] at h
      obtain ⟨⟨⟨⟨h1, h2⟩, h3⟩, h4⟩, h5⟩ := h
      exact PS.weak (ps_asg (snE e g.toGX v h5) (pg_tup g.calm (pgs_cons (ta_pg g (fun o y hy => snE o g.toGX y hy) h1) (pgs_cons (ta_pg g (fun o y hy => snE o g.toGX y hy) h2) pgs_nil (by rw [ta_each h2]; rfl)) (by rw [ta_each h1]; rfl)) (by rw [ta_each h1, ta_each h2]; rfl) (by rw [ta_each h1, ta_each h2]; rfl)) (sws_ok h3) (notTup_sw h4)) fun D σ H q => twoA_read g.toGX h1 h2 q
    next => cases h
  | .aug i e, X, E, g, x, h => by
    unfold chkS at h
    split at h
    next y py v spos =>
      simp only [Bool.and_eq_true, decide_eq_true_eq] at h
      obtain ⟨⟨h1, h2⟩, h3⟩ := h
      exact PS.weak (ps_aug g.nd h1 (locLB_ok h2) (snE e g.toGX v h3) ip_add (.inl (g.fnc y))) fun D σ H q => aug_read q
    next => cases h
  | .expr e, X, E, g, x, h => by
    unfold chkS at h
    split at h
    next v spos =>
      simp only [Bool.and_eq_true] at h
      exact PS.weak (ps_expr (snE e g.toGX v h.2) (notComp_sw h.1)) fun D σ H q => expr_read q
    next => cases h
  | .ret e, X, E, g, x, h => by
    unfold chkS at h
    split at h
    next v spos => exact PS.weak (ps_ret (snE e g.toGX v h)) fun D σ H q => ret_read q
    next => cases h
  | .retN, X, E, g, x, h => by
    unfold chkS at h
    split at h
    next spos => exact PS.weak ps_retN fun D σ H q => retN_read q
    next => cases h
  | .ifS t a b, X, E, g, x, h => by
    unfold chkS at h
    split at h
    next k u v spos =>
      simp only [Bool.and_eq_true] at h
      exact PS.weak (ps_if (snT t g.toGX k h.1.1) (snSs a g u h.1.2) (snSs b g v h.2)) fun D σ H q => if_read q
    next => cases h
  | .whileS t b, X, E, g, x, h => by
    unfold chkS at h
    split at h
    next k u spos =>
      simp only [Bool.and_eq_true] at h
      exact PS.weak (ps_while g.own (snT t g.toGX k h.1) (snSs b g u h.2)) fun D σ H q => while_read wl D σ H q
    next => cases h
  | .forS tg it b, X, E, g, x, h => by
    unfold chkS at h
    split at h
    next t v u spos =>
      simp only [Bool.and_eq_true] at h
      obtain ⟨⟨⟨h1, h2⟩, h3⟩, h4⟩ := h
      exact PS.weak (ps_for g.own g.calm (snI it g.toGX t v h3) (pg_ofL g h1) (snSs b g u h4) (notSet_ok h2)) fun D σ H q => for_read q
    next => cases h
  | .raiseS k, X, E, g, x, h => by
    unfold chkS at h
    split at h
    next s p m j p2 pos pos2 =>
      simp only [Bool.and_eq_true, decide_eq_true_eq] at h
      exact PS.weak (g.rs k s m p p2 pos pos2 j h.1 (glB_ok h.2)) fun D σ H q => raise_read q
    next => cases h
  | .pass, X, E, g, x, h => by
    unfold chkS at h
    split at h
    next spos => exact PS.weak ps_pass fun D σ H q => nx_read (fun _ _ => rfl) q
    next => cases h
  | .brk, X, E, g, x, h => by
    unfold chkS at h
    split at h
    next spos => exact PS.weak ps_break fun D σ H q => brk_read q
    next => cases h
  | .cnt, X, E, g, x, h => by
    unfold chkS at h
    split at h
    next spos => exact PS.weak ps_continue fun D σ H q => cnt_read q
    next => cases h
  | .never, X, E, g, x, h => PS.weak ps_never fun D σ H q => never_read q
theorem snSs : ∀ (s : Ss) {X : Cx} {E : XK} (g : GS X T E cls pg n lm) (xs : List Stmt), chkSs X.N pg lm s X.env.scope xs = true → PSs X xs (tSs X.K T E cls (cal pg n) wl s)
  | .nil, X, E, g, xs, h => by
    unfold chkSs at h
    cases xs with
    | nil => exact PSs.weak pss_nil fun D σ H q => nil_read q
    | cons y ys => cases h
  | .cons s r, X, E, g, xs, h => by
    unfold chkSs at h
    cases xs with
    | nil => cases h
    | cons y ys =>
      simp only [Bool.and_eq_true] at h
      exact PSs.weak (pss_cons (snS s g y h.1) (snSs r g ys h.2)) fun D σ H q => seq_read q
end
end
end PI
namespace PI
open PySem PySem.Spec PyProof.Rows L2
/-- the name of the lambdas of a def -/
def qn (x : Str) (sc : Scope) : Str := (envOfC x sc 0 0 .none).qual ++ "<lambda>"
def Pg.lm (pg : Pg) (x : Str) : Bool := pg.lam.any fun y => decide (y = x)
/-- what the top says of one def -/
structure FFact (K : PySem.W.Frag) (mg : Str → Option Value) (T : List (Addr × Str)) (cs : List (Addr × Addr)) (pg : Pg) (i : Nat) (f : Fn) : Prop where
  ex : ∃ (a : Addr) (fd : FuncData) (st : Stmt) (q : Str), FnAt K mg pg i f a ∧ (pg.ow i = none → q = f.name) ∧ Fun K f.name q st a fd ∧ (∀ us : List Value, us.length = f.ps.length → bindArgs fd ⟨us, []⟩ = pure (f.ps.zip us)) ∧ FnScope f.N f.ps (defScope st) ∧ chkSs f.N pg (pg.lm q) f.body (defScope st) (defBody st) = true ∧
    (pg.lm q = true → ∃ c P, fd.code = .ref c ∧ (c, P) ∈ cs ∧ (P, qn q (defScope st)) ∈ T ∧ ∀ p ∈ T, p.1 = P → p.2 = qn q (defScope st))
/-- an error's class of the program -/
structure ClsAt (K : PySem.W.Frag) (mg : Str → Option Value) (s : Str) (C : Addr) : Prop where
  ex : PySem.W.excIn K C [.type "ValueError", .type "Exception", .type "BaseException", .type "object"] "ValueError.__new__" = true
  at_ : mg s = some (.ref C)
  kp : PySem.W.keepIn K (.ref C) = true
  sub : PySem.W.subIn K (.ref C) (.type "BaseException") = some true
  ty : PySem.W.typeIn K (.ref C) = some (.type "type")
  db : (s == ("__debug__" : Str)) = false
theorem rs_of {X : Cx} {E : XK} {s m : Str} {C : Addr} {p p2 pos pos2 : Pos} {j : Nat} (hc : X.calm = true) (tk : L2N.Takes X (fun cls d _ H => E cls d H)) (c : ClsAt X.K X.mg s C) (hg : Gl X s) :
    PS X (.Raise (some (.Call (.Name s p) [.Constant (.str m) j p2] [] pos)) none pos2) (fun _ σ H => E (.ref C) none H) :=
  L2N.ps_raise hc tk (L2N.pmk_own PySem.F.excBase_ValueError c.ex c.at_ c.kp (raises_own c.sub c.ty) hg c.db)
/-- what the top says of all -/
structure Top (P : Program) (w : World) (K : PySem.W.Frag) (mg : Str → Option Value) (T : List (Addr × Str)) (cs : List (Addr × Addr)) (cls : Nat → Addr) (pg : Pg) : Prop where
  fn : ∀ (i : Nat) (f : Fn), pg.fns[i]? = some f → FFact K mg T cs pg i f
  tl : (∃ x, pg.lm x = true) → TermAt K mg ∧ ToldAt K mg ∧ ∀ (k : Nat) (s : Str), pg.nm[k]? = some (some s) → ∃ (FE : Addr) (kk : Nat), KindAt K mg (cls k) kk ∧ kinds[kk]? = some s ∧ mg "FlowError" = some (.ref FE) ∧ PySem.W.exmOne K (.ref (cls k)) (.ref FE) = some true
  con : ∀ (i : Nat) (x : Str) (d : D), pg.con[i]? = some (x, d) → ∃ v u, mg x = some u ∧ RelV v u ∧ ∀ ρ H, Rel K ρ H d v
  bn : ∀ x ∈ bnames, mg x = none
  cls : ∀ (k : Nat) (s : Str), pg.cls[k]? = some s → ClsAt K mg s (cls k)
  dic : ∀ (i : Nat) (x : Str) (kvs : List (Str × D)), pg.dic[i]? = some (x, kvs) → DicAt P w K mg x kvs
  ins : ∀ (c : Str) (as : List Str), (c, as) ∈ pg.ins → InsAt K mg c as
theorem rel_start {K : PySem.W.Frag} {ρ : List Addr} {H : Hp} : ∀ {ds : List D} {vs : List V}, RelAll K ρ H ds vs → ∀ (n i : Nat) (d : D), (ds.map some ++ List.replicate n none)[i]? = some (some d) → ∃ v, (vs.map some ++ List.replicate n none)[i]? = some (some v) ∧ Rel K ρ H d v
  | [], [], .nil, n, i, d, h => by
    simp only [List.map_nil, List.nil_append, List.getElem?_replicate] at h
    split at h <;> cases h
  | x :: ds, v :: vs, .cons r q, n, i, d, h => by
    cases i with
    | zero =>
      have e : some (some x) = some (some d) := h
      cases e
      exact ⟨v, rfl, r⟩
    | succ i =>
      have e : (ds.map some ++ List.replicate n none)[i]? = some (some d) := h
      exact rel_start q n i d e
theorem fr_start {K : PySem.W.Frag} {ρ : List Addr} {H : Hp} {f : Fn} {ds : List D} {vs : List V} (l : RelAll K ρ H ds vs) : FrRel K ρ H (start0 f ds) (L2.start f.N vs) := by
  have hl := l.length
  refine ⟨by unfold start0 L2.start; simp [hl], fun i d h => ?_⟩
  unfold start0 at h
  unfold L2.start
  rw [← hl]
  exact rel_start l _ i d h
section
variable {P : Program} {w : World} {K : PySem.W.Frag} {mg : Str → Option Value} {base : Heap} {T : List (Addr × Str)} {cs : List (Addr × Addr)} {cls : Nat → Addr} {pg : Pg}
/-- the lambdas of a def's body -/
theorem lam_at {N : List Str} {x : Str} {st : Stmt} {a : Addr} {cdv : Value} {A : Around} {outer : List Env} {s : Shared} {H : Hp} {E : XK} {lm : Bool} {fdc : Value} (t : Top P w K mg T cs cls pg) (tb : ∀ p ∈ cs, LamX.TabB base mg p.1 p.2) (hl : lm = true → pg.lm x = true) (hcd : fdc = cdv)
    (h : pg.lm x = true → ∃ c P, fdc = .ref c ∧ (c, P) ∈ cs ∧ (P, qn x (defScope st)) ∈ T ∧ ∀ p ∈ T, p.1 = P → p.2 = qn x (defScope st)) (z : lm = true) : LamAt (cxOf (L2N.CX P w) P w K mg base N x (defScope st) a cdv A outer s H E) T cls pg := by
  obtain ⟨t1, t2, t3⟩ := t.tl ⟨x, hl z⟩
  obtain ⟨c, Q, h1, h2, h3, h4⟩ := h (hl z)
  exact ⟨t1, t2, ⟨c, Q, tb _ h2, hcd.symm.trans h1, h3, h4⟩, t3⟩
theorem gf_all (t : Top P w K mg T cs cls pg) (tb : ∀ p ∈ cs, LamX.TabB base mg p.1 p.2) : ∀ n m, m ≤ n → GF P w K mg base T cls pg m
  | n, 0, _ => ⟨fun i f hf => by
      obtain ⟨a, fd, st, q, hm, _, F, hb, S, hc, _⟩ := (t.fn i f hf).ex
      refine ⟨a, fd, hm, F.kp, .all hb, ⟨fun vs H Q E h => ?_, fun A outer s H args us vs Q E hr he hb hv h => ?_⟩⟩
      · obtain ⟨ρ, h, ds, r, l, p⟩ := h
        exact (p : False).elim
      · obtain ⟨ρ, h, ds, r, l, p⟩ := h
        exact (p : False).elim, t.con, t.bn, t.dic, t.ins⟩
  | n + 1, m + 1, hmn => ⟨fun i f hf => by
      obtain ⟨a, fd, st, q, hm, _, F, hb, S, hc, hlam⟩ := (t.fn i f hf).ex
      refine ⟨a, fd, hm, F.kp, .all hb, ?_⟩
      have key : ∀ {ds : List D} {h : Hs}, callI pg (m + 1) i ds h = if ds.length = f.ps.length then outR (evSs (cal pg m) pg.wl f.body (start0 f ds) h) else .no := fun {ds h} => by
        show stepI pg (callL pg m) i ds h = _
        unfold stepI
        rw [hf]
        rfl
      obtain ⟨oc, od, kV, doc, pm, an, cdv, ct, osl, rfl, lk, hcd⟩ := F.ex
      refine fn_of lk hcd S (fun vs H Q E h => ?_) fun A outer s H vs Q E hr h => ?_
      · obtain ⟨ρ, h, ds, r, l, p⟩ := h
        rw [key] at p
        split at p
        case isTrue hl => rw [← l.length, hl]
        case isFalse => exact (p : False).elim
      · refine ⟨tSs K T E cls (cal pg m) pg.wl f.body, ?_, ?_⟩
        · have g : GS (cxOf (L2N.CX P w) P w K mg base f.N q (defScope st) a cdv A outer s H E) T E cls pg m (pg.lm q) :=
            { gf := gf_all t tb n m (by omega), gfl := fun k hk => gf_all t tb n k (by omega), room := hr, nd := S.nd, calm := rfl, pass := L2N.passes_call (L2N.takes_of rfl rfl rfl rfl) (fun _ _ _ _ h => h), own := L2.passes_of rfl, fnc := fun _ => rfl, kind := S.kind,
              lam := fun z => lam_at t tb (fun z => z) rfl hlam z,
              rs := fun k s m p p2 pos pos2 j hk hg => rs_of rfl (L2N.takes_of rfl rfl rfl rfl) (t.cls k s hk) hg }
          exact snSs f.body g (defBody st) hc
        · obtain ⟨ρ, h, ds, r, l, p⟩ := h
          rw [key] at p
          split at p
          case isTrue hl =>
            refine ⟨ρ, h, start0 f ds, r, fr_start l, ?_⟩
            cases he : evSs (cal pg m) pg.wl f.body (start0 f ds) h with
            | no => rw [he] at p; exact (p : False).elim
            | ex k h1 => rw [he] at p; exact p
            | ok o h1 =>
              rw [he] at p
              intro ρ1 H1 e1
              cases o with
              | nx δ => exact fun σ' f' => p ρ1 H1 e1 _ .non
              | rt d => exact fun v q => p ρ1 H1 e1 v q
              | bk δ => exact (p : False).elim
              | ct δ => exact (p : False).elim
          case isFalse => exact (p : False).elim, t.con, t.bn, t.dic, t.ins⟩
end
end PI
namespace PI
open PySem L2
/-! ### the laws' own helpers -/
def fDrawn : Fn := ⟨"_law_drawn", ["_law_cell_here", "_law_k"], ["_law_cell_here", "_law_k", "_law_more"], (.cons (.set 2 (.bin .mod (.bin .add (.bin .mul (.var 0) (.con (.int 6364136223846793005))) (.bin .mul (.bin .add (.var 1) (.con (.int 1))) (.con (.int 1442695040888963407)))) (.con (.int 340282366920938463463374607431768211507)))) (.cons (.set 2 (.bin .mod (.bin .mul (.var 2) (.var 2)) (.con (.int 340282366920938463463374607431768211297)))) (.cons (.set 2 (.bin .mul (.bin .mul (.bin .add (.bin .mod (.var 2) (.con (.int 18446744073709551557))) (.con (.int 1))) (.bin .add (.bin .div (.var 2) (.con (.int 18446744073709551557))) (.con (.int 1)))) (.var 2))) (.cons (.ret (.bin .mod (.var 2) (.con (.int 340282366920938463463374607431768211507)))) .nil))))⟩
def fRoll (iD : Nat) : Fn := ⟨"_law_roll", ["_law_dice", "_law_many"], ["_law_dice", "_law_many", "_law_told"], (.cons (.ifS (.of (.cmp .ge (.ix (.var 0) (.con (.int 0))) (.bin .pow (.con (.int 10)) (.con (.int 18))))) (.cons (.set 2 (.bin .mod (.ix (.var 0) (.con (.int 0))) (.var 1))) (.cons (.setix (.var 0) (.con (.int 0)) (.bin .div (.ix (.var 0) (.con (.int 0))) (.var 1))) (.cons (.ret (.var 2)) .nil))) .nil) (.cons (.setix (.var 0) (.con (.int 1)) (.bin .add (.ix (.var 0) (.con (.int 1))) (.con (.int 1)))) (.cons (.ret (.bin .mod (.bin .div (.call iD (.cons (.ix (.var 0) (.con (.int 0))) (.cons (.ix (.var 0) (.con (.int 1))) .nil))) (.con (.int 8))) (.var 1))) .nil)))⟩
def fCell : Fn := ⟨"_law_cell", ["_law_script", "_law_k"], ["_law_script", "_law_k"], (.cons (.ifS (.of (.cmp .eq (.var 0) (.newL (.lit .nil)))) (.cons (.ret (.bin .mul (.var 1) (.con (.int 7919)))) .nil) .nil) (.cons (.ret (.bin .add (.ix (.var 0) (.bin .mod (.var 1) (.bi .len (.cons (.var 0) .nil)))) (.bin .mul (.bin .div (.var 1) (.bi .len (.cons (.var 0) .nil))) (.con (.int 104729))))) .nil))⟩
def fRounds (iC : Nat) : Fn := ⟨"_law_rounds", ["_law_script", "_law_most"], ["_law_script", "_law_most", "_law_k"], (.cons (.ret (.newL (.compU (.one 2) (.range1 (.bi .max2 (.cons (.con (.int 1)) (.cons (.bi .min2 (.cons (.var 1) (.cons (.bi .len (.cons (.var 0) .nil)) .nil))) .nil)))) [2] (.newL (.lit (.cons (.call iC (.cons (.var 0) (.cons (.var 2) .nil))) (.cons (.con (.int 0)) .nil))))))) .nil)⟩
/-! ### step by step -/
section
variable {c : Cal} {wl : Nat} {δ : Fr} {h h1 h2 : Hs}
theorem ev_var {i : Nat} {d : D} (e : δ[i]? = some (some d)) : evE c (.var i) δ h = .ok d h := by
  unfold evE
  rw [e]
theorem ev_con {d : D} : evE c (.con d) δ h = .ok d h := rfl
theorem ev_bin {op : BO} {a b : PI.E} {x y : D} {r : R D} (ea : evE c a δ h = .ok x h1) (eb : evE c b δ h1 = .ok y h2) (e : binD op x y h2 = r) : evE c (.bin op a b) δ h = r := by
  show (evE c a δ h).bind (fun x h1 => (evE c b δ h1).bind fun y h2 => binD op x y h2) = r
  rw [ea]
  show (evE c b δ h1).bind (fun y h2 => binD op x y h2) = r
  rw [eb]
  exact e
theorem ev_cmp {op : CO} {a b : PI.E} {x y : D} {r : R D} (ea : evE c a δ h = .ok x h1) (eb : evE c b δ h1 = .ok y h2) (e : cmpD op x y h2 = r) : evE c (.cmp op a b) δ h = r := by
  show (evE c a δ h).bind (fun x h1 => (evE c b δ h1).bind fun y h2 => cmpD op x y h2) = r
  rw [ea]
  show (evE c b δ h1).bind (fun y h2 => cmpD op x y h2) = r
  rw [eb]
  exact e
theorem ev_ix {a b : PI.E} {x y : D} {r : R D} (ea : evE c a δ h = .ok x h1) (eb : evE c b δ h1 = .ok y h2) (e : ixD x y h2 = r) : evE c (.ix a b) δ h = r := by
  show (evE c a δ h).bind (fun x h1 => (evE c b δ h1).bind fun y h2 => ixD x y h2) = r
  rw [ea]
  show (evE c b δ h1).bind (fun y h2 => ixD x y h2) = r
  rw [eb]
  exact e
theorem ev_nil : evEs c .nil δ h = .ok [] h := rfl
theorem ev_cons {a : PI.E} {es : Es} {x : D} {xs : List D} (ea : evE c a δ h = .ok x h1) (eb : evEs c es δ h1 = .ok xs h2) : evEs c (.cons a es) δ h = .ok (x :: xs) h2 := by
  show (evE c a δ h).bind (fun x h1 => (evEs c es δ h1).bind fun xs h2 => .ok (x :: xs) h2) = _
  rw [ea]
  show (evEs c es δ h1).bind (fun xs h2 => .ok (x :: xs) h2) = _
  rw [eb]
  rfl
theorem ev_call {i : Nat} {es : Es} {xs : List D} {r : R D} (ea : evEs c es δ h = .ok xs h1) (e : c.fn i xs h1 = r) : evE c (.call i es) δ h = r := by
  show (evEs c es δ h).bind (fun xs h1 => c.fn i xs h1) = r
  rw [ea]
  exact e
theorem ev_bi {b : Bi} {es : Es} {xs : List D} {r : R D} (ea : evEs c es δ h = .ok xs h1) (e : biD b xs h1 = r) : evE c (.bi b es) δ h = r := by
  show (evEs c es δ h).bind (fun xs h1 => biD b xs h1) = r
  rw [ea]
  exact e
theorem ev_lit {es : Es} {xs : List D} (ea : evEs c es δ h = .ok xs h1) (hl : xs.length ≤ LIM) : evE c (.newL (.lit es)) δ h = .ok (.ref h1.length) (h1 ++ [.lst xs]) := by
  show ((evEs c es δ h).bind litR).bind newR = _
  rw [ea]
  show (litR xs h1).bind newR = _
  unfold litR
  rw [if_pos hl]
  rfl
theorem ev_newL {l : PI.L} {xs : List D} (ea : evL c l δ h = .ok xs h1) : evE c (.newL l) δ h = .ok (.ref h1.length) (h1 ++ [.lst xs]) := by
  show (evL c l δ h).bind newR = _
  rw [ea]
  rfl
theorem ei_range1 {a : PI.E} {x : D} (ea : evE c a δ h = .ok x h1) : evI c (.range1 a) δ h = rng1 x h1 := by
  show (evE c a δ h).bind rng1 = _
  rw [ea]
  rfl
theorem el_compU {tg : Tg} {it : PI.I} {own : List Nat} {el : PI.E} {J : IT} (ea : evI c it δ h = .ok J h1) : evL c (.compU tg it own el) δ h = loopR (fun x h2 => bindK (fun δ' h2 => (evE c el δ' h2).bind someR) (bindTg tg x (wipeF δ own)) h2) J h1 := by
  show (evI c it δ h).bind (fun J h1 => loopR _ J h1) = _
  rw [ea]
  rfl
theorem et_of {a : PI.E} {x : D} {b : Bool} (ea : evE c a δ h = .ok x h1) (e : truD x h1 = some b) : evT c (.of a) δ h = .ok b h1 := by
  show (evE c a δ h).bind truR = _
  rw [ea]
  show truR x h1 = _
  unfold truR
  rw [e]
theorem es_set {i : Nat} {e : PI.E} {x : D} (ea : evE c e δ h = .ok x h1) (hi : i < δ.length) : evS c wl (.set i e) δ h = .ok (.nx (δ.set i (some x))) h1 := by
  show (evE c e δ h).bind (fun x h1 => setF δ i x h1) = _
  rw [ea]
  exact if_pos hi
theorem es_if {t : PI.T} {a b : Ss} {k : Bool} {r : R Out} (ea : evT c t δ h = .ok k h1) (e : (if k = true then evSs c wl a δ h1 else evSs c wl b δ h1) = r) : evS c wl (.ifS t a b) δ h = r := by
  show (evT c t δ h).bind (fun x h1 => iteK (fun h1 => evSs c wl a δ h1) (fun h1 => evSs c wl b δ h1) x h1) = r
  rw [ea]
  cases k with
  | true => exact e
  | false => exact e
theorem ess_cons {s : Sx} {r : Ss} {δ1 : Fr} {q : R Out} (ea : evS c wl s δ h = .ok (.nx δ1) h1) (e : evSs c wl r δ1 h1 = q) : evSs c wl (.cons s r) δ h = q := by
  show (evS c wl s δ h).bind (thenR fun δ h => evSs c wl r δ h) = q
  rw [ea]
  exact e
theorem ess_out {s : Sx} {r : Ss} {d : D} (ea : evS c wl s δ h = .ok (.rt d) h1) : evSs c wl (.cons s r) δ h = .ok (.rt d) h1 := by
  show (evS c wl s δ h).bind (thenR fun δ h => evSs c wl r δ h) = _
  rw [ea]
  rfl
theorem es_ret {e : PI.E} {d : D} (ea : evE c e δ h = .ok d h1) : evS c wl (.ret e) δ h = .ok (.rt d) h1 := by
  show (evE c e δ h).bind retR = _
  rw [ea]
  rfl
theorem es_setix {o i e : PI.E} {v x y : D} {h3 : Hs} {r : R Out} (ea : evE c e δ h = .ok v h1) (eb : evE c o δ h1 = .ok x h2) (ec : evE c i δ h2 = .ok y h3) (er : setixR δ v x y h3 = r) : evS c wl (.setix o i e) δ h = r := by
  show (evE c e δ h).bind (fun v h1 => (evE c o δ h1).bind fun x h2 => (evE c i δ h2).bind fun y h3 => setixR δ v x y h3) = r
  rw [ea]
  show (evE c o δ h1).bind (fun x h2 => (evE c i δ h2).bind fun y h3 => setixR δ v x y h3) = r
  rw [eb]
  show (evE c i δ h2).bind (fun y h3 => setixR δ v x y h3) = r
  rw [ec]
  exact er
theorem bin_add {i j : Int} : binD .add (.int i) (.int j) h = .ok (.int (i + j)) h := rfl
theorem bin_sub {i j : Int} : binD .sub (.int i) (.int j) h = .ok (.int (i - j)) h := rfl
theorem bin_mul {i j : Int} (m : mulOk i j = true) : binD .mul (.int i) (.int j) h = .ok (.int (i * j)) h := if_pos m
theorem bin_mod {i j : Int} (m : 0 < j) : binD .mod (.int i) (.int j) h = .ok (.int (i % j)) h := if_pos m
theorem bin_div {i j : Int} (m : 0 < j) (k : j.natAbs.log2 < 9000) : binD .div (.int i) (.int j) h = .ok (.int (i / j)) h := if_pos ⟨m, k⟩
end
theorem log2_lt {n k : Nat} (h : n < 2 ^ k) (hk : 0 < k) : n.log2 < k := by
  by_cases e : n = 0
  · subst e
    rw [Nat.log2_zero]
    exact hk
  · exact (Nat.log2_lt e).mpr h
theorem mulOk_of {i j : Int} (hi : 0 ≤ i) (hi2 : i < 2 ^ 300) (hj : 0 ≤ j) (hj2 : j < 2 ^ 300) : mulOk i j = true := by
  unfold mulOk
  have a : i.natAbs.log2 < 300 := log2_lt (by omega) (by decide)
  have b : j.natAbs.log2 < 300 := log2_lt (by omega) (by decide)
  have c : i.natAbs.log2 + j.natAbs.log2 < 1000000 := by omega
  simp [c]
theorem mulOk_r {i j : Int} (hj : -(2 ^ 64) < j) (hj2 : j < 2 ^ 64) : mulOk i j = true := by
  unfold mulOk
  rw [show decide (-(2 ^ 64) < j) = true from decide_eq_true hj, show decide (j < 2 ^ 64) = true from decide_eq_true hj2]
  simp
section
variable {pg : Pg}
theorem callI_of {i n : Nat} {f : Fn} {ds : List D} {h : Hs} (hf : pg.fns[i]? = some f) (hl : ds.length = f.ps.length) : callI pg (n + 1) i ds h = outR (evSs (cal pg n) pg.wl f.body (start0 f ds) h) := by
  show (match pg.fns[i]? with | none => R.no | some f => if ds.length = f.ps.length then outR (evSs (cal pg n) pg.wl f.body (start0 f ds) h) else .no) = _
  rw [hf]
  exact if_pos hl
theorem drawn_ok {iD n : Nat} (hD : pg.fns[iD]? = some fDrawn) (a b : Int) (h : Hs) : ∃ r, callI pg (n + 1) iD [.int a, .int b] h = .ok (.int r) h := by
  rw [callI_of hD rfl]
  have e : start0 fDrawn [.int a, .int b] = [some (.int a), some (.int b), none] := rfl
  rw [e]
  obtain ⟨x, hx⟩ : ∃ x : Int, x = (a * 6364136223846793005 + (b + 1) * 1442695040888963407) % 340282366920938463463374607431768211507 := ⟨_, rfl⟩
  have x0 : 0 ≤ x := by rw [hx]; exact Int.emod_nonneg _ (by decide)
  have x1 : x < 340282366920938463463374607431768211507 := by rw [hx]; exact Int.emod_lt_of_pos _ (by decide)
  obtain ⟨y, hy⟩ : ∃ y : Int, y = x * x % 340282366920938463463374607431768211297 := ⟨_, rfl⟩
  have y0 : 0 ≤ y := by rw [hy]; exact Int.emod_nonneg _ (by decide)
  have y1 : y < 340282366920938463463374607431768211297 := by rw [hy]; exact Int.emod_lt_of_pos _ (by decide)
  have m1 : mulOk a 6364136223846793005 = true := mulOk_r (by decide) (by decide)
  have m2 : mulOk (b + 1) 1442695040888963407 = true := mulOk_r (by decide) (by decide)
  have m3 : mulOk x x = true := mulOk_of x0 (by omega) x0 (by omega)
  have p0 : 0 ≤ y % 18446744073709551557 := Int.emod_nonneg _ (by decide)
  have p1 : y % 18446744073709551557 < 18446744073709551557 := Int.emod_lt_of_pos _ (by decide)
  have q0 : 0 ≤ y / 18446744073709551557 := Int.ediv_nonneg y0 (by decide)
  have q1 : y / 18446744073709551557 ≤ y := Int.ediv_le_self _ y0
  have m4 : mulOk (y % 18446744073709551557 + 1) (y / 18446744073709551557 + 1) = true := mulOk_of (by omega) (by omega) (by omega) (by omega)
  have d1 : (18446744073709551557 : Int).natAbs.log2 < 9000 := by decide +kernel
  have m5 : mulOk ((y % 18446744073709551557 + 1) * (y / 18446744073709551557 + 1)) y = true := by
    refine mulOk_of (Int.mul_nonneg (by omega) (by omega)) ?_ y0 (by omega)
    have h1 : (y % 18446744073709551557 + 1) * (y / 18446744073709551557 + 1) ≤ 18446744073709551557 * (y / 18446744073709551557 + 1) := Int.mul_le_mul_of_nonneg_right (by omega) (by omega)
    omega
  refine ⟨((y % 18446744073709551557 + 1) * (y / 18446744073709551557 + 1)) * y % 340282366920938463463374607431768211507, ?_⟩
  have s1 := es_set (c := cal pg n) (wl := pg.wl) (h := h) (i := 2) (δ := [some (.int a), some (.int b), none]) (ev_bin (op := .mod) (ev_bin (op := .add) (ev_bin (op := .mul) (ev_var (i := 0) rfl) ev_con (bin_mul m1)) (ev_bin (op := .mul) (ev_bin (op := .add) (ev_var (i := 1) rfl) ev_con bin_add) ev_con (bin_mul m2)) bin_add) ev_con (bin_mod (j := 340282366920938463463374607431768211507) (by decide))) (by simp)
  rw [← hx] at s1
  have s2 := es_set (c := cal pg n) (wl := pg.wl) (h := h) (i := 2) (δ := [some (.int a), some (.int b), some (.int x)]) (ev_bin (op := .mod) (ev_bin (op := .mul) (ev_var (i := 2) rfl) (ev_var (i := 2) rfl) (bin_mul m3)) ev_con (bin_mod (j := 340282366920938463463374607431768211297) (by decide))) (by simp)
  rw [← hy] at s2
  have s3 := es_set (c := cal pg n) (wl := pg.wl) (h := h) (i := 2) (δ := [some (.int a), some (.int b), some (.int y)]) (ev_bin (op := .mul) (ev_bin (op := .mul) (ev_bin (op := .add) (ev_bin (op := .mod) (ev_var (i := 2) rfl) ev_con (bin_mod (j := 18446744073709551557) (by decide))) (ev_con (d := .int 1)) bin_add) (ev_bin (op := .add) (ev_bin (op := .div) (ev_var (i := 2) rfl) ev_con (bin_div (j := 18446744073709551557) (by decide) d1)) (ev_con (d := .int 1)) bin_add) (bin_mul m4)) (ev_var (i := 2) rfl) (bin_mul m5)) (by simp)
  have s4 := es_ret (c := cal pg n) (wl := pg.wl) (h := h) (δ := [some (.int a), some (.int b), some (.int ((y % 18446744073709551557 + 1) * (y / 18446744073709551557 + 1) * y))]) (ev_bin (op := .mod) (ev_var (i := 2) rfl) ev_con (bin_mod (j := 340282366920938463463374607431768211507) (by decide)))
  show outR (evSs (cal pg n) pg.wl (.cons _ (.cons _ (.cons _ (.cons _ .nil)))) _ h) = _
  rw [ess_cons s1 (ess_cons s2 (ess_cons s3 (ess_out s4)))]
  rfl
theorem ix_ref {h : Hs} {k : Nat} {xs : List D} {i : Int} {d : D} (hk : h[k]? = some (.lst xs)) (e : atI xs i = some d) : ixD (.ref k) (.int i) h = .ok d h := by
  have q : dctD h (.ref k) = none := by
    show (match h[k]? with | some (.dct kvs) => some (k, kvs) | _ => none) = _
    rw [hk]
  unfold ixD
  rw [q]
  show ixQ (match h[k]? with | some (.lst xs) => some xs | _ => none) i h = _
  rw [hk]
  show (match atI xs i with | some d => R.ok d h | none => .no) = _
  rw [e]
theorem setix_ref {h : Hs} {k : Nat} {xs : List D} {i : Int} {j : Nat} {v : D} {δ : Fr} (hk : h[k]? = some (.lst xs)) (e : ixN xs.length i = some j) : setixR δ v (.ref k) (.int i) h = .ok (.nx δ) (h.set k (.lst (xs.set j v))) := by
  have q : lstD h (.ref k) = some (k, xs) := by
    show (match h[k]? with | some (.lst xs) => some (k, xs) | _ => none) = _
    rw [hk]
  have q0 : dctD h (.ref k) = none := by
    show (match h[k]? with | some (.dct kvs) => some (k, kvs) | _ => none) = _
    rw [hk]
  unfold setixR
  rw [q0]
  show setixS δ v (.ref k) (.int i) h = _
  unfold setixS
  rw [q]
  show (match ixN xs.length i with | some j => nxR δ (h.set k (.lst (xs.set j v))) | none => .no) = _
  rw [e]
  rfl
theorem set_at {h : Hs} {k : Nat} {o p : O} (hk : h[k]? = some o) : (h.set k p)[k]? = some p := by
  have : k < h.length := (List.getElem?_eq_some_iff.mp hk).1
  simp [this]
theorem roll_ok {iD iR n : Nat} (hD : pg.fns[iD]? = some fDrawn) (hR : pg.fns[iR]? = some (fRoll iD)) (a b m : Int) (h : Hs) (k : Nat) (hk : h[k]? = some (.lst [.int a, .int b])) (hm : 0 < m) (hl : m.natAbs.log2 < 9000) :
    ∃ r a' b', 0 ≤ r ∧ r < m ∧ callI pg (n + 2) iR [.ref k, .int m] h = .ok (.int r) (h.set k (.lst [.int a', .int b'])) := by
  rw [callI_of hR rfl]
  have e0 : start0 (fRoll iD) [.ref k, .int m] = [some (.ref k), some (.int m), none] := rfl
  rw [e0]
  have at0 : ∀ (δ : Fr) (u : Int), δ[0]? = some (some (.ref k)) → ∀ {c : Cal} {g : Hs} {v : Int}, g[k]? = some (.lst [.int u, .int v]) → evE c (.ix (.var 0) (.con (.int 0))) δ g = .ok (.int u) g := fun δ u hδ {c g v} hg => ev_ix (ev_var hδ) ev_con (ix_ref hg rfl)
  have at1 : ∀ (δ : Fr) (u : Int), δ[0]? = some (some (.ref k)) → ∀ {c : Cal} {g : Hs} {v : Int}, g[k]? = some (.lst [.int u, .int v]) → evE c (.ix (.var 0) (.con (.int 1))) δ g = .ok (.int v) g := fun δ u hδ {c g v} hg => ev_ix (ev_var hδ) ev_con (ix_ref hg rfl)
  have test : ∀ {c : Cal}, evT c (.of (.cmp .ge (.ix (.var 0) (.con (.int 0))) (.bin .pow (.con (.int 10)) (.con (.int 18))))) [some (.ref k), some (.int m), none] h = .ok (decide ((1000000000000000000 : Int) ≤ a)) h := fun {c} =>
    et_of (x := .bl (decide ((1000000000000000000 : Int) ≤ a))) (ev_cmp (at0 _ a rfl hk) (ev_bin (r := .ok (.int 1000000000000000000) h) ev_con ev_con rfl) rfl) rfl
  by_cases ca : (1000000000000000000 : Int) ≤ a
  · refine ⟨a % m, a / m, b, Int.emod_nonneg _ (by omega), Int.emod_lt_of_pos _ hm, ?_⟩
    have s1 := es_set (c := cal pg (n + 1)) (wl := pg.wl) (h := h) (i := 2) (δ := [some (.ref k), some (.int m), none]) (ev_bin (op := .mod) (at0 _ a rfl hk) (ev_var (i := 1) rfl) (bin_mod hm)) (by simp)
    have s2 := es_setix (c := cal pg (n + 1)) (wl := pg.wl) (h := h) (δ := [some (.ref k), some (.int m), some (.int (a % m))]) (o := .var 0) (i := .con (.int 0)) (ev_bin (op := .div) (at0 _ a rfl hk) (ev_var (i := 1) rfl) (bin_div hm hl)) (ev_var rfl) ev_con (setix_ref hk (j := 0) rfl)
    have s3 := es_ret (c := cal pg (n + 1)) (wl := pg.wl) (h := h.set k (.lst [.int (a / m), .int b])) (δ := [some (.ref k), some (.int m), some (.int (a % m))]) (ev_var (i := 2) rfl)
    have body := ess_cons s1 (ess_cons s2 (ess_out (r := .nil) s3))
    have full := ess_out (r := .cons (.setix (.var 0) (.con (.int 1)) (.bin .add (.ix (.var 0) (.con (.int 1))) (.con (.int 1)))) (.cons (.ret (.bin .mod (.bin .div (.call iD (.cons (.ix (.var 0) (.con (.int 0))) (.cons (.ix (.var 0) (.con (.int 1))) .nil))) (.con (.int 8))) (.var 1))) .nil)) (es_if (b := .nil) (test (c := cal pg (n + 1))) (by rw [decide_eq_true ca, if_pos rfl]; exact body))
    exact (congrArg outR full).trans rfl
  · obtain ⟨r, hr⟩ := drawn_ok (n := n) hD a (b + 1) (h.set k (.lst [.int a, .int (b + 1)]))
    refine ⟨r / 8 % m, a, b + 1, Int.emod_nonneg _ (by omega), Int.emod_lt_of_pos _ hm, ?_⟩
    have hk2 : (h.set k (.lst [.int a, .int (b + 1)]))[k]? = some (.lst [.int a, .int (b + 1)]) := set_at hk
    have s0 := es_if (wl := pg.wl) (a := .cons (.set 2 (.bin .mod (.ix (.var 0) (.con (.int 0))) (.var 1))) (.cons (.setix (.var 0) (.con (.int 0)) (.bin .div (.ix (.var 0) (.con (.int 0))) (.var 1))) (.cons (.ret (.var 2)) .nil))) (b := .nil) (r := .ok (.nx [some (.ref k), some (.int m), none]) h) (test (c := cal pg (n + 1))) (by rw [decide_eq_false ca, if_neg Bool.false_ne_true]; rfl)
    have s1 := es_setix (c := cal pg (n + 1)) (wl := pg.wl) (h := h) (δ := [some (.ref k), some (.int m), none]) (o := .var 0) (i := .con (.int 1)) (ev_bin (op := .add) (at1 _ a rfl hk) (ev_con (d := .int 1)) bin_add) (ev_var rfl) ev_con (setix_ref hk (j := 1) rfl)
    have s2 := es_ret (c := cal pg (n + 1)) (wl := pg.wl) (h := h.set k (.lst [.int a, .int (b + 1)])) (δ := [some (.ref k), some (.int m), none]) (ev_bin (op := .mod) (ev_bin (op := .div) (ev_call (ev_cons (at0 _ a rfl hk2) (ev_cons (at1 _ a rfl hk2) ev_nil)) hr) (ev_con (d := .int 8)) (bin_div (by decide) (by decide))) (ev_var (i := 1) rfl) (bin_mod hm))
    exact (congrArg outR (ess_cons s0 (ess_cons s1 (ess_out (r := .nil) s2)))).trans rfl
theorem pyL_ints (h : Hs) (k : Nat) : ∀ ns : List Int, D.pyL h k (ns.map D.int) = some (ns.map PyData.int)
  | [] => rfl
  | n :: r => by
    show (match D.py h k (.int n) with | some a => (D.pyL h k (r.map D.int)).map (a :: ·) | none => none) = _
    rw [pyL_ints h k r]
    rfl
theorem can_ints : ∀ ns : List Int, PyData.canLayAll0 (ns.map PyData.int) = true
  | [] => rfl
  | n :: r => by
    show (PyData.canLay0 (.int n) && PyData.canLayAll0 (r.map PyData.int)) = true
    rw [can_ints r]
    rfl
theorem depth_ints : ∀ ns : List Int, PyData.depthAll (ns.map PyData.int) ≤ 1
  | [] => by simp [PyData.depthAll]
  | n :: r => by
    have := depth_ints r
    simp only [List.map_cons, PyData.depthAll, PyData.depth]
    omega
theorem shaped_ints (ns : List Int) : SeqAt.shaped (.list (ns.map PyData.int)) = true := by
  have := depth_ints ns
  have a : (PyData.list (ns.map PyData.int)).canLay0 = true := can_ints ns
  have b : (PyData.list (ns.map PyData.int)).depth ≤ 64 := by
    show PyData.depthAll (ns.map PyData.int) + 1 ≤ 64
    omega
  show ((PyData.list (ns.map PyData.int)).canLay0 && decide ((PyData.list (ns.map PyData.int)).depth ≤ 64)) = true
  rw [a, decide_eq_true b]
  rfl
/-- the script: a list that never changes, or one of the heap -/
def Scr (h : Hs) (d : D) (ns : List Int) : Prop := d = .frz (ns.map D.int) ∨ ∃ j, d = .ref j ∧ h[j]? = some (.lst (ns.map D.int))
theorem Scr.app {h t : Hs} {d : D} {ns : List Int} (s : Scr h d ns) : Scr (h ++ t) d ns := by
  rcases s with s | ⟨j, e, s⟩
  · exact .inl s
  · exact .inr ⟨j, e, by rw [List.getElem?_append_left (List.getElem?_eq_some_iff.mp s).1]; exact s⟩
theorem Scr.seq {h : Hs} {d : D} {ns : List Int} (s : Scr h d ns) : seqD h d = some (ns.map D.int) := by
  rcases s with rfl | ⟨j, rfl, s⟩
  · rfl
  · show (match h[j]? with | some (.lst xs) => some xs | _ => none) = _
    rw [s]
theorem Scr.ix {h : Hs} {d v : D} {ns : List Int} (s : Scr h d ns) {i : Int} (e : atI (ns.map D.int) i = some v) : ixD d (.int i) h = .ok v h := by
  have q := s.seq
  rcases s with rfl | ⟨j, rfl, s⟩
  · show ixQ (seqD h (.frz (ns.map D.int))) i h = _
    rw [q]
    show (match atI (ns.map D.int) i with | some d => R.ok d h | none => .no) = _
    rw [e]
  · exact ix_ref s e
theorem Scr.len {h : Hs} {d : D} {ns : List Int} (s : Scr h d ns) : biD .len [d] h = .ok (.int ns.length) h := by
  have q := s.seq
  have z : lenD h d = (seqD h d).map List.length := by
    rcases s with rfl | ⟨j, rfl, s⟩
    · rfl
    · rfl
  show (match lenD h d with | some n => R.ok (D.int n) h | none => .no) = _
  rw [z, q]
  simp
theorem Scr.py {h : Hs} {d : D} {ns : List Int} (s : Scr h d ns) : D.py1 h d = some (.list (ns.map PyData.int)) := by
  rcases s with rfl | ⟨j, rfl, s⟩
  · show (D.pyL h 0 (ns.map D.int)).map PyData.list = _
    rw [pyL_ints]
    rfl
  · show (match h[j]? with | some (.lst xs) => (D.pyL h 0 xs).map PyData.list | _ => none) = _
    rw [s]
    show (D.pyL h 0 (ns.map D.int)).map PyData.list = _
    rw [pyL_ints]
    rfl
theorem eq_empty {d : D} (ns : List Int) (h : Hs) (s : Scr h d ns) : eqD d (.ref h.length) (h ++ [.lst []]) = some ns.isEmpty := by
  have a : D.py1 (h ++ [.lst []]) d = some (.list (ns.map PyData.int)) := s.app.py
  have b : D.py1 (h ++ [.lst []]) (.ref h.length) = some (.list []) := by
    show (match (h ++ [O.lst []])[h.length]? with | some (.lst xs) => (D.pyL (h ++ [O.lst []]) 0 xs).map PyData.list | _ => none) = _
    rw [show (h ++ [O.lst []])[h.length]? = some (.lst []) by simp]
    rfl
  unfold eqD
  rw [a, b]
  show (if (SeqAt.shaped (.list (ns.map PyData.int)) && SeqAt.shaped (.list [])) = true then some (PyData.eqv (.list (ns.map PyData.int)) (.list [])) else none) = _
  rw [shaped_ints, show SeqAt.shaped (.list []) = true from shaped_ints []]
  cases ns with
  | nil => rfl
  | cons x r => rfl
theorem cell_ok {iC n : Nat} {dS : D} (hC : pg.fns[iC]? = some fCell) (ns : List Int) (hn : ns.length ≤ 63) (k : Nat) (h : Hs) (sS : Scr h dS ns) : ∃ c, callI pg (n + 1) iC [dS, .int k] h = .ok (.int c) (h ++ [.lst []]) := by
  rw [callI_of hC rfl]
  have e0 : start0 fCell [dS, .int k] = [some dS, some (.int k)] := rfl
  rw [e0]
  have test : evT (cal pg n) (.of (.cmp .eq (.var 0) (.newL (.lit .nil)))) [some dS, some (.int k)] h = .ok ns.isEmpty (h ++ [.lst []]) :=
    et_of (x := .bl ns.isEmpty) (ev_cmp (ev_var rfl) (ev_lit ev_nil (Nat.zero_le _)) (by show R.ofB (eqD _ _ _) _ = _; rw [eq_empty ns h sS]; rfl)) rfl
  cases ns with
  | nil =>
    refine ⟨k * 7919, ?_⟩
    have s1 := es_ret (c := cal pg n) (wl := pg.wl) (h := h ++ [.lst []]) (δ := [some dS, some (.int k)]) (ev_bin (op := .mul) (ev_var (i := 1) rfl) (ev_con (d := .int 7919)) (bin_mul (mulOk_r (by decide) (by decide))))
    have s2 := es_if (b := .nil) (r := .ok (.rt (.int (k * 7919))) (h ++ [.lst []])) test (by rw [show (([] : List Int).isEmpty) = true from rfl, if_pos rfl]; exact ess_out (r := .nil) s1)
    exact (congrArg outR (ess_out s2)).trans rfl
  | cons x r =>
    obtain ⟨z, hz⟩ : ∃ z : List Int, z = x :: r := ⟨_, rfl⟩
    rw [← hz] at hn test sS
    have z0 : 0 < z.length := by rw [hz]; simp
    have ln : ∀ {c : Cal}, evE c (.bi .len (.cons (.var 0) .nil)) [some dS, some (.int k)] (h ++ [.lst []]) = .ok (.int z.length) (h ++ [.lst []]) := fun {c} => ev_bi (ev_cons (ev_var rfl) ev_nil) (sS.app (t := [.lst []])).len
    have lp : (0 : Int) < (z.length : Int) := by omega
    have md0 := Int.emod_nonneg (k : Int) (show (z.length : Int) ≠ 0 by omega)
    have md1 := Int.emod_lt_of_pos (k : Int) lp
    obtain ⟨j, hj⟩ : ∃ j : Nat, (j : Int) = (k : Int) % (z.length : Int) := ⟨((k : Int) % (z.length : Int)).toNat, by omega⟩
    have jl : j < z.length := by omega
    have at' : atI (z.map D.int) ((k : Int) % (z.length : Int)) = some (.int z[j]) := by
      unfold atI ixN
      rw [← hj, if_pos (by omega), if_pos (by simpa using jl)]
      simp [jl]
    have dv : (z.length : Int).natAbs.log2 < 9000 := Nat.lt_of_lt_of_le (log2_lt (k := 6) (by omega) (by decide)) (by decide)
    refine ⟨z[j] + k / z.length * 104729, ?_⟩
    have s1 := es_ret (c := cal pg n) (wl := pg.wl) (h := h ++ [.lst []]) (δ := [some dS, some (.int k)]) (ev_bin (op := .add) (ev_ix (ev_var (i := 0) rfl) (ev_bin (op := .mod) (ev_var (i := 1) rfl) ln (bin_mod lp)) ((sS.app (t := [.lst []])).ix at'))
      (ev_bin (op := .mul) (ev_bin (op := .div) (ev_var (i := 1) rfl) ln (bin_div lp dv)) (ev_con (d := .int 104729)) (bin_mul (mulOk_r (by decide) (by decide)))) bin_add)
    have s2 := es_if (wl := pg.wl) (a := .cons (.ret (.bin .mul (.var 1) (.con (.int 7919)))) .nil) (b := .nil) (r := .ok (.nx [some dS, some (.int k)]) (h ++ [.lst []])) test (by rw [show z.isEmpty = false by rw [hz]; rfl, if_neg Bool.false_ne_true]; rfl)
    exact (congrArg outR (ess_cons s2 (ess_out (r := .nil) s1))).trans rfl
/-- the dice that the laws make: new lists of two ints -/
theorem comp_dice {iC n : Nat} {dS : D} (hC : pg.fns[iC]? = some fCell) (ns : List Int) (hn : ns.length ≤ 63) (most : Int) (f : D → Hs → R (Option D))
    (hf : ∀ x h, f x h = bindK (fun δ' h2 => (evE (cal pg (n + 1)) (.newL (.lit (.cons (.call iC (.cons (.var 0) (.cons (.var 2) .nil))) (.cons (.con (.int 0)) .nil)))) δ' h2).bind someR) (bindTg (.one 2) x (wipeF [some dS, some (.int most), none] [2])) h) :
    ∀ (xs : List Nat) (h : Hs), Scr h dS ns → ∃ (ks : List Nat) (t : Hs), compLoop f (gOk []) (xs.map fun (k : Nat) => D.int k) h = .ok (ks.map D.ref) (h ++ t) ∧ ks.length = xs.length ∧ ks.Pairwise (· < ·) ∧ ∀ k ∈ ks, h.length ≤ k ∧ ∃ c, (h ++ t)[k]? = some (.lst [.int c, .int 0])
  | [], h, _ => ⟨[], [], by simp [compLoop, gOk], rfl, .nil, by simp⟩
  | x :: xs, h, sS => by
    obtain ⟨c, hc⟩ := cell_ok (n := n) hC ns hn x h sS
    have el : evE (cal pg (n + 1)) (.newL (.lit (.cons (.call iC (.cons (.var 0) (.cons (.var 2) .nil))) (.cons (.con (.int 0)) .nil)))) [some dS, some (.int most), some (.int x)] h = .ok (.ref (h ++ [O.lst []]).length) ((h ++ [O.lst []]) ++ [.lst [.int c, .int 0]]) :=
      ev_lit (ev_cons (ev_call (ev_cons (ev_var rfl) (ev_cons (ev_var rfl) ev_nil)) hc) (ev_cons ev_con ev_nil)) (by show 2 ≤ LIM; decide)
    have hx : f (.int x) h = .ok (some (.ref (h ++ [O.lst []]).length)) ((h ++ [O.lst []]) ++ [.lst [.int c, .int 0]]) := by
      rw [hf]
      show (evE (cal pg (n + 1)) _ [some dS, some (.int most), some (.int x)] h).bind someR = _
      rw [el]
      rfl
    obtain ⟨ks, t, h1, h2, h3, h4⟩ := comp_dice hC ns hn most f hf xs ((h ++ [O.lst []]) ++ [.lst [.int c, .int 0]]) sS.app.app
    refine ⟨(h ++ [O.lst []]).length :: ks, [O.lst []] ++ ([O.lst [.int c, .int 0]] ++ t), ?_, by simp [h2], List.pairwise_cons.mpr ⟨fun k hk => ?_, h3⟩, fun k hk => ?_⟩
    · show (if gOk [] h = true then (match f (.int x) h with | .ok o h1 => (match compLoop f (gOk []) (xs.map fun (k : Nat) => D.int k) h1 with | .ok r h2 => R.ok (match o with | some d => d :: r | none => r) h2 | _ => .no) | _ => .no) else .no) = _
      rw [if_pos (by rfl), hx]
      show (match compLoop f (gOk []) (xs.map fun (k : Nat) => D.int k) ((h ++ [O.lst []]) ++ [.lst [.int c, .int 0]]) with | .ok r h2 => R.ok (D.ref (h ++ [O.lst []]).length :: r) h2 | _ => .no) = _
      rw [h1]
      simp
    · have := (h4 k hk).1
      simp at this ⊢
      omega
    · rcases List.mem_cons.mp hk with e | e
      · subst e
        refine ⟨by simp, c, ?_⟩
        simp
      · obtain ⟨a, c2, b⟩ := h4 k e
        refine ⟨?_, c2, ?_⟩
        · simp at a
          omega
        · rw [← b]
          simp
theorem rounds_ok {iC iR n : Nat} {dS : D} (hC : pg.fns[iC]? = some fCell) (hR : pg.fns[iR]? = some (fRounds iC)) (ns : List Int) (hn : ns.length ≤ 63) (most : Int) (hm : 1 ≤ most) (hm2 : most ≤ 63) (h : Hs) (sS : Scr h dS ns) :
    ∃ (ks : List Nat) (t : Hs), callI pg (n + 2) iR [dS, .int most] h = .ok (.ref (h ++ t).length) ((h ++ t) ++ [.lst (ks.map D.ref)]) ∧ ks.Pairwise (· < ·) ∧ ∀ k ∈ ks, h.length ≤ k ∧ ∃ c, (h ++ t)[k]? = some (.lst [.int c, .int 0]) := by
  rw [callI_of hR rfl]
  have e0 : start0 (fRounds iC) [dS, .int most] = [some dS, some (.int most), none] := rfl
  rw [e0]
  obtain ⟨v, hv⟩ : ∃ v : Int, v = (if (if (ns.length : Int) < most then (ns.length : Int) else most) > 1 then (if (ns.length : Int) < most then (ns.length : Int) else most) else 1) := ⟨_, rfl⟩
  have bd : 0 ≤ v ∧ v ≤ 63 := by
    by_cases c1 : (ns.length : Int) < most
    · rw [if_pos c1] at hv
      by_cases c2 : (ns.length : Int) > 1
      · rw [if_pos c2] at hv; omega
      · rw [if_neg c2] at hv; omega
    · rw [if_neg c1] at hv
      by_cases c2 : most > 1
      · rw [if_pos c2] at hv; omega
      · rw [if_neg c2] at hv; omega
  obtain ⟨j, hj⟩ : ∃ j : Nat, v = (j : Int) := ⟨v.toNat, by omega⟩
  have jl : j ≤ 63 := by omega
  rw [hj] at hv
  have ln : ∀ {c : Cal} {δ : Fr}, δ[0]? = some (some dS) → evE c (.bi .len (.cons (.var 0) .nil)) δ h = .ok (.int ns.length) h := fun {c δ} e => ev_bi (ev_cons (ev_var e) ev_nil) sS.len
  have it : evI (cal pg (n + 1)) (.range1 (.bi .max2 (.cons (.con (.int 1)) (.cons (.bi .min2 (.cons (.var 1) (.cons (.bi .len (.cons (.var 0) .nil)) .nil))) .nil)))) [some dS, some (.int most), none] h = .ok ⟨(List.range j).map fun (k : Nat) => D.int k, []⟩ h := by
    have q := ev_bi (c := cal pg (n + 1)) (b := .max2) (h := h) (δ := [some dS, some (.int most), none]) (r := .ok (.int j) h) (ev_cons (ev_con (d := .int 1)) (ev_cons (ev_bi (b := .min2) (ev_cons (ev_var (i := 1) rfl) (ev_cons (ln rfl) ev_nil)) rfl) ev_nil)) (by
      show R.ok (D.int (if (if (ns.length : Int) < most then (ns.length : Int) else most) > 1 then (if (ns.length : Int) < most then (ns.length : Int) else most) else 1)) h = _
      rw [← hv])
    rw [ei_range1 q]
    show (if i62 (j : Int) = true then R.ok (IT.mk (rangeD 0 j) []) h else .no) = _
    rw [if_pos (by unfold i62; simp; omega)]
    have : rangeD 0 (j : Int) = (List.range j).map fun (k : Nat) => D.int k := by
      unfold rangeD
      simp
    rw [this]
  obtain ⟨ks, t, h1, h2, h3, h4⟩ := comp_dice (n := n) hC ns hn most (fun x h2 => bindK (fun δ' h2 => (evE (cal pg (n + 1)) (.newL (.lit (.cons (.call iC (.cons (.var 0) (.cons (.var 2) .nil))) (.cons (.con (.int 0)) .nil)))) δ' h2).bind someR) (bindTg (.one 2) x (wipeF [some dS, some (.int most), none] [2])) h2) (fun _ _ => rfl) (List.range j) h sS
  refine ⟨ks, t, ?_, h3, h4⟩
  have el : evL (cal pg (n + 1)) (.compU (.one 2) (.range1 (.bi .max2 (.cons (.con (.int 1)) (.cons (.bi .min2 (.cons (.var 1) (.cons (.bi .len (.cons (.var 0) .nil)) .nil))) .nil)))) [2] (.newL (.lit (.cons (.call iC (.cons (.var 0) (.cons (.var 2) .nil))) (.cons (.con (.int 0)) .nil))))) [some dS, some (.int most), none] h = .ok (ks.map D.ref) (h ++ t) := by
    rw [el_compU it]
    show (if ((List.range j).map fun (k : Nat) => D.int k).length < LIM then compLoop _ (gOk []) ((List.range j).map fun (k : Nat) => D.int k) h else .no) = _
    rw [if_pos (by rw [List.length_map, List.length_range]; exact Nat.lt_of_le_of_lt jl (by decide))]
    exact h1
  have s1 := ev_newL el
  exact (congrArg outR (ess_out (r := .nil) (es_ret s1))).trans rfl
end
end PI
namespace PI
open PySem PySem.Spec PyProof.Rows L2
theorem hrel_nil {K : PySem.W.Frag} {T : List (Addr × Str)} {H : Hp} (t : LamX.Tabs T H) : HRel K T [] [] H := ⟨rfl, List.nodup_nil, fun k o e => by simp at e, t⟩
/-- all that stood but p stands -/
def KeepB (p : Addr) (H H' : Hp) : Prop := ∀ a o, H a = some o → a ≠ p → (∀ ps, o ≠ .tbl ps) → H' a = some o
def spLawF (K : PySem.W.Frag) (T : List (Addr × Str)) : Sp := fun vs H Q _ => ∃ (a : Addr) (ns : List Int), vs = [.ref a] ∧ ns.length ≤ 63 ∧ SqL K H a (ns.map V.int) ∧ LamX.Tabs T H ∧ ∀ H', Q (.bl true) H'
theorem rel_ints' {K : PySem.W.Frag} {ρ : List Addr} {H : Hp} : ∀ ns : List Int, RelAll K ρ H (ns.map D.int) (ns.map V.int)
  | [] => .nil
  | n :: r => .cons (.int n) (rel_ints' r)
theorem rel_refs {K : PySem.W.Frag} {ρ : List Addr} {H : Hp} : ∀ {ks : List Nat} {vs : List V}, RelAll K ρ H (ks.map D.ref) vs → ∀ (i : Nat) (v : V), vs[i]? = some v → ∃ k p, ks[i]? = some k ∧ v = .ref p ∧ ρ[k]? = some p
  | [], [], .nil, i, v, h => by simp at h
  | k :: ks, w :: vs, .cons q r, i, v, h => by
    cases i with
    | zero =>
      have e : w = v := Option.some.inj h
      subst e
      cases q with
      | ref e => exact ⟨k, _, rfl, rfl, e⟩
    | succ i => exact rel_refs r i v h
/-- a law's loop body, its dice at d -/
def BodyOk (X : Cx) (T : List (Addr × Str)) (d : Nat) (u : List Stmt) : Prop := ∃ tb : TS, PSs X u tb ∧ ∀ (D : Ends) (σ : L2.St) (H : Hp) (p : Addr) (c : Int), σ.length = X.N.length → σ[d]? = some (some (.ref p)) → H p = some (.lst [.int c, .int 0]) → LamX.Tabs T H →
  (∀ σ' H', σ'.length = σ.length → KeepB p H H' → LamX.Tabs T H' → D.nx σ' H' ∧ D.ct σ' H') → tb D σ H
/-- the script, as the interpreter has it -/
theorem scr_start {K : PySem.W.Frag} {T : List (Addr × Str)} {H : Hp} {a : Addr} {ns : List Int} (h : SqL K H a (ns.map V.int)) (t : LamX.Tabs T H) : ∃ ρ h0 dS, HRel K T ρ h0 H ∧ Rel K ρ H dS (.ref a) ∧ Scr h0 dS ns := by
  rcases h with (h | h) | h
  · refine ⟨[a], [.lst (ns.map D.int)], .ref 0, ⟨rfl, by simp, fun k o e => ?_, t⟩, .ref rfl, .inr ⟨0, rfl, rfl⟩⟩
    cases k with
    | zero =>
      have e : some (O.lst (ns.map D.int)) = some o := e
      cases e
      exact ⟨a, rfl, _, h, rel_ints' ns⟩
    | succ k => simp at e
  · exact ⟨[], [], .frz (ns.map D.int), hrel_nil t, .frz (.inl h) (rel_ints' ns), .inl rfl⟩
  · exact ⟨[], [], .frz (ns.map D.int), hrel_nil t, .frz (.inr h) (rel_ints' ns), .inl rfl⟩
section
variable {P : Program} {w : World} {K : PySem.W.Frag} {mg : Str → Option Value} {T : List (Addr × Str)} {cs : List (Addr × Addr)} {cls : Nat → Addr} {pg : Pg}
theorem law_fn (t : Top P w K mg T cs cls pg) {iC iR iL n d : Nat} {most : Int} {b : Ss} {N : List Str} (hC : pg.fns[iC]? = some fCell) (hR : pg.fns[iR]? = some (fRounds iC)) (hm : 1 ≤ most) (hm2 : most ≤ 63)
    (how : pg.ow iL = none) (F : FFact K mg T cs pg iL ⟨"law", ["_law_script"], N, .cons (.forS (.one d) (.of (.call iR (.cons (.var 0) (.cons (.con (.int most)) .nil)))) b) (.cons (.ret (.con (.bl true))) .nil)⟩)
    (hb : ∀ (X : Cx) (E : XK), GS X T E cls pg (n + 2) (pg.lm "law") → X.N = N → ∀ u, chkSs N pg (pg.lm "law") b X.env.scope u = true → BodyOk X T d u) :
    ∃ a fd, mg ("law" : Str) = some (.ref a) ∧ (∀ (s : Shared) (u : Value), BindsTo s fd ⟨[u], []⟩ [("_law_script", u)]) ∧ ∀ base : Heap, (∀ p ∈ cs, LamX.TabB base mg p.1 p.2) → FnOk P w K mg base (L2N.CX P w) (n + 3) a fd ["_law_script"] (spLawF K T) := by
  obtain ⟨a, fd, st, q, hat, hq, F, hbd, S, hc, hlam⟩ := F.ex
  obtain rfl := hq how
  have hmg : mg ("law" : Str) = some (.ref a) := by
    unfold FnAt at hat
    rw [how] at hat
    exact hat
  refine ⟨a, fd, hmg, fun s u => .of_eq (hbd [u] rfl), fun base tb => ?_⟩
  obtain ⟨oc, od, kV, doc, pm, an, cdv, ct, osl, rfl, lk, hcd⟩ := F.ex
  refine fn_of lk hcd S (fun vs H Q E h => ?_) fun A outer s H vs Q E hr h => ?_
  · obtain ⟨a, ns, rfl, _⟩ := h
    rfl
  · obtain ⟨la, ns, rfl, hl, hS, hTabs, hQ⟩ := h
    have g : GS (cxOf (L2N.CX P w) P w K mg base N "law" (defScope st) a cdv A outer s H E) T E cls pg (n + 2) (pg.lm "law") :=
      { gf := gf_all t tb (n + 2) (n + 2) (Nat.le_refl _), gfl := fun k hk => gf_all t tb (n + 2) k hk, lam := fun z => lam_at t tb (fun z => z) rfl hlam z, room := hr, nd := S.nd, calm := rfl, pass := L2N.passes_call (L2N.takes_of rfl rfl rfl rfl) (fun _ _ _ _ h => h), own := L2.passes_of rfl, fnc := fun _ => rfl, kind := S.kind, rs := fun k s m p p2 pos pos2 j hk hg => rs_of rfl (L2N.takes_of rfl rfl rfl rfl) (t.cls k s hk) hg }
    unfold chkSs at hc
    split at hc
    case h_2 => cases hc
    case h_1 x ys hxs =>
      simp only [Bool.and_eq_true] at hc
      obtain ⟨h1, h2⟩ := hc
      unfold chkS at h1
      split at h1
      case h_2 => cases h1
      case h_1 tg v u spos =>
        simp only [Bool.and_eq_true] at h1
        obtain ⟨⟨⟨a1, a2⟩, a3⟩, a4⟩ := h1
        unfold chkI at a3
        obtain ⟨tb, hP, hT⟩ := hb _ E g rfl u a4
        have dN : d < N.length := by
          obtain ⟨s, p, _, e, _⟩ := tg_one a1
          exact (List.getElem?_eq_some_iff.mp e).1
        have P1 := ps_for (pos := spos) g.own g.calm (pi_list (tg := tg) (snE _ g.toGX v a3)) (pg_ofL g a1) hP (notSet_ok a2)
        have P2 := snSs (wl := pg.wl) _ g ys h2
        refine ⟨_, by rw [hxs]; exact pss_cons P1 P2, ?_⟩
        obtain ⟨ρ0, h0, dS, rl0, rS, sS⟩ := scr_start hS hTabs
        obtain ⟨ks, tt, r1, r2, r3⟩ := rounds_ok (n := n) hC hR ns hl most hm hm2 h0 sS
        have ev : evE (cal pg (n + 2)) (.call iR (.cons (.var 0) (.cons (.con (.int most)) .nil))) (start0 ⟨"law", ["_law_script"], N, .nil⟩ [dS]) h0 = .ok (.ref (h0 ++ tt).length) ((h0 ++ tt) ++ [.lst (ks.map D.ref)]) :=
          ev_call (ev_cons (ev_var rfl) (ev_cons ev_con ev_nil)) r1
        refine ⟨ρ0, h0, start0 ⟨"law", ["_law_script"], N, .nil⟩ [dS], rl0, fr_start (f := ⟨"law", ["_law_script"], N, .nil⟩) (.cons rS .nil), ?_⟩
        rw [ev]
        intro ρ H1 e v hv
        obtain ⟨h', eh⟩ : ∃ h' : Hs, h' = (h0 ++ tt) ++ [O.lst (ks.map D.ref)] := ⟨_, rfl⟩
        rw [← eh] at e
        cases hv with
        | ref hL =>
          rename_i L
          have at1 : h'[(h0 ++ tt).length]? = some (.lst (ks.map D.ref)) := by rw [eh]; simp
          obtain ⟨LL, hL2, vs, hv1, hv2⟩ := e.rel.obj _ _ at1
          have eL : LL = L := by rw [hL] at hL2; exact (Option.some.inj hL2).symm
          subst eL
          have dice : ∀ k ∈ ks, ∃ p c, ρ[k]? = some p ∧ H1 p = some (.lst [V.int c, V.int 0]) := fun k hk => by
            obtain ⟨_, c, hc⟩ := r3 k hk
            have kt : k < (h0 ++ tt).length := (List.getElem?_eq_some_iff.mp hc).1
            have at2 : h'[k]? = some (.lst [.int c, .int 0]) := by
              rw [eh, List.getElem?_append_left kt]
              exact hc
            obtain ⟨p, hp, ws, q1, q2⟩ := e.rel.obj _ _ at2
            cases q2 with
            | cons q q2 =>
              cases q
              cases q2 with
              | cons q q2 =>
                cases q
                cases q2
                exact ⟨p, c, hp, q1⟩
          have inj : ∀ {i j : Nat} {p : Addr}, ρ[i]? = some p → ρ[j]? = some p → i = j := fun {i j p} e1 e2 => (List.getElem?_inj (List.getElem?_eq_some_iff.mp e1).1 e.rel.nd).mp (by rw [e1, e2])
          refine ⟨LL, rfl, ⟨vs, SqL.of hv1⟩, ?_⟩
          refine for_list (K := K) (a := LL) (xs := vs) (fun i σ H2 => σ.length = N.length ∧ H2 LL = some (.lst vs) ∧ LamX.Tabs T H2 ∧ ∀ j k p, i ≤ j → ks[j]? = some k → ρ[k]? = some p → ∃ c, H2 p = some (.lst [V.int c, V.int 0]))
            ⟨by
              have := S.pre
              have hl := congrArg List.length this
              simp at hl
              unfold L2.start
              simp
              omega, hv1, e.rel.tabs, fun j k p _ hk hp => by
              obtain ⟨p2, c, e2, e3⟩ := dice k (List.mem_of_getElem? hk)
              rw [hp] at e2
              cases e2
              exact ⟨c, e3⟩⟩ (fun i σ H2 _ q => SqL.of q.2.1) ?_ ?_
          · rintro i x σ H2 hi ⟨q1, q2, qT, q3⟩
            obtain ⟨k, p, hk, rfl, hp⟩ := rel_refs hv2 i x hi
            obtain ⟨c, hc⟩ := q3 i k p (Nat.le_refl _) hk hp
            refine hT _ _ _ p c (by rw [List.length_set, q1]; rfl) (by simp [q1, dN]) hc qT fun σ' H' hl hK hT2 => ?_
            have nL : LL ≠ p := fun z => by
              subst z
              have z1 := inj hL hp
              obtain ⟨_, c2, hc2⟩ := r3 k (List.mem_of_getElem? hk)
              have kt : k < (h0 ++ tt).length := (List.getElem?_eq_some_iff.mp hc2).1
              omega
            have nx : σ'.length = N.length ∧ H' LL = some (.lst vs) ∧ LamX.Tabs T H' ∧ ∀ j k p, i + 1 ≤ j → ks[j]? = some k → ρ[k]? = some p → ∃ c, H' p = some (.lst [V.int c, V.int 0]) := by
              refine ⟨by rw [hl, List.length_set, q1], hK _ _ q2 nL (fun _ z => by cases z), hT2, fun j k2 p2 hj hk2 hp2 => ?_⟩
              obtain ⟨c2, hc2⟩ := q3 j k2 p2 (by omega) hk2 hp2
              refine ⟨c2, hK _ _ hc2 (fun z => ?_) (fun _ z => by cases z)⟩
              subst z
              have z1 := inj hp2 hp
              subst z1
              have i1 := (List.getElem?_eq_some_iff.mp hk)
              have i2 := (List.getElem?_eq_some_iff.mp hk2)
              have := List.pairwise_iff_getElem.mp r2 i j i1.1 i2.1 (by omega)
              rw [i1.2, i2.2] at this
              omega
            exact ⟨nx, nx⟩
          · rintro σ H2 ⟨q1, q2, qT, q3⟩
            refine ⟨[], [], List.replicate N.length none, hrel_nil qT, ⟨by simp [q1], fun i d z => by simp [List.getElem?_replicate] at z⟩, ?_⟩
            intro ρ2 H3 e2 v hv
            cases hv
            exact hQ _
end
end PI
namespace PI
open PySem PySem.Spec PyProof.Rows L2
theorem tup_at {K : PySem.W.Frag} {a : Addr} {its : Array Value} {n : Nat} {sl : Array (Option Value)} {vs : List V} {ds : List D} (l : K.lookup a = some ⟨.type "tuple", none, .seq its n, sl⟩) (v : Vals vs its.toList) (hz : vs.length ≤ sizeLine)
    (r : ∀ ρ H, RelAll K ρ H ds vs) : ∀ ρ H, Rel K ρ H (.tup true ds) (.ref a) := fun ρ H => .tup (.inr ⟨_, its, n, l, rfl, rfl, by rw [← Array.length_toList, ← v.length]; exact hz, v⟩) (fun _ => .inr ⟨_, l, rfl⟩) (r ρ H)
def ent (w : World) (k : Str) (t : Tok) (v : Value) : DictEntry := ⟨PyData.keyHash w.params k, .str k t, v⟩
theorem dic_at {P : Program} {w : World} {K : PySem.W.Frag} {mg : Str → Option Value} {x : Str} {kvs : List (Str × D)} {b : Addr} {es : Array DictEntry} {ep : Nat} (ks : List (Str × Tok × Value)) (hm : mg x = some (.ref b)) (hs : (b == sysModules) = false)
    (l : K.lookup b = some ⟨.type "dict", none, .dict es ep, #[]⟩) (he : es.toList = ks.map fun p => ent w p.1 p.2.1 p.2.2) (hn : (ks.map (·.1)).Nodup)
    (hp : Paired (fun p q => p.1 = q.1 ∧ ∃ v, RelV v q.2 ∧ ∀ ρ H, Rel K ρ H p.2 v) kvs (ks.map fun p => (p.1, p.2.2))) : DicAt P w K mg x kvs := by
  refine ⟨b, ks.map fun p => (p.1, p.2.2), hm, hs, fun h X => ?_, hp⟩
  refine ⟨_, es, ep, X _ _ l, ⟨rfl, rfl, rfl⟩, rfl, fun e hm => ?_, ?_, by simpa [List.map_map, Function.comp_def] using hn⟩
  · have hm : e ∈ es.toList := by simpa using hm
    rw [he] at hm
    obtain ⟨p, _, rfl⟩ := List.mem_map.mp hm
    exact ⟨p.1, strKind_is _ _ _ _, rfl⟩
  · rw [he]
    clear he hn hp
    induction ks with
    | nil => exact .nil
    | cons p r ih => exact .cons (strKind_is _ _ _ _) rfl ih
theorem cx_no {P : Program} {w : World} {H : Hp} {s : Shared} {e : Value} {s' : Shared} (h : L2N.CX P w [] H s (fun _ _ _ => False) e s') : False := by
  obtain ⟨_, _, _, _, _, _, _, _, _, _, _, _, h⟩ := h
  exact h
/-- the plain values of a list -/
def plainV : V → Tok → Value
  | .non, _ => .none
  | .bl b, _ => .bool b
  | .int i, t => .int i t
  | .str s, t => .str s t
  | _, _ => .none
theorem plain_rel {v : V} {t : Tok} (h : (match v with | .non | .bl _ | .int _ | .str _ => true | _ => false) = true) : RelV v (plainV v t) := by
  cases v <;> first | exact rfl | exact ⟨t, rfl⟩ | cases h
theorem law_end {l : PySem.W.OpenLaw} {w : World} {K : PySem.W.Frag} {mg : Str → Option Value} {h : Heap} {fa : Addr} {T : List (Addr × Str)} {cs : List (Addr × Addr)} {pg : Pg} {k : Nat} {cls : Nat → Addr} (hm : mg ("law" : Str) = some (.ref fa)) (t : Top l.prog w K mg T cs cls pg)
    (hT : ∀ p ∈ cs, h.get? p.2 = some { cls := .none, data := .fields #[] }) (nT : ∀ p ∈ cs, K.lookup p.2 = none) (hC : ∀ p ∈ cs, PySem.W.CodeHd h p.1 p.2) (TT : ∀ q ∈ T, ∃ p ∈ cs, q.1 = p.2)
    (L : Top l.prog w K mg T cs cls pg → ∃ a fd, mg ("law" : Str) = some (.ref a) ∧ (∀ (s : Shared) (u : Value), BindsTo s fd ⟨[u], []⟩ [("_law_script", u)]) ∧ ∀ base : Heap, (∀ p ∈ cs, LamX.TabB base mg p.1 p.2) → FnOk l.prog w K mg base (L2N.CX l.prog w) k a fd ["_law_script"] (spLawF K T)) :
    LamX.LawAtS l w K (L2N.CX l.prog w) k 63 "_law_script" mg fa h := by
  obtain ⟨a, fd, e1, e2, e3⟩ := L t
  have e : some (Value.ref a) = some (Value.ref fa) := e1.symm.trans hm
  cases e
  refine ⟨fd, cs, spLawF K T, hT, nT, hC, e2, fun H a ns hl _ ht hS => ⟨a, ns, rfl, hl, hS, fun q hq => ?_, fun _ => rfl⟩, fun base _ _ tb => e3 base tb⟩
  obtain ⟨p, hp, e⟩ := TT q hq
  rw [e]
  exact LamX.TabS.nil (ht p hp)
def clsOf (as : List Addr) : Nat → Addr := fun k => as.getD k 0
end PI
namespace PI
open PySem PySem.Spec PyProof.Rows L2
/-- goes on, the names as many -/
def goesOn (n : Nat) : R Out → Bool
  | .ok (.nx δ) _ => decide (δ.length = n)
  | .ok (.ct δ) _ => decide (δ.length = n)
  | _ => false
/-- the frame in which a law's body begins: the dice alone -/
def frD (N : List Str) (d : Nat) : Fr := (List.replicate N.length none).set d (some (.ref 0))
theorem fr_dice {K : PySem.W.Frag} {H : Hp} {σ : L2.St} {N : List Str} {d : Nat} {p : Addr} (hl : σ.length = N.length) (hs : σ[d]? = some (some (.ref p))) : FrRel K [p] H (frD N d) σ := by
  refine ⟨by simp [frD, hl], fun i e h => ?_⟩
  unfold frD at h
  rw [List.getElem?_set] at h
  split at h
  · next hi =>
    subst hi
    split at h
    · cases h
      exact ⟨_, hs, .ref rfl⟩
    · cases h
  · simp [List.getElem?_replicate] at h
theorem hrel_dice {K : PySem.W.Frag} {T : List (Addr × Str)} {H : Hp} {p : Addr} {a b : Int} (hp : H p = some (.lst [.int a, .int b])) (t : LamX.Tabs T H) : HRel K T [p] [.lst [.int a, .int b]] H := by
  refine ⟨rfl, by simp, fun k o e => ?_, t⟩
  cases k with
  | zero =>
    have e : some (O.lst [D.int a, D.int b]) = some o := e
    cases e
    exact ⟨p, rfl, _, hp, .cons (.int a) (.cons (.int b) .nil)⟩
  | succ k => simp at e
section
variable {X : Cx} {T : List (Addr × Str)} {E : XK} {cls : Nat → Addr} {pg : Pg} {n : Nat} {lm : Bool}
/-- a body, run over its dice -/
theorem body_run (g : GS X T E cls pg n lm) {b : Ss} {d : Nat} {u : List Stmt} (hc : chkSs X.N pg lm b X.env.scope u = true)
    (hev : ∀ c : Int, goesOn X.N.length (evSs (cal pg n) pg.wl b (frD X.N d) [.lst [.int c, .int 0]]) = true) : BodyOk X T d u := by
  refine ⟨_, snSs (wl := pg.wl) b g u hc, fun D σ H p c hl hs hp ht hk => ?_⟩
  have ok := hev c
  refine ⟨[p], [.lst [.int c, .int 0]], frD X.N d, hrel_dice hp ht, fr_dice hl hs, ?_⟩
  cases he : evSs (cal pg n) pg.wl b (frD X.N d) [.lst [.int c, .int 0]] with
  | no => rw [he] at ok; cases ok
  | ex k h => rw [he] at ok; cases ok
  | ok o h =>
    rw [he] at ok
    intro ρ1 H1 e
    have kp : KeepB p H H1 := fun a o ha hn ht => e.keep a o ha (by simpa using hn) ht
    cases o with
    | nx δ =>
      have hl2 : δ.length = X.N.length := of_decide_eq_true ok
      exact fun σ2 f => (hk σ2 H1 (by rw [← f.1, hl2, hl]) kp e.rel.tabs).1
    | ct δ =>
      have hl2 : δ.length = X.N.length := of_decide_eq_true ok
      exact fun σ2 f => (hk σ2 H1 (by rw [← f.1, hl2, hl]) kp e.rel.tabs).2
    | rt d => cases ok
    | bk d => cases ok
end
end PI
namespace WP
/-! ### spans of rows of words -/
abbrev Vc := Nat → Int
inductive Sp (G : Vc → Prop) : Vc → Prop
  | zero : Sp G (fun _ => 0)
  | add {g v : Vc} (c : Int) : G g → Sp G v → Sp G (fun i => v i + c * g i)
  | cg {u v : Vc} : (∀ i, (65536 : Int) ∣ u i - v i) → Sp G u → Sp G v
theorem Sp.congr {G : Vc → Prop} {u v : Vc} (h : ∀ i, u i = v i) (s : Sp G u) : Sp G v := by
  have : u = v := funext h
  exact this ▸ s
theorem Sp.lin {G : Vc → Prop} {u v : Vc} (c : Int) (hu : Sp G u) (hv : Sp G v) : Sp G (fun i => u i + c * v i) := by
  induction hv with
  | zero => exact hu.congr fun i => by simp
  | @add g v d hg _ ih => exact (Sp.add (c * d) hg ih).congr fun i => by grind
  | @cg a b h _ ih => exact Sp.cg (fun i => by
      obtain ⟨k, hk⟩ := h i
      exact ⟨c * k, by grind⟩) ih
theorem Sp.gen {G : Vc → Prop} {g : Vc} (h : G g) : Sp G g := (Sp.add 1 h .zero).congr fun i => by simp
theorem Sp.smul {G : Vc → Prop} {u : Vc} (c : Int) (h : Sp G u) : Sp G (fun i => c * u i) := (Sp.lin c .zero h).congr fun i => by simp
theorem Sp.sub {G : Vc → Prop} {u v : Vc} (hu : Sp G u) (hv : Sp G v) : Sp G (fun i => u i - v i) := (Sp.lin (-1) hu hv).congr fun i => by grind
theorem Sp.mono {G G' : Vc → Prop} {v : Vc} (h : ∀ g, G g → Sp G' g) (s : Sp G v) : Sp G' v := by
  induction s with
  | zero => exact .zero
  | add c hg _ ih => exact Sp.lin c ih (h _ hg)
  | cg e _ ih => exact .cg e ih
def Eqv (G G' : Vc → Prop) : Prop := ∀ v, Sp G v ↔ Sp G' v
theorem Eqv.of {G G' : Vc → Prop} (a : ∀ g, G g → Sp G' g) (b : ∀ g, G' g → Sp G g) : Eqv G G' := fun _ => ⟨Sp.mono a, Sp.mono b⟩
theorem Eqv.symm {G G' : Vc → Prop} (e : Eqv G G') : Eqv G' G := fun v => (e v).symm
theorem Eqv.trans {G G' G'' : Vc → Prop} (e : Eqv G G') (f : Eqv G' G'') : Eqv G G'' := fun v => (e v).trans (f v)
/-! ### rows -/
def fn (xs : List Int) : Vc := fun i => xs.getD i 0
def Row (w : Nat) (xs : List Int) : Prop := xs.length = w ∧ ∀ x ∈ xs, 0 ≤ x ∧ x < 65536
theorem Row.bd {w : Nat} {xs : List Int} (h : Row w xs) (i : Nat) : 0 ≤ fn xs i ∧ fn xs i < 65536 := by
  unfold fn
  rw [List.getD_eq_getElem?_getD]
  by_cases c : i < xs.length
  · rw [List.getElem?_eq_getElem c]
    exact h.2 _ (List.getElem_mem c)
  · rw [List.getElem?_eq_none (by omega)]
    decide
theorem fn_out {xs : List Int} {i : Nat} (h : xs.length ≤ i) : fn xs i = 0 := by
  unfold fn
  rw [List.getD_eq_getElem?_getD, List.getElem?_eq_none h]
  rfl
theorem fn_at {xs : List Int} {i : Nat} (h : i < xs.length) : fn xs i = xs[i] := by
  unfold fn
  rw [List.getD_eq_getElem?_getD, List.getElem?_eq_getElem h]
  rfl
theorem fn_ext {xs ys : List Int} (hl : xs.length = ys.length) (h : ∀ i, fn xs i = fn ys i) : xs = ys := by
  refine List.ext_getElem hl fun i h1 h2 => ?_
  rw [← fn_at h1, ← fn_at h2]
  exact h i
/-- a base: by places, a row whose first number stands there and is a divisor of 65536 -/
structure Bas (w : Nat) (F : Nat → Option (List Int)) : Prop where
  lt : ∀ p r, F p = some r → p < w
  row : ∀ p r, F p = some r → Row w r
  low : ∀ p r, F p = some r → ∀ i, i < p → fn r i = 0
  pos : ∀ p r, F p = some r → 0 < fn r p
  dvd : ∀ p r, F p = some r → fn r p ∣ 65536
def Ge (F : Nat → Option (List Int)) (p : Nat) : Vc → Prop := fun v => ∃ q r, p ≤ q ∧ F q = some r ∧ v = fn r
/-- the multiple that makes the first number 0 comes of the later rows -/
def Clo (F : Nat → Option (List Int)) : Prop := ∀ p r, F p = some r → Sp (Ge F (p + 1)) (fun i => 65536 / fn r p * fn r i)
section
variable {w : Nat} {F : Nat → Option (List Int)}
theorem Ge.up {p q : Nat} (h : p ≤ q) {g : Vc} (e : Ge F q g) : Ge F p g := by
  obtain ⟨a, r, h1, h2, h3⟩ := e
  exact ⟨a, r, Nat.le_trans h h1, h2, h3⟩
theorem sp_low (B : Bas w F) {p : Nat} {v : Vc} (s : Sp (Ge F p) v) : ∀ i, i < p → (65536 : Int) ∣ v i := by
  induction s with
  | zero => exact fun i _ => ⟨0, rfl⟩
  | @add g v c hg _ ih =>
    obtain ⟨q, r, h1, h2, rfl⟩ := hg
    intro i hi
    show (65536 : Int) ∣ v i + c * fn r i
    rw [B.low q r h2 i (by omega)]
    simpa using ih i hi
  | @cg u v h _ ih =>
    intro i hi
    obtain ⟨k, hk⟩ := h i
    obtain ⟨m, hm⟩ := ih i hi
    exact ⟨m - k, by grind⟩
/-- a part by the row of the place, the rest by the later ones -/
theorem sp_split {p : Nat} {v : Vc} (s : Sp (Ge F p) v) : ∃ c u, Sp (Ge F (p + 1)) u ∧ ∀ i, (65536 : Int) ∣ v i - (c * (match F p with | some r => fn r i | none => 0) + u i) := by
  induction s with
  | zero => exact ⟨0, _, .zero, fun i => ⟨0, by simp⟩⟩
  | @add g v d hg _ ih =>
    obtain ⟨c, u, hu, hc⟩ := ih
    obtain ⟨q, r, h1, h2, rfl⟩ := hg
    by_cases e : q = p
    · subst e
      refine ⟨c + d, u, hu, fun i => ?_⟩
      obtain ⟨k, hk⟩ := hc i
      rw [h2] at hk ⊢
      exact ⟨k, by grind⟩
    · refine ⟨c, _, Sp.add d ⟨q, r, by omega, h2, rfl⟩ hu, fun i => ?_⟩
      obtain ⟨k, hk⟩ := hc i
      exact ⟨k, by grind⟩
  | @cg a b h _ ih =>
    obtain ⟨c, u, hu, hc⟩ := ih
    refine ⟨c, u, hu, fun i => ?_⟩
    obtain ⟨k, hk⟩ := hc i
    obtain ⟨m, hm⟩ := h i
    exact ⟨k - m, by grind⟩
theorem sp_next (B : Bas w F) (C : Clo F) {p : Nat} {v : Vc} (s : Sp (Ge F p) v) (h : (65536 : Int) ∣ v p) : Sp (Ge F (p + 1)) v := by
  obtain ⟨c, u, hu, hc⟩ := sp_split s
  have up := sp_low B hu p (by omega)
  cases hF : F p with
  | none =>
    rw [hF] at hc
    refine Sp.cg (u := u) (fun i => ?_) hu
    obtain ⟨k, hk⟩ := hc i
    exact ⟨-k, by grind⟩
  | some r =>
    rw [hF] at hc
    obtain ⟨e, he⟩ := B.dvd p r hF
    have pp := B.pos p r hF
    obtain ⟨k, hk⟩ := hc p
    obtain ⟨m, hm⟩ := up
    obtain ⟨t, ht⟩ := h
    have q : 65536 / fn r p = e := by rw [he]; exact Int.mul_ediv_cancel_left e (by omega)
    -- c * piv is a multiple of 65536
    have hce : ∃ d, c = e * d := by
      refine ⟨t - k - m, ?_⟩
      have z : fn r p * c = fn r p * (e * (t - k - m)) := by
        have : c * fn r p = 65536 * (t - k - m) := by grind
        rw [he] at this
        grind
      exact Int.eq_of_mul_eq_mul_left (by omega) z
    obtain ⟨d, hd⟩ := hce
    have cl := C p r hF
    rw [q] at cl
    refine Sp.cg (u := fun i => u i + d * (e * fn r i)) (fun i => ?_) (Sp.lin d hu cl)
    obtain ⟨k2, hk2⟩ := hc i
    exact ⟨-k2, by grind⟩
theorem sp_from (B : Bas w F) (C : Clo F) : ∀ (p : Nat) {v : Vc}, Sp (Ge F 0) v → (∀ i, i < p → (65536 : Int) ∣ v i) → Sp (Ge F p) v
  | 0, v, s, _ => s
  | p + 1, v, s, h => sp_next B C (sp_from B C p s fun i hi => h i (by omega)) (h p (by omega))
theorem sp_piv (B : Bas w F) {p : Nat} {v : Vc} (s : Sp (Ge F p) v) {r : List Int} (hF : F p = some r) : fn r p ∣ v p := by
  obtain ⟨c, u, hu, hc⟩ := sp_split s
  rw [hF] at hc
  obtain ⟨k, hk⟩ := hc p
  obtain ⟨m, hm⟩ := sp_low B hu p (by omega)
  obtain ⟨e, he⟩ := B.dvd p r hF
  exact ⟨c + e * m + e * k, by grind⟩
theorem sp_none (B : Bas w F) {p : Nat} {v : Vc} (s : Sp (Ge F p) v) (hF : F p = none) : (65536 : Int) ∣ v p := by
  obtain ⟨c, u, hu, hc⟩ := sp_split s
  rw [hF] at hc
  obtain ⟨k, hk⟩ := hc p
  obtain ⟨m, hm⟩ := sp_low B hu p (by omega)
  exact ⟨m + k, by grind⟩
theorem small_dvd {a b : Int} (h : a ∣ b) (ha : 0 < a) (h1 : -a < b) (h2 : b < a) : b = 0 := by
  obtain ⟨k, rfl⟩ := h
  have k1 : k < 1 := by
    by_cases c : k < 1
    · exact c
    · exfalso
      have : a * 1 ≤ a * k := Int.mul_le_mul_of_nonneg_left (by omega) (by omega)
      omega
  have k2 : -1 < k := by
    by_cases c : -1 < k
    · exact c
    · exfalso
      have : a * k ≤ a * (-1) := Int.mul_le_mul_of_nonneg_left (by omega) (by omega)
      omega
  obtain rfl : k = 0 := by omega
  simp
/-- what is short and in the span is 0 -/
theorem sp_zero (B : Bas w F) (C : Clo F) {v : Vc} (s : Sp (Ge F 0) v) (hb : ∀ i, -65536 < v i ∧ v i < 65536) (hp : ∀ p r, F p = some r → -(fn r p) < v p ∧ v p < fn r p) : ∀ i, v i = 0 := by
  have key : ∀ n i, i < n → v i = 0 := by
    intro n
    induction n with
    | zero => intro i hi; omega
    | succ n ih =>
      intro i hi
      by_cases e : i < n
      · exact ih i e
      · obtain rfl : i = n := by omega
        have sp := sp_from B C i s fun j hj => by rw [ih j hj]; exact ⟨0, rfl⟩
        cases hF : F i with
        | none => exact small_dvd (sp_none B sp hF) (by decide) (hb i).1 (hb i).2
        | some r => exact small_dvd (sp_piv B sp hF) (B.pos i r hF) (hp i r hF).1 (hp i r hF).2
  exact fun i => key (i + 1) i (by omega)
end
/-- short above the first numbers -/
def Red (F : Nat → Option (List Int)) : Prop := ∀ p r q s, p < q → F p = some r → F q = some s → fn r q < fn s q
section
variable {w : Nat} {F G : Nat → Option (List Int)}
theorem piv_same (B : Bas w F) (B' : Bas w G) (C' : Clo G) (hs : ∀ g, Ge F 0 g → Sp (Ge G 0) g) {p : Nat} {r : List Int} (hF : F p = some r) : ∃ s, G p = some s ∧ fn s p ∣ fn r p := by
  have sp := sp_from B' C' p (hs (fn r) ⟨p, r, Nat.zero_le _, hF, rfl⟩) fun i hi => by rw [B.low p r hF i hi]; exact ⟨0, rfl⟩
  cases hG : G p with
  | none =>
    have z := small_dvd (sp_none B' sp hG) (by decide) (by have := (B.row p r hF).bd p; omega) (by have := (B.row p r hF).bd p; omega)
    have := B.pos p r hF
    omega
  | some s => exact ⟨s, rfl, sp_piv B' sp hG⟩
theorem form_uniq (B : Bas w F) (C : Clo F) (R : Red F) (B' : Bas w G) (C' : Clo G) (R' : Red G) (h1 : ∀ g, Ge F 0 g → Sp (Ge G 0) g) (h2 : ∀ g, Ge G 0 g → Sp (Ge F 0) g) : F = G := by
  have piv : ∀ p r s, F p = some r → G p = some s → fn r p = fn s p := fun p r s hF hG => by
    obtain ⟨s', e1, d1⟩ := piv_same B B' C' h1 hF
    obtain ⟨r', e2, d2⟩ := piv_same B' B C h2 hG
    rw [hG] at e1
    rw [hF] at e2
    cases e1
    cases e2
    exact Int.dvd_antisymm (by have := B.pos p r hF; omega) (by have := B'.pos p s hG; omega) d2 d1
  have one : ∀ p r s, F p = some r → G p = some s → r = s := fun p r s hF hG => by
    refine fn_ext ((B.row p r hF).1.trans (B'.row p s hG).1.symm) fun i => ?_
    have z := sp_zero B' C' (v := fun i => fn r i - fn s i) (Sp.sub (h1 _ ⟨p, r, Nat.zero_le _, hF, rfl⟩) (.gen ⟨p, s, Nat.zero_le _, hG, rfl⟩)) (fun i => by
      have a := (B.row p r hF).bd i
      have b := (B'.row p s hG).bd i
      omega) (fun q t hq => by
      have a := (B.row p r hF).bd q
      have b := (B'.row p s hG).bd q
      have c := B'.pos q t hq
      obtain ⟨t', e1, _⟩ := piv_same B' B C h2 hq
      have e2 := piv q t' t e1 hq
      by_cases l : p < q
      · have x := R p r q t' l hF e1
        have y := R' p s q t l hG hq
        omega
      · by_cases l2 : p = q
        · subst l2
          have := piv p r s hF hG
          omega
        · have x := B.low p r hF q
          have y := B'.low p s hG q
          by_cases l3 : q < p
          · rw [x l3, y l3]
            omega
          · omega) i
    omega
  funext p
  cases hF : F p with
  | some r =>
    obtain ⟨s, e, _⟩ := piv_same B B' C' h1 hF
    rw [e, one p r s hF e]
  | none =>
    cases hG : G p with
    | none => rfl
    | some s =>
      obtain ⟨r, e, _⟩ := piv_same B' B C h2 hG
      rw [e] at hF
      cases hF
end
end WP
namespace WP
/-! ### rows as lists -/
def leadN : List Int → Nat
  | [] => 0
  | x :: r => if x ≠ 0 then 0 else leadN r + 1
theorem leadN_le : ∀ xs : List Int, leadN xs ≤ xs.length
  | [] => Nat.le_refl _
  | x :: r => by
    have := leadN_le r
    unfold leadN
    split <;> simp <;> omega
theorem leadN_low : ∀ (xs : List Int) (i : Nat), i < leadN xs → fn xs i = 0
  | [], i, h => by simp [leadN] at h
  | x :: r, i, h => by
    unfold leadN at h
    split at h
    · omega
    · next c =>
      have c : x = 0 := by simpa using c
      cases i with
      | zero => exact c
      | succ i => exact leadN_low r i (by omega)
theorem leadN_at : ∀ (xs : List Int), leadN xs < xs.length → fn xs (leadN xs) ≠ 0
  | [], h => by simp at h
  | x :: r, h => by
    unfold leadN at h ⊢
    by_cases c : x = 0
    · rw [if_neg (by simpa using c)] at h ⊢
      exact leadN_at r (by simpa using h)
    · rw [if_pos c]
      exact c
theorem leadN_ge {xs : List Int} {p : Nat} (h : ∀ i, i < p → fn xs i = 0) (hp : p ≤ xs.length) : p ≤ leadN xs := by
  rcases Nat.lt_or_ge (leadN xs) p with c | c
  · exact absurd (h _ c) (leadN_at xs (by omega))
  · exact c
theorem leadN_eq {xs : List Int} {p : Nat} (h : ∀ i, i < p → fn xs i = 0) (hp : p < xs.length) (hn : fn xs p ≠ 0) : leadN xs = p := by
  have a := leadN_ge h (by omega)
  rcases Nat.lt_or_ge p (leadN xs) with c | c
  · exact absurd (leadN_low xs p c) hn
  · omega
theorem leadN_zero {xs : List Int} : leadN xs = xs.length ↔ ∀ i, fn xs i = 0 := by
  constructor
  · intro h i
    rcases Nat.lt_or_ge i xs.length with c | c
    · exact leadN_low xs i (by omega)
    · exact fn_out c
  · intro h
    have := leadN_ge (p := xs.length) (fun i _ => h i) (Nat.le_refl _)
    have := leadN_le xs
    omega
theorem fn_map {g : Int → Int} (g0 : g 0 = 0) (xs : List Int) (i : Nat) : fn (xs.map g) i = g (fn xs i) := by
  unfold fn
  rw [List.getD_eq_getElem?_getD, List.getD_eq_getElem?_getD, List.getElem?_map]
  cases xs[i]? <;> simp [g0]
theorem fn_zip {g : Int → Int → Int} (g0 : g 0 0 = 0) {xs ys : List Int} (hl : xs.length = ys.length) (i : Nat) : fn (List.zipWith g xs ys) i = g (fn xs i) (fn ys i) := by
  rcases Nat.lt_or_ge i xs.length with c | c
  · rw [fn_at (by simp; omega), fn_at c, fn_at (by omega)]
    simp
  · rw [fn_out (by simp; omega), fn_out c, fn_out (by omega), g0]
def scl (c : Int) (xs : List Int) : List Int := xs.map fun x => x * c % 65536
def les (c : Int) (xs ys : List Int) : List Int := List.zipWith (fun x y => (x - c * y) % 65536) xs ys
theorem fn_scl (c : Int) (xs : List Int) (i : Nat) : fn (scl c xs) i = fn xs i * c % 65536 := fn_map (g := fun x => x * c % 65536) (by simp) xs i
theorem fn_les (c : Int) {xs ys : List Int} (hl : xs.length = ys.length) (i : Nat) : fn (les c xs ys) i = (fn xs i - c * fn ys i) % 65536 := fn_zip (g := fun x y => (x - c * y) % 65536) (by simp) hl i
theorem row_of {w : Nat} {xs : List Int} (hl : xs.length = w) (h : ∀ i, i < w → 0 ≤ fn xs i ∧ fn xs i < 65536) : Row w xs := by
  refine ⟨hl, fun x hx => ?_⟩
  obtain ⟨i, hi, rfl⟩ := List.getElem_of_mem hx
  rw [← fn_at hi]
  exact h i (by omega)
theorem row_scl {w : Nat} {xs : List Int} (c : Int) (h : xs.length = w) : Row w (scl c xs) :=
  row_of (by simp [scl, h]) fun i _ => by rw [fn_scl]; exact ⟨Int.emod_nonneg _ (by decide), Int.emod_lt_of_pos _ (by decide)⟩
theorem row_les {w : Nat} {xs ys : List Int} (c : Int) (h : xs.length = w) (h' : ys.length = w) : Row w (les c xs ys) :=
  row_of (by simp [les, h, h']) fun i _ => by rw [fn_les c (by omega)]; exact ⟨Int.emod_nonneg _ (by decide), Int.emod_lt_of_pos _ (by decide)⟩
theorem dvd_mod (a : Int) : (65536 : Int) ∣ a % 65536 - a := ⟨-(a / 65536), by have := Int.emod_add_mul_ediv a 65536; omega⟩
theorem dvd_mod' (a : Int) : (65536 : Int) ∣ a - a % 65536 := ⟨a / 65536, by have := Int.emod_add_mul_ediv a 65536; omega⟩
theorem sp_scl {G : Vc → Prop} {xs : List Int} (c : Int) (h : Sp G (fn xs)) : Sp G (fn (scl c xs)) :=
  Sp.cg (u := fun i => c * fn xs i) (fun i => by
    rw [fn_scl]
    obtain ⟨k, hk⟩ := dvd_mod' (fn xs i * c)
    exact ⟨k, by grind⟩) (Sp.smul c h)
theorem sp_les {G : Vc → Prop} {xs ys : List Int} (c : Int) (hl : xs.length = ys.length) (h : Sp G (fn xs)) (h' : Sp G (fn ys)) : Sp G (fn (les c xs ys)) :=
  Sp.cg (u := fun i => fn xs i + (-c) * fn ys i) (fun i => by
    rw [fn_les c hl]
    obtain ⟨k, hk⟩ := dvd_mod' (fn xs i - c * fn ys i)
    exact ⟨k, by grind⟩) (Sp.lin (-c) h h')
theorem sp_les' {G : Vc → Prop} {xs ys : List Int} (c : Int) (hl : xs.length = ys.length) (h : Sp G (fn (les c xs ys))) (h' : Sp G (fn ys)) : Sp G (fn xs) :=
  Sp.cg (u := fun i => fn (les c xs ys) i + c * fn ys i) (fun i => by
    rw [fn_les c hl]
    obtain ⟨k, hk⟩ := dvd_mod (fn xs i - c * fn ys i)
    exact ⟨k, by grind⟩) (Sp.lin c h h')
/-! ### powers of 2 and inverses -/
def invf (x f : Int) : Int := f * (2 - x * f) % 65536
def inv (x : Int) : Int := invf x (invf x (invf x x))
theorem invf_bd (x f : Int) : 0 ≤ invf x f ∧ invf x f < 65536 := ⟨Int.emod_nonneg _ (by decide), Int.emod_lt_of_pos _ (by decide)⟩
theorem invf_sq (x f k : Int) (h : k ∣ 1 - x * f) (hk : k * k ∣ 65536 ∨ (65536 : Int) ∣ k * k) : (k * k ∣ 65536 → k * k ∣ 1 - x * invf x f) ∧ ((65536 : Int) ∣ k * k → (65536 : Int) ∣ 1 - x * invf x f) := by
  obtain ⟨a, ha⟩ := h
  obtain ⟨m, hm⟩ := dvd_mod' (f * (2 - x * f))
  have e : 1 - x * invf x f = k * k * (a * a) + 65536 * (x * m) := by
    unfold invf
    have : f * (2 - x * f) % 65536 = f * (2 - x * f) - 65536 * m := by omega
    rw [this]
    have h2 : k * k * (a * a) = (1 - x * f) * (1 - x * f) := by rw [ha]; grind
    rw [h2]
    grind
  refine ⟨fun ⟨d, hd⟩ => ?_, fun ⟨d, hd⟩ => ?_⟩
  · exact ⟨a * a + d * (x * m), by rw [e, hd]; grind⟩
  · exact ⟨d * (a * a) + x * m, by rw [e, hd]; grind⟩
theorem inv_ok {x : Int} (hx : x % 2 = 1) : (65536 : Int) ∣ 1 - x * inv x := by
  have h0 : (8 : Int) ∣ 1 - x * x := by
    have : x % 8 = 1 ∨ x % 8 = 3 ∨ x % 8 = 5 ∨ x % 8 = 7 := by omega
    obtain ⟨q, hq⟩ : ∃ q, x = 8 * q + x % 8 := ⟨x / 8, by omega⟩
    rcases this with h | h | h | h <;> rw [h] at hq <;> subst hq
    · exact ⟨-(8 * q * q + 2 * q), by grind⟩
    · exact ⟨-(8 * q * q + 6 * q + 1), by grind⟩
    · exact ⟨-(8 * q * q + 10 * q + 3), by grind⟩
    · exact ⟨-(8 * q * q + 14 * q + 6), by grind⟩
  have h1 : (64 : Int) ∣ 1 - x * invf x x := (invf_sq x x 8 h0 (.inl ⟨1024, by decide⟩)).1 ⟨1024, by decide⟩
  have h2 : (4096 : Int) ∣ 1 - x * invf x (invf x x) := (invf_sq x _ 64 h1 (.inl ⟨16, by decide⟩)).1 ⟨16, by decide⟩
  exact (invf_sq x _ 4096 h2 (.inr ⟨256, by decide⟩)).2 ⟨256, by decide⟩
theorem inv_bd (x : Int) : 0 ≤ inv x ∧ inv x < 65536 := invf_bd _ _
/-- x & -x -/
theorem and_even (k : Nat) (h : 0 < k) : (2 * k) &&& (2 * k - 1) = 2 * (k &&& (k - 1)) := by
  apply Nat.eq_of_testBit_eq
  intro i
  have e : 2 * k - 1 = 2 * (k - 1) + 1 := by omega
  rw [Nat.testBit_and, e]
  cases i with
  | zero => simp [Nat.testBit_zero]
  | succ i =>
    rw [Nat.testBit_succ, Nat.testBit_succ, Nat.testBit_succ, Nat.mul_div_cancel_left _ (by decide), Nat.mul_div_cancel_left _ (by decide), show (2 * (k - 1) + 1) / 2 = k - 1 by omega, Nat.testBit_and]
theorem and_odd (k : Nat) : (2 * k + 1) &&& (2 * k) = 2 * k := by
  apply Nat.eq_of_testBit_eq
  intro i
  rw [Nat.testBit_and]
  cases i with
  | zero => simp [Nat.testBit_zero]
  | succ i =>
    rw [Nat.testBit_succ, Nat.testBit_succ, show (2 * k + 1) / 2 = k by omega, Nat.mul_div_cancel_left _ (by decide), Bool.and_self]
theorem low_pow : ∀ (x : Nat), 0 < x → ∃ e m, x = 2 ^ e * m ∧ m % 2 = 1 ∧ (x &&& (x - 1)) + 2 ^ e = x := by
  intro x
  induction x using Nat.strongRecOn with
  | ind x ih =>
    intro hx
    by_cases c : x % 2 = 1
    · obtain ⟨k, rfl⟩ : ∃ k, x = 2 * k + 1 := ⟨x / 2, by omega⟩
      exact ⟨0, 2 * k + 1, by simp, c, by rw [show 2 * k + 1 - 1 = 2 * k by omega, and_odd]⟩
    · obtain ⟨k, rfl⟩ : ∃ k, x = 2 * k := ⟨x / 2, by omega⟩
      obtain ⟨e, m, h1, h2, h3⟩ := ih k (by omega) (by omega)
      refine ⟨e + 1, m, ?_, h2, ?_⟩
      · rw [Nat.pow_succ]
        have : 2 ^ e * 2 * m = 2 * (2 ^ e * m) := by grind
        rw [this, ← h1]
      · rw [and_even k (by omega), Nat.pow_succ]
        omega
end WP
namespace WP
/-! ### one step of the reduction -/
def pw2 (x : Int) : Prop := ∃ e : Nat, e < 16 ∧ x = 2 ^ e
theorem pw2.pos {x : Int} (h : pw2 x) : 0 < x ∧ x < 65536 ∧ x ∣ 65536 := by
  obtain ⟨e, he, rfl⟩ := h
  have : e = 0 ∨ e = 1 ∨ e = 2 ∨ e = 3 ∨ e = 4 ∨ e = 5 ∨ e = 6 ∨ e = 7 ∨ e = 8 ∨ e = 9 ∨ e = 10 ∨ e = 11 ∨ e = 12 ∨ e = 13 ∨ e = 14 ∨ e = 15 := by omega
  rcases this with rfl | rfl | rfl | rfl | rfl | rfl | rfl | rfl | rfl | rfl | rfl | rfl | rfl | rfl | rfl | rfl <;> decide
theorem pw2.dvd {x y : Int} (hx : pw2 x) (hy : pw2 y) (h : x ≤ y) : x ∣ y := by
  obtain ⟨e, he, rfl⟩ := hx
  obtain ⟨f, hf, rfl⟩ := hy
  have ef : e ≤ f := by
    rcases Nat.lt_or_ge f e with c | c
    · have h1 : (2 : Nat) ^ f < 2 ^ e := Nat.pow_lt_pow_right (by decide) c
      have h2 : ((2 : Int) ^ e) = ((2 ^ e : Nat) : Int) := by simp
      have h3 : ((2 : Int) ^ f) = ((2 ^ f : Nat) : Int) := by simp
      omega
    · exact c
  exact ⟨2 ^ (f - e), by rw [← Int.pow_add]; congr 1; omega⟩
theorem pw2.log {x y : Int} (hx : pw2 x) (hy : pw2 y) (h : x < y) : x.toNat.log2 < y.toNat.log2 := by
  obtain ⟨e, he, rfl⟩ := hx
  obtain ⟨f, hf, rfl⟩ := hy
  have t : ∀ e : Nat, ((2 : Int) ^ e).toNat = 2 ^ e := fun e => by
    have : ((2 : Int) ^ e) = ((2 ^ e : Nat) : Int) := by simp
    rw [this, Int.toNat_natCast]
  rw [t, t, Nat.log2_two_pow, Nat.log2_two_pow]
  rcases Nat.lt_or_ge e f with c | c
  · exact c
  · have h1 : (2 : Nat) ^ f ≤ 2 ^ e := Nat.pow_le_pow_right (by decide) c
    have h2 : ((2 : Int) ^ e) = ((2 ^ e : Nat) : Int) := by simp
    have h3 : ((2 : Int) ^ f) = ((2 ^ f : Nat) : Int) := by simp
    omega
theorem pw2.log16 {x : Int} (hx : pw2 x) : x.toNat.log2 < 17 := by
  obtain ⟨e, he, rfl⟩ := hx
  have : ((2 : Int) ^ e) = ((2 ^ e : Nat) : Int) := by simp
  rw [this, Int.toNat_natCast, Nat.log2_two_pow]
  omega
/-- a base whose first numbers are powers of 2 -/
structure Bp (w : Nat) (F : Nat → Option (List Int)) : Prop where
  lt : ∀ p r, F p = some r → p < w
  row : ∀ p r, F p = some r → Row w r
  low : ∀ p r, F p = some r → ∀ i, i < p → fn r i = 0
  pw : ∀ p r, F p = some r → pw2 (fn r p)
theorem Bp.bas {w : Nat} {F : Nat → Option (List Int)} (b : Bp w F) : Bas w F := ⟨b.lt, b.row, b.low, fun p r h => (b.pw p r h).pos.1, fun p r h => (b.pw p r h).pos.2.2⟩
def put (F : Nat → Option (List Int)) (p : Nat) (r : List Int) : Nat → Option (List Int) := fun q => if q = p then some r else F q
theorem put_same (F : Nat → Option (List Int)) (p : Nat) (r : List Int) : put F p r p = some r := if_pos rfl
theorem put_ne {F : Nat → Option (List Int)} {p q : Nat} {r : List Int} (h : q ≠ p) : put F p r q = F q := if_neg h
def HL (F : Nat → Option (List Int)) (W : List (List Int)) (p : Nat) : Vc → Prop := fun v => Ge F p v ∨ ∃ x ∈ W, (∀ i, i < p → fn x i = 0) ∧ v = fn x
/-- the multiple that makes the first number 0 comes of the later rows and those that wait -/
def CloW (F : Nat → Option (List Int)) (W : List (List Int)) : Prop := ∀ p r, F p = some r → Sp (HL F W (p + 1)) (fun i => 65536 / fn r p * fn r i)
section
variable {w : Nat} {F : Nat → Option (List Int)} {W : List (List Int)} {x : List Int}
theorem CloW.clo (h : CloW F []) : Clo F := fun p r e => Sp.mono (fun g hg => by
  rcases hg with hg | ⟨_, hx, _⟩
  · exact .gen hg
  · cases hx) (h p r e)
theorem HL.up {p q : Nat} (h : p ≤ q) {g : Vc} (e : HL F W q g) : HL F W p g := by
  rcases e with e | ⟨y, hy, h1, h2⟩
  · exact .inl (e.up h)
  · exact .inr ⟨y, hy, fun i hi => h1 i (by omega), h2⟩
/-- a row that is all 0 goes -/
theorem step_zero (hz : ∀ i, fn x i = 0) (p : Nat) : ∀ g, HL F (W ++ [x]) p g → Sp (HL F W p) g := by
  rintro g (hg | ⟨y, hy, h1, rfl⟩)
  · exact .gen (.inl hg)
  · rcases List.mem_append.mp hy with hy | hy
    · exact .gen (.inr ⟨y, hy, h1, rfl⟩)
    · obtain rfl : y = x := by simpa using hy
      exact Sp.congr (fun i => (hz i).symm) .zero
theorem HL.more {V : List (List Int)} {p : Nat} {g : Vc} (h : HL F W p g) : HL F (W ++ V) p g := by
  rcases h with h | ⟨y, hy, h1, h2⟩
  · exact .inl h
  · exact .inr ⟨y, List.mem_append_left _ hy, h1, h2⟩
variable {y z f : List Int} {p : Nat} {c m q : Int}
/-- a row is lessened by the one of its place -/
theorem step_less (hF : F p = some f) (hx : ∀ i, (65536 : Int) ∣ fn x i - m * fn y i) (xp : leadN x = p) (hxp : fn x p ≠ 0) (hl : y.length = f.length) (zl : ∀ i, i < p → fn (les q y f) i = 0)
    (k : Nat) : ∀ g, HL F (W ++ [x]) k g → Sp (HL F (W ++ [les q y f]) k) g := by
  rintro g (hg | ⟨u, hu, h1, rfl⟩)
  · exact .gen (.inl hg)
  · rcases List.mem_append.mp hu with hu | hu
    · exact .gen (HL.more (.inr ⟨u, hu, h1, rfl⟩))
    · obtain rfl : u = x := by simpa using hu
      have kp : k ≤ p := by
        rcases Nat.lt_or_ge p k with c | c
        · exact absurd (h1 p c) hxp
        · exact c
      have s1 : Sp (HL F (W ++ [les q y f]) k) (fn y) := sp_les' q hl (.gen (.inr ⟨_, by simp, fun i hi => zl i (by omega), rfl⟩)) (.gen (.inl ⟨p, f, kp, hF, rfl⟩))
      refine Sp.cg (u := fun i => m * fn y i) (fun i => ?_) (Sp.smul m s1)
      obtain ⟨t, ht⟩ := hx i
      exact ⟨-t, by grind⟩
theorem step_less' (hF : F p = some f) (hy : ∀ i, (65536 : Int) ∣ fn y i - c * fn x i) (hl : y.length = f.length) : ∀ g, HL F (W ++ [les q y f]) 0 g → Sp (HL F (W ++ [x]) 0) g := by
  rintro g (hg | ⟨u, hu, h1, rfl⟩)
  · exact .gen (.inl hg)
  · rcases List.mem_append.mp hu with hu | hu
    · exact .gen (HL.more (.inr ⟨u, hu, h1, rfl⟩))
    · obtain rfl : u = les q y f := by simpa using hu
      refine sp_les q hl (Sp.cg (u := fun i => c * fn x i) (fun i => ?_) (Sp.smul c (.gen (.inr ⟨x, by simp, fun i hi => absurd hi (by omega), rfl⟩)))) (.gen (.inl ⟨p, f, Nat.zero_le _, hF, rfl⟩))
      obtain ⟨t, ht⟩ := hy i
      exact ⟨-t, by grind⟩
def olds (F : Nat → Option (List Int)) (p : Nat) : List (List Int) := match F p with
  | some f => [f]
  | none => []
/-- a row takes its place -/
theorem step_put (B : Bp w F) (hx : ∀ i, (65536 : Int) ∣ fn x i - m * fn y i) (xp : leadN x = p) (hxp : fn x p ≠ 0) (hi : List Int) (k : Nat) : ∀ g, HL F (W ++ [x]) k g → Sp (HL (put F p y) (W ++ olds F p ++ [hi]) k) g := by
  rintro g (⟨q, r, h1, h2, rfl⟩ | ⟨u, hu, h1, rfl⟩)
  · by_cases e : q = p
    · subst e
      refine .gen (.inr ⟨r, ?_, fun i h => B.low q r h2 i (by omega), rfl⟩)
      unfold olds
      rw [h2]
      simp
    · exact .gen (.inl ⟨q, r, h1, by rw [put_ne e]; exact h2, rfl⟩)
  · rcases List.mem_append.mp hu with hu | hu
    · exact .gen (.inr ⟨u, by simp [hu], h1, rfl⟩)
    · obtain rfl : u = x := by simpa using hu
      have kp : k ≤ p := by
        rcases Nat.lt_or_ge p k with c | c
        · exact absurd (h1 p c) hxp
        · exact c
      refine Sp.cg (u := fun i => m * fn y i) (fun i => ?_) (Sp.smul m (.gen (.inl ⟨p, y, kp, put_same _ _ _, rfl⟩)))
      obtain ⟨t, ht⟩ := hx i
      exact ⟨-t, by grind⟩
theorem step_put' (hy : ∀ i, (65536 : Int) ∣ fn y i - c * fn x i) {d : Int} {hi : List Int} (eh : hi = scl d y) : ∀ g, HL (put F p y) (W ++ olds F p ++ [hi]) 0 g → Sp (HL F (W ++ [x]) 0) g := by
  have sx : Sp (HL F (W ++ [x]) 0) (fn y) := by
    refine Sp.cg (u := fun i => c * fn x i) (fun i => ?_) (Sp.smul c (.gen (.inr ⟨x, by simp, fun i hi => absurd hi (by omega), rfl⟩)))
    obtain ⟨t, ht⟩ := hy i
    exact ⟨-t, by grind⟩
  rintro g (⟨q, r, h1, h2, rfl⟩ | ⟨u, hu, h1, rfl⟩)
  · by_cases e : q = p
    · subst e
      rw [put_same] at h2
      cases h2
      exact sx
    · rw [put_ne e] at h2
      exact .gen (.inl ⟨q, r, h1, h2, rfl⟩)
  · rcases List.mem_append.mp hu with hu | hu
    · rcases List.mem_append.mp hu with hu | hu
      · exact .gen (.inr ⟨u, by simp [hu], h1, rfl⟩)
      · unfold olds at hu
        cases hF : F p with
        | none => rw [hF] at hu; cases hu
        | some f =>
          rw [hF] at hu
          obtain rfl : u = f := by simpa using hu
          exact .gen (.inl ⟨p, u, Nat.zero_le _, hF, rfl⟩)
    · obtain rfl : u = hi := by simpa using hu
      rw [eh]
      exact sp_scl d sx
theorem clo_put (B : Bp w F) (C : CloW F (W ++ [x])) (hx : ∀ i, (65536 : Int) ∣ fn x i - m * fn y i) (xp : leadN x = p) (hxp : fn x p ≠ 0) (yl : ∀ i, i < p → fn y i = 0) (yp : pw2 (fn y p)) :
    CloW (put F p y) (W ++ olds F p ++ [scl (65536 / fn y p) y]) := by
  intro q r hq
  by_cases e : q = p
  · subst e
    rw [put_same] at hq
    cases hq
    refine Sp.cg (u := fn (scl (65536 / fn y q) y)) (fun i => ?_) (.gen (.inr ⟨_, by simp, fun i hi => ?_, rfl⟩))
    · rw [fn_scl]
      obtain ⟨k, hk⟩ := dvd_mod (fn y i * (65536 / fn y q))
      exact ⟨k, by grind⟩
    · rw [fn_scl]
      by_cases e2 : i = q
      · subst e2
        rw [Int.mul_ediv_cancel' yp.pos.2.2]
        rfl
      · rw [yl i (by omega)]
        simp
  · rw [put_ne e] at hq
    exact Sp.mono (step_put B hx xp hxp _ (q + 1)) (C q r hq)
end
end WP
namespace WP
/-- what a row list generates -/
def GL (R : List (List Int)) : Vc → Prop := fun v => ∃ x ∈ R, v = fn x
/-! ### forms -/
structure HF (w : Nat) (R : List (List Int)) : Prop where
  row : ∀ r ∈ R, Row w r
  piv : ∀ r ∈ R, leadN r < w ∧ pw2 (fn r (leadN r))
  asc : R.Pairwise fun a b => leadN a < leadN b
  red : R.Pairwise fun a b => fn a (leadN b) < fn b (leadN b)
  clo : ∀ r ∈ R, Sp (fun v => ∃ s ∈ R, leadN r < leadN s ∧ v = fn s) (fun i => 65536 / fn r (leadN r) * fn r i)
def FL (R : List (List Int)) : Nat → Option (List Int) := fun p => R.find? fun r => decide (leadN r = p)
theorem pw_uniq {α : Type} {f : α → Nat} : ∀ {l : List α}, l.Pairwise (fun a b => f a < f b) → ∀ a ∈ l, ∀ b ∈ l, f a = f b → a = b
  | [], _, a, ha, _, _, _ => by cases ha
  | x :: r, h, a, ha, b, hb, e => by
    have ⟨h1, h2⟩ := List.pairwise_cons.mp h
    rcases List.mem_cons.mp ha with rfl | ha2
    · rcases List.mem_cons.mp hb with rfl | hb
      · rfl
      · have := h1 b hb; omega
    · rcases List.mem_cons.mp hb with rfl | hb
      · have := h1 a ha2; omega
      · exact pw_uniq h2 a ha2 b hb e
theorem pw_ext {α : Type} {f : α → Nat} : ∀ {l m : List α}, l.Pairwise (fun a b => f a < f b) → m.Pairwise (fun a b => f a < f b) → (∀ a, a ∈ l ↔ a ∈ m) → l = m
  | [], [], _, _, _ => rfl
  | [], y :: q, _, _, h => absurd ((h y).mpr List.mem_cons_self) (by simp)
  | x :: r, [], _, _, h => absurd ((h x).mp List.mem_cons_self) (by simp)
  | x :: r, y :: q, h1, h2, h => by
    have ⟨a1, a2⟩ := List.pairwise_cons.mp h1
    have ⟨b1, b2⟩ := List.pairwise_cons.mp h2
    have e : x = y := by
      rcases List.mem_cons.mp ((h x).mp List.mem_cons_self) with e | e
      · exact e
      · rcases List.mem_cons.mp ((h y).mpr List.mem_cons_self) with e2 | e2
        · exact e2.symm
        · have := a1 y e2; have := b1 x e; omega
    subst e
    rw [pw_ext a2 b2 fun a => ⟨fun ha => ?_, fun ha => ?_⟩]
    · rcases List.mem_cons.mp ((h a).mp (List.mem_cons_of_mem _ ha)) with e | e
      · subst e; have := a1 a ha; omega
      · exact e
    · rcases List.mem_cons.mp ((h a).mpr (List.mem_cons_of_mem _ ha)) with e | e
      · subst e; have := b1 a ha; omega
      · exact e
theorem pw_two {α : Type} {f : α → Nat} {P : α → α → Prop} : ∀ {l : List α}, l.Pairwise (fun a b => f a < f b) → l.Pairwise P → ∀ a ∈ l, ∀ b ∈ l, f a < f b → P a b
  | [], _, _, a, ha, _, _, _ => by cases ha
  | x :: r, h, g, a, ha, b, hb, e => by
    have ⟨h1, h2⟩ := List.pairwise_cons.mp h
    have ⟨g1, g2⟩ := List.pairwise_cons.mp g
    rcases List.mem_cons.mp ha with rfl | ha2
    · rcases List.mem_cons.mp hb with rfl | hb
      · omega
      · exact g1 b hb
    · rcases List.mem_cons.mp hb with rfl | hb
      · have := h1 a ha2; omega
      · exact pw_two h2 g2 a ha2 b hb e
section
variable {w : Nat} {R : List (List Int)}
theorem HF.fl (h : HF w R) {p : Nat} {r : List Int} : FL R p = some r ↔ r ∈ R ∧ leadN r = p := by
  unfold FL
  constructor
  · intro e
    exact ⟨List.mem_of_find?_eq_some e, by simpa using List.find?_some e⟩
  · rintro ⟨hr, hp⟩
    cases e : R.find? (fun r => decide (leadN r = p)) with
    | none =>
      have := List.find?_eq_none.mp e r hr
      simp [hp] at this
    | some s =>
      have h1 := List.mem_of_find?_eq_some e
      have h2 : leadN s = p := by simpa using List.find?_some e
      rw [pw_uniq h.asc s h1 r hr (by omega)]
theorem HF.bp (h : HF w R) : Bp w (FL R) := by
  refine ⟨fun p r e => ?_, fun p r e => ?_, fun p r e => ?_, fun p r e => ?_⟩
  all_goals obtain ⟨hr, rfl⟩ := h.fl.mp e
  · exact (h.piv r hr).1
  · exact h.row r hr
  · exact leadN_low r
  · exact (h.piv r hr).2
theorem HF.ge (h : HF w R) {p : Nat} {v : Vc} : Ge (FL R) p v ↔ ∃ r ∈ R, p ≤ leadN r ∧ v = fn r := by
  constructor
  · rintro ⟨q, r, h1, h2, rfl⟩
    obtain ⟨hr, rfl⟩ := h.fl.mp h2
    exact ⟨r, hr, h1, rfl⟩
  · rintro ⟨r, hr, h1, rfl⟩
    exact ⟨_, r, h1, h.fl.mpr ⟨hr, rfl⟩, rfl⟩
theorem HF.cl (h : HF w R) : Clo (FL R) := fun p r e => by
  obtain ⟨hr, rfl⟩ := h.fl.mp e
  refine Sp.mono (fun g hg => ?_) (h.clo r hr)
  obtain ⟨s, hs, hl, rfl⟩ := hg
  exact .gen (h.ge.mpr ⟨s, hs, by omega, rfl⟩)
theorem HF.rd (h : HF w R) : Red (FL R) := fun p r q s hpq e1 e2 => by
  obtain ⟨hr, rfl⟩ := h.fl.mp e1
  obtain ⟨hs, rfl⟩ := h.fl.mp e2
  exact pw_two h.asc h.red r hr s hs hpq
theorem HF.gl (h : HF w R) (v : Vc) : Ge (FL R) 0 v ↔ GL R v := by
  rw [h.ge]
  exact ⟨fun ⟨r, hr, _, e⟩ => ⟨r, hr, e⟩, fun ⟨r, hr, e⟩ => ⟨r, hr, Nat.zero_le _, e⟩⟩
theorem HF.uniq {R' : List (List Int)} (h : HF w R) (h' : HF w R') (e : Eqv (GL R) (GL R')) : R = R' := by
  have conv : ∀ {R} (h : HF w R) {v}, Sp (GL R) v → Sp (Ge (FL R) 0) v := fun h => Sp.mono fun g hg => .gen ((h.gl g).mpr hg)
  have f := form_uniq h.bp.bas h.cl h.rd h'.bp.bas h'.cl h'.rd (fun g hg => conv h' ((e g).mp (.gen ((h.gl g).mp hg)))) (fun g hg => conv h ((e g).mpr (.gen ((h'.gl g).mp hg))))
  refine pw_ext h.asc h'.asc fun a => ⟨fun ha => ?_, fun ha => ?_⟩
  · have := h.fl.mpr ⟨ha, rfl⟩
    rw [f] at this
    exact (h'.fl.mp this).1
  · have := h'.fl.mpr ⟨ha, rfl⟩
    rw [← f] at this
    exact (h.fl.mp this).1
/-! ### what is left -/
def restL : List Int → List (List Int) → List Int
  | x, [] => x
  | x, r :: R => restL (les (fn x (leadN r) / fn r (leadN r)) x r) R
/-- a short vector in the span is 0 -/
theorem HF.zero (h : HF w R) {v : Vc} (s : Sp (GL R) v) (hb : ∀ i, -65536 < v i ∧ v i < 65536) (hp : ∀ r ∈ R, -(fn r (leadN r)) < v (leadN r) ∧ v (leadN r) < fn r (leadN r)) : ∀ i, v i = 0 :=
  sp_zero h.bp.bas h.cl (Sp.mono (fun g hg => .gen ((h.gl g).mpr hg)) s) hb fun p r e => by
    obtain ⟨hr, rfl⟩ := h.fl.mp e
    exact hp r hr
end
theorem restL_ok {w : Nat} : ∀ (R : List (List Int)) (x : List Int), Row w x → (∀ r ∈ R, Row w r ∧ leadN r < w ∧ 0 < fn r (leadN r)) → R.Pairwise (fun a b => leadN a < leadN b) →
    Row w (restL x R) ∧ Sp (GL R) (fun i => fn x i - fn (restL x R) i) ∧ (∀ r ∈ R, fn (restL x R) (leadN r) < fn r (leadN r)) ∧ ∀ i, (∀ r ∈ R, i < leadN r) → fn (restL x R) i = fn x i
  | [], x, hx, _, _ => ⟨hx, Sp.congr (fun i => by simp [restL]) .zero, fun r hr => by simp at hr, fun i _ => rfl⟩
  | r :: R, x, hx, hr, ha => by
    have ⟨h1, h2⟩ := List.pairwise_cons.mp ha
    obtain ⟨rr, rl, rp⟩ := hr r List.mem_cons_self
    obtain ⟨q, hq⟩ : ∃ q, q = fn x (leadN r) / fn r (leadN r) := ⟨_, rfl⟩
    have ry : Row w (les q x r) := row_les q hx.1 rr.1
    obtain ⟨a, b, c, d⟩ := restL_ok R (les q x r) ry (fun s hs => hr s (List.mem_cons_of_mem _ hs)) h2
    have e : restL x (r :: R) = restL (les q x r) R := by rw [hq]; rfl
    have fl := fun i => fn_les q (xs := x) (ys := r) (by rw [hx.1, rr.1]) i
    rw [e]
    refine ⟨a, ?_, fun s hs => ?_, fun i hi => ?_⟩
    · have s1 : Sp (GL (r :: R)) (fun i => fn (les q x r) i - fn (restL (les q x r) R) i) := Sp.mono (fun g ⟨y, hy, e⟩ => .gen ⟨y, List.mem_cons_of_mem _ hy, e⟩) b
      refine Sp.cg (u := fun i => (fn (les q x r) i - fn (restL (les q x r) R) i) + q * fn r i) (fun i => ?_) (Sp.lin q s1 (.gen ⟨r, List.mem_cons_self, rfl⟩))
      obtain ⟨k, hk⟩ := dvd_mod (fn x i - q * fn r i)
      rw [fl]
      exact ⟨k, by grind⟩
    · rcases List.mem_cons.mp hs with rfl | hs
      · rw [d _ h1, fl, hq]
        have m1 := Int.emod_lt_of_pos (fn x (leadN s)) rp
        have m2 := Int.emod_nonneg (fn x (leadN s)) (show fn s (leadN s) ≠ 0 by omega)
        have bd := rr.bd (leadN s)
        have e2 : fn x (leadN s) - fn x (leadN s) / fn s (leadN s) * fn s (leadN s) = fn x (leadN s) % fn s (leadN s) := by
          have := Int.emod_add_mul_ediv (fn x (leadN s)) (fn s (leadN s))
          rw [Int.mul_comm]
          omega
        rw [e2, Int.emod_eq_of_lt m2 (by omega)]
        exact m1
      · exact c s hs
    · rw [d i fun s hs => hi s (List.mem_cons_of_mem _ hs), fl, leadN_low r i (hi r List.mem_cons_self)]
      simp
      exact Int.emod_eq_of_lt (hx.bd i).1 (hx.bd i).2
section
variable {w : Nat} {R : List (List Int)}
theorem HF.rest (h : HF w R) {x : List Int} (hx : Row w x) : Row w (restL x R) ∧ Sp (GL R) (fun i => fn x i - fn (restL x R) i) ∧ (∀ r ∈ R, fn (restL x R) (leadN r) < fn r (leadN r)) ∧ ∀ i, (∀ r ∈ R, i < leadN r) → fn (restL x R) i = fn x i :=
  restL_ok R x hx (fun r hr => ⟨h.row r hr, (h.piv r hr).1, (h.piv r hr).2.pos.1⟩) h.asc
/-- in the span just if nothing is left -/
theorem HF.rest_zero (h : HF w R) {x : List Int} (hx : Row w x) : (∀ i, fn (restL x R) i = 0) ↔ Sp (GL R) (fn x) := by
  obtain ⟨a, b, c, _⟩ := h.rest hx
  constructor
  · intro z
    exact Sp.congr (fun i => by rw [z i]; omega) b
  · intro s
    refine h.zero (v := fn (restL x R)) (Sp.congr (fun i => by omega) (Sp.sub s b)) (fun i => ?_) fun r hr => ?_
    · have := a.bd i; omega
    · have h1 := a.bd (leadN r)
      have h2 := c r hr
      have h3 := (h.piv r hr).2.pos
      omega
/-- one more row in front -/
theorem HF.cons (h : HF w R) {u : List Int} {p : Nat} (ru : Row w u) (hp : p < w) (ul : ∀ i, i < p → fn u i = 0) (up : pw2 (fn u p)) (hR : ∀ r ∈ R, p < leadN r) (hred : ∀ r ∈ R, fn u (leadN r) < fn r (leadN r)) (hc : Sp (GL R) (fun i => 65536 / fn u p * fn u i)) :
    HF w (u :: R) ∧ leadN u = p := by
  have lu : leadN u = p := leadN_eq ul (by rw [ru.1]; exact hp) (by have := up.pos; omega)
  refine ⟨⟨fun r hr => ?_, fun r hr => ?_, List.pairwise_cons.mpr ⟨fun r hr => ?_, h.asc⟩, List.pairwise_cons.mpr ⟨hred, h.red⟩, fun r hr => ?_⟩, lu⟩
  · rcases List.mem_cons.mp hr with rfl | hr
    · exact ru
    · exact h.row r hr
  · rcases List.mem_cons.mp hr with rfl | hr
    · rw [lu]; exact ⟨hp, up⟩
    · exact h.piv r hr
  · rw [lu]; exact hR r hr
  · rcases List.mem_cons.mp hr with rfl | hr
    · rw [lu]
      refine Sp.mono (fun g hg => ?_) hc
      obtain ⟨s, hs, rfl⟩ := hg
      exact .gen ⟨s, List.mem_cons_of_mem _ hs, by have := hR s hs; omega, rfl⟩
    · refine Sp.mono (fun g hg => ?_) (h.clo r hr)
      obtain ⟨s, hs, hl, rfl⟩ := hg
      exact .gen ⟨s, List.mem_cons_of_mem _ hs, hl, rfl⟩
theorem HF.nil : HF w [] := ⟨fun r h => (by cases h), fun r h => (by cases h), .nil, .nil, fun r h => (by cases h)⟩
end
end WP
namespace WP
theorem sp_zeroN {w : Nat} {F : Nat → Option (List Int)} (B : Bas w F) (C : Clo F) {v : Vc} (s : Sp (Ge F 0) v) (n : Nat) (hb : ∀ i, i < n → -65536 < v i ∧ v i < 65536) (hp : ∀ p r, p < n → F p = some r → -(fn r p) < v p ∧ v p < fn r p) : ∀ i, i < n → v i = 0 := by
  have key : ∀ m i, i < m → i < n → v i = 0 := by
    intro m
    induction m with
    | zero => intro i hi; omega
    | succ m ih =>
      intro i hi hn
      by_cases e : i < m
      · exact ih i e hn
      · obtain rfl : i = m := by omega
        have sp := sp_from B C i s fun j hj => by rw [ih j hj (by omega)]; exact ⟨0, rfl⟩
        cases hF : F i with
        | none => exact small_dvd (sp_none B sp hF) (by decide) (hb i hn).1 (hb i hn).2
        | some r => exact small_dvd (sp_piv B sp hF) (B.pos i r hF) (hp i r hn hF).1 (hp i r hn hF).2
  exact fun i hi => key (i + 1) i (by omega) hi
/-- sums of rows -/
def comb : List (List Int) → Vc → Vc
  | [], _, _ => 0
  | r :: R, c, i => c 0 * fn r i + comb R (fun j => c (j + 1)) i
theorem comb_add (R : List (List Int)) (c d : Vc) (t : Int) (i : Nat) : comb R (fun j => c j + t * d j) i = comb R c i + t * comb R d i := by
  induction R generalizing c d with
  | nil => simp [comb]
  | cons r R ih => simp only [comb]; rw [ih]; grind
theorem comb_zero (R : List (List Int)) (i : Nat) : comb R (fun _ => 0) i = 0 := by
  induction R with
  | nil => rfl
  | cons r R ih => simp only [comb]; rw [ih]; simp
theorem comb_cg (R : List (List Int)) {c d : Vc} (h : ∀ j, j < R.length → (65536 : Int) ∣ c j - d j) (i : Nat) : (65536 : Int) ∣ comb R c i - comb R d i := by
  induction R generalizing c d with
  | nil => exact ⟨0, by simp [comb]⟩
  | cons r R ih =>
    obtain ⟨k, hk⟩ := h 0 (by simp)
    obtain ⟨m, hm⟩ := ih (c := fun j => c (j + 1)) (d := fun j => d (j + 1)) fun j hj => h (j + 1) (by simpa using hj)
    exact ⟨k * fn r i + m, by simp only [comb]; grind⟩
theorem comb_unit (R : List (List Int)) (k : Nat) (hk : k < R.length) (i : Nat) : comb R (fun j => if j = k then 1 else 0) i = fn R[k] i := by
  induction R generalizing k with
  | nil => simp at hk
  | cons r R ih =>
    cases k with
    | zero =>
      have : (fun j : Nat => if j + 1 = 0 then (1 : Int) else 0) = fun _ => 0 := by funext j; simp
      simp only [comb]
      rw [this, comb_zero]
      simp
    | succ k =>
      have : (fun j : Nat => if j + 1 = k + 1 then (1 : Int) else 0) = fun j => if j = k then 1 else 0 := by funext j; simp
      simp only [comb]
      rw [this, ih k (by simpa using hk)]
      simp
theorem comb_sp (R : List (List Int)) (c : Vc) : Sp (GL R) (fun i => comb R c i) := by
  induction R generalizing c with
  | nil => exact Sp.zero
  | cons r R ih =>
    refine Sp.congr (fun i => ?_) (Sp.add (c 0) ⟨r, List.mem_cons_self, rfl⟩ (Sp.mono (fun g ⟨y, hy, e⟩ => .gen ⟨y, List.mem_cons_of_mem _ hy, e⟩) (ih fun j => c (j + 1))))
    simp only [comb]
    omega
/-- the rows with their numbers behind them -/
theorem fn_app (xs ys : List Int) (i : Nat) : fn (xs ++ ys) i = if i < xs.length then fn xs i else fn ys (i - xs.length) := by
  unfold fn
  rw [List.getD_eq_getElem?_getD, List.getD_eq_getElem?_getD, List.getD_eq_getElem?_getD]
  split
  · next c => rw [List.getElem?_append_left c]
  · next c => rw [List.getElem?_append_right (by omega)]
theorem fn_take (xs : List Int) (k i : Nat) : fn (xs.take k) i = if i < k then fn xs i else 0 := by
  unfold fn
  rw [List.getD_eq_getElem?_getD, List.getD_eq_getElem?_getD, List.getElem?_take]
  split <;> rfl
theorem fn_drop (xs : List Int) (k i : Nat) : fn (xs.drop k) i = fn xs (k + i) := by
  unfold fn
  rw [List.getD_eq_getElem?_getD, List.getD_eq_getElem?_getD, List.getElem?_drop]
def unitL (p m : Nat) : List Int := (List.range m).map fun i => if i = p then 1 else 0
theorem fn_unit (p m i : Nat) : fn (unitL p m) i = if i < m ∧ i = p then 1 else 0 := by
  unfold fn unitL
  rw [List.getD_eq_getElem?_getD, List.getElem?_map]
  rcases Nat.lt_or_ge i m with c | c
  · rw [List.getElem?_range c]
    by_cases e : i = p
    · subst e; simp [c]
    · simp [e]
  · rw [List.getElem?_eq_none (by simpa using c)]
    have : ¬ (i < m ∧ i = p) := by omega
    simp [this]
theorem row_unit (p m : Nat) : Row m (unitL p m) := row_of (by simp [unitL]) fun i _ => by rw [fn_unit]; split <;> decide
theorem row_app {w m : Nat} {xs ys : List Int} (hx : Row w xs) (hy : Row m ys) : Row (w + m) (xs ++ ys) := ⟨by rw [List.length_append, hx.1, hy.1], fun x h => by
  rcases List.mem_append.mp h with h | h
  · exact hx.2 x h
  · exact hy.2 x h⟩
def joinL (R : List (List Int)) (m : Nat) : List (List Int) := R.zipIdx.map fun p => p.1 ++ unitL p.2 m
theorem joinL_mem {R : List (List Int)} {m : Nat} {v : Vc} : GL (joinL R m) v ↔ ∃ k, ∃ h : k < R.length, v = fn (R[k] ++ unitL k m) := by
  unfold joinL GL
  constructor
  · rintro ⟨x, hx, rfl⟩
    obtain ⟨p, hp, rfl⟩ := List.mem_map.mp hx
    obtain ⟨a, k⟩ := p
    have := List.mem_zipIdx_iff_getElem?.mp hp
    obtain ⟨h1, h2⟩ := List.getElem?_eq_some_iff.mp this
    exact ⟨k, h1, by rw [← h2]⟩
  · rintro ⟨k, h, rfl⟩
    exact ⟨_, List.mem_map.mpr ⟨(R[k], k), List.mem_zipIdx_iff_getElem?.mpr (List.getElem?_eq_getElem h), rfl⟩, rfl⟩
section
variable {w m : Nat} {R : List (List Int)}
/-- what stands behind tells the sum in front -/
theorem join_comb (hR : ∀ r ∈ R, Row w r) (hm : R.length = m) {u : Vc} (s : Sp (GL (joinL R m)) u) : ∀ i, i < w → (65536 : Int) ∣ u i - comb R (fun j => u (w + j)) i := by
  induction s with
  | zero => intro i _; rw [comb_zero]; exact ⟨0, by simp⟩
  | @add g v c hg _ ih =>
    intro i hi
    obtain ⟨k, hk, rfl⟩ := joinL_mem.mp hg
    have rl := (hR R[k] (List.getElem_mem hk)).1
    obtain ⟨t, ht⟩ := ih i hi
    have e : comb R (fun j => v (w + j) + c * fn (R[k] ++ unitL k m) (w + j)) i = comb R (fun j => v (w + j)) i + c * fn R[k] i := by
      rw [comb_add R (fun j => v (w + j)) (fun j => fn (R[k] ++ unitL k m) (w + j)) c i]
      have z := comb_cg R (c := fun j => fn (R[k] ++ unitL k m) (w + j)) (d := fun j => if j = k then 1 else 0) (fun j hj => by
        rw [fn_app, if_neg (by omega), rl, show w + j - w = j by omega, fn_unit]
        by_cases e : j = k
        · subst e; rw [if_pos ⟨by omega, rfl⟩, if_pos rfl]; exact ⟨0, rfl⟩
        · rw [if_neg (by omega), if_neg e]; exact ⟨0, rfl⟩) i
      have z2 : (fun j => fn (R[k] ++ unitL k m) (w + j)) = fun j => if j = k then (1 : Int) else 0 := by
        funext j
        rw [fn_app, if_neg (by omega), rl, show w + j - w = j by omega, fn_unit]
        by_cases e : j = k
        · subst e; rw [if_pos ⟨by omega, rfl⟩, if_pos rfl]
        · rw [if_neg (by omega), if_neg e]
      rw [z2, comb_unit R k hk]
    refine ⟨t, ?_⟩
    rw [e]
    show v i + c * fn (R[k] ++ unitL k m) i - (comb R (fun j => v (w + j)) i + c * fn R[k] i) = 65536 * t
    rw [fn_app, if_pos (by omega)]
    grind
  | @cg a b h _ ih =>
    intro i hi
    obtain ⟨t, ht⟩ := ih i hi
    obtain ⟨k, hk⟩ := h i
    obtain ⟨q, hq⟩ := comb_cg R (c := fun j => a (w + j)) (d := fun j => b (w + j)) (fun j _ => h (w + j)) i
    exact ⟨t - k + q, by grind⟩
theorem join_lift (hR : ∀ r ∈ R, Row w r) {v : Vc} (s : Sp (GL R) v) : ∃ u, Sp (GL (joinL R m)) u ∧ ∀ i, i < w → (65536 : Int) ∣ u i - v i := by
  induction s with
  | zero => exact ⟨_, .zero, fun i _ => ⟨0, rfl⟩⟩
  | @add g v c hg _ ih =>
    obtain ⟨u, hu, h⟩ := ih
    obtain ⟨x, hx, rfl⟩ := hg
    obtain ⟨k, hk, rfl⟩ := List.getElem_of_mem hx
    refine ⟨_, Sp.add c (joinL_mem.mpr ⟨k, hk, rfl⟩) hu, fun i hi => ?_⟩
    obtain ⟨t, ht⟩ := h i hi
    rw [fn_app, if_pos (by rw [(hR R[k] hx).1]; exact hi)]
    exact ⟨t, by grind⟩
  | @cg a b h _ ih =>
    obtain ⟨u, hu, g⟩ := ih
    refine ⟨u, hu, fun i hi => ?_⟩
    obtain ⟨t, ht⟩ := g i hi
    obtain ⟨k, hk⟩ := h i
    exact ⟨t + k, by grind⟩
/-- what is left of the row itself, if it is in the span -/
theorem mult_ok (hR : ∀ r ∈ R, Row w r) (hm : R.length = m) {Q : List (List Int)} (hQ : HF (w + m) Q) (e : Eqv (GL Q) (GL (joinL R m))) {x y : List Int} (hx : Row w x) (sx : Sp (GL R) (fn x)) (ry : Row (w + m) y)
    (hy : ∀ i, i < w → (65536 : Int) ∣ fn y i + fn x i) (hy' : ∀ i, w ≤ i → fn y i = 0) : (∀ i, i < w → fn (restL y Q) i = 0) ∧ ∀ i, i < w → (65536 : Int) ∣ fn x i - comb R (fun j => fn (restL y Q) (w + j)) i := by
  obtain ⟨a, b, c, _⟩ := hQ.rest ry
  obtain ⟨u, hu, h⟩ := join_lift (m := m) hR sx
  -- left minus what has only 0 in front
  have s1 : Sp (GL Q) (fun i => fn (restL y Q) i - (if i < w then 0 else fn y i + u i)) := by
    refine Sp.cg (u := fun i => -1 * (fn y i - fn (restL y Q) i) + -1 * u i) (fun i => ?_) (Sp.lin (-1) (Sp.smul (-1) b) ((e u).mpr hu))
    by_cases ci : i < w
    · rw [if_pos ci]
      obtain ⟨k1, h1⟩ := hy i ci
      obtain ⟨k2, h2⟩ := h i ci
      exact ⟨-k1 - k2, by grind⟩
    · rw [if_neg ci]
      exact ⟨0, by grind⟩
  have z : ∀ i, i < w → fn (restL y Q) i = 0 := by
    intro i hi
    have := sp_zeroN hQ.bp.bas hQ.cl (Sp.mono (fun g hg => .gen ((hQ.gl g).mpr hg)) s1) w (fun j hj => by
      rw [if_pos hj]
      have := a.bd j; omega) (fun p r hp hF => by
      obtain ⟨hr, rfl⟩ := hQ.fl.mp hF
      rw [if_pos hp]
      have h1 := a.bd (leadN r)
      have h2 := c r hr
      have h3 := (hQ.piv r hr).2.pos
      omega) i hi
    rw [if_pos hi] at this
    omega
  refine ⟨z, fun i hi => ?_⟩
  obtain ⟨t, ht⟩ := join_comb hR hm ((e _).mp b) i hi
  obtain ⟨k, hk⟩ := hy i hi
  have e2 : comb R (fun j => fn y (w + j) - fn (restL y Q) (w + j)) i = -1 * comb R (fun j => fn (restL y Q) (w + j)) i := by
    have h0 : (fun j => fn y (w + j) - fn (restL y Q) (w + j)) = fun j => (fun _ => (0 : Int)) j + -1 * (fun j => fn (restL y Q) (w + j)) j := by
      funext j
      rw [hy' (w + j) (by omega)]
      grind
    rw [h0, comb_add, comb_zero]
    omega
  rw [e2, z i hi] at ht
  exact ⟨k - t, by grind⟩
end
end WP
namespace WP
/-! ### products of rows; equations -/
def dotN : Nat → Vc → Vc → Int
  | 0, _, _ => 0
  | n + 1, e, v => dotN n e v + e n * v n
theorem dotN_lin (n : Nat) (e u v : Vc) (c : Int) : dotN n e (fun i => u i + c * v i) = dotN n e u + c * dotN n e v := by
  induction n with
  | zero => simp [dotN]
  | succ n ih => simp only [dotN]; rw [ih]; grind
theorem dotN_zero (n : Nat) (e : Vc) : dotN n e (fun _ => 0) = 0 := by
  induction n with
  | zero => rfl
  | succ n ih => simp only [dotN]; rw [ih]; simp
theorem dotN_comm (n : Nat) (e v : Vc) : dotN n e v = dotN n v e := by
  induction n with
  | zero => rfl
  | succ n ih => simp only [dotN]; rw [ih, Int.mul_comm (e n)]
theorem dotN_cg {n : Nat} {e u v : Vc} (h : ∀ i, i < n → (65536 : Int) ∣ u i - v i) : (65536 : Int) ∣ dotN n e u - dotN n e v := by
  induction n with
  | zero => exact ⟨0, rfl⟩
  | succ n ih =>
    obtain ⟨k, hk⟩ := ih fun i hi => h i (by omega)
    obtain ⟨m, hm⟩ := h n (by omega)
    simp only [dotN]
    exact ⟨k + e n * m, by grind⟩
theorem dotN_ext {n : Nat} {e f u v : Vc} (h : ∀ i, i < n → e i * u i = f i * v i) : dotN n e u = dotN n f v := by
  induction n with
  | zero => rfl
  | succ n ih =>
    simp only [dotN]
    rw [ih fun i hi => h i (by omega), h n (by omega)]
/-- what gives 0 with all rows gives 0 with their span -/
theorem dot_sp {G : Vc → Prop} {n : Nat} {e v : Vc} (hg : ∀ g, G g → (65536 : Int) ∣ dotN n e g) (s : Sp G v) : (65536 : Int) ∣ dotN n e v := by
  induction s with
  | zero => rw [dotN_zero]; exact ⟨0, rfl⟩
  | @add g v c h _ ih =>
    rw [dotN_lin]
    obtain ⟨a, ha⟩ := ih
    obtain ⟨b, hb⟩ := hg g h
    exact ⟨a + c * b, by grind⟩
  | @cg u v h _ ih =>
    obtain ⟨a, ha⟩ := ih
    obtain ⟨b, hb⟩ := dotN_cg (n := n) (e := e) fun i _ => h i
    exact ⟨a - b, by grind⟩
def upf (e : Vc) (k : Nat) (c : Int) : Vc := fun i => if i = k then c else e i
theorem dot_upf {n k : Nat} (e v : Vc) (c : Int) (hk : k < n) (h0 : e k = 0) : dotN n (upf e k c) v = dotN n e v + c * v k := by
  induction n with
  | zero => omega
  | succ n ih =>
    simp only [dotN]
    by_cases q : k = n
    · subst q
      have : dotN k (upf e k c) v = dotN k e v := dotN_ext fun i hi => by unfold upf; rw [if_neg (by omega)]
      rw [this, h0]
      unfold upf
      rw [if_pos rfl]
      grind
    · rw [ih (by omega)]
      have : upf e k c n = e n := by unfold upf; rw [if_neg (by omega)]
      rw [this]
      grind
theorem dot_upf0 {n k : Nat} (e v : Vc) (c : Int) (hk : k < n) (h0 : e k = 0) (hv : v k = 0) : dotN n (upf e k c) v = dotN n e v := by
  rw [dot_upf e v c hk h0, hv]; omega
/-- what lies outside the span is told apart by an equation -/
theorem part_ex {w : Nat} {Q : List (List Int)} (hQ : HF w Q) {x : List Int} (hx : Row w x) (nx : ¬ Sp (GL Q) (fn x)) :
    ∃ e : Vc, (∀ r ∈ Q, (65536 : Int) ∣ dotN w e (fn r)) ∧ ¬ (65536 : Int) ∣ dotN w e (fn x) := by
  obtain ⟨a, b, c, _⟩ := hQ.rest hx
  obtain ⟨u, hu⟩ : ∃ u, u = restL x Q := ⟨_, rfl⟩
  rw [← hu] at a b c
  have nz : ¬ ∀ i, fn u i = 0 := fun z => nx ((hQ.rest_zero hx).mp (by rw [← hu]; exact z))
  obtain ⟨p, hp⟩ : ∃ p, p = leadN u := ⟨_, rfl⟩
  have pw : p < w := by
    have l1 := leadN_le u
    have l2 := leadN_zero (xs := u)
    rw [a.1] at l1 l2
    rcases Nat.lt_or_ge (leadN u) w with h | h
    · omega
    · exact absurd (l2.mp (by omega)) nz
  have up : fn u p ≠ 0 := by rw [hp]; exact leadN_at u (by rw [a.1, ← hp]; exact pw)
  have ul : ∀ i, i < p → fn u i = 0 := fun i hi => leadN_low u i (by omega)
  have ub := a.bd p
  -- the number at p
  obtain ⟨t, ht1, ht2⟩ : ∃ t : Int, (∀ r ∈ Q, leadN r = p → (65536 : Int) ∣ t * fn r p) ∧ ¬ (65536 : Int) ∣ t * fn u p := by
    by_cases ex : ∃ r ∈ Q, leadN r = p
    · obtain ⟨r, hr, er⟩ := ex
      have pv := (hQ.piv r hr).2
      rw [er] at pv
      obtain ⟨p1, p2, k, hk⟩ := pv.pos
      have cr := c r hr
      rw [er] at cr
      have e1 : 65536 / fn r p = k := by rw [hk]; exact Int.mul_ediv_cancel_left _ (by omega)
      refine ⟨k, fun r' hr' er' => ?_, fun d => ?_⟩
      · have : r' = r := pw_uniq hQ.asc r' hr' r hr (er'.trans er.symm)
        subst this
        exact ⟨1, by rw [Int.mul_comm, ← hk]; rfl⟩
      · have k0 : 0 < k := by
          rcases Int.lt_or_le 0 k with h | h
          · exact h
          · have : fn r p * k ≤ 0 := Int.mul_nonpos_of_nonneg_of_nonpos (by omega) h
            omega
        have h1 : 0 < k * fn u p := Int.mul_pos k0 (by omega)
        have h2 : k * fn u p < k * fn r p := Int.mul_lt_mul_of_pos_left cr k0
        have h3 : k * fn r p = 65536 := by rw [Int.mul_comm]; exact hk.symm
        have := small_dvd d (by decide) (by omega) (by omega)
        omega
    · refine ⟨1, fun r hr er => absurd ⟨r, hr, er⟩ ex, fun d => ?_⟩
      rw [Int.one_mul] at d
      have := small_dvd d (by decide) (by omega) (by omega)
      omega
  have key : ∀ j, j ≤ p → ∃ e : Vc, (∀ i, i < p - j → e i = 0) ∧ (∀ i, p < i → e i = 0) ∧ e p = t ∧ ∀ r ∈ Q, p - j ≤ leadN r → (65536 : Int) ∣ dotN w e (fn r) := by
    intro j
    induction j with
    | zero =>
      intro _
      refine ⟨upf (fun _ => 0) p t, fun i hi => ?_, fun i hi => ?_, ?_, fun r hr hl => ?_⟩
      · unfold upf; rw [if_neg (by omega)]
      · unfold upf; rw [if_neg (by omega)]
      · unfold upf; rw [if_pos rfl]
      · rw [dot_upf _ _ _ pw rfl]
        have z : dotN w (fun _ => 0) (fn r) = 0 := by rw [dotN_comm]; exact dotN_zero w _
        rw [z, Int.zero_add]
        rcases Nat.lt_or_ge p (leadN r) with h | h
        · rw [leadN_low r p h]; exact ⟨0, by simp⟩
        · exact ht1 r hr (by omega)
    | succ j ih =>
      intro hj
      obtain ⟨e, e1, e2, e3, e4⟩ := ih (by omega)
      obtain ⟨k, hk⟩ : ∃ k, k = p - (j + 1) := ⟨_, rfl⟩
      have kw : k < w := by omega
      have ek : e k = 0 := e1 k (by omega)
      by_cases ex : ∃ r ∈ Q, leadN r = k
      · obtain ⟨r, hr, er⟩ := ex
        have pv := (hQ.piv r hr).2
        rw [er] at pv
        obtain ⟨p1, p2, m, hm⟩ := pv.pos
        have em : 65536 / fn r k = m := by rw [hm]; exact Int.mul_ediv_cancel_left _ (by omega)
        -- the rows behind give a multiple of the lead
        have d1 : (65536 : Int) ∣ dotN w e (fun i => 65536 / fn r k * fn r i) := by
          refine dot_sp (G := Ge (FL Q) (k + 1)) (fun g hg => ?_) (hQ.cl k r (hQ.fl.mpr ⟨hr, er⟩))
          obtain ⟨r', h1, h2, rfl⟩ := hQ.ge.mp hg
          exact e4 r' h1 (by omega)
        rw [em] at d1
        have d2 : dotN w e (fun i => m * fn r i) = m * dotN w e (fn r) := by
          have := dotN_lin w e (fun _ => 0) (fn r) m
          rw [dotN_zero, Int.zero_add] at this
          rw [← this]
          congr 1
          funext i
          omega
        rw [d2] at d1
        obtain ⟨q, hq⟩ := d1
        have m0 : m ≠ 0 := fun z => by rw [z] at hm; simp at hm
        have d3 : dotN w e (fn r) = fn r k * q := by
          have : m * dotN w e (fn r) = m * (fn r k * q) := by rw [hq, hm]; grind
          exact Int.eq_of_mul_eq_mul_left m0 this
        refine ⟨upf e k (-q), fun i hi => ?_, fun i hi => ?_, ?_, fun r' hr' hl => ?_⟩
        · unfold upf; rw [if_neg (by omega)]; exact e1 i (by omega)
        · unfold upf; rw [if_neg (by omega)]; exact e2 i hi
        · unfold upf; rw [if_neg (by omega)]; exact e3
        · rw [dot_upf _ _ _ kw ek]
          rcases Nat.lt_or_ge k (leadN r') with h | h
          · rw [leadN_low r' k h]
            obtain ⟨z, hz⟩ := e4 r' hr' (by omega)
            exact ⟨z, by omega⟩
          · have : r' = r := pw_uniq hQ.asc r' hr' r hr (by omega)
            subst this
            rw [d3]
            exact ⟨0, by grind⟩
      · refine ⟨e, fun i hi => e1 i (by omega), e2, e3, fun r' hr' hl => e4 r' hr' ?_⟩
        have : leadN r' ≠ k := fun h => ex ⟨r', hr', h⟩
        omega
  obtain ⟨e, e1, e2, e3, e4⟩ := key p (Nat.le_refl p)
  refine ⟨e, fun r hr => e4 r hr (by omega), fun d => ht2 ?_⟩
  have du : dotN w e (fn u) = t * fn u p := by
    have h1 : dotN w e (fn u) = dotN w (upf (fun _ => 0) p t) (fn u) := dotN_ext fun i hi => by
      unfold upf
      by_cases q : i = p
      · rw [if_pos q, q, e3]
      · rw [if_neg q]
        rcases Nat.lt_or_ge i p with h | h
        · rw [ul i h]; omega
        · rw [e2 i (by omega)]
    rw [h1, dot_upf _ _ _ pw rfl]
    have z : dotN w (fun _ => 0) (fn u) = 0 := by rw [dotN_comm]; exact dotN_zero w _
    rw [z, Int.zero_add]
  rw [← du]
  have s := dot_sp (n := w) (e := e) (G := GL Q) (fun g hg => by
    obtain ⟨r, hr, rfl⟩ := hg
    exact e4 r hr (by omega)) b
  have lin := dotN_lin w e (fn x) (fn u) (-1)
  have eq : (fun i => fn x i + -1 * fn u i) = fun i => fn x i - fn u i := by funext i; omega
  rw [eq] at lin
  rw [lin] at s
  obtain ⟨k1, h1⟩ := s
  obtain ⟨k2, h2⟩ := d
  exact ⟨k2 - k1, by omega⟩
end WP
namespace WP
theorem comb_snoc (R : List (List Int)) (r : List Int) (c : Nat → Int) (i : Nat) : comb (R ++ [r]) c i = comb R c i + c R.length * fn r i := by
  induction R generalizing c with
  | nil => simp [comb]
  | cons x R ih =>
    simp only [List.cons_append, comb, List.length_cons]
    rw [ih]
    omega
def colL (R : List (List Int)) (p : Nat) : List Int := R.map fun r => fn r p
def cols (R : List (List Int)) (w : Nat) : List (List Int) := (List.range w).map (colL R)
theorem cols_succ (R : List (List Int)) (w : Nat) : cols R (w + 1) = cols R w ++ [colL R w] := by
  unfold cols
  rw [List.range_succ, List.map_append]
  rfl
theorem cols_len (R : List (List Int)) (w : Nat) : (cols R w).length = w := by simp [cols]
theorem fn_col (R : List (List Int)) (p i : Nat) (hi : i < R.length) : fn (colL R p) i = fn R[i] p := by
  rw [fn_at (by simp [colL]; exact hi)]
  simp [colL]
theorem comb_cols (R : List (List Int)) (w : Nat) (e : Vc) (i : Nat) (hi : i < R.length) : comb (cols R w) e i = dotN w e (fn R[i]) := by
  induction w with
  | zero => rfl
  | succ w ih =>
    rw [cols_succ, comb_snoc, ih, cols_len, fn_col R w i hi]
    rfl
theorem row_col {w : Nat} {R : List (List Int)} (hR : ∀ r ∈ R, Row w r) (p : Nat) : Row R.length (colL R p) := by
  refine ⟨by simp [colL], fun x hx => ?_⟩
  obtain ⟨r, hr, rfl⟩ := List.mem_map.mp hx
  exact (hR r hr).bd p
theorem joinL_snoc (R : List (List Int)) (r : List Int) (m : Nat) : joinL (R ++ [r]) m = joinL R m ++ [r ++ unitL R.length m] := by
  unfold joinL
  rw [List.zipIdx_append, List.map_append]
  simp
theorem joinL_len (R : List (List Int)) (m : Nat) : (joinL R m).length = R.length := by simp [joinL]
theorem snoc_ind {α : Type} {P : List α → Prop} (h0 : P []) (h1 : ∀ l a, P l → P (l ++ [a])) (l : List α) : P l := by
  have key : ∀ l : List α, P l.reverse := fun l => by
    induction l with
    | nil => exact h0
    | cons a l ih => rw [List.reverse_cons]; exact h1 _ _ ih
  have := key l.reverse
  rwa [List.reverse_reverse] at this
/-- a sum of rows with their units behind -/
theorem comb_join {k : Nat} : ∀ (R : List (List Int)) (m : Nat) (e : Vc) (i : Nat), (∀ r ∈ R, r.length = k) → comb (joinL R m) e i = if i < k then comb R e i else if i - k < m ∧ i - k < R.length then e (i - k) else 0 := by
  intro R
  refine snoc_ind (P := fun R => ∀ (m : Nat) (e : Vc) (i : Nat), (∀ r ∈ R, r.length = k) → comb (joinL R m) e i = if i < k then comb R e i else if i - k < m ∧ i - k < R.length then e (i - k) else 0) ?_ ?_ R
  · intro m e i _; simp [joinL, comb]
  · intro R r ih m e i h
    rw [joinL_snoc, comb_snoc, ih m e i fun r hr => h r (by simp [hr]), joinL_len, fn_app, h r (by simp), fn_unit, comb_snoc, List.length_append, List.length_singleton]
    by_cases c : i < k
    · rw [if_pos c, if_pos c, if_pos c]
    · rw [if_neg c, if_neg c, if_neg c]
      by_cases c1 : i - k = R.length
      · by_cases c2 : i - k < m
        · rw [if_neg (by omega), if_pos ⟨c2, c1⟩, if_pos (by omega), c1]; omega
        · rw [if_neg (by omega), if_neg (by omega), if_neg (by omega)]; omega
      · rw [if_neg (show ¬ (i - k < m ∧ i - k = R.length) by omega)]
        by_cases c2 : i - k < m ∧ i - k < R.length
        · rw [if_pos c2, if_pos (by omega)]; omega
        · rw [if_neg c2, if_neg (by omega)]; omega
theorem sp_shift {G G' : Vc → Prop} (m : Nat) {v : Vc} (hg : ∀ g, G g → Sp G' (fun i => g (m + i))) (s : Sp G v) : Sp G' (fun i => v (m + i)) := by
  induction s with
  | zero => exact .zero
  | @add g v c h _ ih => exact Sp.lin c ih (hg g h)
  | @cg u v h _ ih => exact Sp.cg (fun i => h (m + i)) ih
def tailsL (P : List (List Int)) (m : Nat) : List (List Int) := (P.filter fun r => decide (m ≤ leadN r)).map (List.drop m)
section
variable {w m : Nat} {P : List (List Int)}
theorem drop_zero {r : List Int} (h : m ≤ leadN r) : ∀ i, i < m → fn r i = 0 := fun i hi => leadN_low r i (by omega)
theorem tails_mem {y : List Int} (h : y ∈ tailsL P m) : ∃ r ∈ P, m ≤ leadN r ∧ y = r.drop m := by
  obtain ⟨r, hr, rfl⟩ := List.mem_map.mp h
  obtain ⟨h1, h2⟩ := List.mem_filter.mp hr
  exact ⟨r, h1, by simpa using h2, rfl⟩
theorem mem_tails {r : List Int} (h : r ∈ P) (hm : m ≤ leadN r) : r.drop m ∈ tailsL P m := List.mem_map.mpr ⟨r, List.mem_filter.mpr ⟨h, by simpa using hm⟩, rfl⟩
theorem row_drop {r : List Int} (h : Row (m + w) r) : Row w (r.drop m) := ⟨by rw [List.length_drop, h.1]; omega, fun x hx => h.2 x (List.mem_of_mem_drop hx)⟩
theorem lead_drop {r : List Int} (h : Row (m + w) r) (hl : m ≤ leadN r) (hw : leadN r < m + w) : leadN (r.drop m) = leadN r - m := by
  refine leadN_eq (fun i hi => ?_) (by rw [List.length_drop, h.1]; omega) ?_
  · rw [fn_drop]; exact leadN_low r _ (by omega)
  · rw [fn_drop, show m + (leadN r - m) = leadN r by omega]
    exact leadN_at r (by rw [h.1]; exact hw)
/-- what of a form begins behind, without what stands in front: a form, too -/
theorem HF.tails (hP : HF (m + w) P) : HF w (tailsL P m) := by
  have gt : ∀ g, Ge (FL P) m g → Sp (GL (tailsL P m)) (fun i => g (m + i)) := fun g hg => by
    obtain ⟨r, h1, h2, rfl⟩ := hP.ge.mp hg
    refine .gen ⟨r.drop m, mem_tails h1 h2, ?_⟩
    funext i
    rw [fn_drop]
  refine ⟨fun y hy => ?_, fun y hy => ?_, ?_, ?_, fun y hy => ?_⟩
  · obtain ⟨r, h1, h2, rfl⟩ := tails_mem hy
    exact row_drop (hP.row r h1)
  · obtain ⟨r, h1, h2, rfl⟩ := tails_mem hy
    obtain ⟨p1, p2⟩ := hP.piv r h1
    rw [lead_drop (hP.row r h1) h2 p1, fn_drop, show m + (leadN r - m) = leadN r by omega]
    exact ⟨by omega, p2⟩
  · refine List.pairwise_map.mpr (List.Pairwise.imp_of_mem (fun {a b} ha hb h => ?_) (List.Pairwise.filter _ hP.asc))
    obtain ⟨a1, a2⟩ := List.mem_filter.mp ha
    obtain ⟨b1, b2⟩ := List.mem_filter.mp hb
    have a2 : m ≤ leadN a := by simpa using a2
    have b2 : m ≤ leadN b := by simpa using b2
    rw [lead_drop (hP.row a a1) a2 (hP.piv a a1).1, lead_drop (hP.row b b1) b2 (hP.piv b b1).1]
    omega
  · refine List.pairwise_map.mpr (List.Pairwise.imp_of_mem (fun {a b} ha hb h => ?_) (List.Pairwise.filter _ hP.red))
    obtain ⟨b1, b2⟩ := List.mem_filter.mp hb
    have b2 : m ≤ leadN b := by simpa using b2
    rw [lead_drop (hP.row b b1) b2 (hP.piv b b1).1, fn_drop, fn_drop, show m + (leadN b - m) = leadN b by omega]
    exact h
  · obtain ⟨r, h1, h2, rfl⟩ := tails_mem hy
    have p1 := (hP.piv r h1).1
    rw [lead_drop (hP.row r h1) h2 p1, fn_drop, show m + (leadN r - m) = leadN r by omega]
    refine (sp_shift (G' := fun v => ∃ s ∈ tailsL P m, leadN r - m < leadN s ∧ v = fn s) m (fun g hg => ?_) (hP.clo r h1)).congr fun i => by rw [fn_drop]
    obtain ⟨s, q1, q2, rfl⟩ := hg
    refine .gen ⟨s.drop m, mem_tails q1 (by omega), ?_, ?_⟩
    · rw [lead_drop (hP.row s q1) (by omega) (hP.piv s q1).1]; omega
    · funext i
      rw [fn_drop]
/-- all equations are sums of the told ones -/
theorem eqs_all {R : List (List Int)} (hR : ∀ r ∈ R, Row w r) (hm : R.length = m) (hP : HF (m + w) P) (q : Eqv (GL P) (GL (joinL (cols R w) w))) {e : Vc} (he : ∀ r ∈ R, (65536 : Int) ∣ dotN w e (fn r)) :
    Sp (GL (tailsL P m)) (fun i => if i < w then e i else 0) := by
  have cl : ∀ r ∈ cols R w, r.length = m := fun r hr => by
    obtain ⟨p, _, rfl⟩ := List.mem_map.mp hr
    simp [colL, hm]
  have s1 : Sp (GL (joinL (cols R w) w)) (fun i => if i < m then 0 else if i - m < w then e (i - m) else 0) := by
    refine Sp.cg (u := fun i => comb (joinL (cols R w) w) e i) (fun i => ?_) (comb_sp _ e)
    rw [comb_join (k := m) _ w e i cl, cols_len]
    by_cases c : i < m
    · rw [if_pos c, if_pos c, comb_cols R w e i (by omega)]
      obtain ⟨k, hk⟩ := he R[i] (List.getElem_mem (by omega))
      exact ⟨k, by omega⟩
    · rw [if_neg c, if_neg c]
      by_cases c2 : i - m < w
      · rw [if_pos ⟨c2, c2⟩, if_pos c2]; exact ⟨0, by omega⟩
      · rw [if_neg (by omega), if_neg c2]; exact ⟨0, rfl⟩
  have s2 : Sp (Ge (FL P) 0) (fun i => if i < m then 0 else if i - m < w then e (i - m) else 0) := Sp.mono (fun g hg => .gen ((hP.gl g).mpr hg)) ((q _).mpr s1)
  have s3 := sp_from hP.bp.bas hP.cl m s2 fun i hi => by rw [if_pos hi]; exact ⟨0, rfl⟩
  refine (sp_shift (G' := GL (tailsL P m)) m (fun g hg => ?_) s3).congr fun i => ?_
  · obtain ⟨r, h1, h2, rfl⟩ := hP.ge.mp hg
    refine .gen ⟨r.drop m, mem_tails h1 h2, ?_⟩
    funext i
    rw [fn_drop]
  · rw [if_neg (by omega), show m + i - m = i by omega]
/-- each told equation holds for the rows -/
theorem eqs_hold {R : List (List Int)} (hR : ∀ r ∈ R, Row w r) (hm : R.length = m) (q : Eqv (GL P) (GL (joinL (cols R w) w))) {y : List Int} (hy : y ∈ tailsL P m) : ∀ r ∈ R, (65536 : Int) ∣ dotN w (fn y) (fn r) := by
  intro r hr
  obtain ⟨i, hi, rfl⟩ := List.getElem_of_mem hr
  obtain ⟨p, h1, h2, rfl⟩ := tails_mem hy
  have rc : ∀ c ∈ cols R w, Row m c := fun c hc => by
    obtain ⟨p, _, rfl⟩ := List.mem_map.mp hc
    rw [← hm]
    exact row_col hR p
  have s := join_comb (m := w) rc (cols_len R w) ((q _).mp (.gen ⟨p, h1, rfl⟩)) i (by omega)
  rw [leadN_low p i (by omega), comb_cols R w _ i (by omega)] at s
  have : (fun j => fn p (m + j)) = fn (p.drop m) := by funext j; rw [fn_drop]
  rw [this] at s
  obtain ⟨k, hk⟩ := s
  exact ⟨-k, by omega⟩
/-- a row is in the span just if all told equations hold for it -/
theorem eqs_iff {R Q : List (List Int)} (hR : ∀ r ∈ R, Row w r) (hm : R.length = m) (hP : HF (m + w) P) (q : Eqv (GL P) (GL (joinL (cols R w) w))) (hQ : HF w Q) (q' : Eqv (GL Q) (GL R)) {x : List Int} (hx : Row w x) :
    (∀ y ∈ tailsL P m, (65536 : Int) ∣ dotN w (fn y) (fn x)) ↔ Sp (GL R) (fn x) := by
  constructor
  · intro h
    refine Classical.byContradiction fun nx => ?_
    obtain ⟨e, e1, e2⟩ := part_ex hQ hx (fun s => nx ((q' _).mp s))
    have e3 : ∀ r ∈ R, (65536 : Int) ∣ dotN w e (fn r) := fun r hr => dot_sp (G := GL Q) (fun g hg => by
      obtain ⟨s, hs, rfl⟩ := hg
      exact e1 s hs) ((q' _).mpr (.gen ⟨r, hr, rfl⟩))
    have s := eqs_all hR hm hP q e3
    have d := dot_sp (n := w) (e := fn x) (G := GL (tailsL P m)) (fun g hg => by
      obtain ⟨y, hy, rfl⟩ := hg
      rw [dotN_comm]
      exact h y hy) s
    refine e2 ?_
    rw [dotN_comm]
    have : dotN w (fn x) (fun i => if i < w then e i else 0) = dotN w (fn x) e := dotN_ext fun i hi => by rw [if_pos hi]
    rwa [this] at d
  · intro s y hy
    exact dot_sp (G := GL R) (fun g hg => by
      obtain ⟨r, hr, rfl⟩ := hg
      exact eqs_hold hR hm q hy r hr) s
/-- the multipliers of a row outside the span: what is left in front is not 0 -/
theorem mult_none {R Q : List (List Int)} (hR : ∀ r ∈ R, Row w r) (hm : R.length = m) (hQ : HF (w + m) Q) (e : Eqv (GL Q) (GL (joinL R m))) {x y : List Int} (hx : Row w x) (ry : Row (w + m) y)
    (hy : ∀ i, i < w → (65536 : Int) ∣ fn y i + fn x i) (z : ∀ i, i < w → fn (restL y Q) i = 0) : Sp (GL R) (fn x) := by
  obtain ⟨a, b, c, _⟩ := hQ.rest ry
  have s := join_comb hR hm ((e _).mp b)
  refine Sp.cg (u := fun i => if i < w then -1 * comb R (fun j => fn y (w + j) - fn (restL y Q) (w + j)) i else 0) (fun i => ?_) ?_
  · by_cases ci : i < w
    · rw [if_pos ci]
      obtain ⟨k1, h1⟩ := s i ci
      obtain ⟨k2, h2⟩ := hy i ci
      have h1 : fn y i - fn (restL y Q) i - comb R (fun j => fn y (w + j) - fn (restL y Q) (w + j)) i = 65536 * k1 := h1
      rw [z i ci] at h1
      exact ⟨k1 - k2, by omega⟩
    · rw [if_neg ci, fn_out (by rw [hx.1]; omega)]; exact ⟨0, rfl⟩
  · refine (Sp.smul (-1) (comb_sp R (fun j => fn y (w + j) - fn (restL y Q) (w + j)))).congr fun i => ?_
    by_cases ci : i < w
    · rw [if_pos ci]
    · rw [if_neg ci]
      have : ∀ (R : List (List Int)) (c : Vc), (∀ r ∈ R, Row w r) → comb R c i = 0 := fun R => by
        induction R with
        | nil => intro c _; rfl
        | cons r R ih =>
          intro c h
          show c 0 * fn r i + comb R (fun j => c (j + 1)) i = 0
          rw [ih _ fun x hx => h x (List.mem_cons_of_mem _ hx), fn_out (by rw [(h r List.mem_cons_self).1]; omega)]
          omega
      rw [this R _ hR]
      rfl
end
end WP
namespace WP
open PySem PI
theorem cal_fn (pg : Pg) (n i : Nat) (xs : List D) (h : Hs) : (cal pg n).fn i xs h = callI pg n i xs h := rfl
theorem cal_con {pg : Pg} {n i : Nat} {p : Str × D} (h : pg.con[i]? = some p) : (cal pg n).con[i]? = some p.2 := by
  show (pg.con.map (·.2))[i]? = _
  rw [List.getElem?_map, h]; rfl
theorem bind_ok {α β : Type} (a : α) (h : Hs) (f : α → Hs → R β) : R.bind (.ok a h) f = f a h := Eq.trans rfl rfl
theorem bind_ex {α β : Type} (c : Nat) (h : Hs) (f : α → Hs → R β) : R.bind (.ex c h) f = .ex c h := rfl
theorem ok_if {p : Prop} [Decidable p] {α : Type} {a : α} {h : Hs} (hp : p) : (if p then R.ok a h else .no) = .ok a h := if_pos hp
/-- a for loop, by an invariant on the frame and heap; the loop's list split -/
theorem forLoop_go {f : D → Fr → Hs → R Out} {g : Hs → Bool} (Pv : List D → List D → Fr → Hs → Prop) {Q : R Out → Prop}
    (hg : ∀ done rest δ h, Pv done rest δ h → g h = true)
    (hs : ∀ done x rest δ h, Pv done (x :: rest) δ h → (∃ δ' h', (f x δ h = .ok (.nx δ') h' ∨ f x δ h = .ok (.ct δ') h') ∧ Pv (done ++ [x]) rest δ' h') ∨ (∃ δ' h', f x δ h = .ok (.bk δ') h' ∧ Q (.ok (.nx δ') h')) ∨ (∃ d h', f x δ h = .ok (.rt d) h' ∧ Q (.ok (.rt d) h')))
    (hd : ∀ done δ h, Pv done [] δ h → Q (.ok (.nx δ) h)) : ∀ (rest done : List D) (δ : Fr) (h : Hs), Pv done rest δ h → Q (forLoop f g rest δ h)
  | [], done, δ, h, p => by
    unfold forLoop
    rw [if_pos (hg _ _ _ _ p)]
    exact hd _ _ _ p
  | x :: r, done, δ, h, p => by
    unfold forLoop
    rw [if_pos (hg _ _ _ _ p)]
    rcases hs done x r δ h p with ⟨δ', h', (e | e), q⟩ | ⟨δ', h', e, q⟩ | ⟨d, h', e, q⟩
    · rw [e]
      exact forLoop_go Pv hg hs hd r _ δ' h' q
    · rw [e]
      exact forLoop_go Pv hg hs hd r _ δ' h' q
    · rw [e]
      exact q
    · rw [e]
      exact q
/-- a comprehension whose turns leave the heap -/
theorem compLoop_pure {f : D → Hs → R (Option D)} {g : Hs → Bool} {h : Hs} (hg : g h = true) (F : D → Option D) : ∀ (xs : List D), (∀ x ∈ xs, f x h = .ok (F x) h) → compLoop f g xs h = .ok (xs.filterMap F) h
  | [], _ => by
    unfold compLoop
    rw [if_pos hg]
    rfl
  | x :: r, hf => by
    unfold compLoop
    rw [if_pos hg, hf x List.mem_cons_self]
    simp only
    rw [compLoop_pure hg F r fun y hy => hf y (List.mem_cons_of_mem _ hy)]
    simp only [List.filterMap_cons]
    cases F x <;> rfl
theorem loopR_pure {f : D → Hs → R (Option D)} {J : IT} {h : Hs} (hl : J.items.length < LIM) (hg : gOk J.gs h = true) (F : D → Option D) (hf : ∀ x ∈ J.items, f x h = .ok (F x) h) : loopR f J h = .ok (J.items.filterMap F) h := by
  unfold loopR
  rw [if_pos hl]
  exact compLoop_pure hg F _ hf
theorem gOk_nil {h : Hs} : gOk [] h = true := rfl
/-! ### simple values -/
abbrev I (i : Int) : D := .int i
def ri (xs : List Int) : List D := xs.map D.int
/-- a tuple of ints -/
def TI (b : Bool) (xs : List Int) : D := .tup b (ri xs)
theorem seqD_TI {h : Hs} {b : Bool} {xs : List Int} : seqD h (TI b xs) = some (ri xs) := rfl
theorem ri_len (xs : List Int) : (ri xs).length = xs.length := List.length_map _
theorem len_TI {b : Bool} {xs : List Int} {h : Hs} : biD .len [TI b xs] h = .ok (.int xs.length) h := by
  show R.ok (D.int ((ri xs).length : Nat)) h = _
  rw [ri_len]
theorem atI_nat {α : Type} {xs : List α} {i : Nat} (h : i < xs.length) : L2.atI xs (i : Int) = some xs[i] := by
  unfold L2.atI L2.ixN
  rw [if_pos (by omega)]
  simp [h]
theorem ix_tup {b : Bool} {xs : List D} {i : Nat} {h : Hs} (hi : i < xs.length) : ixD (.tup b xs) (.int i) h = .ok xs[i] h := by
  show ixQ (some xs) i h = _
  unfold ixQ
  simp only
  rw [atI_nat hi]
theorem ix_TI {b : Bool} {xs : List Int} {i : Nat} {h : Hs} (hi : i < xs.length) : ixD (TI b xs) (.int i) h = .ok (.int (fn xs i)) h := by
  unfold TI
  rw [ix_tup (by rw [ri_len]; exact hi)]
  simp [ri, fn_at hi]
theorem mulOk_l {i j : Int} (hj : -(2 ^ 64) < i) (hj2 : i < 2 ^ 64) : mulOk i j = true := by
  unfold mulOk
  rw [show decide (-(2 ^ 64) < i) = true from decide_eq_true hj, show decide (i < 2 ^ 64) = true from decide_eq_true hj2]
  simp
end WP
namespace WP
open PySem PI
theorem lit0 (h : Hs) : litR [] h = .ok [] h := rfl
theorem lit1 (a : D) (h : Hs) : litR [a] h = .ok [a] h := rfl
theorem lit2 (a b : D) (h : Hs) : litR [a, b] h = .ok [a, b] h := rfl
theorem iteK_t {α : Type} (k k' : Hs → R α) (h : Hs) : iteK k k' true h = k h := rfl
theorem iteK_f {α : Type} (k k' : Hs → R α) (h : Hs) : iteK k k' false h = k' h := rfl
theorem outR_rt (d : D) (h : Hs) : outR (.ok (.rt d) h) = .ok d h := rfl
theorem outR_nx (δ : Fr) (h : Hs) : outR (.ok (.nx δ) h) = .ok .non h := rfl
theorem outR_ex (c : Nat) (h : Hs) : outR (.ex c h) = .ex c h := rfl
theorem bindK_some {α : Type} (k : Fr → Hs → R α) (δ : Fr) (h : Hs) : bindK k (some δ) h = k δ h := rfl
theorem tgo (i : Nat) (d : D) (δ : Fr) : bindTg (.one i) d δ = if i < δ.length then some (δ.set i (some d)) else none := rfl
theorem tgt (i j : Nat) (b : Bool) (x y : D) (δ : Fr) : bindTg (.two i j) (.tup b [x, y]) δ = if i < δ.length ∧ j < δ.length then some ((δ.set i (some x)).set j (some y)) else none := rfl
theorem tg1 {i : Nat} {d : D} {δ : Fr} (h : i < δ.length) : bindTg (.one i) d δ = some (δ.set i (some d)) := if_pos h
theorem tg2 {i j : Nat} {b : Bool} {x y : D} {δ : Fr} (h : i < δ.length ∧ j < δ.length) : bindTg (.two i j) (.tup b [x, y]) δ = some ((δ.set i (some x)).set j (some y)) := if_pos h
theorem isT_int (i : Int) (h : Hs) : isTD .int (tyD h (.int i)) h = .ok (.bl true) h := rfl
theorem isT_bool (i : Int) (h : Hs) : isTD .bool (tyD h (.int i)) h = .ok (.bl false) h := rfl
theorem isT_tup (b : Bool) (xs : List D) (h : Hs) : isTD .tuple (tyD h (.tup b xs)) h = .ok (.bl true) h := rfl
theorem andK_t (k : Hs → R D) (h : Hs) : andK k (.bl true) h = k h := rfl
theorem andK_f (k : Hs → R D) (h : Hs) : andK k (.bl false) h = .ok (.bl false) h := rfl
theorem notR_b (b : Bool) (h : Hs) : notR (.bl b) h = .ok (.bl (!b)) h := rfl
theorem truR_b (b : Bool) (h : Hs) : truR (.bl b) h = .ok b h := rfl
theorem eqD_int (i j : Int) (h : Hs) : eqD (.int i) (.int j) h = some (decide (i = j)) := by
  show (if (SeqAt.shaped (.int i) && SeqAt.shaped (.int j)) = true then some (PyData.eqv (.int i) (.int j)) else none) = _
  have a : ∀ i, SeqAt.shaped (.int i) = true := fun i => by
    show (PyData.canLay0 (.int i) && decide (PyData.depth (.int i) ≤ 64)) = true
    rfl
  rw [a, a]
  simp only [Bool.and_self, if_true]
  congr 1
theorem cmp_eq (i j : Int) (h : Hs) : cmpD .eq (.int i) (.int j) h = .ok (.bl (decide (i = j))) h := by
  show R.ofB (eqD (.int i) (.int j) h) h = _
  rw [eqD_int]
  rfl
theorem cmp_ne (i j : Int) (h : Hs) : cmpD .ne (.int i) (.int j) h = .ok (.bl (decide (i ≠ j))) h := by
  show R.ofB ((eqD (.int i) (.int j) h).map (!·)) h = _
  rw [eqD_int]
  show R.ok (D.bl (!decide (i = j))) h = _
  by_cases c : i = j <;> simp [c]
theorem cmp_lt (i j : Int) (h : Hs) : cmpD .lt (.int i) (.int j) h = .ok (.bl (decide (i < j))) h := rfl
theorem cmp_le (i j : Int) (h : Hs) : cmpD .le (.int i) (.int j) h = .ok (.bl (decide (i ≤ j))) h := rfl
theorem cmp_gt (i j : Int) (h : Hs) : cmpD .gt (.int i) (.int j) h = .ok (.bl (decide (j < i))) h := rfl
theorem cmp_ge (i j : Int) (h : Hs) : cmpD .ge (.int i) (.int j) h = .ok (.bl (decide (j ≤ i))) h := rfl
theorem itOf_tup (b : Bool) (xs : List D) (h : Hs) : itOf (.tup b xs) h = .ok ⟨xs, []⟩ h := rfl
theorem itEnum_tup (b : Bool) (xs : List D) (h : Hs) : itEnum (.tup b xs) h = .ok ⟨xs.zipIdx.map fun p => .tup false [.int p.2, p.1], []⟩ h := rfl
theorem itZip_tup (b c : Bool) (xs ys : List D) (h : Hs) : itZip (.tup b xs) (.tup c ys) h = .ok ⟨(xs.zip ys).map fun p => .tup false [p.1, p.2], []⟩ h := rfl
theorem blD_tuple (xs : List D) (h : Hs) : blD .tuple xs h = .ok (.tup false xs) h := rfl
theorem blD_all (bs : List Bool) (h : Hs) : blD .all (bs.map D.bl) h = .ok (.bl (bs.all id)) h := by
  have : ∀ bs : List Bool, bools? (bs.map D.bl) = some bs := fun bs => by
    induction bs with
    | nil => rfl
    | cons b r ih =>
      show (bools? (r.map D.bl)).map (b :: ·) = _
      rw [ih]; rfl
  show (match bools? (bs.map D.bl) with | some bs => R.ok (D.bl (bs.all id)) h | none => .no) = _
  rw [this]
theorem mod_pos (i : Int) {j : Int} (h : Hs) (hj : 0 < j) : binD .mod (.int i) (.int j) h = .ok (.int (i % j)) h := if_pos hj
theorem div_pos (i : Int) {j : Int} (h : Hs) (hj : 0 < j) (hk : j.natAbs.log2 < 9000) : binD .div (.int i) (.int j) h = .ok (.int (i / j)) h := if_pos ⟨hj, hk⟩
theorem mul_ok {i j : Int} (h : Hs) (m : mulOk i j = true) : binD .mul (.int i) (.int j) h = .ok (.int (i * j)) h := if_pos m
theorem add_ok (i j : Int) (h : Hs) : binD .add (.int i) (.int j) h = .ok (.int (i + j)) h := rfl
theorem sub_ok (i j : Int) (h : Hs) : binD .sub (.int i) (.int j) h = .ok (.int (i - j)) h := rfl
theorem neg_ok (i : Int) (h : Hs) : negR (.int i) h = .ok (.int (-i)) h := rfl
theorem log2_small {j : Int} (h0 : 0 < j) (h1 : j < 2 ^ 64) : j.natAbs.log2 < 9000 := Nat.lt_of_lt_of_le (log2_lt (k := 64) (by omega) (by decide)) (by decide)
theorem len_tup (b : Bool) (xs : List D) (h : Hs) : biD .len [.tup b xs] h = .ok (.int xs.length) h := rfl
theorem fmap_some {α β : Type} (f : α → β) (xs : List α) : xs.filterMap (fun x => some (f x)) = xs.map f := by
  induction xs with
  | nil => rfl
  | cons x r ih => simp [ih]
end WP
namespace WP
open PySem PI
/-! ### while -/
theorem while_go {t : Fr → Hs → R Bool} {b : Fr → Hs → R Out} (Iv : Nat → Fr → Hs → Prop) {Q : R Out → Prop}
    (step : ∀ m δ h, Iv m δ h → (∃ h1, t δ h = .ok false h1 ∧ Q (.ok (.nx δ) h1)) ∨ ∃ h1, t δ h = .ok true h1 ∧
      ((∃ δ' h' m', m' < m ∧ (b δ h1 = .ok (.nx δ') h' ∨ b δ h1 = .ok (.ct δ') h') ∧ Iv m' δ' h') ∨ (∃ δ' h', b δ h1 = .ok (.bk δ') h' ∧ Q (.ok (.nx δ') h')) ∨ ∃ d h', b δ h1 = .ok (.rt d) h' ∧ Q (.ok (.rt d) h'))) :
    ∀ (fuel m : Nat) (δ : Fr) (h : Hs), m < fuel → Iv m δ h → Q (whileLoop t b fuel δ h)
  | 0, m, δ, h, hm, _ => absurd hm (Nat.not_lt_zero _)
  | fuel + 1, m, δ, h, hm, iv => by
    unfold whileLoop
    rcases step m δ h iv with ⟨h1, e, q⟩ | ⟨h1, e, q⟩
    · rw [e]
      exact q
    · rw [e]
      rcases q with ⟨δ', h', m', hl, e2 | e2, iv'⟩ | ⟨δ', h', e2, q⟩ | ⟨d, h', e2, q⟩
      · show Q ((b δ h1).bind (afterB (whileLoop t b fuel)))
        rw [e2]
        exact while_go Iv step fuel m' δ' h' (by omega) iv'
      · show Q ((b δ h1).bind (afterB (whileLoop t b fuel)))
        rw [e2]
        exact while_go Iv step fuel m' δ' h' (by omega) iv'
      · show Q ((b δ h1).bind (afterB (whileLoop t b fuel)))
        rw [e2]
        exact q
      · show Q ((b δ h1).bind (afterB (whileLoop t b fuel)))
        rw [e2]
        exact q
/-! ### lists and dicts of the heap -/
section
variable {H : Hs} {k : Nat} {xs : List D} {kvs : List (L2.Key × D)}
theorem refK_of (kk : Hs → R D) (hk : H[k]? = some (O.lst xs)) : refK kk (.ref k) H = kk H := by
  show (match (match H[k]? with | some (O.lst xs) => some xs | _ => none) with | some _ => kk H | none => .no) = _
  rw [hk]
theorem lstD_at (hk : H[k]? = some (O.lst xs)) : lstD H (.ref k) = some (k, xs) := by
  show (match H[k]? with | some (O.lst xs) => some (k, xs) | _ => none) = _
  rw [hk]
theorem lstD'_at (hk : H[k]? = some (O.lst xs)) : lstD' H (.ref k) = some xs := by
  show (match H[k]? with | some (O.lst xs) => some xs | _ => none) = _
  rw [hk]
theorem seqD_at (hk : H[k]? = some (O.lst xs)) : seqD H (.ref k) = some xs := by
  show (match H[k]? with | some (O.lst xs) => some xs | _ => none) = _
  rw [hk]
theorem dctD_at (hk : H[k]? = some (O.dct kvs)) : dctD H (.ref k) = some (k, kvs) := by
  show (match H[k]? with | some (O.dct kvs) => some (k, kvs) | _ => none) = _
  rw [hk]
theorem dctD_lst (hk : H[k]? = some (O.lst xs)) : dctD H (.ref k) = none := by
  show (match H[k]? with | some (O.dct kvs) => some (k, kvs) | _ => none) = _
  rw [hk]
theorem pop_at {d : D} (hk : H[k]? = some (O.lst (xs ++ [d]))) : meD .pop (.ref k) [] H = .ok d (H.set k (.lst xs)) := by
  show (match lstD H (.ref k) with | some (k, xs) => (match xs.getLast? with | some x => R.ok x (H.set k (.lst xs.dropLast)) | none => .no) | none => .no) = _
  rw [lstD_at hk]
  simp
theorem append_at {d : D} (hk : H[k]? = some (O.lst xs)) (hl : xs.length < LIM) : meD .append (.ref k) [d] H = .ok .non (H.set k (O.lst (xs ++ [d]))) := by
  show (match lstD H (.ref k) with | some (k, xs) => (if xs.length < LIM then R.ok D.non (H.set k (O.lst (xs ++ [d]))) else .no) | none => .no) = _
  rw [lstD_at hk]
  exact if_pos hl
theorem in_dct {i : Int} (hk : H[k]? = some (O.dct kvs)) : cmpD .in_ (.int i) (.ref k) H = .ok (.bl (valD kvs (.inl i)).isSome) H := by
  show R.ofB (match dctD H (.ref k) with | some (_, kvs) => (match keyD (.int i) with | some k => some (valD kvs k).isSome | none => none) | none => inS (.int i) (.ref k) H) H = _
  rw [dctD_at hk]
  rfl
theorem ix_dct {i : Int} {d : D} (hk : H[k]? = some (O.dct kvs)) (e : valD kvs (.inl i) = some d) : ixD (.ref k) (.int i) H = .ok d H := by
  show (match dctD H (.ref k) with | some (_, kvs) => getK kvs (.int i) H | none => ixS (.ref k) (.int i) H) = _
  rw [dctD_at hk]
  show (match valD kvs (.inl i) with | some d => R.ok d H | none => .no) = _
  rw [e]
theorem setix_dct {i : Int} {d : D} {δ : Fr} (hk : H[k]? = some (O.dct kvs)) (hl : kvs.length < LIM) : setixR δ d (.ref k) (.int i) H = .ok (.nx δ) (H.set k (.dct (putD kvs (.inl i) d))) := by
  show (match dctD H (.ref k) with | some (k, kvs) => (match keyD (.int i) with | some key => (if kvs.length < LIM then nxR δ (H.set k (.dct (putD kvs key d))) else .no) | none => .no) | none => setixS δ d (.ref k) (.int i) H) = _
  rw [dctD_at hk]
  exact if_pos hl
theorem tru_lst (hk : H[k]? = some (O.lst xs)) : truR (.ref k) H = .ok (!xs.isEmpty) H := by
  show (match (match H[k]? with | some (O.lst xs) => some (!xs.isEmpty) | _ => none) with | some b => R.ok b H | none => .no) = _
  rw [hk]
theorem itOf_ref (hk : H[k]? = some (O.lst xs)) : itOf (.ref k) H = .ok ⟨xs, [(k, xs)]⟩ H := by
  show (match H[k]? with | some (O.lst xs) => R.ok (IT.mk xs [(k, xs)]) H | _ => .no) = _
  rw [hk]
theorem list_dct (hk : H[k]? = some (O.dct kvs)) : biD .list [.ref k] H = .ok (.ref H.length) (H ++ [O.lst (kvs.map fun p => keyV p.1)]) := by
  show (match dctD H (.ref k) with | some (_, kvs) => R.ok (D.ref H.length) (H ++ [O.lst (List.map (fun (p : L2.Key × D) => keyV p.1) kvs)]) | none => _) = _
  rw [dctD_at hk]
theorem list_seq {d : D} (hn : dctD H d = none) (hs : seqD H d = some xs) : biD .list [d] H = .ok (.ref H.length) (H ++ [O.lst xs]) := by
  show (match dctD H d with | some (_, kvs) => _ | none => (match seqD H d with | some xs => R.ok (D.ref H.length) (H ++ [O.lst xs]) | none => .no)) = _
  rw [hn, hs]
theorem tuple_seq {d : D} (hs : seqD H d = some xs) : biD .tuple [d] H = .ok (.tup false xs) H := by
  show (match seqD H d with | some xs => R.ok (D.tup false xs) H | none => .no) = _
  rw [hs]
theorem cat_ref {m : Nat} {ys : List D} (hk : H[k]? = some (O.lst xs)) (hm : H[m]? = some (O.lst ys)) (hl : xs.length + ys.length ≤ LIM) : binD .add (.ref k) (.ref m) H = .ok (.ref H.length) (H ++ [O.lst (xs ++ ys)]) := by
  show (match H[k]?, H[m]? with | some (O.lst xs), some (O.lst ys) => (if xs.length + ys.length ≤ LIM then R.ok (D.ref H.length) (H ++ [O.lst (xs ++ ys)]) else .no) | _, _ => .no) = _
  rw [hk, hm]
  exact if_pos hl
end
theorem same_refl : ∀ d : D, D.same d d = true := by
  intro d
  refine D.rec (motive_1 := fun d => D.same d d = true) (motive_2 := fun l => D.sameL l l = true) ?_ ?_ ?_ ?_ ?_ ?_ ?_ ?_ ?_ d
  · rfl
  · intro b; cases b <;> rfl
  · intro i; show (i == i) = true; simp
  · intro s; show decide (s = s) = true; simp
  · intro b xs ih; show ((b == b) && D.sameL xs xs) = true; rw [ih]; simp
  · intro xs ih; exact ih
  · intro k; show (k == k) = true; simp
  · rfl
  · intro x r h1 h2; show (D.same x x && D.sameL r r) = true; rw [h1, h2]; rfl
theorem sameL_refl : ∀ l : List D, D.sameL l l = true
  | [] => rfl
  | x :: r => by
    show (D.same x x && D.sameL r r) = true
    rw [same_refl, sameL_refl r]; rfl
theorem gOk_one {H : Hs} {k : Nat} {xs : List D} (hk : H[k]? = some (O.lst xs)) : gOk [(k, xs)] H = true := by
  show (match H[k]? with | some (O.lst ys) => D.sameL ys xs | _ => false) && true = true
  rw [hk]
  show (D.sameL xs xs && true) = true
  rw [sameL_refl]
  rfl
/-! ### dicts by numbers -/
theorem valD_cons (p : L2.Key × D) (r : List (L2.Key × D)) (k : L2.Key) : valD (p :: r) k = if p.1 = k then some p.2 else valD r k := by
  unfold valD
  rw [List.find?_cons]
  by_cases c : p.1 = k
  · simp [c]
  · simp [c]
theorem valD_none {kvs : List (L2.Key × D)} {k : L2.Key} : valD kvs k = none ↔ k ∉ kvs.map (·.1) := by
  induction kvs with
  | nil => simp [valD]
  | cons p r ih =>
    rw [valD_cons]
    by_cases c : p.1 = k
    · rw [if_pos c]
      simp [c]
    · rw [if_neg c, ih]
      simp only [List.map_cons, List.mem_cons, not_or]
      exact ⟨fun h => ⟨fun e => c e.symm, h⟩, fun h => h.2⟩
theorem any_key {kvs : List (L2.Key × D)} {k : L2.Key} : (kvs.any fun p => decide (p.1 = k)) = true ↔ k ∈ kvs.map (·.1) := by
  rw [List.any_eq_true, List.mem_map]
  simp
theorem putD_new {kvs : List (L2.Key × D)} {k : L2.Key} {d : D} (h : k ∉ kvs.map (·.1)) : putD kvs k d = kvs ++ [(k, d)] := by
  unfold putD
  rw [if_neg (fun z => h (any_key.mp z))]
theorem putD_keys (kvs : List (L2.Key × D)) (k : L2.Key) (d : D) : (putD kvs k d).map (·.1) = if (kvs.any fun p => decide (p.1 = k)) = true then kvs.map (·.1) else kvs.map (·.1) ++ [k] := by
  unfold putD
  by_cases c : k ∈ kvs.map (·.1)
  · rw [if_pos (any_key.mpr c), if_pos (any_key.mpr c), List.map_map]
    refine List.map_congr_left fun p _ => ?_
    simp only [Function.comp_apply]
    split <;> rfl
  · rw [if_neg (fun z => c (any_key.mp z)), if_neg (fun z => c (any_key.mp z))]
    simp
theorem valD_app (kvs : List (L2.Key × D)) (p : L2.Key × D) (j : L2.Key) : valD (kvs ++ [p]) j = if (valD kvs j).isSome then valD kvs j else if p.1 = j then some p.2 else none := by
  induction kvs with
  | nil => rw [List.nil_append, valD_cons]; simp [valD]
  | cons q r ih =>
    rw [List.cons_append, valD_cons, valD_cons, ih]
    by_cases c : q.1 = j
    · simp [c]
    · simp [c]
theorem valD_put (kvs : List (L2.Key × D)) (k j : L2.Key) (d : D) : valD (putD kvs k d) j = if j = k then some d else valD kvs j := by
  by_cases c : k ∈ kvs.map (·.1)
  · unfold putD
    rw [if_pos (any_key.mpr c)]
    have gen : ∀ kvs : List (L2.Key × D), valD (kvs.map fun p => if p.1 = k then (p.1, d) else p) j = if j = k ∧ (kvs.any fun p => decide (p.1 = k)) = true then some d else valD kvs j := by
      intro kvs
      induction kvs with
      | nil => simp [valD]
      | cons p r ih =>
        rw [List.map_cons, valD_cons, ih, valD_cons]
        by_cases e : p.1 = k
        · rw [if_pos e]
          by_cases e2 : j = k
          · subst e2; simp [e]
          · have : ¬ p.1 = j := fun z => e2 (z.symm.trans e)
            simp [e2, this]
        · rw [if_neg e]
          by_cases e2 : p.1 = j
          · have : ¬ j = k := fun z => e (e2.trans z)
            simp [e2, this]
          · rw [if_neg e2, if_neg e2]
            by_cases e3 : j = k
            · subst e3
              rw [List.any_cons, decide_eq_false e, Bool.false_or]
            · simp [e3]
    rw [gen]
    by_cases e : j = k
    · subst e
      rw [if_pos ⟨rfl, any_key.mpr c⟩, if_pos rfl]
    · simp [e]
  · rw [putD_new c, valD_app]
    by_cases e : j = k
    · subst e
      rw [valD_none.mpr c]
      simp
    · have : ¬ k = j := fun z => e z.symm
      simp only [this, if_false, e]
      cases valD kvs j <;> simp
structure DF (kvs : List (L2.Key × D)) (F : Nat → Option D) : Prop where
  keys : ∃ ks : List Nat, kvs.map (·.1) = ks.map (fun (p : Nat) => (Sum.inl (p : Int) : L2.Key)) ∧ ks.Nodup ∧ ∀ p, p ∈ ks ↔ (F p).isSome = true
  val : ∀ p : Nat, valD kvs (.inl (p : Int)) = F p
theorem DF.nil : DF [] (fun _ => none) := ⟨⟨[], rfl, .nil, fun p => by simp⟩, fun p => rfl⟩
theorem inl_inj {p q : Nat} : (Sum.inl (p : Int) : L2.Key) = Sum.inl (q : Int) ↔ p = q := by
  constructor
  · intro h
    have : (p : Int) = q := Sum.inl.inj h
    omega
  · intro h; rw [h]
theorem DF.put {kvs : List (L2.Key × D)} {F : Nat → Option D} (h : DF kvs F) (p : Nat) (d : D) : DF (putD kvs (.inl (p : Int)) d) (fun q => if q = p then some d else F q) := by
  obtain ⟨⟨ks, k1, k2, k3⟩, v⟩ := h
  have mem : (Sum.inl (p : Int) : L2.Key) ∈ kvs.map (·.1) ↔ p ∈ ks := by
    rw [k1, List.mem_map]
    constructor
    · rintro ⟨q, hq, e⟩
      rw [← inl_inj.mp e]; exact hq
    · exact fun h => ⟨p, h, rfl⟩
  refine ⟨?_, fun q => ?_⟩
  · rw [putD_keys]
    by_cases c : p ∈ ks
    · rw [if_pos (any_key.mpr (mem.mpr c))]
      refine ⟨ks, k1, k2, fun q => ?_⟩
      by_cases e : q = p
      · subst e; simp [c]
      · simp [e, k3]
    · rw [if_neg (fun z => c (mem.mp (any_key.mp z)))]
      refine ⟨ks ++ [p], by rw [k1]; simp, ?_, fun q => ?_⟩
      · rw [List.nodup_append]
        exact ⟨k2, by simp, fun a ha b hb e => c (by simp at hb; rw [← hb, ← e]; exact ha)⟩
      · by_cases e : q = p
        · subst e; simp
        · simp [e, k3]
  · rw [valD_put]
    by_cases e : q = p
    · subst e; simp
    · rw [if_neg (fun z => e (inl_inj.mp z)), v, if_neg e]
theorem nodup_lt : ∀ (w : Nat) (l : List Nat), l.Nodup → (∀ x ∈ l, x < w) → l.length ≤ w
  | 0, [], _, _ => Nat.le_refl _
  | 0, x :: r, _, h => absurd (h x List.mem_cons_self) (by omega)
  | w + 1, l, nd, h => by
    by_cases c : w ∈ l
    · have ih := nodup_lt w (l.erase w) (nd.erase w) fun x hx => by
        have h1 := h x (List.mem_of_mem_erase hx)
        have h2 : x ≠ w := fun e => (nd.not_mem_erase) (e ▸ hx)
        omega
      rw [List.length_erase_of_mem c] at ih
      omega
    · have := nodup_lt w l nd fun x hx => by
        have h1 := h x hx
        have h2 : x ≠ w := fun e => c (e ▸ hx)
        omega
      omega
theorem DF.len {kvs : List (L2.Key × D)} {F : Nat → Option D} (h : DF kvs F) {w : Nat} (hw : ∀ p, (F p).isSome = true → p < w) : kvs.length ≤ w := by
  obtain ⟨⟨ks, k1, k2, k3⟩, v⟩ := h
  have : kvs.length = ks.length := by
    have := congrArg List.length k1
    simpa using this
  rw [this]
  exact nodup_lt w ks k2 fun x hx => hw x ((k3 x).mp hx)
/-! ### a heap with one thing changed and one more -/
section
variable {h : Hs} {k : Nat} {o o' x y : O}
theorem hk_last : (h.set k o ++ [x])[h.length]? = some x := by
  rw [List.getElem?_append_right (by simp)]
  simp
theorem hk_k (hk : k < h.length) : (h.set k o ++ [x])[k]? = some o := by
  rw [List.getElem?_append_left (by simpa using hk)]
  simp [hk]
theorem hk_setl : (h.set k o ++ [x]).set h.length y = h.set k o ++ [y] := by
  rw [List.set_append_right _ _ (by simp)]
  simp
theorem hk_setk (hk : k < h.length) : (h.set k o ++ [x]).set k o' = h.set k o' ++ [x] := by
  rw [List.set_append_left _ _ (by simpa using hk), List.set_set]
end
theorem sum_le {l : List Nat} {f g : Nat → Nat} (h : ∀ i ∈ l, f i ≤ g i) : (l.map f).sum ≤ (l.map g).sum := by
  induction l with
  | nil => exact Nat.le_refl _
  | cons x r ih =>
    have := ih fun i hi => h i (List.mem_cons_of_mem _ hi)
    have := h x List.mem_cons_self
    simp only [List.map_cons, List.sum_cons]
    omega
theorem sum_lt {l : List Nat} {f g : Nat → Nat} (h : ∀ i ∈ l, f i ≤ g i) {j : Nat} (hj : j ∈ l) (hl : f j < g j) : (l.map f).sum < (l.map g).sum := by
  induction l with
  | nil => cases hj
  | cons x r ih =>
    have h1 := h x List.mem_cons_self
    have h2 := sum_le fun i (hi : i ∈ r) => h i (List.mem_cons_of_mem _ hi)
    simp only [List.map_cons, List.sum_cons]
    rcases List.mem_cons.mp hj with e | hj
    · subst e; omega
    · have := ih (fun i hi => h i (List.mem_cons_of_mem _ hi)) hj
      omega
end WP
namespace WP
open PySem PI
/-! ### equality of data of ints -/
theorem eqv_ints : ∀ xs ys : List Int, PyData.eqvAll (xs.map PyData.int) (ys.map PyData.int) = decide (xs = ys)
  | [], [] => rfl
  | [], _ :: _ => rfl
  | _ :: _, [] => rfl
  | x :: xs, y :: ys => by
    show (x == y && PyData.eqvAll (xs.map PyData.int) (ys.map PyData.int)) = _
    rw [eqv_ints xs ys]
    by_cases c : x = y <;> by_cases d : xs = ys <;> simp [c, d]
def pyT (xs : List Int) : PyData := .tuple (xs.map PyData.int)
theorem eqv_rows : ∀ xs ys : List (List Int), PyData.eqvAll (xs.map pyT) (ys.map pyT) = decide (xs = ys)
  | [], [] => rfl
  | [], _ :: _ => rfl
  | _ :: _, [] => rfl
  | x :: xs, y :: ys => by
    show (PyData.eqvAll (x.map PyData.int) (y.map PyData.int) && PyData.eqvAll (xs.map pyT) (ys.map pyT)) = _
    rw [eqv_rows xs ys, eqv_ints]
    by_cases c : x = y <;> by_cases d : xs = ys <;> simp [c, d]
theorem shaped_T (xs : List Int) : SeqAt.shaped (pyT xs) = true := by
  have := depth_ints xs
  have a : (pyT xs).canLay0 = true := can_ints xs
  have b : (pyT xs).depth ≤ 64 := by
    show PyData.depthAll (xs.map PyData.int) + 1 ≤ 64
    omega
  show ((pyT xs).canLay0 && decide ((pyT xs).depth ≤ 64)) = true
  rw [a, decide_eq_true b]
  rfl
theorem depth_rows : ∀ R : List (List Int), PyData.depthAll (R.map pyT) ≤ 2 ∧ PyData.canLayAll0 (R.map pyT) = true
  | [] => by simp [PyData.depthAll, PyData.canLayAll0]
  | x :: r => by
    have ⟨h1, h2⟩ := depth_rows r
    have h3 := depth_ints x
    have h4 := can_ints x
    refine ⟨?_, ?_⟩
    · simp only [List.map_cons, PyData.depthAll, pyT, PyData.depth] at h1 ⊢
      omega
    · show (PyData.canLayAll0 (x.map PyData.int) && PyData.canLayAll0 (r.map pyT)) = true
      rw [h4, h2]
      rfl
theorem shaped_R (R : List (List Int)) : SeqAt.shaped (.tuple (R.map pyT)) = true := by
  have ⟨h1, h2⟩ := depth_rows R
  show (PyData.canLayAll0 (R.map pyT) && decide (PyData.depthAll (R.map pyT) + 1 ≤ 64)) = true
  rw [h2, decide_eq_true (by omega)]
  rfl
theorem py_T (h : Hs) (b : Bool) (xs : List Int) : D.py h 0 (TI b xs) = some (pyT xs) := by
  show (D.pyL h 0 (ri xs)).map PyData.tuple = _
  unfold ri
  rw [pyL_ints]
  rfl
abbrev wd (W : List (Bool × List Int)) : List D := W.map fun p => TI p.1 p.2
abbrev Rws (W : List (Bool × List Int)) : List (List Int) := W.map (·.2)
theorem pyL_rows (h : Hs) : ∀ W : List (Bool × List Int), D.pyL h 0 (wd W) = some ((Rws W).map pyT)
  | [] => rfl
  | p :: W => by
    show (match D.py h 0 (TI p.1 p.2) with | some a => (D.pyL h 0 (wd W)).map (a :: ·) | none => none) = _
    rw [py_T, pyL_rows h W]
    rfl
theorem eqD_T (b c : Bool) (xs ys : List Int) (h : Hs) : eqD (TI b xs) (TI c ys) h = some (decide (xs = ys)) := by
  show (match D.py h 0 (TI b xs), D.py h 0 (TI c ys) with | some a, some b => (if (SeqAt.shaped a && SeqAt.shaped b) = true then some (PyData.eqv a b) else none) | _, _ => none) = _
  rw [py_T, py_T]
  simp only [shaped_T, Bool.and_self, if_true]
  congr 1
  exact eqv_ints xs ys
theorem eqD_R (b c : Bool) (W V : List (Bool × List Int)) (h : Hs) : eqD (.tup b (wd W)) (.tup c (wd V)) h = some (decide (Rws W = Rws V)) := by
  show (match (D.pyL h 0 (wd W)).map PyData.tuple, (D.pyL h 0 (wd V)).map PyData.tuple with | some a, some b => (if (SeqAt.shaped a && SeqAt.shaped b) = true then some (PyData.eqv a b) else none) | _, _ => none) = _
  rw [pyL_rows, pyL_rows]
  simp only [Option.map_some, shaped_R, Bool.and_self, if_true]
  congr 1
  exact eqv_rows (Rws W) (Rws V)
theorem eqD_L {H : Hs} {k m : Nat} {xs ys : List Int} (hk : H[k]? = some (.lst (ri xs))) (hm : H[m]? = some (.lst (ri ys))) : eqD (.ref k) (.ref m) H = some (decide (xs = ys)) := by
  have p : ∀ {k : Nat} {xs : List Int}, H[k]? = some (.lst (ri xs)) → D.py1 H (.ref k) = some (.list (xs.map PyData.int)) := fun {k xs} hk => by
    show (match H[k]? with | some (.lst xs) => (D.pyL H 0 xs).map PyData.list | _ => none) = _
    rw [hk]
    show (D.pyL H 0 (ri xs)).map PyData.list = _
    unfold ri
    rw [pyL_ints]
    rfl
  unfold eqD
  rw [p hk, p hm]
  simp only [shaped_ints, Bool.and_self, if_true]
  congr 1
  exact eqv_ints xs ys
theorem cmp_eqD {x y : D} {H : Hs} {b : Bool} (e : eqD x y H = some b) : cmpD .eq x y H = .ok (.bl b) H := by
  show R.ofB (eqD x y H) H = _
  rw [e]; rfl
theorem cmp_neD {x y : D} {H : Hs} {b : Bool} (e : eqD x y H = some b) : cmpD .ne x y H = .ok (.bl (!b)) H := by
  show R.ofB ((eqD x y H).map (!·)) H = _
  rw [e]; rfl
/-! ### draws -/
def dset (h : Hs) (k : Nat) (a b : Int) : Hs := h.set k (.lst [.int a, .int b])
theorem dset_dset (h : Hs) (k : Nat) (a b c d : Int) : dset (dset h k a b) k c d = dset h k c d := by simp [dset]
theorem dset_at {h : Hs} {k : Nat} {a b : Int} (hk : k < h.length) : (dset h k a b)[k]? = some (.lst [.int a, .int b]) := by simp [dset, hk]
/-- a comprehension that draws -/
theorem compLoop_go {f : D → Hs → R (Option D)} {g : Hs → Bool} (hg : ∀ h, g h = true) (P : Hs → Prop) (Qd : D → Prop) : ∀ (xs : List D), (∀ x ∈ xs, ∀ h, P h → ∃ d h', f x h = .ok (some d) h' ∧ P h' ∧ Qd d) → ∀ h, P h → ∃ ds h', compLoop f g xs h = .ok ds h' ∧ P h' ∧ ds.length = xs.length ∧ ∀ d ∈ ds, Qd d
  | [], _, h, p => ⟨[], h, by unfold compLoop; rw [if_pos (hg h)], p, rfl, fun d hd => by cases hd⟩
  | x :: r, hf, h, p => by
    obtain ⟨d, h1, e1, p1, q1⟩ := hf x List.mem_cons_self h p
    obtain ⟨ds, h2, e2, p2, l2, q2⟩ := compLoop_go hg P Qd r (fun y hy => hf y (List.mem_cons_of_mem _ hy)) h1 p1
    refine ⟨d :: ds, h2, ?_, p2, by simp [l2], fun y hy => ?_⟩
    · unfold compLoop
      rw [if_pos (hg h), e1]
      simp only
      rw [e2]
    · rcases List.mem_cons.mp hy with rfl | hy
      · exact q1
      · exact q2 y hy
theorem loopR_go {f : D → Hs → R (Option D)} {xs : List D} (hl : xs.length < LIM) (P : Hs → Prop) (Qd : D → Prop) (hf : ∀ x ∈ xs, ∀ h, P h → ∃ d h', f x h = .ok (some d) h' ∧ P h' ∧ Qd d) (h : Hs) (p : P h) : ∃ ds h', loopR f ⟨xs, []⟩ h = .ok ds h' ∧ P h' ∧ ds.length = xs.length ∧ ∀ d ∈ ds, Qd d := by
  unfold loopR
  rw [if_pos hl]
  exact compLoop_go (fun _ => rfl) P Qd xs hf h p
theorem rng1_nat {w : Nat} (h : Hs) (hw : w ≤ 1000000) : rng1 (.int w) h = .ok ⟨(List.range w).map fun (i : Nat) => D.int (i : Int), []⟩ h := by
  show (if i62 (w : Int) = true then R.ok (IT.mk (rangeD 0 w) []) h else .no) = _
  rw [if_pos (by unfold i62; simp; omega)]
  unfold rangeD
  simp
theorem rng2_nat {a b : Nat} (h : Hs) (ha : a ≤ 1000000) (hb : b ≤ 1000000) : rng2 (.int a) (.int b) h = .ok ⟨(List.range (b - a)).map fun (i : Nat) => D.int ((a + i : Nat) : Int), []⟩ h := by
  show (if (i62 (a : Int) && i62 (b : Int)) = true then R.ok (IT.mk (rangeD a b) []) h else .no) = _
  rw [if_pos (by unfold i62; simp; omega)]
  unfold rangeD
  have : ((b : Int) - (a : Int)).toNat = b - a := by omega
  rw [this]
  simp
end WP
namespace WP
open PySem PI
namespace Spans
structure Ix where
  isInt : Nat
  isWord : Nat
  ckWord : Nat
  inverse : Nat
  areWords : Nat
  ckRow : Nat
  ckWidth : Nat
  ckRows : Nat
  lead : Nat
  scaled : Nat
  lessened : Nat
  withPower : Nat
  takeIn : Nat
  closed : Nat
  rest : Nat
  formOf : Nat
  unit : Nat
  form : Nat
  sameSpan : Nat
  multipliers : Nat
  gSIZE : Nat
  gWIDEST : Nat
  gMOST_ROWS : Nat
  xInvalidNumber : Nat
  xInvalidRow : Nat
  xNotOdd : Nat
def f_isInt (s : Ix) : Fn := ⟨"is_integer", ["value"], ["value"], (.cons (.ret (.andV (.isT .int (.var 0)) (.notV (.isT .bool (.var 0))))) .nil)⟩
def f_isWord (s : Ix) : Fn := ⟨"is_word", ["value"], ["value"], (.cons (.ret (.andV (.call s.isInt (.cons (.var 0) .nil)) (.chain .le .lt (.con (.int 0)) (.var 0) (.glob s.gSIZE)))) .nil)⟩
def f_ckWord (s : Ix) : Fn := ⟨"check_word", ["number"], ["number"], (.cons (.ifS (.not (.of (.call s.isWord (.cons (.var 0) .nil)))) (.cons (.raiseS s.xInvalidNumber) .nil) .nil) .nil)⟩
def f_inverse (s : Ix) : Fn := ⟨"inverse", ["number"], ["number", "found", "_"], (.cons (.expr (.call s.ckWord (.cons (.var 0) .nil))) (.cons (.ifS (.of (.cmp .eq (.bin .mod (.var 0) (.con (.int 2))) (.con (.int 0)))) (.cons (.raiseS s.xNotOdd) .nil) .nil) (.cons (.set 1 (.var 0)) (.cons (.forS (.one 2) (.range1 (.con (.int 3))) (.cons (.set 1 (.bin .mod (.bin .mul (.var 1) (.bin .sub (.con (.int 2)) (.bin .mul (.var 0) (.var 1)))) (.glob s.gSIZE))) .nil)) (.cons (.ret (.var 1)) .nil)))))⟩
def f_areWords (s : Ix) : Fn := ⟨"are_words", ["value", "many"], ["value", "many", "number"], (.cons (.ret (.andV (.isT .tuple (.var 0)) (.andV (.cmp .eq (.bi .len (.cons (.var 0) .nil)) (.var 1)) (.bl .all (.compU (.one 2) (.of (.var 0)) [2] (.call s.isWord (.cons (.var 2) .nil))))))) .nil)⟩
def f_ckRow (s : Ix) : Fn := ⟨"check_row", ["row", "width"], ["row", "width"], (.cons (.ifS (.not (.of (.call s.areWords (.cons (.var 0) (.cons (.var 1) .nil))))) (.cons (.raiseS s.xInvalidRow) .nil) .nil) .nil)⟩
def f_ckWidth (s : Ix) : Fn := ⟨"check_width", ["width"], ["width"], (.cons (.ifS (.or (.not (.of (.call s.isInt (.cons (.var 0) .nil)))) (.not (.of (.chain .le .le (.con (.int 1)) (.var 0) (.glob s.gWIDEST))))) (.cons (.raiseS s.xInvalidRow) .nil) .nil) .nil)⟩
def f_ckRows (s : Ix) : Fn := ⟨"check_rows", ["rows", "width"], ["rows", "width", "row"], (.cons (.expr (.call s.ckWidth (.cons (.var 1) .nil))) (.cons (.ifS (.or (.not (.of (.isT .tuple (.var 0)))) (.of (.cmp .gt (.bi .len (.cons (.var 0) .nil)) (.glob s.gMOST_ROWS)))) (.cons (.raiseS s.xInvalidRow) .nil) .nil) (.cons (.forS (.one 2) (.of (.var 0)) (.cons (.expr (.call s.ckRow (.cons (.var 2) (.cons (.var 1) .nil)))) .nil)) .nil)))⟩
def f_lead (s : Ix) : Fn := ⟨"lead", ["row"], ["row", "place", "number"], (.cons (.forS (.two 1 2) (.enum (.var 0)) (.cons (.ifS (.of (.cmp .ne (.var 2) (.con (.int 0)))) (.cons (.ret (.var 1)) .nil) .nil) .nil)) (.cons (.ret (.bi .len (.cons (.var 0) .nil))) .nil))⟩
def f_scaled (s : Ix) : Fn := ⟨"scaled", ["row", "factor"], ["row", "factor", "number"], (.cons (.ret (.bl .tuple (.compU (.one 2) (.of (.var 0)) [2] (.bin .mod (.bin .mul (.var 2) (.var 1)) (.glob s.gSIZE))))) .nil)⟩
def f_lessened (s : Ix) : Fn := ⟨"lessened", ["row", "factor", "other"], ["row", "factor", "other", "mine", "its"], (.cons (.ret (.bl .tuple (.compU (.two 3 4) (.zip (.var 0) (.var 2)) [3, 4] (.bin .mod (.bin .sub (.var 3) (.bin .mul (.var 1) (.var 4))) (.glob s.gSIZE))))) .nil)⟩
def f_withPower (s : Ix) : Fn := ⟨"with_power", ["row", "place"], ["row", "place", "power"], (.cons (.set 2 (.bin .and_ (.ix (.var 0) (.var 1)) (.neg (.ix (.var 0) (.var 1))))) (.cons (.ret (.call s.scaled (.cons (.var 0) (.cons (.call s.inverse (.cons (.bin .div (.ix (.var 0) (.var 1)) (.var 2)) .nil)) .nil)))) .nil))⟩
def f_takeIn (s : Ix) : Fn := ⟨"take_in", ["found", "row"], ["found", "row", "grown", "waiting", "place"], (.cons (.set 2 (.con (.bl false))) (.cons (.set 3 (.newL (.lit (.cons (.var 1) .nil)))) (.cons (.whileS (.of (.var 3)) (.cons (.set 1 (.me .pop (.var 3) .nil)) (.cons (.set 4 (.call s.lead (.cons (.var 1) .nil))) (.cons (.ifS (.of (.cmp .eq (.var 4) (.bi .len (.cons (.var 1) .nil)))) (.cons (.cnt) .nil) .nil) (.cons (.set 1 (.call s.withPower (.cons (.var 1) (.cons (.var 4) .nil)))) (.cons (.ifS (.and (.of (.cmp .in_ (.var 4) (.var 0))) (.of (.cmp .ge (.ix (.var 1) (.var 4)) (.ix (.ix (.var 0) (.var 4)) (.var 4))))) (.cons (.expr (.me .append (.var 3) (.cons (.call s.lessened (.cons (.var 1) (.cons (.bin .div (.ix (.var 1) (.var 4)) (.ix (.ix (.var 0) (.var 4)) (.var 4))) (.cons (.ix (.var 0) (.var 4)) .nil)))) .nil))) (.cons (.cnt) .nil)) .nil) (.cons (.set 2 (.con (.bl true))) (.cons (.ifS (.of (.cmp .in_ (.var 4) (.var 0))) (.cons (.expr (.me .append (.var 3) (.cons (.ix (.var 0) (.var 4)) .nil))) .nil) .nil) (.cons (.setix (.var 0) (.var 4) (.var 1)) (.cons (.expr (.me .append (.var 3) (.cons (.call s.scaled (.cons (.var 1) (.cons (.bin .div (.glob s.gSIZE) (.ix (.var 1) (.var 4))) .nil))) .nil))) .nil)))))))))) (.cons (.ret (.var 2)) .nil))))⟩
def f_closed (s : Ix) : Fn := ⟨"closed", ["rows"], ["rows", "found", "row"], (.cons (.set 1 (.newD)) (.cons (.forS (.one 2) (.of (.var 0)) (.cons (.expr (.call s.takeIn (.cons (.var 1) (.cons (.var 2) .nil)))) .nil)) (.cons (.ret (.var 1)) .nil)))⟩
def f_rest (s : Ix) : Fn := ⟨"rest", ["row", "formed"], ["row", "formed", "one", "place"], (.cons (.forS (.one 2) (.of (.var 1)) (.cons (.set 3 (.call s.lead (.cons (.var 2) .nil))) (.cons (.set 0 (.call s.lessened (.cons (.var 0) (.cons (.bin .div (.ix (.var 0) (.var 3)) (.ix (.var 2) (.var 3))) (.cons (.var 2) .nil))))) .nil))) (.cons (.ret (.var 0)) .nil))⟩
def f_formOf (s : Ix) : Fn := ⟨"form_of", ["rows"], ["rows", "found", "formed", "place"], (.cons (.set 1 (.call s.closed (.cons (.var 0) .nil))) (.cons (.set 2 (.newL (.lit .nil))) (.cons (.forS (.one 3) (.of (.sortR (.bi .list (.cons (.var 1) .nil)))) (.cons (.set 2 (.bin .add (.newL (.lit (.cons (.call s.rest (.cons (.ix (.var 1) (.var 3)) (.cons (.var 2) .nil))) .nil))) (.var 2))) .nil)) (.cons (.ret (.bi .tuple (.cons (.var 2) .nil))) .nil))))⟩
def f_unit (s : Ix) : Fn := ⟨"unit", ["place", "width"], ["place", "width", "at"], (.cons (.ret (.bl .tuple (.compU (.one 2) (.range1 (.var 1)) [2] (.ite (.of (.cmp .eq (.var 2) (.var 0))) (.con (.int 1)) (.con (.int 0)))))) .nil)⟩
def f_form (s : Ix) : Fn := ⟨"form", ["rows", "width"], ["rows", "width"], (.cons (.expr (.call s.ckRows (.cons (.var 0) (.cons (.var 1) .nil)))) (.cons (.ret (.call s.formOf (.cons (.var 0) .nil))) .nil))⟩
def f_sameSpan (s : Ix) : Fn := ⟨"same_span", ["rows", "others", "width"], ["rows", "others", "width"], (.cons (.expr (.call s.ckRows (.cons (.var 0) (.cons (.var 2) .nil)))) (.cons (.expr (.call s.ckRows (.cons (.var 1) (.cons (.var 2) .nil)))) (.cons (.ret (.cmp .eq (.call s.formOf (.cons (.var 0) .nil)) (.call s.formOf (.cons (.var 1) .nil)))) .nil)))⟩
def f_multipliers (s : Ix) : Fn := ⟨"multipliers", ["rows", "width", "row"], ["rows", "width", "row", "many", "joined", "left", "at", "one"], (.cons (.expr (.call s.ckRows (.cons (.var 0) (.cons (.var 1) .nil)))) (.cons (.expr (.call s.ckRow (.cons (.var 2) (.cons (.var 1) .nil)))) (.cons (.set 3 (.bi .len (.cons (.var 0) .nil))) (.cons (.set 4 (.call s.formOf (.cons (.newL (.compU (.two 6 7) (.enum (.var 0)) [6, 7] (.bin .add (.var 7) (.call s.unit (.cons (.var 6) (.cons (.var 3) .nil)))))) .nil))) (.cons (.set 5 (.call s.rest (.cons (.bin .add (.call s.scaled (.cons (.var 2) (.cons (.bin .sub (.glob s.gSIZE) (.con (.int 1))) .nil))) (.bin .mul (.tup (.cons (.con (.int 0)) .nil)) (.var 3))) (.cons (.var 4) .nil)))) (.cons (.ifS (.of (.cmp .lt (.call s.lead (.cons (.sl (.var 5) .none (.some (.var 1))) .nil)) (.var 1))) (.cons (.ret (.con (.non))) .nil) .nil) (.cons (.ret (.sl (.var 5) (.some (.var 1)) .none)) .nil)))))))⟩
/-- the spans, as the program has them -/
structure At (pg : Pg) (s : Ix) : Prop where
  wl : 1000000000 ≤ pg.wl
  isInt : pg.fns[s.isInt]? = some (f_isInt s)
  isWord : pg.fns[s.isWord]? = some (f_isWord s)
  ckWord : pg.fns[s.ckWord]? = some (f_ckWord s)
  inverse : pg.fns[s.inverse]? = some (f_inverse s)
  areWords : pg.fns[s.areWords]? = some (f_areWords s)
  ckRow : pg.fns[s.ckRow]? = some (f_ckRow s)
  ckWidth : pg.fns[s.ckWidth]? = some (f_ckWidth s)
  ckRows : pg.fns[s.ckRows]? = some (f_ckRows s)
  lead : pg.fns[s.lead]? = some (f_lead s)
  scaled : pg.fns[s.scaled]? = some (f_scaled s)
  lessened : pg.fns[s.lessened]? = some (f_lessened s)
  withPower : pg.fns[s.withPower]? = some (f_withPower s)
  takeIn : pg.fns[s.takeIn]? = some (f_takeIn s)
  closed : pg.fns[s.closed]? = some (f_closed s)
  rest : pg.fns[s.rest]? = some (f_rest s)
  formOf : pg.fns[s.formOf]? = some (f_formOf s)
  unit : pg.fns[s.unit]? = some (f_unit s)
  form : pg.fns[s.form]? = some (f_form s)
  cSIZE : pg.con[s.gSIZE]? = some (("SIZE" : Str), D.int 65536)
  cWIDEST : pg.con[s.gWIDEST]? = some (("WIDEST" : Str), D.int 16)
  cMOST_ROWS : pg.con[s.gMOST_ROWS]? = some (("MOST_ROWS" : Str), D.int 16)
variable {pg : Pg} {s : Ix}
theorem isInt_ok (S : At pg s) (n : Nat) (i : Int) (h : Hs) : callI pg (n + 1) s.isInt [.int i] h = .ok (.bl true) h := by
  rw [callI_of S.isInt rfl]
  unfold f_isInt
  simp -implicitDefEqProofs only [evE, evEs, evOE, evT, evL, evI, evS, evSs, bind_ok, bind_ex, cal_fn, start0, List.map_cons, List.map_nil, List.length_cons, List.length_nil, List.cons_append, List.nil_append, Nat.reduceAdd, Nat.reduceSub, List.replicate_succ, List.replicate_zero, List.getElem?_cons_zero, List.getElem?_cons_succ, List.set_cons_zero, List.set_cons_succ, setF, Nat.reduceLT, if_true, nxR, thenR, retR, iteK_t, iteK_f, afterB, wipeF, tgo, tgt, bindK_some, and_self, outR_rt, outR_nx, outR_ex, Bool.not_true, Bool.not_false, Bool.false_eq_true, if_false, gOk_nil, andK_t, andK_f, notR_b, truR_b, isT_int, isT_bool, isT_tup, cmp_eq, cmp_ne, cmp_lt, cmp_le, cmp_gt, cmp_ge, add_ok, sub_ok, neg_ok, someR, lit0, lit1, lit2, newR, decide_true, decide_false, isT_int, isT_bool, andK_t, notR_b, outR_rt, Bool.not_false]
theorem isWord_ok (S : At pg s) (n : Nat) (i : Int) (h : Hs) : callI pg (n + 2) s.isWord [.int i] h = .ok (.bl (decide (0 ≤ i ∧ i < 65536))) h := by
  rw [callI_of S.isWord rfl]
  unfold f_isWord
  simp -implicitDefEqProofs only [evE, evEs, evOE, evT, evL, evI, evS, evSs, bind_ok, bind_ex, cal_fn, start0, List.map_cons, List.map_nil, List.length_cons, List.length_nil, List.cons_append, List.nil_append, Nat.reduceAdd, Nat.reduceSub, List.replicate_succ, List.replicate_zero, List.getElem?_cons_zero, List.getElem?_cons_succ, List.set_cons_zero, List.set_cons_succ, setF, Nat.reduceLT, if_true, nxR, thenR, retR, iteK_t, iteK_f, afterB, wipeF, tgo, tgt, bindK_some, and_self, outR_rt, outR_nx, outR_ex, Bool.not_true, Bool.not_false, Bool.false_eq_true, if_false, gOk_nil, andK_t, andK_f, notR_b, truR_b, isT_int, isT_bool, isT_tup, cmp_eq, cmp_ne, cmp_lt, cmp_le, cmp_gt, cmp_ge, add_ok, sub_ok, neg_ok, someR, lit0, lit1, lit2, newR, decide_true, decide_false, isInt_ok S, cal_con S.cSIZE, andK_t, cmp_le, cmp_lt]
  by_cases c : 0 ≤ i
  · rw [decide_eq_true c]
    simp -implicitDefEqProofs only [evE, evEs, evOE, evT, evL, evI, evS, evSs, bind_ok, bind_ex, cal_fn, start0, List.map_cons, List.map_nil, List.length_cons, List.length_nil, List.cons_append, List.nil_append, Nat.reduceAdd, Nat.reduceSub, List.replicate_succ, List.replicate_zero, List.getElem?_cons_zero, List.getElem?_cons_succ, List.set_cons_zero, List.set_cons_succ, setF, Nat.reduceLT, if_true, nxR, thenR, retR, iteK_t, iteK_f, afterB, wipeF, tgo, tgt, bindK_some, and_self, outR_rt, outR_nx, outR_ex, Bool.not_true, Bool.not_false, Bool.false_eq_true, if_false, gOk_nil, andK_t, andK_f, notR_b, truR_b, isT_int, isT_bool, isT_tup, cmp_eq, cmp_ne, cmp_lt, cmp_le, cmp_gt, cmp_ge, add_ok, sub_ok, neg_ok, someR, lit0, lit1, lit2, newR, decide_true, decide_false, andK_t, outR_rt, c, true_and]
  · rw [decide_eq_false c]
    simp -implicitDefEqProofs only [evE, evEs, evOE, evT, evL, evI, evS, evSs, bind_ok, bind_ex, cal_fn, start0, List.map_cons, List.map_nil, List.length_cons, List.length_nil, List.cons_append, List.nil_append, Nat.reduceAdd, Nat.reduceSub, List.replicate_succ, List.replicate_zero, List.getElem?_cons_zero, List.getElem?_cons_succ, List.set_cons_zero, List.set_cons_succ, setF, Nat.reduceLT, if_true, nxR, thenR, retR, iteK_t, iteK_f, afterB, wipeF, tgo, tgt, bindK_some, and_self, outR_rt, outR_nx, outR_ex, Bool.not_true, Bool.not_false, Bool.false_eq_true, if_false, gOk_nil, andK_t, andK_f, notR_b, truR_b, isT_int, isT_bool, isT_tup, cmp_eq, cmp_ne, cmp_lt, cmp_le, cmp_gt, cmp_ge, add_ok, sub_ok, neg_ok, someR, lit0, lit1, lit2, newR, decide_true, decide_false, andK_f, outR_rt, c, false_and, decide_false]
theorem ckWord_ok (S : At pg s) (n : Nat) (i : Int) (h0 : 0 ≤ i) (h1 : i < 65536) (h : Hs) : callI pg (n + 3) s.ckWord [.int i] h = .ok .non h := by
  rw [callI_of S.ckWord rfl]
  unfold f_ckWord
  simp -implicitDefEqProofs only [evE, evEs, evOE, evT, evL, evI, evS, evSs, bind_ok, bind_ex, cal_fn, start0, List.map_cons, List.map_nil, List.length_cons, List.length_nil, List.cons_append, List.nil_append, Nat.reduceAdd, Nat.reduceSub, List.replicate_succ, List.replicate_zero, List.getElem?_cons_zero, List.getElem?_cons_succ, List.set_cons_zero, List.set_cons_succ, setF, Nat.reduceLT, if_true, nxR, thenR, retR, iteK_t, iteK_f, afterB, wipeF, tgo, tgt, bindK_some, and_self, outR_rt, outR_nx, outR_ex, Bool.not_true, Bool.not_false, Bool.false_eq_true, if_false, gOk_nil, andK_t, andK_f, notR_b, truR_b, isT_int, isT_bool, isT_tup, cmp_eq, cmp_ne, cmp_lt, cmp_le, cmp_gt, cmp_ge, add_ok, sub_ok, neg_ok, someR, lit0, lit1, lit2, newR, decide_true, decide_false, isWord_ok S, h0, h1, and_self, decide_true, truR_b, Bool.not_true, outR_nx]
theorem scaled_ok (S : At pg s) (n : Nat) (b : Bool) (xs : List Int) (c : Int) (hc : 0 ≤ c ∧ c ≤ 65536) (hl : xs.length < LIM) (h : Hs) : callI pg (n + 1) s.scaled [TI b xs, .int c] h = .ok (TI false (scl c xs)) h := by
  rw [callI_of S.scaled rfl]
  unfold f_scaled
  simp -implicitDefEqProofs only [evE, evEs, evOE, evT, evL, evI, evS, evSs, bind_ok, bind_ex, cal_fn, start0, List.map_cons, List.map_nil, List.length_cons, List.length_nil, List.cons_append, List.nil_append, Nat.reduceAdd, Nat.reduceSub, List.replicate_succ, List.replicate_zero, List.getElem?_cons_zero, List.getElem?_cons_succ, List.set_cons_zero, List.set_cons_succ, setF, Nat.reduceLT, if_true, nxR, thenR, retR, iteK_t, iteK_f, afterB, wipeF, tgo, tgt, bindK_some, and_self, outR_rt, outR_nx, outR_ex, Bool.not_true, Bool.not_false, Bool.false_eq_true, if_false, gOk_nil, andK_t, andK_f, notR_b, truR_b, isT_int, isT_bool, isT_tup, cmp_eq, cmp_ne, cmp_lt, cmp_le, cmp_gt, cmp_ge, add_ok, sub_ok, neg_ok, someR, lit0, lit1, lit2, newR, decide_true, decide_false, TI, itOf_tup]
  rw [loopR_pure (J := ⟨ri xs, []⟩) (by rw [ri_len]; exact hl) rfl (fun d => match d with | .int x => some (.int (x * c % 65536)) | _ => none)]
  · simp -implicitDefEqProofs only [evE, evEs, evOE, evT, evL, evI, evS, evSs, bind_ok, bind_ex, cal_fn, start0, List.map_cons, List.map_nil, List.length_cons, List.length_nil, List.cons_append, List.nil_append, Nat.reduceAdd, Nat.reduceSub, List.replicate_succ, List.replicate_zero, List.getElem?_cons_zero, List.getElem?_cons_succ, List.set_cons_zero, List.set_cons_succ, setF, Nat.reduceLT, if_true, nxR, thenR, retR, iteK_t, iteK_f, afterB, wipeF, tgo, tgt, bindK_some, and_self, outR_rt, outR_nx, outR_ex, Bool.not_true, Bool.not_false, Bool.false_eq_true, if_false, gOk_nil, andK_t, andK_f, notR_b, truR_b, isT_int, isT_bool, isT_tup, cmp_eq, cmp_ne, cmp_lt, cmp_le, cmp_gt, cmp_ge, add_ok, sub_ok, neg_ok, someR, lit0, lit1, lit2, newR, decide_true, decide_false, blD_tuple]
    congr 1
    simp [scl, ri, List.filterMap_map, Function.comp_def, fmap_some]
  · intro x hx
    obtain ⟨i, _, rfl⟩ := List.mem_map.mp hx
    simp -implicitDefEqProofs only [evE, evEs, evOE, evT, evL, evI, evS, evSs, bind_ok, bind_ex, cal_fn, start0, List.map_cons, List.map_nil, List.length_cons, List.length_nil, List.cons_append, List.nil_append, Nat.reduceAdd, Nat.reduceSub, List.replicate_succ, List.replicate_zero, List.getElem?_cons_zero, List.getElem?_cons_succ, List.set_cons_zero, List.set_cons_succ, setF, Nat.reduceLT, if_true, nxR, thenR, retR, iteK_t, iteK_f, afterB, wipeF, tgo, tgt, bindK_some, and_self, outR_rt, outR_nx, outR_ex, Bool.not_true, Bool.not_false, Bool.false_eq_true, if_false, gOk_nil, andK_t, andK_f, notR_b, truR_b, isT_int, isT_bool, isT_tup, cmp_eq, cmp_ne, cmp_lt, cmp_le, cmp_gt, cmp_ge, add_ok, sub_ok, neg_ok, someR, lit0, lit1, lit2, newR, decide_true, decide_false, mul_ok h (mulOk_r (i := i) (j := c) (by omega) (by omega)), cal_con S.cSIZE, mod_pos _ h (show (0 : Int) < 65536 by decide)]
theorem lessened_ok (S : At pg s) (n : Nat) (b b' : Bool) (xs ys : List Int) (c : Int) (hc : 0 ≤ c ∧ c < 65536) (hl : xs.length < LIM) (h : Hs) :
    callI pg (n + 1) s.lessened [TI b xs, .int c, TI b' ys] h = .ok (TI false (les c xs ys)) h := by
  rw [callI_of S.lessened rfl]
  unfold f_lessened
  simp -implicitDefEqProofs only [evE, evEs, evOE, evT, evL, evI, evS, evSs, bind_ok, bind_ex, cal_fn, start0, List.map_cons, List.map_nil, List.length_cons, List.length_nil, List.cons_append, List.nil_append, Nat.reduceAdd, Nat.reduceSub, List.replicate_succ, List.replicate_zero, List.getElem?_cons_zero, List.getElem?_cons_succ, List.set_cons_zero, List.set_cons_succ, setF, Nat.reduceLT, if_true, nxR, thenR, retR, iteK_t, iteK_f, afterB, wipeF, tgo, tgt, bindK_some, and_self, outR_rt, outR_nx, outR_ex, Bool.not_true, Bool.not_false, Bool.false_eq_true, if_false, gOk_nil, andK_t, andK_f, notR_b, truR_b, isT_int, isT_bool, isT_tup, cmp_eq, cmp_ne, cmp_lt, cmp_le, cmp_gt, cmp_ge, add_ok, sub_ok, neg_ok, someR, lit0, lit1, lit2, newR, decide_true, decide_false, TI, itZip_tup]
  rw [loopR_pure (J := ⟨((ri xs).zip (ri ys)).map fun p => .tup false [p.1, p.2], []⟩) (by simp [ri_len]; omega) rfl (fun d => match d with | .tup _ [.int x, .int y] => some (.int ((x - c * y) % 65536)) | _ => none)]
  · simp -implicitDefEqProofs only [evE, evEs, evOE, evT, evL, evI, evS, evSs, bind_ok, bind_ex, cal_fn, start0, List.map_cons, List.map_nil, List.length_cons, List.length_nil, List.cons_append, List.nil_append, Nat.reduceAdd, Nat.reduceSub, List.replicate_succ, List.replicate_zero, List.getElem?_cons_zero, List.getElem?_cons_succ, List.set_cons_zero, List.set_cons_succ, setF, Nat.reduceLT, if_true, nxR, thenR, retR, iteK_t, iteK_f, afterB, wipeF, tgo, tgt, bindK_some, and_self, outR_rt, outR_nx, outR_ex, Bool.not_true, Bool.not_false, Bool.false_eq_true, if_false, gOk_nil, andK_t, andK_f, notR_b, truR_b, isT_int, isT_bool, isT_tup, cmp_eq, cmp_ne, cmp_lt, cmp_le, cmp_gt, cmp_ge, add_ok, sub_ok, neg_ok, someR, lit0, lit1, lit2, newR, decide_true, decide_false, blD_tuple]
    congr 1
    simp only [ri, List.zip_map, List.map_map, List.filterMap_map, Function.comp_def, Prod.map, fmap_some]
    simp [les, List.zip, List.map_zipWith]
  · intro x hx
    obtain ⟨p, hp, rfl⟩ := List.mem_map.mp hx
    simp only [ri, List.zip_map] at hp
    obtain ⟨q, _, rfl⟩ := List.mem_map.mp hp
    simp -implicitDefEqProofs only [evE, evEs, evOE, evT, evL, evI, evS, evSs, bind_ok, bind_ex, cal_fn, start0, List.map_cons, List.map_nil, List.length_cons, List.length_nil, List.cons_append, List.nil_append, Nat.reduceAdd, Nat.reduceSub, List.replicate_succ, List.replicate_zero, List.getElem?_cons_zero, List.getElem?_cons_succ, List.set_cons_zero, List.set_cons_succ, setF, Nat.reduceLT, if_true, nxR, thenR, retR, iteK_t, iteK_f, afterB, wipeF, tgo, tgt, bindK_some, and_self, outR_rt, outR_nx, outR_ex, Bool.not_true, Bool.not_false, Bool.false_eq_true, if_false, gOk_nil, andK_t, andK_f, notR_b, truR_b, isT_int, isT_bool, isT_tup, cmp_eq, cmp_ne, cmp_lt, cmp_le, cmp_gt, cmp_ge, add_ok, sub_ok, neg_ok, someR, lit0, lit1, lit2, newR, decide_true, decide_false, Prod.map, mul_ok h (mulOk_l (i := c) (j := q.2) (by omega) (by omega)), cal_con S.cSIZE, mod_pos _ h (show (0 : Int) < 65536 by decide)]
theorem leadN_pre : ∀ (xs : List Int) (k : Nat), (∀ i, i < k → i < xs.length → fn xs i = 0) → k ≤ xs.length → leadN xs = k + leadN (xs.drop k)
  | xs, 0, _, _ => by simp
  | [], k + 1, _, h => by simp at h
  | x :: r, k + 1, h, hl => by
    have e : x = 0 := h 0 (by omega) (by simp)
    have ih := leadN_pre r k (fun i a b => h (i + 1) (by omega) (by simp; omega)) (by simpa using hl)
    simp only [leadN, e, ne_eq, not_true_eq_false, if_false, List.drop_succ_cons]
    omega
theorem lead_body (c : Cal) (wl : Nat) (b : Bool) (xs : List Int) (h : Hs) : outR (evSs c wl (.cons (.forS (.two 1 2) (.enum (.var 0)) (.cons (.ifS (.of (.cmp .ne (.var 2) (.con (.int 0)))) (.cons (.ret (.var 1)) .nil) .nil) .nil)) (.cons (.ret (.bi .len (.cons (.var 0) .nil))) .nil)) [some (TI b xs), none, none] h) = .ok (.int (leadN xs)) h := by
  simp -implicitDefEqProofs only [evE, evEs, evOE, evT, evL, evI, evS, evSs, bind_ok, bind_ex, cal_fn, start0, List.map_cons, List.map_nil, List.length_cons, List.length_nil, List.cons_append, List.nil_append, Nat.reduceAdd, Nat.reduceSub, List.replicate_succ, List.replicate_zero, List.getElem?_cons_zero, List.getElem?_cons_succ, List.set_cons_zero, List.set_cons_succ, setF, Nat.reduceLT, if_true, nxR, thenR, retR, iteK_t, iteK_f, afterB, wipeF, tgo, tgt, bindK_some, and_self, outR_rt, outR_nx, outR_ex, Bool.not_true, Bool.not_false, Bool.false_eq_true, if_false, gOk_nil, andK_t, andK_f, notR_b, truR_b, isT_int, isT_bool, isT_tup, cmp_eq, cmp_ne, cmp_lt, cmp_le, cmp_gt, cmp_ge, add_ok, sub_ok, neg_ok, someR, lit0, lit1, lit2, newR, decide_true, decide_false, TI, itEnum_tup]
  generalize e : forLoop _ _ _ _ _ = r
  have key : (∃ u v, leadN xs = xs.length ∧ r = .ok (.nx [some (.tup b (ri xs)), u, v]) h) ∨ r = .ok (.rt (.int (leadN xs))) h := by
    rw [← e]
    refine forLoop_go (Pv := fun done rest δ h' => h' = h ∧ (∃ u v, δ = [some (.tup b (ri xs)), u, v]) ∧ (∃ k, k ≤ xs.length ∧ rest = ((ri (xs.drop k)).zipIdx k).map (fun p => D.tup false [.int p.2, p.1]) ∧ leadN xs = k + leadN (xs.drop k))) (Q := fun r => (∃ u v, leadN xs = xs.length ∧ r = .ok (.nx [some (.tup b (ri xs)), u, v]) h) ∨ r = .ok (.rt (.int (leadN xs))) h) ?_ ?_ ?_ _ [] _ _ ?_
    · intros; rfl
    · rintro done x rest δ h' ⟨rfl, ⟨u, v, rfl⟩, k, hk, hr, hl⟩
      have lt : k < xs.length := by
        rcases Nat.lt_or_ge k xs.length with c | c
        · exact c
        · rw [List.drop_of_length_le c] at hr
          cases hr
      rw [List.drop_eq_getElem_cons lt] at hr hl
      simp only [ri, List.map_cons, List.zipIdx_cons, List.cons.injEq] at hr
      obtain ⟨rfl, rfl⟩ := hr
      by_cases c : xs[k] = 0
      · refine .inl ⟨[some (.tup b (ri xs)), some (.int k), some (.int xs[k])], h', .inl ?_, rfl, ⟨_, _, rfl⟩, k + 1, by omega, rfl, ?_⟩
        · simp -implicitDefEqProofs only [evE, evEs, evOE, evT, evL, evI, evS, evSs, bind_ok, bind_ex, cal_fn, start0, List.map_cons, List.map_nil, List.length_cons, List.length_nil, List.cons_append, List.nil_append, Nat.reduceAdd, Nat.reduceSub, List.replicate_succ, List.replicate_zero, List.getElem?_cons_zero, List.getElem?_cons_succ, List.set_cons_zero, List.set_cons_succ, setF, Nat.reduceLT, if_true, nxR, thenR, retR, iteK_t, iteK_f, afterB, wipeF, tgo, tgt, bindK_some, and_self, outR_rt, outR_nx, outR_ex, Bool.not_true, Bool.not_false, Bool.false_eq_true, if_false, gOk_nil, andK_t, andK_f, notR_b, truR_b, isT_int, isT_bool, isT_tup, cmp_eq, cmp_ne, cmp_lt, cmp_le, cmp_gt, cmp_ge, add_ok, sub_ok, neg_ok, someR, lit0, lit1, lit2, newR, decide_true, decide_false, c, ne_eq, not_true_eq_false]
        · rw [hl]
          simp only [leadN, c, ne_eq, not_true_eq_false, if_false]
          omega
      · refine .inr (.inr ⟨.int k, h', ?_, .inr ?_⟩)
        · simp -implicitDefEqProofs only [evE, evEs, evOE, evT, evL, evI, evS, evSs, bind_ok, bind_ex, cal_fn, start0, List.map_cons, List.map_nil, List.length_cons, List.length_nil, List.cons_append, List.nil_append, Nat.reduceAdd, Nat.reduceSub, List.replicate_succ, List.replicate_zero, List.getElem?_cons_zero, List.getElem?_cons_succ, List.set_cons_zero, List.set_cons_succ, setF, Nat.reduceLT, if_true, nxR, thenR, retR, iteK_t, iteK_f, afterB, wipeF, tgo, tgt, bindK_some, and_self, outR_rt, outR_nx, outR_ex, Bool.not_true, Bool.not_false, Bool.false_eq_true, if_false, gOk_nil, andK_t, andK_f, notR_b, truR_b, isT_int, isT_bool, isT_tup, cmp_eq, cmp_ne, cmp_lt, cmp_le, cmp_gt, cmp_ge, add_ok, sub_ok, neg_ok, someR, lit0, lit1, lit2, newR, decide_true, decide_false, c, ne_eq, not_false_eq_true]
        · rw [hl]
          simp only [leadN, c, ne_eq, not_false_eq_true, if_true, Nat.add_zero]
    · rintro done δ h' ⟨rfl, ⟨u, v, rfl⟩, k, hk, hr, hl⟩
      refine .inl ⟨u, v, ?_, rfl⟩
      rcases Nat.lt_or_ge k xs.length with c | c
      · rw [List.drop_eq_getElem_cons c] at hr
        cases hr
      · rw [hl, List.drop_of_length_le c]
        simp only [leadN]
        omega
    · exact ⟨rfl, ⟨_, _, rfl⟩, 0, Nat.zero_le _, rfl, by simp⟩
  rcases key with ⟨u, v, hl, rfl⟩ | rfl
  · simp -implicitDefEqProofs only [evE, evEs, evOE, evT, evL, evI, evS, evSs, bind_ok, bind_ex, cal_fn, start0, List.map_cons, List.map_nil, List.length_cons, List.length_nil, List.cons_append, List.nil_append, Nat.reduceAdd, Nat.reduceSub, List.replicate_succ, List.replicate_zero, List.getElem?_cons_zero, List.getElem?_cons_succ, List.set_cons_zero, List.set_cons_succ, setF, Nat.reduceLT, if_true, nxR, thenR, retR, iteK_t, iteK_f, afterB, wipeF, tgo, tgt, bindK_some, and_self, outR_rt, outR_nx, outR_ex, Bool.not_true, Bool.not_false, Bool.false_eq_true, if_false, gOk_nil, andK_t, andK_f, notR_b, truR_b, isT_int, isT_bool, isT_tup, cmp_eq, cmp_ne, cmp_lt, cmp_le, cmp_gt, cmp_ge, add_ok, sub_ok, neg_ok, someR, lit0, lit1, lit2, newR, decide_true, decide_false, len_tup]
    rw [hl, ri_len]
  · simp -implicitDefEqProofs only [evE, evEs, evOE, evT, evL, evI, evS, evSs, bind_ok, bind_ex, cal_fn, start0, List.map_cons, List.map_nil, List.length_cons, List.length_nil, List.cons_append, List.nil_append, Nat.reduceAdd, Nat.reduceSub, List.replicate_succ, List.replicate_zero, List.getElem?_cons_zero, List.getElem?_cons_succ, List.set_cons_zero, List.set_cons_succ, setF, Nat.reduceLT, if_true, nxR, thenR, retR, iteK_t, iteK_f, afterB, wipeF, tgo, tgt, bindK_some, and_self, outR_rt, outR_nx, outR_ex, Bool.not_true, Bool.not_false, Bool.false_eq_true, if_false, gOk_nil, andK_t, andK_f, notR_b, truR_b, isT_int, isT_bool, isT_tup, cmp_eq, cmp_ne, cmp_lt, cmp_le, cmp_gt, cmp_ge, add_ok, sub_ok, neg_ok, someR, lit0, lit1, lit2, newR, decide_true, decide_false]
theorem lead_ok (S : At pg s) (n : Nat) (b : Bool) (xs : List Int) (h : Hs) : callI pg (n + 1) s.lead [TI b xs] h = .ok (.int (leadN xs)) h := by
  rw [callI_of S.lead rfl]
  exact lead_body _ _ b xs h
theorem rng3 (h : Hs) : rng1 (.int 3) h = .ok ⟨[.int 0, .int 1, .int 2], []⟩ h := rfl
theorem bool_neg {b : Bool} (h : ¬ b = true) : b = false := by simpa using h
theorem inverse_ok (S : At pg s) (n : Nat) (x : Int) (h0 : 0 ≤ x) (h1 : x < 65536) (ho : x % 2 = 1) (h : Hs) : callI pg (n + 4) s.inverse [.int x] h = .ok (.int (inv x)) h := by
  rw [callI_of S.inverse rfl]
  unfold f_inverse
  have m : ∀ f, 0 ≤ f → f < 65536 → mulOk x f = true ∧ mulOk f (2 - x * f) = true := fun f a b => ⟨mulOk_l (by omega) (by omega), mulOk_l (by omega) (by omega)⟩
  have b1 := invf_bd x x
  have b2 := invf_bd x (invf x x)
  simp -implicitDefEqProofs only [evE, evEs, evOE, evT, evL, evI, evS, evSs, bind_ok, bind_ex, cal_fn, start0, List.map_cons, List.map_nil, List.length_cons, List.length_nil, List.cons_append, List.nil_append, Nat.reduceAdd, Nat.reduceSub, List.replicate_succ, List.replicate_zero, List.getElem?_cons_zero, List.getElem?_cons_succ, List.set_cons_zero, List.set_cons_succ, setF, Nat.reduceLT, if_true, nxR, thenR, retR, iteK_t, iteK_f, afterB, wipeF, tgo, tgt, bindK_some, and_self, outR_rt, outR_nx, outR_ex, Bool.not_true, Bool.not_false, Bool.false_eq_true, if_false, gOk_nil, andK_t, andK_f, notR_b, truR_b, isT_int, isT_bool, isT_tup, cmp_eq, cmp_ne, cmp_lt, cmp_le, cmp_gt, cmp_ge, add_ok, sub_ok, neg_ok, someR, lit0, lit1, lit2, newR, decide_true, decide_false, ckWord_ok S _ x h0 h1, mod_pos x h (show (0 : Int) < 2 by decide), ho, show ¬ (1 : Int) = 0 by decide, rng3, forLoop, mul_ok h (m x h0 h1).1, mul_ok h (m x h0 h1).2, cal_con S.cSIZE, mod_pos _ h (show (0 : Int) < 65536 by decide)]
  rw [show x * (2 - x * x) % 65536 = invf x x from rfl]
  simp -implicitDefEqProofs only [evE, evEs, evOE, evT, evL, evI, evS, evSs, bind_ok, bind_ex, cal_fn, start0, List.map_cons, List.map_nil, List.length_cons, List.length_nil, List.cons_append, List.nil_append, Nat.reduceAdd, Nat.reduceSub, List.replicate_succ, List.replicate_zero, List.getElem?_cons_zero, List.getElem?_cons_succ, List.set_cons_zero, List.set_cons_succ, setF, Nat.reduceLT, if_true, nxR, thenR, retR, iteK_t, iteK_f, afterB, wipeF, tgo, tgt, bindK_some, and_self, outR_rt, outR_nx, outR_ex, Bool.not_true, Bool.not_false, Bool.false_eq_true, if_false, gOk_nil, andK_t, andK_f, notR_b, truR_b, isT_int, isT_bool, isT_tup, cmp_eq, cmp_ne, cmp_lt, cmp_le, cmp_gt, cmp_ge, add_ok, sub_ok, neg_ok, someR, lit0, lit1, lit2, newR, decide_true, decide_false, mul_ok h (m _ b1.1 b1.2).1, mul_ok h (m _ b1.1 b1.2).2, cal_con S.cSIZE, mod_pos _ h (show (0 : Int) < 65536 by decide), forLoop]
  rw [show invf x x * (2 - x * invf x x) % 65536 = invf x (invf x x) from rfl]
  simp -implicitDefEqProofs only [evE, evEs, evOE, evT, evL, evI, evS, evSs, bind_ok, bind_ex, cal_fn, start0, List.map_cons, List.map_nil, List.length_cons, List.length_nil, List.cons_append, List.nil_append, Nat.reduceAdd, Nat.reduceSub, List.replicate_succ, List.replicate_zero, List.getElem?_cons_zero, List.getElem?_cons_succ, List.set_cons_zero, List.set_cons_succ, setF, Nat.reduceLT, if_true, nxR, thenR, retR, iteK_t, iteK_f, afterB, wipeF, tgo, tgt, bindK_some, and_self, outR_rt, outR_nx, outR_ex, Bool.not_true, Bool.not_false, Bool.false_eq_true, if_false, gOk_nil, andK_t, andK_f, notR_b, truR_b, isT_int, isT_bool, isT_tup, cmp_eq, cmp_ne, cmp_lt, cmp_le, cmp_gt, cmp_ge, add_ok, sub_ok, neg_ok, someR, lit0, lit1, lit2, newR, decide_true, decide_false, mul_ok h (m _ b2.1 b2.2).1, mul_ok h (m _ b2.1 b2.2).2, cal_con S.cSIZE, mod_pos _ h (show (0 : Int) < 65536 by decide), forLoop]
  rfl
theorem bitAnd_neg {x : Int} (h0 : 0 < x) : ∃ e m : Nat, x = 2 ^ e * (m : Int) ∧ m % 2 = 1 ∧ Builtin.bitAnd x (-x) = 2 ^ e := by
  obtain ⟨k, rfl⟩ : ∃ k : Nat, x = (k : Int) := ⟨x.toNat, by omega⟩
  obtain ⟨e, m, h1, h2, h3⟩ := low_pow k (by omega)
  refine ⟨e, m, by rw [h1]; simp, h2, ?_⟩
  unfold Builtin.bitAnd
  rw [decide_eq_true (show (0 : Int) ≤ (k : Int) by omega), decide_eq_false (show ¬ (0 : Int) ≤ -(k : Int) by omega)]
  show (k : Int) - (((k : Int).toNat &&& (Builtin.bitNot (-(k : Int))).toNat : Nat) : Int) = 2 ^ e
  have : (Builtin.bitNot (-(k : Int))).toNat = k - 1 := by
    unfold Builtin.bitNot
    omega
  rw [this, Int.toNat_natCast]
  have h4 : ((2 : Int) ^ e) = ((2 ^ e : Nat) : Int) := by simp
  rw [h4]
  omega
/-- a row with the same span whose first number is a power of 2 -/
theorem withPower_ok (S : At pg s) (n : Nat) (b : Bool) {w : Nat} {xs : List Int} (hr : Row w xs) (hw : w < LIM) {p : Nat} (hp : p < w) (hz : fn xs p ≠ 0) (h : Hs) :
    ∃ ys m c, callI pg (n + 5) s.withPower [TI b xs, .int p] h = .ok (TI false ys) h ∧ Row w ys ∧ pw2 (fn ys p) ∧ (∀ i, (65536 : Int) ∣ fn xs i - m * fn ys i) ∧ (∀ i, (65536 : Int) ∣ fn ys i - c * fn xs i) ∧ ∀ i, fn xs i = 0 → fn ys i = 0 := by
  have bd := hr.bd p
  obtain ⟨e, m, h1, h2, h3⟩ := bitAnd_neg (x := fn xs p) (by omega)
  have hl : p < xs.length := by rw [hr.1]; exact hp
  have pe : (0 : Int) < 2 ^ e := Int.pow_pos (by decide)
  have m0 : (0 : Int) < m := by omega
  have mx : (m : Int) ≤ fn xs p := by
    rw [h1]
    have := Int.mul_le_mul_of_nonneg_right (show (1 : Int) ≤ 2 ^ e by omega) (show (0 : Int) ≤ m by omega)
    omega
  have ex : (2 : Int) ^ e ≤ fn xs p := by
    rw [h1]
    have := Int.mul_le_mul_of_nonneg_left (show (1 : Int) ≤ m by omega) (show (0 : Int) ≤ 2 ^ e by omega)
    omega
  have e16 : e < 16 := by
    rcases Nat.lt_or_ge e 16 with c | c
    · exact c
    · have : (2 : Nat) ^ 16 ≤ 2 ^ e := Nat.pow_le_pow_right (by decide) c
      have h4 : ((2 : Int) ^ e) = ((2 ^ e : Nat) : Int) := by simp
      omega
  have q : fn xs p / 2 ^ e = m := by rw [h1]; exact Int.mul_ediv_cancel_left _ (by omega)
  have iv := inv_ok (x := m) (by omega)
  have ib := inv_bd m
  refine ⟨scl (inv m) xs, m, inv m, ?_, row_scl _ hr.1, ⟨e, e16, ?_⟩, fun i => ?_, fun i => ?_, fun i hi => ?_⟩
  · rw [callI_of S.withPower rfl]
    unfold f_withPower
    have a : binD .and_ (.int (fn xs p)) (.int (-fn xs p)) h = .ok (.int (2 ^ e)) h := by
      show R.ok (D.int (Builtin.bitAnd (fn xs p) (-fn xs p))) h = _
      rw [h3]
    simp -implicitDefEqProofs only [evE, evEs, evOE, evT, evL, evI, evS, evSs, bind_ok, bind_ex, cal_fn, start0, List.map_cons, List.map_nil, List.length_cons, List.length_nil, List.cons_append, List.nil_append, Nat.reduceAdd, Nat.reduceSub, List.replicate_succ, List.replicate_zero, List.getElem?_cons_zero, List.getElem?_cons_succ, List.set_cons_zero, List.set_cons_succ, setF, Nat.reduceLT, if_true, nxR, thenR, retR, iteK_t, iteK_f, afterB, wipeF, tgo, tgt, bindK_some, and_self, outR_rt, outR_nx, outR_ex, Bool.not_true, Bool.not_false, Bool.false_eq_true, if_false, gOk_nil, andK_t, andK_f, notR_b, truR_b, isT_int, isT_bool, isT_tup, cmp_eq, cmp_ne, cmp_lt, cmp_le, cmp_gt, cmp_ge, add_ok, sub_ok, neg_ok, someR, lit0, lit1, lit2, newR, decide_true, decide_false, ix_TI hl, a, div_pos _ h pe (log2_small pe (by omega)), q, inverse_ok S _ m (by omega) (by omega) (by omega), scaled_ok S _ b xs _ ⟨ib.1, by omega⟩ (by rw [hr.1]; exact hw)]
  · rw [fn_scl, h1]
    obtain ⟨k, hk⟩ := iv
    have : 2 ^ e * (m : Int) * inv m = 2 ^ e + 65536 * (-(2 ^ e * k)) := by
      have : (m : Int) * inv m = 1 - 65536 * k := by omega
      rw [Int.mul_assoc, this]
      grind
    rw [this, Int.add_mul_emod_self_left]
    exact Int.emod_eq_of_lt (by omega) (by omega)
  · rw [fn_scl]
    obtain ⟨k, hk⟩ := iv
    obtain ⟨t, ht⟩ := dvd_mod' (fn xs i * inv m)
    exact ⟨fn xs i * k + m * t, by grind⟩
  · rw [fn_scl]
    obtain ⟨t, ht⟩ := dvd_mod (fn xs i * inv m)
    exact ⟨t, by grind⟩
  · rw [fn_scl, hi]
    simp
def phi (F : Nat → Option (List Int)) (p : Nat) : Nat := match F p with
  | some r => (fn r p).toNat.log2
  | none => 17
def Phi (w : Nat) (F : Nat → Option (List Int)) : Nat := ((List.range w).map (phi F)).sum
def sig (w : Nat) (W : List (List Int)) : Nat := (W.map fun x => w + 1 - leadN x).sum
def mu (w : Nat) (F : Nat → Option (List Int)) (W : List (List Int)) : Nat := Phi w F * (2 * w + 3) + sig w W
theorem sig_app (w : Nat) (W : List (List Int)) (x : List Int) : sig w (W ++ [x]) = sig w W + (w + 1 - leadN x) := by simp [sig]
theorem phi_le {w : Nat} {F : Nat → Option (List Int)} (B : Bp w F) (p : Nat) : phi F p ≤ 17 := by
  unfold phi
  split
  · next r h => have := (B.pw p r h).log16; omega
  · exact Nat.le_refl _
theorem sum_const (l : List Nat) (c : Nat) : (l.map fun _ => c).sum = l.length * c := by
  induction l with
  | nil => simp
  | cons x r ih => simp only [List.map_cons, List.sum_cons, List.length_cons, ih, Nat.succ_mul]; omega
theorem Phi_le {w : Nat} {F : Nat → Option (List Int)} (B : Bp w F) : Phi w F ≤ 17 * w := by
  have h1 := sum_le (l := List.range w) (f := phi F) (g := fun _ => 17) fun i _ => phi_le B i
  rw [sum_const, List.length_range] at h1
  unfold Phi
  omega
theorem len_sig {w : Nat} : ∀ {W : List (List Int)}, (∀ x ∈ W, Row w x) → W.length ≤ sig w W
  | [], _ => Nat.zero_le _
  | x :: r, h => by
    have ih := len_sig fun y hy => h y (List.mem_cons_of_mem _ hy)
    have h1 := leadN_le x
    have h2 := (h x List.mem_cons_self).1
    unfold sig at ih ⊢
    simp only [List.map_cons, List.sum_cons, List.length_cons]
    omega
theorem mu_put {w : Nat} {F : Nat → Option (List Int)} (B : Bp w F) {W : List (List Int)} {x y hi : List Int} {p : Nat} (hp : p < w) (xp : leadN x = p) (yp : pw2 (fn y p)) (hn : ∀ f, F p = some f → fn y p < fn f p) :
    mu w (put F p y) (W ++ olds F p ++ [hi]) < mu w F (W ++ [x]) := by
  have le : ∀ i, phi (put F p y) i ≤ phi F i ∧ (i = p → phi (put F p y) i < phi F i) := fun i => by
    unfold phi
    by_cases e : i = p
    · subst e
      rw [put_same]
      cases hF : F i with
      | none => have := yp.log16; simp only; omega
      | some f => have := yp.log (B.pw i f hF) (hn f hF); simp only; omega
    · rw [put_ne e]
      exact ⟨Nat.le_refl _, fun z => absurd z e⟩
  have h1 : Phi w (put F p y) < Phi w F := sum_lt (j := p) (fun i _ => (le i).1) (by simpa using hp) ((le p).2 rfl)
  have h2 : sig w (olds F p) ≤ w + 1 - p := by
    unfold olds
    cases hF : F p with
    | none => simp [sig]
    | some f =>
      have := leadN_ge (B.low p f hF) (by rw [(B.row p f hF).1]; omega)
      simp only [sig, List.map_cons, List.map_nil, List.sum_cons, List.sum_nil]
      omega
  have h3 : sig w (W ++ olds F p ++ [hi]) = sig w W + sig w (olds F p) + (w + 1 - leadN hi) := by simp [sig, Nat.add_assoc]
  unfold mu
  rw [h3, sig_app, xp]
  have h4 : Phi w (put F p y) * (2 * w + 3) + (2 * w + 3) ≤ Phi w F * (2 * w + 3) := by
    have := Nat.mul_le_mul_right (2 * w + 3) h1
    rw [Nat.succ_mul] at this
    exact this
  omega
abbrev FD (F : Nat → Option (List Int)) : Nat → Option D := fun p => (F p).map (TI false)
theorem FD_put (F : Nat → Option (List Int)) (p : Nat) (y : List Int) : (fun q => if q = p then some (TI false y) else FD F q) = FD (put F p y) := by
  funext q
  unfold FD put
  split <;> rfl
theorem takeIn_ok (S : At pg s) (n : Nat) {w : Nat} (hw : w ≤ 50) (hw0 : 0 < w) {h : Hs} {k : Nat} {kvs : List (L2.Key × D)} (hk : h[k]? = some (.dct kvs)) {F : Nat → Option (List Int)} (B : Bp w F) (C : CloW F []) (DD : DF kvs (FD F)) {b : Bool} {row : List Int} (hr : Row w row) :
    ∃ kvs' F' g, callI pg (n + 6) s.takeIn [.ref k, TI b row] h = .ok (.bl g) (h.set k (.dct kvs') ++ [O.lst []]) ∧ DF kvs' (FD F') ∧ Bp w F' ∧ CloW F' [] ∧ (∀ g, HL F [row] 0 g → Sp (HL F' [] 0) g) ∧ (∀ g, HL F' [] 0 g → Sp (HL F [row] 0) g) := by
  have kl : k < h.length := (List.getElem?_eq_some_iff.mp hk).1
  have h0 : h.set k (.dct kvs) = h := by
    have e := (List.getElem?_eq_some_iff.mp hk).2
    rw [← e]
    exact List.set_getElem_self kl
  rw [callI_of S.takeIn rfl]
  unfold f_takeIn
  simp -implicitDefEqProofs only [evE, evEs, evOE, evT, evL, evI, evS, evSs, bind_ok, bind_ex, cal_fn, start0, List.map_cons, List.map_nil, List.length_cons, List.length_nil, List.cons_append, List.nil_append, Nat.reduceAdd, Nat.reduceSub, List.replicate_succ, List.replicate_zero, List.getElem?_cons_zero, List.getElem?_cons_succ, List.set_cons_zero, List.set_cons_succ, setF, Nat.reduceLT, if_true, nxR, thenR, retR, iteK_t, iteK_f, afterB, wipeF, tgo, tgt, bindK_some, and_self, outR_rt, outR_nx, outR_ex, Bool.not_true, Bool.not_false, Bool.false_eq_true, if_false, gOk_nil, andK_t, andK_f, notR_b, truR_b, isT_int, isT_bool, isT_tup, cmp_eq, cmp_ne, cmp_lt, cmp_le, cmp_gt, cmp_ge, add_ok, sub_ok, neg_ok, someR, lit0, lit1, lit2, newR, decide_true, decide_false]
  generalize e : whileLoop _ _ _ _ _ = r
  have key : ∃ kvs' F' g x pl, r = .ok (.nx [some (.ref k), x, some (.bl g), some (.ref h.length), pl]) (h.set k (.dct kvs') ++ [O.lst []]) ∧ DF kvs' (FD F') ∧ Bp w F' ∧ CloW F' [] ∧ (∀ g, HL F [row] 0 g → Sp (HL F' [] 0) g) ∧ (∀ g, HL F' [] 0 g → Sp (HL F [row] 0) g) := by
    rw [← e]
    clear e
    refine while_go (fun m δ H => ∃ F' kvs' W g x pl, m = mu w F' (W.map (·.2)) ∧ m ≤ 1000000 ∧ δ = [some (.ref k), x, some (.bl g), some (.ref h.length), pl] ∧ H = h.set k (.dct kvs') ++ [O.lst (wd W)] ∧ DF kvs' (FD F') ∧ Bp w F' ∧ CloW F' (W.map (·.2)) ∧ (∀ p ∈ W, Row w p.2) ∧
      (∀ g, HL F [row] 0 g → Sp (HL F' (W.map (·.2)) 0) g) ∧ (∀ g, HL F' (W.map (·.2)) 0 g → Sp (HL F [row] 0) g))
      (Q := fun r => ∃ kvs' F' g x pl, r = .ok (.nx [some (.ref k), x, some (.bl g), some (.ref h.length), pl]) (h.set k (.dct kvs') ++ [O.lst []]) ∧ DF kvs' (FD F') ∧ Bp w F' ∧ CloW F' [] ∧ (∀ g, HL F [row] 0 g → Sp (HL F' [] 0) g) ∧ (∀ g, HL F' [] 0 g → Sp (HL F [row] 0) g)) ?_ _ (mu w F [row]) _ _ ?_ ?_
    · rintro m δ H ⟨F', kvs', W, g, x, pl, rfl, hm, rfl, rfl, D', B', C', R', s1, s2⟩
      rcases List.eq_nil_or_concat W with rfl | ⟨W0, ⟨b, x0⟩, e1⟩
      · refine .inl ⟨_, ?_, kvs', F', g, x, pl, rfl, D', B', C', s1, s2⟩
        have at1 : (h.set k (O.dct kvs') ++ [O.lst []])[h.length]? = some (.lst []) := hk_last
        simp -implicitDefEqProofs only [evE, evEs, evOE, evT, evL, evI, evS, evSs, bind_ok, bind_ex, cal_fn, start0, List.map_cons, List.map_nil, List.length_cons, List.length_nil, List.cons_append, List.nil_append, Nat.reduceAdd, Nat.reduceSub, List.replicate_succ, List.replicate_zero, List.getElem?_cons_zero, List.getElem?_cons_succ, List.set_cons_zero, List.set_cons_succ, setF, Nat.reduceLT, if_true, nxR, thenR, retR, iteK_t, iteK_f, afterB, wipeF, tgo, tgt, bindK_some, and_self, outR_rt, outR_nx, outR_ex, Bool.not_true, Bool.not_false, Bool.false_eq_true, if_false, gOk_nil, andK_t, andK_f, notR_b, truR_b, isT_int, isT_bool, isT_tup, cmp_eq, cmp_ne, cmp_lt, cmp_le, cmp_gt, cmp_ge, add_ok, sub_ok, neg_ok, someR, lit0, lit1, lit2, newR, decide_true, decide_false, tru_lst at1]
        rfl
      · rw [List.concat_eq_append] at e1
        subst e1
        have e0 : wd (W0 ++ [(b, x0)]) = wd W0 ++ [TI b x0] := by simp [wd]
        have ew : (W0 ++ [(b, x0)]).map (·.2) = W0.map (·.2) ++ [x0] := by simp
        rw [e0]
        rw [ew] at C' s1 s2 hm ⊢
        have at1 : (h.set k (O.dct kvs') ++ [O.lst (wd W0 ++ [TI b x0])])[h.length]? = some (.lst (wd W0 ++ [TI b x0])) := hk_last
        have at2 : (h.set k (O.dct kvs') ++ [O.lst (wd W0)])[h.length]? = some (.lst (wd W0)) := hk_last
        have at3 : (h.set k (O.dct kvs') ++ [O.lst (wd W0)])[k]? = some (.dct kvs') := hk_k kl
        have rx : Row w x0 := R' (b, x0) (by simp)
        have rW : ∀ p ∈ W0, Row w p.2 := fun p hp => R' p (List.mem_append_left _ hp)
        have pw := leadN_le x0
        have lW : W0.length + 3 < LIM := by
          have q := len_sig (W := W0.map (·.2)) fun y hy => by
            obtain ⟨p, hp, rfl⟩ := List.mem_map.mp hy
            exact rW p hp
          rw [List.length_map] at q
          unfold mu at hm
          rw [sig_app] at hm
          unfold LIM
          omega
        refine .inr ⟨h.set k (O.dct kvs') ++ [O.lst (wd W0 ++ [TI b x0])], ?_, .inl ?_⟩
        · simp -implicitDefEqProofs only [evE, evEs, evOE, evT, evL, evI, evS, evSs, bind_ok, bind_ex, cal_fn, start0, List.map_cons, List.map_nil, List.length_cons, List.length_nil, List.cons_append, List.nil_append, Nat.reduceAdd, Nat.reduceSub, List.replicate_succ, List.replicate_zero, List.getElem?_cons_zero, List.getElem?_cons_succ, List.set_cons_zero, List.set_cons_succ, setF, Nat.reduceLT, if_true, nxR, thenR, retR, iteK_t, iteK_f, afterB, wipeF, tgo, tgt, bindK_some, and_self, outR_rt, outR_nx, outR_ex, Bool.not_true, Bool.not_false, Bool.false_eq_true, if_false, gOk_nil, andK_t, andK_f, notR_b, truR_b, isT_int, isT_bool, isT_tup, cmp_eq, cmp_ne, cmp_lt, cmp_le, cmp_gt, cmp_ge, add_ok, sub_ok, neg_ok, someR, lit0, lit1, lit2, newR, decide_true, decide_false, tru_lst at1]
          congr 1
          simp
        by_cases c1 : leadN x0 = w
        · have ml : mu w F' (W0.map (·.2)) < mu w F' (W0.map (·.2) ++ [x0]) := by
            unfold mu
            rw [sig_app]
            omega
          refine ⟨[some (.ref k), some (TI b x0), some (.bl g), some (.ref h.length), some (.int w)], h.set k (O.dct kvs') ++ [O.lst (wd W0)], mu w F' (W0.map (·.2)), ml, .inr ?_, F', kvs', W0, g, _, _, rfl, by omega, rfl, rfl, D', B', ?_, rW, ?_, ?_⟩
          · simp -implicitDefEqProofs only [evE, evEs, evOE, evT, evL, evI, evS, evSs, bind_ok, bind_ex, cal_fn, start0, List.map_cons, List.map_nil, List.length_cons, List.length_nil, List.cons_append, List.nil_append, Nat.reduceAdd, Nat.reduceSub, List.replicate_succ, List.replicate_zero, List.getElem?_cons_zero, List.getElem?_cons_succ, List.set_cons_zero, List.set_cons_succ, setF, Nat.reduceLT, if_true, nxR, thenR, retR, iteK_t, iteK_f, afterB, wipeF, tgo, tgt, bindK_some, and_self, outR_rt, outR_nx, outR_ex, Bool.not_true, Bool.not_false, Bool.false_eq_true, if_false, gOk_nil, andK_t, andK_f, notR_b, truR_b, isT_int, isT_bool, isT_tup, cmp_eq, cmp_ne, cmp_lt, cmp_le, cmp_gt, cmp_ge, add_ok, sub_ok, neg_ok, someR, lit0, lit1, lit2, newR, decide_true, decide_false, refK_of _ at1, pop_at at1, hk_setl, lead_ok S, c1, len_TI, rx.1]
          · have z := leadN_zero.mp (c1.trans rx.1.symm)
            exact fun p r hp => Sp.mono (step_zero z (p + 1)) (C' p r hp)
          · exact fun g hg => Sp.mono (step_zero (leadN_zero.mp (c1.trans rx.1.symm)) 0) (s1 g hg)
          · exact fun g hg => s2 g (HL.more hg)
        · have pl' : leadN x0 < w := by rw [rx.1] at pw; omega
          have pn : fn x0 (leadN x0) ≠ 0 := leadN_at x0 (by rw [rx.1]; exact pl')
          obtain ⟨ys, m, c, e2, ry, yp, hx, hy, hz⟩ := withPower_ok S n b rx (by unfold LIM; omega) pl' pn (h.set k (O.dct kvs') ++ [O.lst (wd W0)])
          have yl : ∀ i, i < leadN x0 → fn ys i = 0 := fun i hi => hz i (leadN_low x0 i hi)
          have ypos := yp.pos
          have n1 : ¬ ((leadN x0 : Nat) : Int) = (w : Int) := by omega
          have hly : leadN x0 < ys.length := by rw [ry.1]; exact pl'
          have dv := D'.val (leadN x0)
          have lenK : kvs'.length < LIM := by
            have := D'.len (w := w) fun p hp => by
              cases hF : F' p with
              | none => unfold FD at hp; rw [hF] at hp; cases hp
              | some r => exact B'.lt p r hF
            unfold LIM
            omega
          by_cases c2 : ∃ f, F' (leadN x0) = some f ∧ fn f (leadN x0) ≤ fn ys (leadN x0)
          · obtain ⟨f, hF, hle⟩ := c2
            have rf := B'.row _ f hF
            have fp := B'.pw _ f hF
            have fpos := fp.pos
            have dv : valD kvs' (.inl (leadN x0 : Nat)) = some (TI false f) := by rw [dv]; unfold FD; rw [hF]; rfl
            obtain ⟨q, hq⟩ : ∃ q, q = fn ys (leadN x0) / fn f (leadN x0) := ⟨_, rfl⟩
            have qb : 0 ≤ q ∧ q < 65536 := by
              have h1 : q ≤ fn ys (leadN x0) := by rw [hq]; exact Int.ediv_le_self _ (by omega)
              have h2 : 0 ≤ q := by rw [hq]; exact Int.ediv_nonneg (by omega) (by omega)
              omega
            have zl : ∀ i, i < leadN x0 → fn (les q ys f) i = 0 := fun i hi => by
              rw [fn_les q (by rw [ry.1, rf.1]), yl i hi, B'.low _ f hF i hi]
              simp
            have zp : fn (les q ys f) (leadN x0) = 0 := by
              rw [fn_les q (by rw [ry.1, rf.1]), hq, Int.ediv_mul_cancel (fp.dvd yp hle)]
              simp
            have rz : Row w (les q ys f) := row_les q ry.1 rf.1
            have lz : leadN x0 + 1 ≤ leadN (les q ys f) := leadN_ge (fun i hi => by
              rcases Nat.lt_or_ge i (leadN x0) with c | c
              · exact zl i c
              · obtain rfl : i = leadN x0 := by omega
                exact zp) (by rw [rz.1]; omega)
            have ml : mu w F' (W0.map (·.2) ++ [les q ys f]) < mu w F' (W0.map (·.2) ++ [x0]) := by
              unfold mu
              rw [sig_app, sig_app]
              omega
            refine ⟨[some (.ref k), some (TI false ys), some (.bl g), some (.ref h.length), some (.int (leadN x0))], h.set k (O.dct kvs') ++ [O.lst (wd (W0 ++ [(false, les q ys f)]))], mu w F' ((W0 ++ [(false, les q ys f)]).map (·.2)), by simpa using ml, .inr ?_, F', kvs', W0 ++ [(false, les q ys f)], g, _, _, rfl, by simp; omega, rfl, rfl, D', B', ?_, ?_, ?_, ?_⟩
            · have ge : decide (fn f (leadN x0) ≤ fn ys (leadN x0)) = true := decide_eq_true hle
              have ap := append_at (d := TI false (les q ys f)) at2 (by simp; omega)
              simp -implicitDefEqProofs only [evE, evEs, evOE, evT, evL, evI, evS, evSs, bind_ok, bind_ex, cal_fn, start0, List.map_cons, List.map_nil, List.length_cons, List.length_nil, List.cons_append, List.nil_append, Nat.reduceAdd, Nat.reduceSub, List.replicate_succ, List.replicate_zero, List.getElem?_cons_zero, List.getElem?_cons_succ, List.set_cons_zero, List.set_cons_succ, setF, Nat.reduceLT, if_true, nxR, thenR, retR, iteK_t, iteK_f, afterB, wipeF, tgo, tgt, bindK_some, and_self, outR_rt, outR_nx, outR_ex, Bool.not_true, Bool.not_false, Bool.false_eq_true, if_false, gOk_nil, andK_t, andK_f, notR_b, truR_b, isT_int, isT_bool, isT_tup, cmp_eq, cmp_ne, cmp_lt, cmp_le, cmp_gt, cmp_ge, add_ok, sub_ok, neg_ok, someR, lit0, lit1, lit2, newR, decide_true, decide_false, refK_of _ at1, pop_at at1, hk_setl, lead_ok S, len_TI, rx.1, n1, e2, in_dct at3, dv, Option.isSome_some, ix_TI hly, ix_dct at3 dv, ix_TI (show leadN x0 < f.length by rw [rf.1]; exact pl'), ge, refK_of _ at2, div_pos _ _ fpos.1 (log2_small fpos.1 (by omega)), ← hq,
                lessened_ok S _ false false ys f q qb (show ys.length < LIM by rw [ry.1]; unfold LIM; omega), ap, wd, List.map_append]
            · intro p r hp
              rw [List.map_append]
              exact Sp.mono (step_less hF hx rfl pn (by rw [ry.1, rf.1]) zl (p + 1)) (C' p r hp)
            · intro p hp
              rcases List.mem_append.mp hp with hp | hp
              · exact rW p hp
              · obtain rfl : p = (false, les q ys f) := by simpa using hp
                exact rz
            · intro g hg
              rw [List.map_append]
              exact Sp.mono (step_less hF hx rfl pn (by rw [ry.1, rf.1]) zl 0) (s1 g hg)
            · intro g hg
              rw [List.map_append] at hg
              exact Sp.mono s2 (step_less' hF hy (by rw [ry.1, rf.1]) g hg)
          · have c3 : ∀ f, F' (leadN x0) = some f → fn ys (leadN x0) < fn f (leadN x0) := fun f hf => by
              rcases Int.lt_or_le (fn ys (leadN x0)) (fn f (leadN x0)) with c | c
              · exact c
              · exact absurd ⟨f, hf, c⟩ c2
            obtain ⟨hi, ehi⟩ : ∃ hi, hi = scl (65536 / fn ys (leadN x0)) ys := ⟨_, rfl⟩
            have qb : 0 ≤ 65536 / fn ys (leadN x0) ∧ 65536 / fn ys (leadN x0) ≤ 65536 := ⟨Int.ediv_nonneg (by decide) (by omega), Int.ediv_le_self _ (by decide)⟩
            have rh : Row w hi := by rw [ehi]; exact row_scl _ ry.1
            have B1 : Bp w (put F' (leadN x0) ys) := by
              refine ⟨fun p r hp => ?_, fun p r hp => ?_, fun p r hp => ?_, fun p r hp => ?_⟩
              all_goals
                by_cases e : p = leadN x0
                · subst e
                  rw [put_same] at hp
                  cases hp
                  first
                    | exact pl'
                    | exact ry
                    | exact yl
                    | exact yp
                · rw [put_ne e] at hp
                  first
                    | exact B'.lt p r hp
                    | exact B'.row p r hp
                    | exact B'.low p r hp
                    | exact B'.pw p r hp
            have D1 : DF (putD kvs' (.inl (leadN x0 : Nat)) (TI false ys)) (FD (put F' (leadN x0) ys)) := by
              rw [← FD_put]
              exact D'.put _ _
            have C1 : CloW (put F' (leadN x0) ys) (W0.map (·.2) ++ olds F' (leadN x0) ++ [hi]) := by
              rw [ehi]
              exact clo_put B' C' hx rfl pn yl yp
            have ml := mu_put B' (W := W0.map (·.2)) (hi := hi) pl' rfl yp c3
            have eW : (W0 ++ (olds F' (leadN x0)).map (fun f => (false, f)) ++ [(false, hi)]).map (·.2) = W0.map (·.2) ++ olds F' (leadN x0) ++ [hi] := by simp [List.map_map, Function.comp_def]
            refine ⟨[some (.ref k), some (TI false ys), some (.bl true), some (.ref h.length), some (.int (leadN x0))], h.set k (O.dct (putD kvs' (.inl (leadN x0 : Nat)) (TI false ys))) ++ [O.lst (wd (W0 ++ (olds F' (leadN x0)).map (fun f => (false, f)) ++ [(false, hi)]))],
              mu w (put F' (leadN x0) ys) (W0.map (·.2) ++ olds F' (leadN x0) ++ [hi]), ml, .inl ?_, put F' (leadN x0) ys, _, W0 ++ (olds F' (leadN x0)).map (fun f => (false, f)) ++ [(false, hi)], true, _, _, by rw [eW], by omega, rfl, rfl, D1, B1, by rw [eW]; exact C1, ?_, ?_, ?_⟩
            · have sc := scaled_ok S (n + 4) false ys (65536 / fn ys (leadN x0)) qb (show ys.length < LIM by rw [ry.1]; unfold LIM; omega)
              have dvk : ∀ H : Hs, binD .div (.int 65536) (.int (fn ys (leadN x0))) H = .ok (.int (65536 / fn ys (leadN x0))) H := fun H => div_pos _ _ ypos.1 (log2_small ypos.1 (by omega))
              have at4 : (h.set k (O.dct (putD kvs' (.inl (leadN x0 : Nat)) (TI false ys))) ++ [O.lst (wd W0)])[h.length]? = some (.lst (wd W0)) := hk_last
              cases hF : F' (leadN x0) with
              | none =>
                have dv : valD kvs' (.inl (leadN x0 : Nat)) = none := by rw [dv]; unfold FD; rw [hF]; rfl
                have ap := append_at (d := TI false hi) at4 (by simp; omega)
                simp -implicitDefEqProofs only [evE, evEs, evOE, evT, evL, evI, evS, evSs, bind_ok, bind_ex, cal_fn, start0, List.map_cons, List.map_nil, List.length_cons, List.length_nil, List.cons_append, List.nil_append, Nat.reduceAdd, Nat.reduceSub, List.replicate_succ, List.replicate_zero, List.getElem?_cons_zero, List.getElem?_cons_succ, List.set_cons_zero, List.set_cons_succ, setF, Nat.reduceLT, if_true, nxR, thenR, retR, iteK_t, iteK_f, afterB, wipeF, tgo, tgt, bindK_some, and_self, outR_rt, outR_nx, outR_ex, Bool.not_true, Bool.not_false, Bool.false_eq_true, if_false, gOk_nil, andK_t, andK_f, notR_b, truR_b, isT_int, isT_bool, isT_tup, cmp_eq, cmp_ne, cmp_lt, cmp_le, cmp_gt, cmp_ge, add_ok, sub_ok, neg_ok, someR, lit0, lit1, lit2, newR, decide_true, decide_false, refK_of _ at1, pop_at at1, hk_setl, lead_ok S, len_TI, rx.1, n1, e2, in_dct at3, dv, Option.isSome_none, setix_dct at3 lenK, hk_setk kl, refK_of _ at4, cal_con S.cSIZE, ix_TI hly, dvk, sc, ← ehi, ap, wd, List.map_append, olds, hF, List.append_nil]
              | some f =>
                have rf := B'.row _ f hF
                have dv : valD kvs' (.inl (leadN x0 : Nat)) = some (TI false f) := by rw [dv]; unfold FD; rw [hF]; rfl
                have ge : decide (fn f (leadN x0) ≤ fn ys (leadN x0)) = false := decide_eq_false (by have := c3 f hF; omega)
                have ap0 := append_at (d := TI false f) at2 (by simp; omega)
                have at5 : (h.set k (O.dct kvs') ++ [O.lst (wd W0 ++ [TI false f])])[k]? = some (.dct kvs') := hk_k kl
                have at6 : (h.set k (O.dct (putD kvs' (.inl (leadN x0 : Nat)) (TI false ys))) ++ [O.lst (wd W0 ++ [TI false f])])[h.length]? = some (.lst (wd W0 ++ [TI false f])) := hk_last
                have ap := append_at (d := TI false hi) at6 (by simp; omega)
                simp -implicitDefEqProofs only [evE, evEs, evOE, evT, evL, evI, evS, evSs, bind_ok, bind_ex, cal_fn, start0, List.map_cons, List.map_nil, List.length_cons, List.length_nil, List.cons_append, List.nil_append, Nat.reduceAdd, Nat.reduceSub, List.replicate_succ, List.replicate_zero, List.getElem?_cons_zero, List.getElem?_cons_succ, List.set_cons_zero, List.set_cons_succ, setF, Nat.reduceLT, if_true, nxR, thenR, retR, iteK_t, iteK_f, afterB, wipeF, tgo, tgt, bindK_some, and_self, outR_rt, outR_nx, outR_ex, Bool.not_true, Bool.not_false, Bool.false_eq_true, if_false, gOk_nil, andK_t, andK_f, notR_b, truR_b, isT_int, isT_bool, isT_tup, cmp_eq, cmp_ne, cmp_lt, cmp_le, cmp_gt, cmp_ge, add_ok, sub_ok, neg_ok, someR, lit0, lit1, lit2, newR, decide_true, decide_false, refK_of _ at1, pop_at at1, hk_setl, lead_ok S, len_TI, rx.1, n1, e2, in_dct at3, dv, Option.isSome_some, ix_TI hly, ix_dct at3 dv, ix_TI (show leadN x0 < f.length by rw [rf.1]; exact pl'), ge, refK_of _ at2, ap0, setix_dct at5 lenK, hk_setk kl, refK_of _ at6, cal_con S.cSIZE, dvk, sc, ← ehi, ap, wd, List.map_append, olds, hF]
            · intro p hp
              rcases List.mem_append.mp hp with hp | hp
              · rcases List.mem_append.mp hp with hp | hp
                · exact rW p hp
                · obtain ⟨f, hf, rfl⟩ := List.mem_map.mp hp
                  unfold olds at hf
                  cases hF : F' (leadN x0) with
                  | none => rw [hF] at hf; cases hf
                  | some u =>
                    rw [hF] at hf
                    obtain rfl : f = u := by simpa using hf
                    exact B'.row _ f hF
              · obtain rfl : p = (false, hi) := by simpa using hp
                exact rh
            · intro g hg
              rw [eW]
              exact Sp.mono (step_put B' hx rfl pn hi 0) (s1 g hg)
            · intro g hg
              rw [eW] at hg
              exact Sp.mono s2 (step_put' hy ehi g hg)
    · have q := S.wl
      have m1 := Phi_le B
      have m2 : Phi w F * (2 * w + 3) ≤ (17 * 50) * (2 * 50 + 3) := Nat.mul_le_mul (by omega) (by omega)
      have m3 : sig w [row] ≤ w + 1 := by simp [sig]
      unfold mu
      omega
    · refine ⟨F, kvs, [(b, row)], false, _, none, rfl, ?_, rfl, by rw [h0]; rfl, DD, B, fun p r hp => Sp.mono (fun g hg => .gen ?_) (C p r hp), by simpa using hr, fun g hg => .gen hg, fun g hg => .gen hg⟩
      · have m1 := Phi_le B
        have m2 : Phi w F * (2 * w + 3) ≤ (17 * 50) * (2 * 50 + 3) := Nat.mul_le_mul (by omega) (by omega)
        have m3 : sig w [row] ≤ w + 1 := by simp [sig]
        unfold mu
        omega
      · exact HL.more (W := []) hg
  obtain ⟨kvs', F', g, x, pl, rfl, q⟩ := key
  exact ⟨kvs', F', g, by simp -implicitDefEqProofs only [evE, evEs, evOE, evT, evL, evI, evS, evSs, bind_ok, bind_ex, cal_fn, start0, List.map_cons, List.map_nil, List.length_cons, List.length_nil, List.cons_append, List.nil_append, Nat.reduceAdd, Nat.reduceSub, List.replicate_succ, List.replicate_zero, List.getElem?_cons_zero, List.getElem?_cons_succ, List.set_cons_zero, List.set_cons_succ, setF, Nat.reduceLT, if_true, nxR, thenR, retR, iteK_t, iteK_f, afterB, wipeF, tgo, tgt, bindK_some, and_self, outR_rt, outR_nx, outR_ex, Bool.not_true, Bool.not_false, Bool.false_eq_true, if_false, gOk_nil, andK_t, andK_f, notR_b, truR_b, isT_int, isT_bool, isT_tup, cmp_eq, cmp_ne, cmp_lt, cmp_le, cmp_gt, cmp_ge, add_ok, sub_ok, neg_ok, someR, lit0, lit1, lit2, newR, decide_true, decide_false], q⟩

/-! closed -/
theorem closed_ok (S : At pg s) (n : Nat) {w : Nat} (hw : w ≤ 50) (hw0 : 0 < w) (b : Bool) (W : List (Bool × List Int)) (hr : ∀ p ∈ W, Row w p.2) (d : D) (h : Hs) (hit : itOf d (h ++ [O.dct []]) = .ok ⟨wd W, []⟩ (h ++ [O.dct []]) ∨ ∃ j, j < h.length ∧ itOf d (h ++ [O.dct []]) = .ok ⟨wd W, [(j, wd W)]⟩ (h ++ [O.dct []]) ∧ h[j]? = some (O.lst (wd W))) :
    ∃ kvs F t, callI pg (n + 7) s.closed [d] h = .ok (.ref h.length) (h ++ [O.dct kvs] ++ t) ∧ DF kvs (FD F) ∧ Bp w F ∧ CloW F [] ∧ Eqv (Ge F 0) (GL (Rws W)) := by
  rw [callI_of S.closed rfl]
  unfold f_closed
  simp -implicitDefEqProofs only [evE, evEs, evOE, evT, evL, evI, evS, evSs, bind_ok, bind_ex, cal_fn, start0, List.map_cons, List.map_nil, List.length_cons, List.length_nil, List.cons_append, List.nil_append, Nat.reduceAdd, Nat.reduceSub, List.replicate_succ, List.replicate_zero, List.getElem?_cons_zero, List.getElem?_cons_succ, List.set_cons_zero, List.set_cons_succ, setF, Nat.reduceLT, if_true, nxR, thenR, retR, iteK_t, iteK_f, afterB, wipeF, tgo, tgt, bindK_some, and_self, outR_rt, outR_nx, outR_ex, Bool.not_true, Bool.not_false, Bool.false_eq_true, if_false, gOk_nil, andK_t, andK_f, notR_b, truR_b, isT_int, isT_bool, isT_tup, cmp_eq, cmp_ne, cmp_lt, cmp_le, cmp_gt, cmp_ge, add_ok, sub_ok, neg_ok, someR, lit0, lit1, lit2, newR, decide_true, decide_false, newDR]
  obtain ⟨gs, hgs, hg⟩ : ∃ gs, itOf d (h ++ [O.dct []]) = .ok ⟨wd W, gs⟩ (h ++ [O.dct []]) ∧ ∀ kvs t, gOk gs (h ++ [O.dct kvs] ++ t) = true := by
    rcases hit with e | ⟨j, hj, e, hl⟩
    · exact ⟨_, e, fun _ _ => rfl⟩
    · refine ⟨_, e, fun kvs t => gOk_one ?_⟩
      rw [List.append_assoc, List.getElem?_append_left hj]
      exact hl
  simp -implicitDefEqProofs only [evE, evEs, evOE, evT, evL, evI, evS, evSs, bind_ok, bind_ex, cal_fn, start0, List.map_cons, List.map_nil, List.length_cons, List.length_nil, List.cons_append, List.nil_append, Nat.reduceAdd, Nat.reduceSub, List.replicate_succ, List.replicate_zero, List.getElem?_cons_zero, List.getElem?_cons_succ, List.set_cons_zero, List.set_cons_succ, setF, Nat.reduceLT, if_true, nxR, thenR, retR, iteK_t, iteK_f, afterB, wipeF, tgo, tgt, bindK_some, and_self, outR_rt, outR_nx, outR_ex, Bool.not_true, Bool.not_false, Bool.false_eq_true, if_false, gOk_nil, andK_t, andK_f, notR_b, truR_b, isT_int, isT_bool, isT_tup, cmp_eq, cmp_ne, cmp_lt, cmp_le, cmp_gt, cmp_ge, add_ok, sub_ok, neg_ok, someR, lit0, lit1, lit2, newR, decide_true, decide_false, hgs]
  generalize e : forLoop _ _ _ _ _ = r
  have key : ∃ kvs F t x, r = .ok (.nx [some d, some (.ref h.length), x]) (h ++ [O.dct kvs] ++ t) ∧ DF kvs (FD F) ∧ Bp w F ∧ CloW F [] ∧ Eqv (Ge F 0) (GL (Rws W)) := by
    rw [← e]
    clear e
    refine forLoop_go (fun done rest δ H => ∃ kvs F t x W1 W2, W = W1 ++ W2 ∧ rest = wd W2 ∧ δ = [some d, some (.ref h.length), x] ∧ H = h ++ [O.dct kvs] ++ t ∧ DF kvs (FD F) ∧ Bp w F ∧ CloW F [] ∧ Eqv (Ge F 0) (GL (Rws W1)))
      (Q := fun r => ∃ kvs F t x, r = .ok (.nx [some d, some (.ref h.length), x]) (h ++ [O.dct kvs] ++ t) ∧ DF kvs (FD F) ∧ Bp w F ∧ CloW F [] ∧ Eqv (Ge F 0) (GL (Rws W))) ?_ ?_ ?_ _ [] _ _ ?_
    · rintro done rest δ H ⟨kvs, F, t, x, W1, W2, e1, rfl, rfl, rfl, _⟩
      exact hg kvs t
    · rintro done y rest δ H ⟨kvs, F, t, x, W1, W2, e1, e2, rfl, rfl, D', B', C', q⟩
      obtain ⟨p, W2', rfl⟩ : ∃ p W2', W2 = p :: W2' := by
        cases W2 with
        | nil => cases e2
        | cons p r => exact ⟨p, r, rfl⟩
      obtain ⟨b0, row⟩ := p
      simp only [wd, List.map_cons, List.cons.injEq] at e2
      obtain ⟨rfl, rfl⟩ := e2
      have rr : Row w row := hr (b0, row) (by rw [e1]; simp)
      have hk : (h ++ [O.dct kvs] ++ t)[h.length]? = some (.dct kvs) := by simp
      obtain ⟨kvs2, F2, g, ec, D2, B2, C2, s1, s2⟩ := takeIn_ok S n hw hw0 hk B' C' D' (b := b0) rr
      refine .inl ⟨[some d, some (.ref h.length), some (TI b0 row)], _, .inl ?_, kvs2, F2, t ++ [O.lst []], _, W1 ++ [(b0, row)], W2', by rw [e1]; simp, rfl, rfl, rfl, D2, B2, C2, ?_⟩
      · simp -implicitDefEqProofs only [evE, evEs, evOE, evT, evL, evI, evS, evSs, bind_ok, bind_ex, cal_fn, start0, List.map_cons, List.map_nil, List.length_cons, List.length_nil, List.cons_append, List.nil_append, Nat.reduceAdd, Nat.reduceSub, List.replicate_succ, List.replicate_zero, List.getElem?_cons_zero, List.getElem?_cons_succ, List.set_cons_zero, List.set_cons_succ, setF, Nat.reduceLT, if_true, nxR, thenR, retR, iteK_t, iteK_f, afterB, wipeF, tgo, tgt, bindK_some, and_self, outR_rt, outR_nx, outR_ex, Bool.not_true, Bool.not_false, Bool.false_eq_true, if_false, gOk_nil, andK_t, andK_f, notR_b, truR_b, isT_int, isT_bool, isT_tup, cmp_eq, cmp_ne, cmp_lt, cmp_le, cmp_gt, cmp_ge, add_ok, sub_ok, neg_ok, someR, lit0, lit1, lit2, newR, decide_true, decide_false, ec]
        congr 1
        simp
      · refine Eqv.of (fun g hg => ?_) fun g hg => ?_
        · refine Sp.mono (fun u hu => ?_) (s2 g (.inl hg))
          rcases hu with hu | ⟨y, hy, _, rfl⟩
          · exact Sp.mono (fun v hv => by
              obtain ⟨z, hz, rfl⟩ := hv
              exact .gen ⟨z, by simp at hz ⊢; exact .inl hz, rfl⟩) ((q u).mp (.gen hu))
          · exact .gen ⟨y, by simp at hy ⊢; exact .inr hy, rfl⟩
        · obtain ⟨z, hz, rfl⟩ := hg
          have conv : ∀ v, Sp (HL F2 [] 0) v → Sp (Ge F2 0) v := fun v hv => Sp.mono (fun u hu => by
            rcases hu with hu | ⟨_, hx, _⟩
            · exact .gen hu
            · cases hx) hv
          refine conv _ ?_
          have hz : z ∈ Rws W1 ∨ z = row := by
            simp only [Rws, List.map_append, List.mem_append, List.map_cons, List.map_nil, List.mem_singleton] at hz
            exact hz
          rcases hz with hz | rfl
          · refine Sp.mono (fun u hu => s1 u (.inl hu)) ((q _).mpr (.gen ⟨z, hz, rfl⟩))
          · exact s1 _ (.inr ⟨z, by simp, fun i hi => absurd hi (by omega), rfl⟩)
    · rintro done δ H ⟨kvs, F, t, x, W1, W2, e1, e2, rfl, rfl, D', B', C', q⟩
      have : W2 = [] := by
        cases W2 with
        | nil => rfl
        | cons _ _ => cases e2
      subst this
      rw [List.append_nil] at e1
      subst e1
      exact ⟨kvs, F, t, x, rfl, D', B', C', q⟩
    · refine ⟨[], fun _ => none, [], none, [], W, rfl, rfl, rfl, by simp, DF.nil, ⟨fun p r h => by simp at h, fun p r h => by simp at h, fun p r h => by simp at h, fun p r h => by simp at h⟩, fun p r h => by simp at h, Eqv.of (fun g hg => ?_) fun g hg => ?_⟩
      · obtain ⟨_, _, _, z, _⟩ := hg
        cases z
      · obtain ⟨_, z, _⟩ := hg
        cases z
  obtain ⟨kvs, F, t, x, rfl, q⟩ := key
  exact ⟨kvs, F, t, by simp -implicitDefEqProofs only [evE, evEs, evOE, evT, evL, evI, evS, evSs, bind_ok, bind_ex, cal_fn, start0, List.map_cons, List.map_nil, List.length_cons, List.length_nil, List.cons_append, List.nil_append, Nat.reduceAdd, Nat.reduceSub, List.replicate_succ, List.replicate_zero, List.getElem?_cons_zero, List.getElem?_cons_succ, List.set_cons_zero, List.set_cons_succ, setF, Nat.reduceLT, if_true, nxR, thenR, retR, iteK_t, iteK_f, afterB, wipeF, tgo, tgt, bindK_some, and_self, outR_rt, outR_nx, outR_ex, Bool.not_true, Bool.not_false, Bool.false_eq_true, if_false, gOk_nil, andK_t, andK_f, notR_b, truR_b, isT_int, isT_bool, isT_tup, cmp_eq, cmp_ne, cmp_lt, cmp_le, cmp_gt, cmp_ge, add_ok, sub_ok, neg_ok, someR, lit0, lit1, lit2, newR, decide_true, decide_false], q⟩

/-! what is left -/
theorem rest_ok (S : At pg s) (n : Nat) {w : Nat} (hw : w < LIM) {x : List Int} (hx : Row w x) (b : Bool) (R : List (Bool × List Int)) (hR : ∀ p ∈ R, Row w p.2 ∧ leadN p.2 < w ∧ 0 < fn p.2 (leadN p.2)) (d : D) (h : Hs) (gs : List (Nat × List D)) (hit : itOf d h = .ok ⟨wd R, gs⟩ h) (hg : gOk gs h = true) :
    callI pg (n + 2) s.rest [TI b x, d] h = .ok (TI (b && R.isEmpty) (restL x (Rws R))) h := by
  rw [callI_of S.rest rfl]
  unfold f_rest
  simp -implicitDefEqProofs only [evE, evEs, evOE, evT, evL, evI, evS, evSs, bind_ok, bind_ex, cal_fn, start0, List.map_cons, List.map_nil, List.length_cons, List.length_nil, List.cons_append, List.nil_append, Nat.reduceAdd, Nat.reduceSub, List.replicate_succ, List.replicate_zero, List.getElem?_cons_zero, List.getElem?_cons_succ, List.set_cons_zero, List.set_cons_succ, setF, Nat.reduceLT, if_true, nxR, thenR, retR, iteK_t, iteK_f, afterB, wipeF, tgo, tgt, bindK_some, and_self, outR_rt, outR_nx, outR_ex, Bool.not_true, Bool.not_false, Bool.false_eq_true, if_false, gOk_nil, andK_t, andK_f, notR_b, truR_b, isT_int, isT_bool, isT_tup, cmp_eq, cmp_ne, cmp_lt, cmp_le, cmp_gt, cmp_ge, add_ok, sub_ok, neg_ok, someR, lit0, lit1, lit2, newR, decide_true, decide_false, hit]
  generalize e : forLoop _ _ _ _ _ = r
  have key : ∃ o p, r = .ok (.nx [some (TI (b && R.isEmpty) (restL x (Rws R))), some d, o, p]) h := by
    rw [← e]
    clear e
    refine forLoop_go (fun done rest δ H => H = h ∧ ∃ R2 x2 b2 o p, rest = wd R2 ∧ (∀ p ∈ R2, p ∈ R) ∧ δ = [some (TI b2 x2), some d, o, p] ∧ Row w x2 ∧ restL x2 (Rws R2) = restL x (Rws R) ∧ (b2 && R2.isEmpty) = (b && R.isEmpty))
      (Q := fun r => ∃ o p, r = .ok (.nx [some (TI (b && R.isEmpty) (restL x (Rws R))), some d, o, p]) h) ?_ ?_ ?_ _ [] _ _ ?_
    · rintro done rest δ H ⟨rfl, _⟩
      exact hg
    · rintro done y rest δ H ⟨rfl, R2, x2, b2, o, p, e2, hm, rfl, rx, er, eb⟩
      obtain ⟨q, R3, rfl⟩ : ∃ p W2', R2 = p :: W2' := by
        cases R2 with
        | nil => cases e2
        | cons p r => exact ⟨p, r, rfl⟩
      obtain ⟨bq, r⟩ := q
      simp only [wd, List.map_cons, List.cons.injEq] at e2
      obtain ⟨rfl, rfl⟩ := e2
      obtain ⟨rr, rl, rp⟩ : Row w r ∧ leadN r < w ∧ 0 < fn r (leadN r) := hR (bq, r) (hm _ List.mem_cons_self)
      obtain ⟨t, ht⟩ : ∃ t, t = fn x2 (leadN r) / fn r (leadN r) := ⟨_, rfl⟩
      have xb := rx.bd (leadN r)
      have rb := rr.bd (leadN r)
      have tb : 0 ≤ t ∧ t < 65536 := by
        have h1 : t ≤ fn x2 (leadN r) := by rw [ht]; exact Int.ediv_le_self _ (by omega)
        have h2 : 0 ≤ t := by rw [ht]; exact Int.ediv_nonneg (by omega) (by omega)
        omega
      refine .inl ⟨[some (TI false (les t x2 r)), some d, some (TI bq r), some (.int (leadN r))], H, .inl ?_, rfl, R3, les t x2 r, false, _, _, rfl, fun p hp => hm p (List.mem_cons_of_mem _ hp), rfl, row_les t rx.1 rr.1, ?_, ?_⟩
      · simp -implicitDefEqProofs only [evE, evEs, evOE, evT, evL, evI, evS, evSs, bind_ok, bind_ex, cal_fn, start0, List.map_cons, List.map_nil, List.length_cons, List.length_nil, List.cons_append, List.nil_append, Nat.reduceAdd, Nat.reduceSub, List.replicate_succ, List.replicate_zero, List.getElem?_cons_zero, List.getElem?_cons_succ, List.set_cons_zero, List.set_cons_succ, setF, Nat.reduceLT, if_true, nxR, thenR, retR, iteK_t, iteK_f, afterB, wipeF, tgo, tgt, bindK_some, and_self, outR_rt, outR_nx, outR_ex, Bool.not_true, Bool.not_false, Bool.false_eq_true, if_false, gOk_nil, andK_t, andK_f, notR_b, truR_b, isT_int, isT_bool, isT_tup, cmp_eq, cmp_ne, cmp_lt, cmp_le, cmp_gt, cmp_ge, add_ok, sub_ok, neg_ok, someR, lit0, lit1, lit2, newR, decide_true, decide_false, lead_ok S, ix_TI (show leadN r < x2.length by rw [rx.1]; exact rl), ix_TI (show leadN r < r.length by rw [rr.1]; exact rl), div_pos _ _ rp (log2_small rp (by omega)), ← ht, lessened_ok S n b2 bq x2 r t tb (show x2.length < LIM by rw [rx.1]; exact hw)]
      · rw [← er, ht]
        rfl
      · rw [← eb]
        cases b2 <;> rfl
    · rintro done δ H ⟨rfl, R2, x2, b2, o, p, e2, hm, rfl, rx, er, eb⟩
      have : R2 = [] := by
        cases R2 with
        | nil => rfl
        | cons _ _ => cases e2
      subst this
      refine ⟨o, p, ?_⟩
      have e3 : x2 = restL x (Rws R) := er
      have e4 : b2 = (b && R.isEmpty) := by rw [← eb]; cases b2 <;> rfl
      rw [← e3, ← e4]
    · exact ⟨rfl, R, x, b, none, none, rfl, fun p hp => hp, rfl, hx, rfl, rfl⟩
  obtain ⟨o, p, rfl⟩ := key
  simp -implicitDefEqProofs only [evE, evEs, evOE, evT, evL, evI, evS, evSs, bind_ok, bind_ex, cal_fn, start0, List.map_cons, List.map_nil, List.length_cons, List.length_nil, List.cons_append, List.nil_append, Nat.reduceAdd, Nat.reduceSub, List.replicate_succ, List.replicate_zero, List.getElem?_cons_zero, List.getElem?_cons_succ, List.set_cons_zero, List.set_cons_succ, setF, Nat.reduceLT, if_true, nxR, thenR, retR, iteK_t, iteK_f, afterB, wipeF, tgo, tgt, bindK_some, and_self, outR_rt, outR_nx, outR_ex, Bool.not_true, Bool.not_false, Bool.false_eq_true, if_false, gOk_nil, andK_t, andK_f, notR_b, truR_b, isT_int, isT_bool, isT_tup, cmp_eq, cmp_ne, cmp_lt, cmp_le, cmp_gt, cmp_ge, add_ok, sub_ok, neg_ok, someR, lit0, lit1, lit2, newR, decide_true, decide_false]

/-! the form -/
theorem desc_of (ks : List Nat) (nd : ks.Nodup) : ∃ K : List Nat, ((ks.map fun (p : Nat) => (p : Int)).foldr insR []) = K.map (fun (p : Nat) => (p : Int)) ∧ K.Pairwise (· > ·) ∧ ∀ p, p ∈ K ↔ p ∈ ks := by
  obtain ⟨L, hL⟩ : ∃ L, L = (ks.map fun (p : Nat) => (p : Int)).foldr insR [] := ⟨_, rfl⟩
  have ge : L.Pairwise (· ≥ ·) := by rw [hL]; exact srtR_ge _
  have pm : L.Perm (ks.map fun (p : Nat) => (p : Int)) := by rw [hL]; exact srtR_perm _
  have e : L = (L.map Int.toNat).map (fun (p : Nat) => (p : Int)) := by
    rw [List.map_map]
    conv => lhs; rw [← List.map_id L]
    refine List.map_congr_left fun x hx => ?_
    obtain ⟨q, _, rfl⟩ := List.mem_map.mp (pm.mem_iff.mp hx)
    simp
  have mem : ∀ p : Nat, p ∈ L.map Int.toNat ↔ p ∈ ks := fun p => by
    rw [List.mem_map]
    constructor
    · rintro ⟨x, hx, rfl⟩
      obtain ⟨q, hq, rfl⟩ := List.mem_map.mp (pm.mem_iff.mp hx)
      simpa using hq
    · exact fun hp => ⟨(p : Int), pm.mem_iff.mpr (List.mem_map.mpr ⟨p, hp, rfl⟩), by simp⟩
  refine ⟨L.map Int.toNat, by rw [← e]; exact hL.symm, ?_, mem⟩
  have nd2 : L.Nodup := pm.nodup_iff.mpr (by
    rw [List.nodup_iff_pairwise_ne] at nd ⊢
    exact List.pairwise_map.mpr (nd.imp fun {a b} h e => h (by omega)))
  rw [List.pairwise_map]
  refine List.Pairwise.imp_of_mem ?_ (ge.and (List.nodup_iff_pairwise_ne.mp nd2))
  intro a b ha hb h
  obtain ⟨qa, _, rfl⟩ := List.mem_map.mp (pm.mem_iff.mp ha)
  obtain ⟨qb, _, rfl⟩ := List.mem_map.mp (pm.mem_iff.mp hb)
  have h1 : (qa : Int) ≥ qb := h.1
  have h2 : (qa : Int) ≠ qb := h.2
  show (qa : Int).toNat > (qb : Int).toNat
  omega
theorem ints_of_nats (K : List Nat) : ints? (K.map fun (p : Nat) => D.int (p : Int)) = some (K.map fun (p : Nat) => (p : Int)) := by
  induction K with
  | nil => rfl
  | cons p r ih =>
    show (ints? (r.map fun (p : Nat) => D.int (p : Int))).map ((p : Int) :: ·) = _
    rw [ih]; rfl
def G1 (F : Nat → Option (List Int)) (K : List Nat) : Vc → Prop := fun v => ∃ q ∈ K, ∃ r, F q = some r ∧ v = fn r
/-- one row more of the form -/
theorem form_step {w : Nat} {F : Nat → Option (List Int)} (B : Bp w F) (C : CloW F []) {K1 K2 : List Nat} {p : Nat} (desc : (K1 ++ p :: K2).Pairwise (· > ·)) (all : ∀ q, (F q).isSome = true → q ∈ K1 ++ p :: K2) {R : List (List Int)} (hR : HF w R) (e : Eqv (GL R) (G1 F K1)) (hl : ∀ r ∈ R, leadN r ∈ K1) {f : List Int} (hF : F p = some f) :
    HF w (restL f R :: R) ∧ Eqv (GL (restL f R :: R)) (G1 F (K1 ++ [p])) ∧ ∀ r ∈ restL f R :: R, leadN r ∈ K1 ++ [p] := by
  have rf := B.row p f hF
  have pK : ∀ q ∈ K1, p < q := fun q hq => (List.pairwise_append.mp desc).2.2 q hq p List.mem_cons_self
  have pR : ∀ r ∈ R, p < leadN r := fun r hr => pK _ (hl r hr)
  obtain ⟨a, b, c, d⟩ := hR.rest rf
  have ul : ∀ i, i < p → fn (restL f R) i = 0 := fun i hi => by
    rw [d i fun r hr => by have := pR r hr; omega]
    exact B.low p f hF i hi
  have up : fn (restL f R) p = fn f p := d p pR
  have conv : ∀ g, HL F [] (p + 1) g → Sp (GL R) g := fun g hg => by
    rcases hg with ⟨q, r, h1, h2, rfl⟩ | ⟨_, z, _⟩
    · refine (e _).mpr (.gen ⟨q, ?_, r, h2, rfl⟩)
      rcases List.mem_append.mp (all q (by rw [h2]; rfl)) with h | h
      · exact h
      · rcases List.mem_cons.mp h with h | h
        · omega
        · have := (List.pairwise_cons.mp (List.pairwise_append.mp desc).2.1).1 q h
          omega
    · cases z
  have hc : Sp (GL R) (fun i => 65536 / fn (restL f R) p * fn (restL f R) i) := by
    rw [up]
    refine Sp.congr (fun i => ?_) (Sp.lin (-(65536 / fn f p)) (Sp.mono conv (C p f hF)) b)
    grind
  obtain ⟨h1, h2⟩ := hR.cons a (B.lt p f hF) ul (by rw [up]; exact B.pw p f hF) pR c hc
  refine ⟨h1, Eqv.of (fun g hg => ?_) fun g hg => ?_, fun r hr => ?_⟩
  · obtain ⟨x, hx, rfl⟩ := hg
    have up2 : ∀ v, Sp (G1 F K1) v → Sp (G1 F (K1 ++ [p])) v := fun v => Sp.mono fun g ⟨q, hq, r, z⟩ => .gen ⟨q, List.mem_append_left _ hq, r, z⟩
    rcases List.mem_cons.mp hx with rfl | hx
    · have s1 := up2 _ ((e _).mp b)
      refine Sp.congr (fun i => ?_) (Sp.sub (.gen ⟨p, by simp, f, hF, rfl⟩) s1)
      omega
    · exact up2 _ ((e _).mp (.gen ⟨x, hx, rfl⟩))
  · obtain ⟨q, hq, r, h3, rfl⟩ := hg
    have up2 : ∀ v, Sp (GL R) v → Sp (GL (restL f R :: R)) v := fun v => Sp.mono fun g ⟨y, hy, z⟩ => .gen ⟨y, List.mem_cons_of_mem _ hy, z⟩
    rcases List.mem_append.mp hq with hq | hq
    · exact up2 _ ((e _).mpr (.gen ⟨q, hq, r, h3, rfl⟩))
    · obtain rfl : q = p := by simpa using hq
      rw [hF] at h3
      cases h3
      refine Sp.congr (fun i => ?_) (Sp.lin 1 (up2 _ b) (.gen ⟨_, List.mem_cons_self, rfl⟩))
      omega
  · rcases List.mem_cons.mp hr with rfl | hr
    · rw [h2]; simp
    · exact List.mem_append_left _ (hl r hr)
abbrev fw (R : List (List Int)) : List (Bool × List Int) := R.map fun r => (false, r)
theorem fw_rws (R : List (List Int)) : Rws (fw R) = R := by simp [Rws, fw, List.map_map, Function.comp_def]
theorem formOf_ok (S : At pg s) (n : Nat) {w : Nat} (hw : w ≤ 50) (hw0 : 0 < w) (W : List (Bool × List Int)) (hr : ∀ p ∈ W, Row w p.2) (d : D) (h : Hs) (hit : itOf d (h ++ [O.dct []]) = .ok ⟨wd W, []⟩ (h ++ [O.dct []]) ∨ ∃ j, j < h.length ∧ itOf d (h ++ [O.dct []]) = .ok ⟨wd W, [(j, wd W)]⟩ (h ++ [O.dct []]) ∧ h[j]? = some (O.lst (wd W))) :
    ∃ R t, callI pg (n + 8) s.formOf [d] h = .ok (.tup false (wd (fw R))) (h ++ t) ∧ HF w R ∧ Eqv (GL R) (GL (Rws W)) := by
  obtain ⟨kvs, F, t0, ec, DD, B, C, q⟩ := closed_ok S n hw hw0 true W hr d h hit
  rw [callI_of S.formOf rfl]
  unfold f_formOf
  simp -implicitDefEqProofs only [evE, evEs, evOE, evT, evL, evI, evS, evSs, bind_ok, bind_ex, cal_fn, start0, List.map_cons, List.map_nil, List.length_cons, List.length_nil, List.cons_append, List.nil_append, Nat.reduceAdd, Nat.reduceSub, List.replicate_succ, List.replicate_zero, List.getElem?_cons_zero, List.getElem?_cons_succ, List.set_cons_zero, List.set_cons_succ, setF, Nat.reduceLT, if_true, nxR, thenR, retR, iteK_t, iteK_f, afterB, wipeF, tgo, tgt, bindK_some, and_self, outR_rt, outR_nx, outR_ex, Bool.not_true, Bool.not_false, Bool.false_eq_true, if_false, gOk_nil, andK_t, andK_f, notR_b, truR_b, isT_int, isT_bool, isT_tup, cmp_eq, cmp_ne, cmp_lt, cmp_le, cmp_gt, cmp_ge, add_ok, sub_ok, neg_ok, someR, lit0, lit1, lit2, newR, decide_true, decide_false, ec]
  obtain ⟨⟨ks, k1, k2, k3⟩, kv⟩ := DD
  have hk : ∀ t, (h ++ [O.dct kvs] ++ t)[h.length]? = some (.dct kvs) := fun t => by simp
  have hk1 := hk (t0 ++ [O.lst []])
  rw [← List.append_assoc] at hk1
  simp -implicitDefEqProofs only [evE, evEs, evOE, evT, evL, evI, evS, evSs, bind_ok, bind_ex, cal_fn, start0, List.map_cons, List.map_nil, List.length_cons, List.length_nil, List.cons_append, List.nil_append, Nat.reduceAdd, Nat.reduceSub, List.replicate_succ, List.replicate_zero, List.getElem?_cons_zero, List.getElem?_cons_succ, List.set_cons_zero, List.set_cons_succ, setF, Nat.reduceLT, if_true, nxR, thenR, retR, iteK_t, iteK_f, afterB, wipeF, tgo, tgt, bindK_some, and_self, outR_rt, outR_nx, outR_ex, Bool.not_true, Bool.not_false, Bool.false_eq_true, if_false, gOk_nil, andK_t, andK_f, notR_b, truR_b, isT_int, isT_bool, isT_tup, cmp_eq, cmp_ne, cmp_lt, cmp_le, cmp_gt, cmp_ge, add_ok, sub_ok, neg_ok, someR, lit0, lit1, lit2, newR, decide_true, decide_false, list_dct hk1]
  have eK : (kvs.map fun p => keyV p.1) = ks.map fun (p : Nat) => D.int (p : Int) := by
    have := congrArg (List.map keyV) k1
    simp only [List.map_map] at this
    exact this
  obtain ⟨K, hK, desc, mK⟩ := desc_of ks k2
  obtain ⟨H1, eH1⟩ : ∃ H1, H1 = h ++ [O.dct kvs] ++ t0 ++ [O.lst []] := ⟨_, rfl⟩
  rw [← eH1, eK]
  have hs : sortRD (.ref H1.length) (H1 ++ [O.lst (ks.map fun (p : Nat) => D.int (p : Int))]) = .ok (.ref (H1.length + 1)) (H1 ++ [O.lst (ks.map fun (p : Nat) => D.int (p : Int))] ++ [O.lst (K.map fun (p : Nat) => D.int (p : Int))]) := by
    unfold sortRD
    rw [lstD'_at (xs := ks.map fun (p : Nat) => D.int (p : Int)) (by simp)]
    simp only
    rw [ints_of_nats]
    simp only
    rw [hK]
    simp [List.map_map, Function.comp_def]
  obtain ⟨H2, eH2⟩ : ∃ H2, H2 = H1 ++ [O.lst (ks.map fun (p : Nat) => D.int (p : Int))] ++ [O.lst (K.map fun (p : Nat) => D.int (p : Int))] := ⟨_, rfl⟩
  rw [← eH2] at hs
  have at2 : H2[H1.length + 1]? = some (.lst (K.map fun (p : Nat) => D.int (p : Int))) := by rw [eH2]; simp
  simp -implicitDefEqProofs only [evE, evEs, evOE, evT, evL, evI, evS, evSs, bind_ok, bind_ex, cal_fn, start0, List.map_cons, List.map_nil, List.length_cons, List.length_nil, List.cons_append, List.nil_append, Nat.reduceAdd, Nat.reduceSub, List.replicate_succ, List.replicate_zero, List.getElem?_cons_zero, List.getElem?_cons_succ, List.set_cons_zero, List.set_cons_succ, setF, Nat.reduceLT, if_true, nxR, thenR, retR, iteK_t, iteK_f, afterB, wipeF, tgo, tgt, bindK_some, and_self, outR_rt, outR_nx, outR_ex, Bool.not_true, Bool.not_false, Bool.false_eq_true, if_false, gOk_nil, andK_t, andK_f, notR_b, truR_b, isT_int, isT_bool, isT_tup, cmp_eq, cmp_ne, cmp_lt, cmp_le, cmp_gt, cmp_ge, add_ok, sub_ok, neg_ok, someR, lit0, lit1, lit2, newR, decide_true, decide_false, hs, itOf_ref at2]
  have pre : ∃ t, H2 = h ++ t := ⟨[O.dct kvs] ++ t0 ++ [O.lst []] ++ [O.lst (ks.map fun (p : Nat) => D.int (p : Int))] ++ [O.lst (K.map fun (p : Nat) => D.int (p : Int))], by rw [eH2, eH1]; simp⟩
  have at0 : H2[h.length]? = some (.dct kvs) := by rw [eH2, eH1]; simp
  have at1 : H2[(h ++ [O.dct kvs] ++ t0).length]? = some (.lst []) := by
    rw [eH2, eH1, List.append_assoc (h ++ [O.dct kvs] ++ t0 ++ [O.lst []]), List.getElem?_append_left (by simp), List.getElem?_append_right (Nat.le_refl _)]
    simp
  obtain ⟨m0, em0⟩ : ∃ m0, m0 = (h ++ [O.dct kvs] ++ t0).length := ⟨_, rfl⟩
  rw [← em0] at at1 ⊢
  have memK : ∀ q, q ∈ K ↔ (F q).isSome = true := fun q => by rw [mK, k3]; unfold FD; cases F q <;> rfl
  clear eH1 eH2 hs eK hk1
  generalize e : forLoop _ _ _ _ _ = r
  have key : ∃ R m x t, r = .ok (.nx [some d, some (.ref h.length), some (.ref m), x]) (h ++ t) ∧ (h ++ t)[m]? = some (.lst (wd (fw R))) ∧ HF w R ∧ Eqv (GL R) (G1 F K) := by
    rw [← e]
    clear e
    refine forLoop_go (fun done rest δ H => ∃ K1 K2 R m x t, K = K1 ++ K2 ∧ rest = K2.map (fun (p : Nat) => D.int (p : Int)) ∧ δ = [some d, some (.ref h.length), some (.ref m), x] ∧ H = H2 ++ t ∧ H[m]? = some (.lst (wd (fw R))) ∧ HF w R ∧ Eqv (GL R) (G1 F K1) ∧ ∀ r ∈ R, leadN r ∈ K1)
      (Q := fun r => ∃ R m x t, r = .ok (.nx [some d, some (.ref h.length), some (.ref m), x]) (h ++ t) ∧ (h ++ t)[m]? = some (.lst (wd (fw R))) ∧ HF w R ∧ Eqv (GL R) (G1 F K)) ?_ ?_ ?_ _ [] _ _ ?_
    · rintro done rest δ H ⟨K1, K2, R, m, x, t, e1, rfl, rfl, rfl, _⟩
      exact gOk_one (by rw [List.getElem?_append_left (List.getElem?_eq_some_iff.mp at2).1]; exact at2)
    · rintro done y rest δ H ⟨K1, K2, R, m, x, t, e1, e2, rfl, rfl, hm, hR, eq, hl⟩
      obtain ⟨p, K3, rfl⟩ : ∃ p W2', K2 = p :: W2' := by
        cases K2 with
        | nil => cases e2
        | cons p r => exact ⟨p, r, rfl⟩
      simp only [List.map_cons, List.cons.injEq] at e2
      obtain ⟨rfl, rfl⟩ := e2
      have pin : (F p).isSome = true := (memK p).mp (by rw [e1]; simp)
      obtain ⟨f, hF⟩ := Option.isSome_iff_exists.mp pin
      have rf := B.row p f hF
      obtain ⟨s1, s2, s3⟩ := form_step B C (by rw [← e1]; exact desc) (fun q hq => by rw [← e1]; exact (memK q).mpr hq) hR eq hl hF
      have at0' : (H2 ++ t)[h.length]? = some (.dct kvs) := by rw [List.getElem?_append_left (List.getElem?_eq_some_iff.mp at0).1]; exact at0
      have dv : valD kvs (.inl (p : Int)) = some (TI false f) := by rw [kv]; unfold FD; rw [hF]; rfl
      have rs := rest_ok S (n + 5) (w := w) (by unfold LIM; omega) rf false (fw R) (fun q hq => by
        obtain ⟨r, hr, rfl⟩ := List.mem_map.mp hq
        exact ⟨hR.row r hr, (hR.piv r hr).1, (hR.piv r hr).2.pos.1⟩) (.ref m) (H2 ++ t) _ (itOf_ref hm) (gOk_one hm)
      rw [Bool.false_and, fw_rws] at rs
      have lR : R.length ≤ w := by
        have := nodup_lt w (R.map leadN) (by
          rw [List.nodup_iff_pairwise_ne, List.pairwise_map]
          exact hR.asc.imp fun h => Nat.ne_of_lt h) fun x hx => by
            obtain ⟨r, hr, rfl⟩ := List.mem_map.mp hx
            exact (hR.piv r hr).1
        simpa using this
      have hcat := cat_ref (H := H2 ++ t ++ [O.lst [TI false (restL f R)]]) (k := (H2 ++ t).length) (m := m) (xs := [TI false (restL f R)]) (ys := wd (fw R)) (by simp) (by rw [List.getElem?_append_left (List.getElem?_eq_some_iff.mp hm).1]; exact hm) (by simp; unfold LIM; omega)
      refine .inl ⟨[some d, some (.ref h.length), some (.ref (H2 ++ t ++ [O.lst [TI false (restL f R)]]).length), some (.int p)], _, .inl ?_, K1 ++ [p], K3, restL f R :: R, _, _, t ++ [O.lst [TI false (restL f R)]] ++ [O.lst (TI false (restL f R) :: wd (fw R))], by rw [e1]; simp, rfl, rfl, rfl, ?_, s1, s2, s3⟩
      · simp -implicitDefEqProofs only [evE, evEs, evOE, evT, evL, evI, evS, evSs, bind_ok, bind_ex, cal_fn, start0, List.map_cons, List.map_nil, List.length_cons, List.length_nil, List.cons_append, List.nil_append, Nat.reduceAdd, Nat.reduceSub, List.replicate_succ, List.replicate_zero, List.getElem?_cons_zero, List.getElem?_cons_succ, List.set_cons_zero, List.set_cons_succ, setF, Nat.reduceLT, if_true, nxR, thenR, retR, iteK_t, iteK_f, afterB, wipeF, tgo, tgt, bindK_some, and_self, outR_rt, outR_nx, outR_ex, Bool.not_true, Bool.not_false, Bool.false_eq_true, if_false, gOk_nil, andK_t, andK_f, notR_b, truR_b, isT_int, isT_bool, isT_tup, cmp_eq, cmp_ne, cmp_lt, cmp_le, cmp_gt, cmp_ge, add_ok, sub_ok, neg_ok, someR, lit0, lit1, lit2, newR, decide_true, decide_false, ix_dct at0' dv, rs, hcat]
        simp
      · simp
    · rintro done δ H ⟨K1, K2, R, m, x, t, e1, e2, rfl, rfl, hm, hR, eq, hl⟩
      have : K2 = [] := by
        cases K2 with
        | nil => rfl
        | cons _ _ => cases e2
      subst this
      rw [List.append_nil] at e1
      subst e1
      obtain ⟨t1, rfl⟩ := pre
      rw [List.append_assoc] at hm ⊢
      exact ⟨R, m, x, t1 ++ t, rfl, hm, hR, eq⟩
    · exact ⟨[], K, [], m0, none, [], rfl, rfl, rfl, by simp, by simpa using at1, HF.nil, Eqv.of (fun g ⟨_, z, _⟩ => by cases z) (fun g ⟨_, z, _⟩ => by cases z), fun r hr => by cases hr⟩
  obtain ⟨R, m, x, t, rfl, hm, hR, eq⟩ := key
  refine ⟨R, t, ?_, hR, ?_⟩
  · simp -implicitDefEqProofs only [evE, evEs, evOE, evT, evL, evI, evS, evSs, bind_ok, bind_ex, cal_fn, start0, List.map_cons, List.map_nil, List.length_cons, List.length_nil, List.cons_append, List.nil_append, Nat.reduceAdd, Nat.reduceSub, List.replicate_succ, List.replicate_zero, List.getElem?_cons_zero, List.getElem?_cons_succ, List.set_cons_zero, List.set_cons_succ, setF, Nat.reduceLT, if_true, nxR, thenR, retR, iteK_t, iteK_f, afterB, wipeF, tgo, tgt, bindK_some, and_self, outR_rt, outR_nx, outR_ex, Bool.not_true, Bool.not_false, Bool.false_eq_true, if_false, gOk_nil, andK_t, andK_f, notR_b, truR_b, isT_int, isT_bool, isT_tup, cmp_eq, cmp_ne, cmp_lt, cmp_le, cmp_gt, cmp_ge, add_ok, sub_ok, neg_ok, someR, lit0, lit1, lit2, newR, decide_true, decide_false, tuple_seq (seqD_at hm)]
  · refine eq.trans (Eqv.trans (Eqv.of (fun g hg => ?_) fun g hg => ?_) q)
    · obtain ⟨q, _, r, h1, rfl⟩ := hg
      exact .gen ⟨q, r, Nat.zero_le _, h1, rfl⟩
    · obtain ⟨q, r, _, h1, rfl⟩ := hg
      exact .gen ⟨q, (memK q).mpr (by rw [h1]; rfl), r, h1, rfl⟩

/-! the checks -/
theorem areWords_ok (S : At pg s) (n : Nat) {w : Nat} {xs : List Int} (hx : Row w xs) (hw : w ≤ 100) (b : Bool) (h : Hs) : callI pg (n + 3) s.areWords [TI b xs, .int w] h = .ok (.bl true) h := by
  rw [callI_of S.areWords rfl]
  unfold f_areWords
  have e := hx.1
  simp -implicitDefEqProofs only [evE, evEs, evOE, evT, evL, evI, evS, evSs, bind_ok, bind_ex, cal_fn, start0, List.map_cons, List.map_nil, List.length_cons, List.length_nil, List.cons_append, List.nil_append, Nat.reduceAdd, Nat.reduceSub, List.replicate_succ, List.replicate_zero, List.getElem?_cons_zero, List.getElem?_cons_succ, List.set_cons_zero, List.set_cons_succ, setF, Nat.reduceLT, if_true, nxR, thenR, retR, iteK_t, iteK_f, afterB, wipeF, tgo, tgt, bindK_some, and_self, outR_rt, outR_nx, outR_ex, Bool.not_true, Bool.not_false, Bool.false_eq_true, if_false, gOk_nil, andK_t, andK_f, notR_b, truR_b, isT_int, isT_bool, isT_tup, cmp_eq, cmp_ne, cmp_lt, cmp_le, cmp_gt, cmp_ge, add_ok, sub_ok, neg_ok, someR, lit0, lit1, lit2, newR, decide_true, decide_false, TI, len_tup, ri_len, e, itOf_tup]
  rw [loopR_pure (J := ⟨ri xs, []⟩) (by rw [ri_len, e]; unfold LIM; omega) rfl (fun d => some (.bl true))]
  · have : (ri xs).filterMap (fun d => some (D.bl true)) = ((ri xs).map fun _ => true).map D.bl := by
      rw [fmap_some, List.map_map]
      rfl
    simp -implicitDefEqProofs only [evE, evEs, evOE, evT, evL, evI, evS, evSs, bind_ok, bind_ex, cal_fn, start0, List.map_cons, List.map_nil, List.length_cons, List.length_nil, List.cons_append, List.nil_append, Nat.reduceAdd, Nat.reduceSub, List.replicate_succ, List.replicate_zero, List.getElem?_cons_zero, List.getElem?_cons_succ, List.set_cons_zero, List.set_cons_succ, setF, Nat.reduceLT, if_true, nxR, thenR, retR, iteK_t, iteK_f, afterB, wipeF, tgo, tgt, bindK_some, and_self, outR_rt, outR_nx, outR_ex, Bool.not_true, Bool.not_false, Bool.false_eq_true, if_false, gOk_nil, andK_t, andK_f, notR_b, truR_b, isT_int, isT_bool, isT_tup, cmp_eq, cmp_ne, cmp_lt, cmp_le, cmp_gt, cmp_ge, add_ok, sub_ok, neg_ok, someR, lit0, lit1, lit2, newR, decide_true, decide_false, this, blD_all]
    simp
  · intro x hx2
    obtain ⟨i, hi, rfl⟩ := List.mem_map.mp hx2
    simp -implicitDefEqProofs only [evE, evEs, evOE, evT, evL, evI, evS, evSs, bind_ok, bind_ex, cal_fn, start0, List.map_cons, List.map_nil, List.length_cons, List.length_nil, List.cons_append, List.nil_append, Nat.reduceAdd, Nat.reduceSub, List.replicate_succ, List.replicate_zero, List.getElem?_cons_zero, List.getElem?_cons_succ, List.set_cons_zero, List.set_cons_succ, setF, Nat.reduceLT, if_true, nxR, thenR, retR, iteK_t, iteK_f, afterB, wipeF, tgo, tgt, bindK_some, and_self, outR_rt, outR_nx, outR_ex, Bool.not_true, Bool.not_false, Bool.false_eq_true, if_false, gOk_nil, andK_t, andK_f, notR_b, truR_b, isT_int, isT_bool, isT_tup, cmp_eq, cmp_ne, cmp_lt, cmp_le, cmp_gt, cmp_ge, add_ok, sub_ok, neg_ok, someR, lit0, lit1, lit2, newR, decide_true, decide_false, isWord_ok S, hx.2 i hi]
theorem ckRow_ok (S : At pg s) (n : Nat) {w : Nat} {xs : List Int} (hx : Row w xs) (hw : w ≤ 100) (b : Bool) (h : Hs) : callI pg (n + 4) s.ckRow [TI b xs, .int w] h = .ok .non h := by
  rw [callI_of S.ckRow rfl]
  unfold f_ckRow
  simp -implicitDefEqProofs only [evE, evEs, evOE, evT, evL, evI, evS, evSs, bind_ok, bind_ex, cal_fn, start0, List.map_cons, List.map_nil, List.length_cons, List.length_nil, List.cons_append, List.nil_append, Nat.reduceAdd, Nat.reduceSub, List.replicate_succ, List.replicate_zero, List.getElem?_cons_zero, List.getElem?_cons_succ, List.set_cons_zero, List.set_cons_succ, setF, Nat.reduceLT, if_true, nxR, thenR, retR, iteK_t, iteK_f, afterB, wipeF, tgo, tgt, bindK_some, and_self, outR_rt, outR_nx, outR_ex, Bool.not_true, Bool.not_false, Bool.false_eq_true, if_false, gOk_nil, andK_t, andK_f, notR_b, truR_b, isT_int, isT_bool, isT_tup, cmp_eq, cmp_ne, cmp_lt, cmp_le, cmp_gt, cmp_ge, add_ok, sub_ok, neg_ok, someR, lit0, lit1, lit2, newR, decide_true, decide_false, areWords_ok S _ hx hw]
theorem ckWidth_ok (S : At pg s) (n : Nat) {w : Nat} (hw0 : 0 < w) (hw : w ≤ 16) (h : Hs) : callI pg (n + 2) s.ckWidth [.int w] h = .ok .non h := by
  rw [callI_of S.ckWidth rfl]
  unfold f_ckWidth
  have h1 : ((1 : Int) ≤ (w : Int)) := by omega
  have h2 : ((w : Int) ≤ 16) := by omega
  simp -implicitDefEqProofs only [evE, evEs, evOE, evT, evL, evI, evS, evSs, bind_ok, bind_ex, cal_fn, start0, List.map_cons, List.map_nil, List.length_cons, List.length_nil, List.cons_append, List.nil_append, Nat.reduceAdd, Nat.reduceSub, List.replicate_succ, List.replicate_zero, List.getElem?_cons_zero, List.getElem?_cons_succ, List.set_cons_zero, List.set_cons_succ, setF, Nat.reduceLT, if_true, nxR, thenR, retR, iteK_t, iteK_f, afterB, wipeF, tgo, tgt, bindK_some, and_self, outR_rt, outR_nx, outR_ex, Bool.not_true, Bool.not_false, Bool.false_eq_true, if_false, gOk_nil, andK_t, andK_f, notR_b, truR_b, isT_int, isT_bool, isT_tup, cmp_eq, cmp_ne, cmp_lt, cmp_le, cmp_gt, cmp_ge, add_ok, sub_ok, neg_ok, someR, lit0, lit1, lit2, newR, decide_true, decide_false, isInt_ok S, cal_con S.cWIDEST, h1, h2]
theorem ckRows_ok (S : At pg s) (n : Nat) {w : Nat} (hw0 : 0 < w) (hw : w ≤ 16) {W : List (Bool × List Int)} (hl : W.length ≤ 16) (hr : ∀ p ∈ W, Row w p.2) (b : Bool) (h : Hs) : callI pg (n + 5) s.ckRows [.tup b (wd W), .int w] h = .ok .non h := by
  rw [callI_of S.ckRows rfl]
  unfold f_ckRows
  have h1 : ¬ ((16 : Int) < ((wd W).length : Nat)) := by simp; omega
  simp -implicitDefEqProofs only [evE, evEs, evOE, evT, evL, evI, evS, evSs, bind_ok, bind_ex, cal_fn, start0, List.map_cons, List.map_nil, List.length_cons, List.length_nil, List.cons_append, List.nil_append, Nat.reduceAdd, Nat.reduceSub, List.replicate_succ, List.replicate_zero, List.getElem?_cons_zero, List.getElem?_cons_succ, List.set_cons_zero, List.set_cons_succ, setF, Nat.reduceLT, if_true, nxR, thenR, retR, iteK_t, iteK_f, afterB, wipeF, tgo, tgt, bindK_some, and_self, outR_rt, outR_nx, outR_ex, Bool.not_true, Bool.not_false, Bool.false_eq_true, if_false, gOk_nil, andK_t, andK_f, notR_b, truR_b, isT_int, isT_bool, isT_tup, cmp_eq, cmp_ne, cmp_lt, cmp_le, cmp_gt, cmp_ge, add_ok, sub_ok, neg_ok, someR, lit0, lit1, lit2, newR, decide_true, decide_false, ckWidth_ok S _ hw0 hw, len_tup, cal_con S.cMOST_ROWS, h1, itOf_tup]
  generalize e : forLoop _ _ _ _ _ = r
  have key : ∃ x, r = .ok (.nx [some (.tup b (wd W)), some (.int w), x]) h := by
    rw [← e]
    clear e
    refine forLoop_go (fun done rest δ H => H = h ∧ ∃ W2 x, rest = wd W2 ∧ (∀ p ∈ W2, Row w p.2) ∧ δ = [some (.tup b (wd W)), some (.int w), x]) (Q := fun r => ∃ x, r = .ok (.nx [some (.tup b (wd W)), some (.int w), x]) h) (fun _ _ _ _ _ => rfl) ?_ ?_ _ [] _ _ ⟨rfl, W, none, rfl, hr, rfl⟩
    · rintro done y rest δ H ⟨rfl, W2, x, e2, hm, rfl⟩
      obtain ⟨q, R3, rfl⟩ : ∃ p W2', W2 = p :: W2' := by
        cases W2 with
        | nil => cases e2
        | cons p r => exact ⟨p, r, rfl⟩
      obtain ⟨bq, r⟩ := q
      simp only [wd, List.map_cons, List.cons.injEq] at e2
      obtain ⟨rfl, rfl⟩ := e2
      have rr : Row w r := hm (bq, r) List.mem_cons_self
      refine .inl ⟨[some (.tup b (wd W)), some (.int w), some (TI bq r)], H, .inl ?_, rfl, R3, _, rfl, fun p hp => hm p (List.mem_cons_of_mem _ hp), rfl⟩
      simp -implicitDefEqProofs only [evE, evEs, evOE, evT, evL, evI, evS, evSs, bind_ok, bind_ex, cal_fn, start0, List.map_cons, List.map_nil, List.length_cons, List.length_nil, List.cons_append, List.nil_append, Nat.reduceAdd, Nat.reduceSub, List.replicate_succ, List.replicate_zero, List.getElem?_cons_zero, List.getElem?_cons_succ, List.set_cons_zero, List.set_cons_succ, setF, Nat.reduceLT, if_true, nxR, thenR, retR, iteK_t, iteK_f, afterB, wipeF, tgo, tgt, bindK_some, and_self, outR_rt, outR_nx, outR_ex, Bool.not_true, Bool.not_false, Bool.false_eq_true, if_false, gOk_nil, andK_t, andK_f, notR_b, truR_b, isT_int, isT_bool, isT_tup, cmp_eq, cmp_ne, cmp_lt, cmp_le, cmp_gt, cmp_ge, add_ok, sub_ok, neg_ok, someR, lit0, lit1, lit2, newR, decide_true, decide_false, ckRow_ok S _ rr (by omega)]
    · rintro done δ H ⟨rfl, W2, x, e2, hm, rfl⟩
      exact ⟨x, rfl⟩
  obtain ⟨x, rfl⟩ := key
  simp -implicitDefEqProofs only [evE, evEs, evOE, evT, evL, evI, evS, evSs, bind_ok, bind_ex, cal_fn, start0, List.map_cons, List.map_nil, List.length_cons, List.length_nil, List.cons_append, List.nil_append, Nat.reduceAdd, Nat.reduceSub, List.replicate_succ, List.replicate_zero, List.getElem?_cons_zero, List.getElem?_cons_succ, List.set_cons_zero, List.set_cons_succ, setF, Nat.reduceLT, if_true, nxR, thenR, retR, iteK_t, iteK_f, afterB, wipeF, tgo, tgt, bindK_some, and_self, outR_rt, outR_nx, outR_ex, Bool.not_true, Bool.not_false, Bool.false_eq_true, if_false, gOk_nil, andK_t, andK_f, notR_b, truR_b, isT_int, isT_bool, isT_tup, cmp_eq, cmp_ne, cmp_lt, cmp_le, cmp_gt, cmp_ge, add_ok, sub_ok, neg_ok, someR, lit0, lit1, lit2, newR, decide_true, decide_false]
theorem form_ok (S : At pg s) (n : Nat) {w : Nat} (hw0 : 0 < w) (hw : w ≤ 16) {W : List (Bool × List Int)} (hl : W.length ≤ 16) (hr : ∀ p ∈ W, Row w p.2) (b : Bool) (h : Hs) :
    ∃ R t, callI pg (n + 9) s.form [.tup b (wd W), .int w] h = .ok (.tup false (wd (fw R))) (h ++ t) ∧ HF w R ∧ Eqv (GL R) (GL (Rws W)) := by
  obtain ⟨R, t, e, hR, q⟩ := formOf_ok S n (by omega) hw0 W hr (.tup b (wd W)) h (.inl rfl)
  refine ⟨R, t, ?_, hR, q⟩
  rw [callI_of S.form rfl]
  unfold f_form
  simp -implicitDefEqProofs only [evE, evEs, evOE, evT, evL, evI, evS, evSs, bind_ok, bind_ex, cal_fn, start0, List.map_cons, List.map_nil, List.length_cons, List.length_nil, List.cons_append, List.nil_append, Nat.reduceAdd, Nat.reduceSub, List.replicate_succ, List.replicate_zero, List.getElem?_cons_zero, List.getElem?_cons_succ, List.set_cons_zero, List.set_cons_succ, setF, Nat.reduceLT, if_true, nxR, thenR, retR, iteK_t, iteK_f, afterB, wipeF, tgo, tgt, bindK_some, and_self, outR_rt, outR_nx, outR_ex, Bool.not_true, Bool.not_false, Bool.false_eq_true, if_false, gOk_nil, andK_t, andK_f, notR_b, truR_b, isT_int, isT_bool, isT_tup, cmp_eq, cmp_ne, cmp_lt, cmp_le, cmp_gt, cmp_ge, add_ok, sub_ok, neg_ok, someR, lit0, lit1, lit2, newR, decide_true, decide_false, ckRows_ok S _ hw0 hw hl hr, e]
theorem HF.len {w : Nat} {R : List (List Int)} (hR : HF w R) : R.length ≤ w := by
  have := nodup_lt w (R.map leadN) (by
    rw [List.nodup_iff_pairwise_ne, List.pairwise_map]
    exact hR.asc.imp fun h => Nat.ne_of_lt h) fun x hx => by
      obtain ⟨r, hr, rfl⟩ := List.mem_map.mp hx
      exact (hR.piv r hr).1
  simpa using this
theorem sameSpan_ok (S : At pg s) (e0 : pg.fns[s.sameSpan]? = some (f_sameSpan s)) (n : Nat) {w : Nat} (hw0 : 0 < w) (hw : w ≤ 16) {W V : List (Bool × List Int)} (hl : W.length ≤ 16) (hr : ∀ p ∈ W, Row w p.2) (hl' : V.length ≤ 16) (hr' : ∀ p ∈ V, Row w p.2) (hs : Eqv (GL (Rws W)) (GL (Rws V))) (b c : Bool) (h : Hs) :
    ∃ t, callI pg (n + 9) s.sameSpan [.tup b (wd W), .tup c (wd V), .int w] h = .ok (.bl true) (h ++ t) := by
  obtain ⟨R, t, e, hR, q⟩ := formOf_ok S n (by omega) hw0 W hr (.tup b (wd W)) h (.inl rfl)
  obtain ⟨R', t', e', hR', q'⟩ := formOf_ok S n (by omega) hw0 V hr' (.tup c (wd V)) (h ++ t) (.inl rfl)
  have : R = R' := hR.uniq hR' (q.trans (hs.trans q'.symm))
  subst this
  refine ⟨t ++ t', ?_⟩
  rw [callI_of e0 rfl]
  unfold f_sameSpan
  simp -implicitDefEqProofs only [evE, evEs, evOE, evT, evL, evI, evS, evSs, bind_ok, bind_ex, cal_fn, start0, List.map_cons, List.map_nil, List.length_cons, List.length_nil, List.cons_append, List.nil_append, Nat.reduceAdd, Nat.reduceSub, List.replicate_succ, List.replicate_zero, List.getElem?_cons_zero, List.getElem?_cons_succ, List.set_cons_zero, List.set_cons_succ, setF, Nat.reduceLT, if_true, nxR, thenR, retR, iteK_t, iteK_f, afterB, wipeF, tgo, tgt, bindK_some, and_self, outR_rt, outR_nx, outR_ex, Bool.not_true, Bool.not_false, Bool.false_eq_true, if_false, gOk_nil, andK_t, andK_f, notR_b, truR_b, isT_int, isT_bool, isT_tup, cmp_eq, cmp_ne, cmp_lt, cmp_le, cmp_gt, cmp_ge, add_ok, sub_ok, neg_ok, someR, lit0, lit1, lit2, newR, decide_true, decide_false, ckRows_ok S _ hw0 hw hl hr, ckRows_ok S _ hw0 hw hl' hr', e, e', cmp_eqD (eqD_R false false (fw R) (fw R) _)]
  simp
/-! multipliers -/
theorem unit_ok (S : At pg s) (n p m : Nat) (hm : m ≤ 1000) (h : Hs) : callI pg (n + 1) s.unit [.int p, .int m] h = .ok (TI false (unitL p m)) h := by
  rw [callI_of S.unit rfl]
  unfold f_unit
  simp -implicitDefEqProofs only [evE, evEs, evOE, evT, evL, evI, evS, evSs, bind_ok, bind_ex, cal_fn, start0, List.map_cons, List.map_nil, List.length_cons, List.length_nil, List.cons_append, List.nil_append, Nat.reduceAdd, Nat.reduceSub, List.replicate_succ, List.replicate_zero, List.getElem?_cons_zero, List.getElem?_cons_succ, List.set_cons_zero, List.set_cons_succ, setF, Nat.reduceLT, if_true, nxR, thenR, retR, iteK_t, iteK_f, afterB, wipeF, tgo, tgt, bindK_some, and_self, outR_rt, outR_nx, outR_ex, Bool.not_true, Bool.not_false, Bool.false_eq_true, if_false, gOk_nil, andK_t, andK_f, notR_b, truR_b, isT_int, isT_bool, isT_tup, cmp_eq, cmp_ne, cmp_lt, cmp_le, cmp_gt, cmp_ge, add_ok, sub_ok, neg_ok, someR, lit0, lit1, lit2, newR, decide_true, decide_false, rng1_nat (w := m) h (by omega)]
  rw [loopR_pure (J := ⟨(List.range m).map fun (i : Nat) => D.int (i : Int), []⟩) (by rw [List.length_map, List.length_range]; unfold LIM; omega) rfl (fun d => match d with | .int i => some (.int (if i = (p : Int) then 1 else 0)) | _ => none)]
  · simp -implicitDefEqProofs only [evE, evEs, evOE, evT, evL, evI, evS, evSs, bind_ok, bind_ex, cal_fn, start0, List.map_cons, List.map_nil, List.length_cons, List.length_nil, List.cons_append, List.nil_append, Nat.reduceAdd, Nat.reduceSub, List.replicate_succ, List.replicate_zero, List.getElem?_cons_zero, List.getElem?_cons_succ, List.set_cons_zero, List.set_cons_succ, setF, Nat.reduceLT, if_true, nxR, thenR, retR, iteK_t, iteK_f, afterB, wipeF, tgo, tgt, bindK_some, and_self, outR_rt, outR_nx, outR_ex, Bool.not_true, Bool.not_false, Bool.false_eq_true, if_false, gOk_nil, andK_t, andK_f, notR_b, truR_b, isT_int, isT_bool, isT_tup, cmp_eq, cmp_ne, cmp_lt, cmp_le, cmp_gt, cmp_ge, add_ok, sub_ok, neg_ok, someR, lit0, lit1, lit2, newR, decide_true, decide_false, blD_tuple]
    congr 1
    simp only [TI, ri, unitL, List.filterMap_map, Function.comp_def, fmap_some, List.map_map]
    congr 1
    refine List.map_congr_left fun i _ => ?_
    have : ((i : Int) = (p : Int)) ↔ i = p := by omega
    simp [this]
  · intro x hx
    obtain ⟨i, _, rfl⟩ := List.mem_map.mp hx
    simp -implicitDefEqProofs only [evE, evEs, evOE, evT, evL, evI, evS, evSs, bind_ok, bind_ex, cal_fn, start0, List.map_cons, List.map_nil, List.length_cons, List.length_nil, List.cons_append, List.nil_append, Nat.reduceAdd, Nat.reduceSub, List.replicate_succ, List.replicate_zero, List.getElem?_cons_zero, List.getElem?_cons_succ, List.set_cons_zero, List.set_cons_succ, setF, Nat.reduceLT, if_true, nxR, thenR, retR, iteK_t, iteK_f, afterB, wipeF, tgo, tgt, bindK_some, and_self, outR_rt, outR_nx, outR_ex, Bool.not_true, Bool.not_false, Bool.false_eq_true, if_false, gOk_nil, andK_t, andK_f, notR_b, truR_b, isT_int, isT_bool, isT_tup, cmp_eq, cmp_ne, cmp_lt, cmp_le, cmp_gt, cmp_ge, add_ok, sub_ok, neg_ok, someR, lit0, lit1, lit2, newR, decide_true, decide_false]
    by_cases c : (i : Int) = (p : Int)
    · simp -implicitDefEqProofs only [evE, evEs, evOE, evT, evL, evI, evS, evSs, bind_ok, bind_ex, cal_fn, start0, List.map_cons, List.map_nil, List.length_cons, List.length_nil, List.cons_append, List.nil_append, Nat.reduceAdd, Nat.reduceSub, List.replicate_succ, List.replicate_zero, List.getElem?_cons_zero, List.getElem?_cons_succ, List.set_cons_zero, List.set_cons_succ, setF, Nat.reduceLT, if_true, nxR, thenR, retR, iteK_t, iteK_f, afterB, wipeF, tgo, tgt, bindK_some, and_self, outR_rt, outR_nx, outR_ex, Bool.not_true, Bool.not_false, Bool.false_eq_true, if_false, gOk_nil, andK_t, andK_f, notR_b, truR_b, isT_int, isT_bool, isT_tup, cmp_eq, cmp_ne, cmp_lt, cmp_le, cmp_gt, cmp_ge, add_ok, sub_ok, neg_ok, someR, lit0, lit1, lit2, newR, decide_true, decide_false, c]
    · simp -implicitDefEqProofs only [evE, evEs, evOE, evT, evL, evI, evS, evSs, bind_ok, bind_ex, cal_fn, start0, List.map_cons, List.map_nil, List.length_cons, List.length_nil, List.cons_append, List.nil_append, Nat.reduceAdd, Nat.reduceSub, List.replicate_succ, List.replicate_zero, List.getElem?_cons_zero, List.getElem?_cons_succ, List.set_cons_zero, List.set_cons_succ, setF, Nat.reduceLT, if_true, nxR, thenR, retR, iteK_t, iteK_f, afterB, wipeF, tgo, tgt, bindK_some, and_self, outR_rt, outR_nx, outR_ex, Bool.not_true, Bool.not_false, Bool.false_eq_true, if_false, gOk_nil, andK_t, andK_f, notR_b, truR_b, isT_int, isT_bool, isT_tup, cmp_eq, cmp_ne, cmp_lt, cmp_le, cmp_gt, cmp_ge, add_ok, sub_ok, neg_ok, someR, lit0, lit1, lit2, newR, decide_true, decide_false, c]

end Spans
end WP
namespace WP
open PySem PI
namespace Spans
variable {pg : Pg} {s : Ix}

theorem cut_lo (xs : List D) (k : Nat) (hk : k ≤ xs.length) : cutD xs none (some (k : Int)) = xs.take k := by
  unfold cutD
  rw [HT.sIx_none, HT.sIx_nat, Nat.min_eq_left hk]
  simp
theorem cut_hi (xs : List D) (k : Nat) (hk : k ≤ xs.length) : cutD xs (some (k : Int)) none = xs.drop k := by
  unfold cutD
  rw [HT.sIx_none, HT.sIx_nat, Nat.min_eq_left hk]
  rw [List.take_of_length_le (by simp)]
theorem sl_lo (b : Bool) (xs : List Int) (k : Nat) (hk : k ≤ xs.length) (h : Hs) : slD (TI b xs) none (some (k : Int)) h = .ok (TI false (xs.take k)) h := by
  show R.ok (D.tup false (cutD (ri xs) none (some (k : Int)))) h = _
  rw [cut_lo _ _ (by rw [ri_len]; exact hk)]
  simp [TI, ri, List.map_take]
theorem sl_hi (b : Bool) (xs : List Int) (k : Nat) (hk : k ≤ xs.length) (h : Hs) : slD (TI b xs) (some (k : Int)) none h = .ok (TI false (xs.drop k)) h := by
  show R.ok (D.tup false (cutD (ri xs) (some (k : Int)) none)) h = _
  rw [cut_hi _ _ (by rw [ri_len]; exact hk)]
  simp [TI, ri, List.map_drop]
theorem cat_TI (b c : Bool) (xs ys : List Int) (hl : xs.length + ys.length ≤ LIM) (h : Hs) : binD .add (TI b xs) (TI c ys) h = .ok (TI false (xs ++ ys)) h := by
  show (if (ri xs).length + (ri ys).length ≤ LIM then R.ok (D.tup false (ri xs ++ ri ys)) h else .no) = _
  rw [if_pos (by rw [ri_len, ri_len]; exact hl)]
  simp [TI, ri]
theorem rep_zero (b : Bool) (m : Nat) (h1 : 0 ≤ m) (h2 : m ≤ 1000) (h : Hs) : binD .mul (.tup b [.int 0]) (.int m) h = .ok (TI false (List.replicate m 0)) h := by
  show (if ([D.int 0] : List D).isEmpty = false ∧ (0 : Int) ≤ (m : Int) ∧ (m : Int) ≤ 1000 ∧ ([D.int 0] : List D).length ≤ 1000 then R.ok (D.tup false (List.replicate (m : Int).toNat [D.int 0]).flatten) h else .no) = _
  rw [if_pos ⟨rfl, by omega, by omega, by simp⟩]
  simp [TI, ri, List.flatten_replicate_singleton]
theorem ints_ri : ∀ xs : List Int, ints? (ri xs) = some xs
  | [] => rfl
  | x :: r => by
    show (ints? (ri r)).map (x :: ·) = _
    rw [ints_ri r]; rfl
theorem part_int (i : Int) (h : Hs) : partR (.int i) h = .ok (some i) h := rfl
theorem tupR_one (d : D) (h : Hs) : tupR [d] h = .ok (.tup true [d]) h := rfl
theorem multipliers_ok (S : At pg s) (e0 : pg.fns[s.multipliers]? = some (f_multipliers s)) (n : Nat) {w : Nat} (hw0 : 0 < w) (hw : w ≤ 16) {W : List (Bool × List Int)} (hl : W.length ≤ 16) (hr : ∀ p ∈ W, Row w p.2) (b c : Bool) {x : List Int} (hx : Row w x) (sx : Sp (GL (Rws W)) (fn x)) (h : Hs) :
    ∃ ds t, callI pg (n + 9) s.multipliers [.tup b (wd W), .int w, TI c x] h = .ok (TI false ds) (h ++ t) ∧ Row W.length ds ∧ ∀ i, i < w → (65536 : Int) ∣ fn x i - comb (Rws W) (fun j => fn ds j) i := by
  obtain ⟨m, hm⟩ : ∃ m, m = W.length := ⟨_, rfl⟩
  have hm' : (Rws W).length = m := by simp [Rws, hm]
  have hR : ∀ r ∈ Rws W, Row w r := fun r h => by
    obtain ⟨p, hp, rfl⟩ := List.mem_map.mp h
    exact hr p hp
  obtain ⟨Q, t, eQ, hQ, qe⟩ := formOf_ok S n (w := w + m) (by omega) (by omega) (fw (joinL (Rws W) m)) (fun p hp => by
    obtain ⟨r, h1, rfl⟩ := List.mem_map.mp hp
    unfold joinL at h1
    obtain ⟨q, hq, rfl⟩ := List.mem_map.mp h1
    obtain ⟨a, k⟩ := q
    have := List.mem_zipIdx_iff_getElem?.mp hq
    obtain ⟨h3, h4⟩ := List.getElem?_eq_some_iff.mp this
    exact row_app (hR a (by have h4 : (Rws W)[k] = a := h4; rw [← h4]; exact List.getElem_mem h3)) (row_unit k m)) (.ref h.length) (h ++ [O.lst (wd (fw (joinL (Rws W) m)))]) (.inr ⟨h.length, by simp, itOf_ref (by simp), by simp⟩)
  rw [fw_rws] at qe
  obtain ⟨y, hy⟩ : ∃ y, y = scl 65535 x ++ List.replicate m 0 := ⟨_, rfl⟩
  have rz : Row m (List.replicate m 0) := ⟨by simp, fun z hz => by rw [(List.mem_replicate.mp hz).2]; decide⟩
  have ry : Row (w + m) y := by rw [hy]; exact row_app (row_scl _ hx.1) rz
  have sl : (scl 65535 x).length = w := by simp [scl, hx.1]
  obtain ⟨z1, z2⟩ := mult_ok hR hm' hQ qe hx sx ry (fun i hi => by
    rw [hy, fn_app, if_pos (by omega), fn_scl]
    obtain ⟨k, hk⟩ := dvd_mod (fn x i * 65535)
    exact ⟨k + fn x i, by omega⟩) (fun i hi => by
    rw [hy, fn_app, if_neg (by omega)]
    unfold fn
    rw [List.getD_eq_getElem?_getD, List.getElem?_replicate]
    split <;> rfl)
  obtain ⟨a, _⟩ := hQ.rest ry
  have rs := rest_ok S (n + 6) (w := w + m) (by unfold LIM; omega) ry false (fw Q) (fun q hq => by
    obtain ⟨r, hr, rfl⟩ := List.mem_map.mp hq
    exact ⟨hQ.row r hr, (hQ.piv r hr).1, (hQ.piv r hr).2.pos.1⟩) (.tup false (wd (fw Q))) (h ++ [O.lst (wd (fw (joinL (Rws W) m)))] ++ t) [] rfl rfl
  rw [Bool.false_and, fw_rws] at rs
  have ll : (restL y Q).length = w + m := a.1
  have ld : leadN ((restL y Q).take w) = w := by
    have tl : ((restL y Q).take w).length = w := by rw [List.length_take]; omega
    have := leadN_zero (xs := (restL y Q).take w)
    rw [tl] at this
    refine this.mpr fun i => ?_
    rw [fn_take]
    split
    · next c => exact z1 i c
    · rfl
  refine ⟨(restL y Q).drop w, [O.lst (wd (fw (joinL (Rws W) m)))] ++ t, ?_, ?_, fun i hi => ?_⟩
  · rw [callI_of e0 rfl]
    unfold f_multipliers
    simp -implicitDefEqProofs only [evE, evEs, evOE, evT, evL, evI, evS, evSs, bind_ok, bind_ex, cal_fn, start0, List.map_cons, List.map_nil, List.length_cons, List.length_nil, List.cons_append, List.nil_append, Nat.reduceAdd, Nat.reduceSub, List.replicate_succ, List.replicate_zero, List.getElem?_cons_zero, List.getElem?_cons_succ, List.set_cons_zero, List.set_cons_succ, setF, Nat.reduceLT, if_true, nxR, thenR, retR, iteK_t, iteK_f, afterB, wipeF, tgo, tgt, bindK_some, and_self, outR_rt, outR_nx, outR_ex, Bool.not_true, Bool.not_false, Bool.false_eq_true, if_false, gOk_nil, andK_t, andK_f, notR_b, truR_b, isT_int, isT_bool, isT_tup, cmp_eq, cmp_ne, cmp_lt, cmp_le, cmp_gt, cmp_ge, add_ok, sub_ok, neg_ok, someR, lit0, lit1, lit2, newR, decide_true, decide_false, ckRows_ok S _ hw0 hw hl hr, ckRow_ok S _ hx (show w ≤ 100 by omega), len_tup, itEnum_tup]
    rw [loopR_pure (J := ⟨(wd W).zipIdx.map fun p => .tup false [.int p.2, p.1], []⟩) (by simp; unfold LIM; omega) rfl (fun d => match d with | .tup _ [.int k, .tup _ xs] => some (TI false ((match ints? xs with | some l => l | none => []) ++ unitL k.toNat m)) | _ => none)]
    · have e1 : (((wd W).zipIdx.map fun p => D.tup false [.int p.2, p.1]).filterMap (fun d => match d with | .tup _ [.int k, .tup _ xs] => some (TI false ((match ints? xs with | some l => l | none => []) ++ unitL k.toNat m)) | _ => none)) = wd (fw (joinL (Rws W) m)) := by
        simp only [wd, Rws, fw, joinL, List.zipIdx_map, List.map_map, List.filterMap_map, Function.comp_def, Prod.map, id_eq]
        have : ∀ q : (Bool × List Int) × Nat, (match D.tup false [.int (q.2 : Int), TI q.1.1 q.1.2] with | .tup _ [.int k, .tup _ xs] => some (TI false ((match ints? xs with | some l => l | none => []) ++ unitL k.toNat m)) | _ => none) = some (TI false (q.1.2 ++ unitL q.2 m)) := fun q => by
          show some (TI false ((match ints? (ri q.1.2) with | some l => l | none => []) ++ unitL ((q.2 : Nat) : Int).toNat m)) = _
          rw [ints_ri]
          simp
        simp only [this, fmap_some]
      have e2 : ((wd W).length : Int) = (m : Int) := by simp [hm]
      simp -implicitDefEqProofs only [evE, evEs, evOE, evT, evL, evI, evS, evSs, bind_ok, bind_ex, cal_fn, start0, List.map_cons, List.map_nil, List.length_cons, List.length_nil, List.cons_append, List.nil_append, Nat.reduceAdd, Nat.reduceSub, List.replicate_succ, List.replicate_zero, List.getElem?_cons_zero, List.getElem?_cons_succ, List.set_cons_zero, List.set_cons_succ, setF, Nat.reduceLT, if_true, nxR, thenR, retR, iteK_t, iteK_f, afterB, wipeF, tgo, tgt, bindK_some, and_self, outR_rt, outR_nx, outR_ex, Bool.not_true, Bool.not_false, Bool.false_eq_true, if_false, gOk_nil, andK_t, andK_f, notR_b, truR_b, isT_int, isT_bool, isT_tup, cmp_eq, cmp_ne, cmp_lt, cmp_le, cmp_gt, cmp_ge, add_ok, sub_ok, neg_ok, someR, lit0, lit1, lit2, newR, decide_true, decide_false, e1, e2, eQ, cal_con S.cSIZE, scaled_ok S _ c x 65535 (by decide) (show x.length < LIM by rw [hx.1]; unfold LIM; omega), show (65536 : Int) - 1 = 65535 by decide, tupR_one, rep_zero true m (by omega) (by omega), cat_TI false false (scl 65535 x) (List.replicate m 0) (by rw [sl, List.length_replicate]; unfold LIM; omega), ← hy, rs, part_int, sl_lo false (restL y Q) w (by omega), lead_ok S, ld, Int.lt_irrefl, sl_hi false (restL y Q) w (by omega)]
      simp
    · intro d hd
      obtain ⟨p, hp, rfl⟩ := List.mem_map.mp hd
      obtain ⟨e, k⟩ := p
      have := List.mem_zipIdx_iff_getElem?.mp hp
      simp only [wd, List.getElem?_map] at this
      cases hq : W[k]? with
      | none => rw [hq] at this; cases this
      | some q =>
        rw [hq] at this
        obtain rfl : TI q.1 q.2 = e := Option.some.inj this
        have rq := hr q (List.mem_of_getElem? hq)
        have e2 : ((wd W).length : Int) = (m : Int) := by simp [hm]
        simp -implicitDefEqProofs only [evE, evEs, evOE, evT, evL, evI, evS, evSs, bind_ok, bind_ex, cal_fn, start0, List.map_cons, List.map_nil, List.length_cons, List.length_nil, List.cons_append, List.nil_append, Nat.reduceAdd, Nat.reduceSub, List.replicate_succ, List.replicate_zero, List.getElem?_cons_zero, List.getElem?_cons_succ, List.set_cons_zero, List.set_cons_succ, setF, Nat.reduceLT, if_true, nxR, thenR, retR, iteK_t, iteK_f, afterB, wipeF, tgo, tgt, bindK_some, and_self, outR_rt, outR_nx, outR_ex, Bool.not_true, Bool.not_false, Bool.false_eq_true, if_false, gOk_nil, andK_t, andK_f, notR_b, truR_b, isT_int, isT_bool, isT_tup, cmp_eq, cmp_ne, cmp_lt, cmp_le, cmp_gt, cmp_ge, add_ok, sub_ok, neg_ok, someR, lit0, lit1, lit2, newR, decide_true, decide_false, e2, unit_ok S _ k m (by omega), cat_TI q.1 false q.2 (unitL k m) (by rw [rq.1]; simp [unitL]; unfold LIM; omega)]
        have e3 : ints? (ri q.2) = some q.2 := ints_ri _
        simp only [TI, e3, Int.toNat_natCast]
  · refine ⟨by rw [List.length_drop, ll, ← hm]; omega, fun z hz => a.2 z (List.mem_of_mem_drop hz)⟩
  · have : (fun j => fn ((restL y Q).drop w) j) = fun j => fn (restL y Q) (w + j) := by
      funext j
      rw [fn_drop]
    rw [this]
    exact z2 i hi

end Spans
end WP
namespace WP
open PySem PI
namespace Spans
variable {pg : Pg} {s : Ix}
structure EIx where
  contains : Nat
  tails : Nat
  equationsOf : Nat
  equations : Nat
def f_tails (s : Ix) : Fn := ⟨"tails", ["rows", "width"], ["rows", "width", "row"], (.cons (.ret (.bl .tuple (.comp (.one 2) (.of (.var 0)) [2] (.of (.cmp .ge (.call s.lead (.cons (.var 2) .nil)) (.var 1))) (.sl (.var 2) (.some (.var 1)) .none)))) .nil)⟩
def f_equationsOf (s : Ix) (y : EIx) : Fn := ⟨"equations_of", ["rows", "width"], ["rows", "width", "columns", "place", "row"], (.cons (.set 2 (.newL (.compU (.one 3) (.range1 (.var 1)) [3] (.bin .add (.bl .tuple (.compU (.one 4) (.of (.var 0)) [4] (.ix (.var 4) (.var 3)))) (.call s.unit (.cons (.var 3) (.cons (.var 1) .nil))))))) (.cons (.ret (.call y.tails (.cons (.call s.formOf (.cons (.var 2) .nil)) (.cons (.bi .len (.cons (.var 0) .nil)) .nil)))) .nil))⟩
def f_contains (s : Ix) : Fn := ⟨"contains", ["rows", "width", "row"], ["rows", "width", "row"], (.cons (.expr (.call s.ckRows (.cons (.var 0) (.cons (.var 1) .nil)))) (.cons (.expr (.call s.ckRow (.cons (.var 2) (.cons (.var 1) .nil)))) (.cons (.ret (.cmp .eq (.call s.lead (.cons (.call s.rest (.cons (.var 2) (.cons (.call s.formOf (.cons (.var 0) .nil)) .nil))) .nil)) (.var 1))) .nil)))⟩
def f_equations (s : Ix) (y : EIx) : Fn := ⟨"equations", ["rows", "width"], ["rows", "width"], (.cons (.expr (.call s.ckRows (.cons (.var 0) (.cons (.var 1) .nil)))) (.cons (.ret (.call y.equationsOf (.cons (.var 0) (.cons (.var 1) .nil)))) .nil))⟩
structure EAt (pg : Pg) (s : Ix) (y : EIx) : Prop where
  contains : pg.fns[y.contains]? = some (f_contains s)
  tails : pg.fns[y.tails]? = some (f_tails s)
  equationsOf : pg.fns[y.equationsOf]? = some (f_equationsOf s y)
  equations : pg.fns[y.equations]? = some (f_equations s y)
variable {y : EIx}
theorem rws_row {w : Nat} {W : List (Bool × List Int)} (hr : ∀ p ∈ W, Row w p.2) : ∀ r ∈ Rws W, Row w r := fun r h => by
  obtain ⟨p, hp, rfl⟩ := List.mem_map.mp h
  exact hr p hp
theorem contains_ok (S : At pg s) (Y : EAt pg s y) (n : Nat) {w : Nat} (hw0 : 0 < w) (hw : w ≤ 16) {W : List (Bool × List Int)} (hl : W.length ≤ 16) (hr : ∀ p ∈ W, Row w p.2) (b c : Bool) {x : List Int} (hx : Row w x) (h : Hs) :
    ∃ t v, callI pg (n + 9) y.contains [.tup b (wd W), .int w, TI c x] h = .ok (.bl v) (h ++ t) ∧ (v = true ↔ Sp (GL (Rws W)) (fn x)) := by
  obtain ⟨Q, t, eQ, hQ, qe⟩ := formOf_ok S n (w := w) (by omega) hw0 W hr (.tup b (wd W)) h (.inl rfl)
  have rs := rest_ok S (n + 6) (w := w) (by unfold LIM; omega) hx c (fw Q) (fun q hq => by
    obtain ⟨r, hr, rfl⟩ := List.mem_map.mp hq
    exact ⟨hQ.row r hr, (hQ.piv r hr).1, (hQ.piv r hr).2.pos.1⟩) (.tup false (wd (fw Q))) (h ++ t) [] rfl rfl
  rw [fw_rws] at rs
  refine ⟨t, decide (leadN (restL x Q) = w), ?_, ?_⟩
  · rw [callI_of Y.contains rfl]
    unfold f_contains
    simp -implicitDefEqProofs only [evE, evEs, evOE, evT, evL, evI, evS, evSs, bind_ok, bind_ex, cal_fn, start0, List.map_cons, List.map_nil, List.length_cons, List.length_nil, List.cons_append, List.nil_append, Nat.reduceAdd, Nat.reduceSub, List.replicate_succ, List.replicate_zero, List.getElem?_cons_zero, List.getElem?_cons_succ, List.set_cons_zero, List.set_cons_succ, setF, Nat.reduceLT, if_true, nxR, thenR, retR, iteK_t, iteK_f, afterB, wipeF, tgo, tgt, bindK_some, and_self, outR_rt, outR_nx, outR_ex, Bool.not_true, Bool.not_false, Bool.false_eq_true, if_false, gOk_nil, andK_t, andK_f, notR_b, truR_b, isT_int, isT_bool, isT_tup, cmp_eq, cmp_ne, cmp_lt, cmp_le, cmp_gt, cmp_ge, add_ok, sub_ok, neg_ok, someR, lit0, lit1, lit2, newR, decide_true, decide_false, ckRows_ok S _ hw0 hw hl hr, ckRow_ok S _ hx (show w ≤ 100 by omega), eQ, rs, lead_ok S]
    have : ((leadN (restL x Q) : Int) = (w : Int)) ↔ leadN (restL x Q) = w := by omega
    simp only [this]
  · rw [decide_eq_true_iff, ← qe, ← hQ.rest_zero hx]
    have := leadN_zero (xs := restL x Q)
    rw [(hQ.rest hx).1.1] at this
    exact this
theorem sameSpan2_ok (S : At pg s) (e0 : pg.fns[s.sameSpan]? = some (f_sameSpan s)) (n : Nat) {w : Nat} (hw0 : 0 < w) (hw : w ≤ 16) {W V : List (Bool × List Int)} (hl : W.length ≤ 16) (hr : ∀ p ∈ W, Row w p.2) (hl' : V.length ≤ 16) (hr' : ∀ p ∈ V, Row w p.2) (b c : Bool) (h : Hs) :
    ∃ t v, callI pg (n + 9) s.sameSpan [.tup b (wd W), .tup c (wd V), .int w] h = .ok (.bl v) (h ++ t) ∧ (v = true ↔ Eqv (GL (Rws W)) (GL (Rws V))) := by
  obtain ⟨R, t, e, hR, q⟩ := formOf_ok S n (by omega) hw0 W hr (.tup b (wd W)) h (.inl rfl)
  obtain ⟨R', t', e', hR', q'⟩ := formOf_ok S n (by omega) hw0 V hr' (.tup c (wd V)) (h ++ t) (.inl rfl)
  refine ⟨t ++ t', decide (R = R'), ?_, ?_⟩
  · rw [callI_of e0 rfl]
    unfold f_sameSpan
    simp -implicitDefEqProofs only [evE, evEs, evOE, evT, evL, evI, evS, evSs, bind_ok, bind_ex, cal_fn, start0, List.map_cons, List.map_nil, List.length_cons, List.length_nil, List.cons_append, List.nil_append, Nat.reduceAdd, Nat.reduceSub, List.replicate_succ, List.replicate_zero, List.getElem?_cons_zero, List.getElem?_cons_succ, List.set_cons_zero, List.set_cons_succ, setF, Nat.reduceLT, if_true, nxR, thenR, retR, iteK_t, iteK_f, afterB, wipeF, tgo, tgt, bindK_some, and_self, outR_rt, outR_nx, outR_ex, Bool.not_true, Bool.not_false, Bool.false_eq_true, if_false, gOk_nil, andK_t, andK_f, notR_b, truR_b, isT_int, isT_bool, isT_tup, cmp_eq, cmp_ne, cmp_lt, cmp_le, cmp_gt, cmp_ge, add_ok, sub_ok, neg_ok, someR, lit0, lit1, lit2, newR, decide_true, decide_false, ckRows_ok S _ hw0 hw hl hr, ckRows_ok S _ hw0 hw hl' hr', e, e', cmp_eqD (eqD_R false false (fw R) (fw R') _)]
    rw [fw_rws, fw_rws, List.append_assoc]
  · rw [decide_eq_true_iff]
    constructor
    · rintro rfl
      exact q.symm.trans q'
    · intro hs
      exact hR.uniq hR' (q.trans (hs.trans q'.symm))
theorem tails_ok (S : At pg s) (Y : EAt pg s y) (n m : Nat) {P : List (List Int)} (hP : ∀ r ∈ P, m ≤ r.length) (hl : P.length < LIM) (b : Bool) (h : Hs) :
    callI pg (n + 2) y.tails [.tup b (wd (fw P)), .int m] h = .ok (.tup false (wd (fw (tailsL P m)))) h := by
  rw [callI_of Y.tails rfl]
  unfold f_tails
  simp -implicitDefEqProofs only [evE, evEs, evOE, evT, evL, evI, evS, evSs, bind_ok, bind_ex, cal_fn, start0, List.map_cons, List.map_nil, List.length_cons, List.length_nil, List.cons_append, List.nil_append, Nat.reduceAdd, Nat.reduceSub, List.replicate_succ, List.replicate_zero, List.getElem?_cons_zero, List.getElem?_cons_succ, List.set_cons_zero, List.set_cons_succ, setF, Nat.reduceLT, if_true, nxR, thenR, retR, iteK_t, iteK_f, afterB, wipeF, tgo, tgt, bindK_some, and_self, outR_rt, outR_nx, outR_ex, Bool.not_true, Bool.not_false, Bool.false_eq_true, if_false, gOk_nil, andK_t, andK_f, notR_b, truR_b, isT_int, isT_bool, isT_tup, cmp_eq, cmp_ne, cmp_lt, cmp_le, cmp_gt, cmp_ge, add_ok, sub_ok, neg_ok, someR, lit0, lit1, lit2, newR, decide_true, decide_false, itOf_tup]
  rw [loopR_pure (J := ⟨wd (fw P), []⟩) (by simp [fw]; exact hl) rfl (fun d => match d with | .tup _ xs => (match ints? xs with | some l => if m ≤ leadN l then some (TI false (l.drop m)) else none | none => none) | _ => none)]
  · simp -implicitDefEqProofs only [evE, evEs, evOE, evT, evL, evI, evS, evSs, bind_ok, bind_ex, cal_fn, start0, List.map_cons, List.map_nil, List.length_cons, List.length_nil, List.cons_append, List.nil_append, Nat.reduceAdd, Nat.reduceSub, List.replicate_succ, List.replicate_zero, List.getElem?_cons_zero, List.getElem?_cons_succ, List.set_cons_zero, List.set_cons_succ, setF, Nat.reduceLT, if_true, nxR, thenR, retR, iteK_t, iteK_f, afterB, wipeF, tgo, tgt, bindK_some, and_self, outR_rt, outR_nx, outR_ex, Bool.not_true, Bool.not_false, Bool.false_eq_true, if_false, gOk_nil, andK_t, andK_f, notR_b, truR_b, isT_int, isT_bool, isT_tup, cmp_eq, cmp_ne, cmp_lt, cmp_le, cmp_gt, cmp_ge, add_ok, sub_ok, neg_ok, someR, lit0, lit1, lit2, newR, decide_true, decide_false, blD_tuple]
    congr 1
    congr 1
    clear hP hl
    induction P with
    | nil => rfl
    | cons r P ih =>
      show List.filterMap _ (TI false r :: wd (fw P)) = _
      have e1 : ints? (ri r) = some r := ints_ri r
      rw [List.filterMap_cons, ih]
      simp only [TI, e1]
      by_cases c : m ≤ leadN r
      · simp [tailsL, c, wd, fw, TI]
      · simp [tailsL, c, wd, fw, TI]
  · intro d hd
    obtain ⟨p, hp, rfl⟩ := List.mem_map.mp hd
    obtain ⟨r, hr, rfl⟩ := List.mem_map.mp hp
    have e1 : ints? (ri r) = some r := ints_ri r
    by_cases c : m ≤ leadN r
    · have c2 : (m : Int) ≤ (leadN r : Int) := by omega
      simp -implicitDefEqProofs only [evE, evEs, evOE, evT, evL, evI, evS, evSs, bind_ok, bind_ex, cal_fn, start0, List.map_cons, List.map_nil, List.length_cons, List.length_nil, List.cons_append, List.nil_append, Nat.reduceAdd, Nat.reduceSub, List.replicate_succ, List.replicate_zero, List.getElem?_cons_zero, List.getElem?_cons_succ, List.set_cons_zero, List.set_cons_succ, setF, Nat.reduceLT, if_true, nxR, thenR, retR, iteK_t, iteK_f, afterB, wipeF, tgo, tgt, bindK_some, and_self, outR_rt, outR_nx, outR_ex, Bool.not_true, Bool.not_false, Bool.false_eq_true, if_false, gOk_nil, andK_t, andK_f, notR_b, truR_b, isT_int, isT_bool, isT_tup, cmp_eq, cmp_ne, cmp_lt, cmp_le, cmp_gt, cmp_ge, add_ok, sub_ok, neg_ok, someR, lit0, lit1, lit2, newR, decide_true, decide_false, lead_ok S, c2, part_int, sl_hi false r m (hP r hr)]
      simp only [TI, e1, c, if_true]
    · have c2 : ¬ (m : Int) ≤ (leadN r : Int) := by omega
      simp -implicitDefEqProofs only [evE, evEs, evOE, evT, evL, evI, evS, evSs, bind_ok, bind_ex, cal_fn, start0, List.map_cons, List.map_nil, List.length_cons, List.length_nil, List.cons_append, List.nil_append, Nat.reduceAdd, Nat.reduceSub, List.replicate_succ, List.replicate_zero, List.getElem?_cons_zero, List.getElem?_cons_succ, List.set_cons_zero, List.set_cons_succ, setF, Nat.reduceLT, if_true, nxR, thenR, retR, iteK_t, iteK_f, afterB, wipeF, tgo, tgt, bindK_some, and_self, outR_rt, outR_nx, outR_ex, Bool.not_true, Bool.not_false, Bool.false_eq_true, if_false, gOk_nil, andK_t, andK_f, notR_b, truR_b, isT_int, isT_bool, isT_tup, cmp_eq, cmp_ne, cmp_lt, cmp_le, cmp_gt, cmp_ge, add_ok, sub_ok, neg_ok, someR, lit0, lit1, lit2, newR, decide_true, decide_false, lead_ok S, c2]
      simp only [TI, e1, c, if_false]
      rfl
theorem joinL_cols (R : List (List Int)) (w : Nat) : joinL (cols R w) w = (List.range w).map fun p => colL R p ++ unitL p w := by
  unfold joinL
  refine List.ext_getElem (by simp [cols]) fun i h1 h2 => ?_
  simp [cols]
theorem equationsOf_ok (S : At pg s) (Y : EAt pg s y) (n : Nat) {w : Nat} (hw0 : 0 < w) (hw : w ≤ 16) {W : List (Bool × List Int)} (hl : W.length ≤ 16) (hr : ∀ p ∈ W, Row w p.2) (b : Bool) (h : Hs) :
    ∃ P t, callI pg (n + 9) y.equationsOf [.tup b (wd W), .int w] h = .ok (.tup false (wd (fw (tailsL P W.length)))) (h ++ t) ∧ HF (W.length + w) P ∧ Eqv (GL P) (GL (joinL (cols (Rws W) w) w)) := by
  have hR := rws_row hr
  obtain ⟨m, hm⟩ : ∃ m, m = W.length := ⟨_, rfl⟩
  have hm' : (Rws W).length = m := by simp [Rws, hm]
  obtain ⟨C, hC⟩ : ∃ C, C = joinL (cols (Rws W) w) w := ⟨_, rfl⟩
  obtain ⟨P, t, eP, hP, pe⟩ := formOf_ok S n (w := m + w) (by omega) (by omega) (fw C) (fun p hp => by
    obtain ⟨r, h1, rfl⟩ := List.mem_map.mp hp
    rw [hC, joinL_cols] at h1
    obtain ⟨q, _, rfl⟩ := List.mem_map.mp h1
    have := row_col hR q
    rw [hm'] at this
    exact row_app this (row_unit q w)) (.ref h.length) (h ++ [O.lst (wd (fw C))]) (.inr ⟨h.length, by simp, itOf_ref (by simp), by simp⟩)
  rw [fw_rws] at pe
  refine ⟨P, [O.lst (wd (fw C))] ++ t, ?_, by rw [← hm]; exact hP, by rw [← hC]; exact pe⟩
  have tl := tails_ok S Y (n + 6) m (P := P) (fun r hr => by rw [(hP.row r hr).1]; omega) (by have := HF.len hP; unfold LIM; omega) false (h ++ [O.lst (wd (fw C))] ++ t)
  rw [callI_of Y.equationsOf rfl]
  unfold f_equationsOf
  simp -implicitDefEqProofs only [evE, evEs, evOE, evT, evL, evI, evS, evSs, bind_ok, bind_ex, cal_fn, start0, List.map_cons, List.map_nil, List.length_cons, List.length_nil, List.cons_append, List.nil_append, Nat.reduceAdd, Nat.reduceSub, List.replicate_succ, List.replicate_zero, List.getElem?_cons_zero, List.getElem?_cons_succ, List.set_cons_zero, List.set_cons_succ, setF, Nat.reduceLT, if_true, nxR, thenR, retR, iteK_t, iteK_f, afterB, wipeF, tgo, tgt, bindK_some, and_self, outR_rt, outR_nx, outR_ex, Bool.not_true, Bool.not_false, Bool.false_eq_true, if_false, gOk_nil, andK_t, andK_f, notR_b, truR_b, isT_int, isT_bool, isT_tup, cmp_eq, cmp_ne, cmp_lt, cmp_le, cmp_gt, cmp_ge, add_ok, sub_ok, neg_ok, someR, lit0, lit1, lit2, newR, decide_true, decide_false, rng1_nat (w := w) h (by omega)]
  rw [loopR_pure (J := ⟨(List.range w).map fun (i : Nat) => D.int (i : Int), []⟩) (by rw [List.length_map, List.length_range]; unfold LIM; omega) rfl (fun d => match d with | .int i => some (TI false (colL (Rws W) i.toNat ++ unitL i.toNat w)) | _ => none)]
  · have e1 : (((List.range w).map fun (i : Nat) => D.int (i : Int)).filterMap fun d => match d with | .int i => some (TI false (colL (Rws W) i.toNat ++ unitL i.toNat w)) | _ => none) = wd (fw C) := by
      rw [hC, joinL_cols]
      simp only [List.filterMap_map, Function.comp_def, fmap_some, wd, fw, List.map_map, Int.toNat_natCast]
    have e2 : ((wd W).length : Int) = (m : Int) := by simp [hm]
    simp -implicitDefEqProofs only [evE, evEs, evOE, evT, evL, evI, evS, evSs, bind_ok, bind_ex, cal_fn, start0, List.map_cons, List.map_nil, List.length_cons, List.length_nil, List.cons_append, List.nil_append, Nat.reduceAdd, Nat.reduceSub, List.replicate_succ, List.replicate_zero, List.getElem?_cons_zero, List.getElem?_cons_succ, List.set_cons_zero, List.set_cons_succ, setF, Nat.reduceLT, if_true, nxR, thenR, retR, iteK_t, iteK_f, afterB, wipeF, tgo, tgt, bindK_some, and_self, outR_rt, outR_nx, outR_ex, Bool.not_true, Bool.not_false, Bool.false_eq_true, if_false, gOk_nil, andK_t, andK_f, notR_b, truR_b, isT_int, isT_bool, isT_tup, cmp_eq, cmp_ne, cmp_lt, cmp_le, cmp_gt, cmp_ge, add_ok, sub_ok, neg_ok, someR, lit0, lit1, lit2, newR, decide_true, decide_false, e1, eP, len_tup, e2, tl]
    rw [hm]
    simp
  · intro d hd
    obtain ⟨i, hi, rfl⟩ := List.mem_map.mp hd
    have hi : i < w := List.mem_range.mp hi
    simp -implicitDefEqProofs only [evE, evEs, evOE, evT, evL, evI, evS, evSs, bind_ok, bind_ex, cal_fn, start0, List.map_cons, List.map_nil, List.length_cons, List.length_nil, List.cons_append, List.nil_append, Nat.reduceAdd, Nat.reduceSub, List.replicate_succ, List.replicate_zero, List.getElem?_cons_zero, List.getElem?_cons_succ, List.set_cons_zero, List.set_cons_succ, setF, Nat.reduceLT, if_true, nxR, thenR, retR, iteK_t, iteK_f, afterB, wipeF, tgo, tgt, bindK_some, and_self, outR_rt, outR_nx, outR_ex, Bool.not_true, Bool.not_false, Bool.false_eq_true, if_false, gOk_nil, andK_t, andK_f, notR_b, truR_b, isT_int, isT_bool, isT_tup, cmp_eq, cmp_ne, cmp_lt, cmp_le, cmp_gt, cmp_ge, add_ok, sub_ok, neg_ok, someR, lit0, lit1, lit2, newR, decide_true, decide_false, itOf_tup]
    rw [loopR_pure (J := ⟨wd W, []⟩) (by simp; unfold LIM; omega) rfl (fun d => match d with | .tup _ xs => (match ints? xs with | some l => some (.int (fn l i)) | none => none) | _ => none)]
    · have e1 : ((wd W).filterMap fun d => match d with | .tup _ xs => (match ints? xs with | some l => some (D.int (fn l i)) | none => none) | _ => none) = ri (colL (Rws W) i) := by
        clear hl hr hR hm hm' hC eP pe tl
        induction W with
        | nil => rfl
        | cons p W ih =>
          show List.filterMap _ (TI p.1 p.2 :: wd W) = _
          have e1 : ints? (ri p.2) = some p.2 := ints_ri p.2
          rw [List.filterMap_cons, ih]
          simp only [TI, e1]
          simp [Rws, colL, ri]
      have e3 : ((.tup false (ri (colL (Rws W) i))) : D) = TI false (colL (Rws W) i) := rfl
      simp -implicitDefEqProofs only [evE, evEs, evOE, evT, evL, evI, evS, evSs, bind_ok, bind_ex, cal_fn, start0, List.map_cons, List.map_nil, List.length_cons, List.length_nil, List.cons_append, List.nil_append, Nat.reduceAdd, Nat.reduceSub, List.replicate_succ, List.replicate_zero, List.getElem?_cons_zero, List.getElem?_cons_succ, List.set_cons_zero, List.set_cons_succ, setF, Nat.reduceLT, if_true, nxR, thenR, retR, iteK_t, iteK_f, afterB, wipeF, tgo, tgt, bindK_some, and_self, outR_rt, outR_nx, outR_ex, Bool.not_true, Bool.not_false, Bool.false_eq_true, if_false, gOk_nil, andK_t, andK_f, notR_b, truR_b, isT_int, isT_bool, isT_tup, cmp_eq, cmp_ne, cmp_lt, cmp_le, cmp_gt, cmp_ge, add_ok, sub_ok, neg_ok, someR, lit0, lit1, lit2, newR, decide_true, decide_false, e1, blD_tuple, e3, unit_ok S _ i w (show w ≤ 1000 by omega), cat_TI false false (colL (Rws W) i) (unitL i w) (by simp [colL, hm', unitL]; unfold LIM; omega), Int.toNat_natCast]
    · intro d hd
      obtain ⟨p, hp, rfl⟩ := List.mem_map.mp hd
      have e1 : ints? (ri p.2) = some p.2 := ints_ri p.2
      simp -implicitDefEqProofs only [evE, evEs, evOE, evT, evL, evI, evS, evSs, bind_ok, bind_ex, cal_fn, start0, List.map_cons, List.map_nil, List.length_cons, List.length_nil, List.cons_append, List.nil_append, Nat.reduceAdd, Nat.reduceSub, List.replicate_succ, List.replicate_zero, List.getElem?_cons_zero, List.getElem?_cons_succ, List.set_cons_zero, List.set_cons_succ, setF, Nat.reduceLT, if_true, nxR, thenR, retR, iteK_t, iteK_f, afterB, wipeF, tgo, tgt, bindK_some, and_self, outR_rt, outR_nx, outR_ex, Bool.not_true, Bool.not_false, Bool.false_eq_true, if_false, gOk_nil, andK_t, andK_f, notR_b, truR_b, isT_int, isT_bool, isT_tup, cmp_eq, cmp_ne, cmp_lt, cmp_le, cmp_gt, cmp_ge, add_ok, sub_ok, neg_ok, someR, lit0, lit1, lit2, newR, decide_true, decide_false, ix_TI (b := p.1) (xs := p.2) (i := i) (by rw [(hr p hp).1]; exact hi)]
      simp only [TI, e1]
theorem equations_ok (S : At pg s) (Y : EAt pg s y) (n : Nat) {w : Nat} (hw0 : 0 < w) (hw : w ≤ 16) {W : List (Bool × List Int)} (hl : W.length ≤ 16) (hr : ∀ p ∈ W, Row w p.2) (b : Bool) (h : Hs) :
    ∃ P t, callI pg (n + 10) y.equations [.tup b (wd W), .int w] h = .ok (.tup false (wd (fw (tailsL P W.length)))) (h ++ t) ∧ HF (W.length + w) P ∧ Eqv (GL P) (GL (joinL (cols (Rws W) w) w)) := by
  obtain ⟨P, t, e, h1, h2⟩ := equationsOf_ok S Y n hw0 hw hl hr b h
  refine ⟨P, t, ?_, h1, h2⟩
  rw [callI_of Y.equations rfl]
  unfold f_equations
  simp -implicitDefEqProofs only [evE, evEs, evOE, evT, evL, evI, evS, evSs, bind_ok, bind_ex, cal_fn, start0, List.map_cons, List.map_nil, List.length_cons, List.length_nil, List.cons_append, List.nil_append, Nat.reduceAdd, Nat.reduceSub, List.replicate_succ, List.replicate_zero, List.getElem?_cons_zero, List.getElem?_cons_succ, List.set_cons_zero, List.set_cons_succ, setF, Nat.reduceLT, if_true, nxR, thenR, retR, iteK_t, iteK_f, afterB, wipeF, tgo, tgt, bindK_some, and_self, outR_rt, outR_nx, outR_ex, Bool.not_true, Bool.not_false, Bool.false_eq_true, if_false, gOk_nil, andK_t, andK_f, notR_b, truR_b, isT_int, isT_bool, isT_tup, cmp_eq, cmp_ne, cmp_lt, cmp_le, cmp_gt, cmp_ge, add_ok, sub_ok, neg_ok, someR, lit0, lit1, lit2, newR, decide_true, decide_false, ckRows_ok S _ hw0 hw hl hr, e]
theorem multipliers_none (S : At pg s) (e0 : pg.fns[s.multipliers]? = some (f_multipliers s)) (n : Nat) {w : Nat} (hw0 : 0 < w) (hw : w ≤ 16) {W : List (Bool × List Int)} (hl : W.length ≤ 16) (hr : ∀ p ∈ W, Row w p.2) (b c : Bool) {x : List Int} (hx : Row w x) (nx : ¬ Sp (GL (Rws W)) (fn x)) (h : Hs) :
    ∃ t, callI pg (n + 9) s.multipliers [.tup b (wd W), .int w, TI c x] h = .ok .non (h ++ t) := by
  obtain ⟨m, hm⟩ : ∃ m, m = W.length := ⟨_, rfl⟩
  have hm' : (Rws W).length = m := by simp [Rws, hm]
  have hR := rws_row hr
  obtain ⟨Q, t, eQ, hQ, qe⟩ := formOf_ok S n (w := w + m) (by omega) (by omega) (fw (joinL (Rws W) m)) (fun p hp => by
    obtain ⟨r, h1, rfl⟩ := List.mem_map.mp hp
    unfold joinL at h1
    obtain ⟨q, hq, rfl⟩ := List.mem_map.mp h1
    obtain ⟨a, k⟩ := q
    have := List.mem_zipIdx_iff_getElem?.mp hq
    obtain ⟨h3, h4⟩ := List.getElem?_eq_some_iff.mp this
    exact row_app (hR a (by have h4 : (Rws W)[k] = a := h4; rw [← h4]; exact List.getElem_mem h3)) (row_unit k m)) (.ref h.length) (h ++ [O.lst (wd (fw (joinL (Rws W) m)))]) (.inr ⟨h.length, by simp, itOf_ref (by simp), by simp⟩)
  rw [fw_rws] at qe
  obtain ⟨y, hy⟩ : ∃ y, y = scl 65535 x ++ List.replicate m 0 := ⟨_, rfl⟩
  have rz : Row m (List.replicate m 0) := ⟨by simp, fun z hz => by rw [(List.mem_replicate.mp hz).2]; decide⟩
  have ry : Row (w + m) y := by rw [hy]; exact row_app (row_scl _ hx.1) rz
  have sl : (scl 65535 x).length = w := by simp [scl, hx.1]
  obtain ⟨a, _⟩ := hQ.rest ry
  have rs := rest_ok S (n + 6) (w := w + m) (by unfold LIM; omega) ry false (fw Q) (fun q hq => by
    obtain ⟨r, hr, rfl⟩ := List.mem_map.mp hq
    exact ⟨hQ.row r hr, (hQ.piv r hr).1, (hQ.piv r hr).2.pos.1⟩) (.tup false (wd (fw Q))) (h ++ [O.lst (wd (fw (joinL (Rws W) m)))] ++ t) [] rfl rfl
  rw [Bool.false_and, fw_rws] at rs
  have ll : (restL y Q).length = w + m := a.1
  have tl : ((restL y Q).take w).length = w := by rw [List.length_take]; omega
  have ld : leadN ((restL y Q).take w) < w := by
    have l1 := leadN_le ((restL y Q).take w)
    have l2 := leadN_zero (xs := (restL y Q).take w)
    rw [tl] at l1 l2
    rcases Nat.lt_or_ge (leadN ((restL y Q).take w)) w with h | h
    · exact h
    · refine absurd (mult_none hR hm' hQ qe hx ry (fun i hi => ?_) fun i hi => ?_) nx
      · rw [hy, fn_app, if_pos (by omega), fn_scl]
        obtain ⟨k, hk⟩ := dvd_mod (fn x i * 65535)
        exact ⟨k + fn x i, by omega⟩
      · have := l2.mp (by omega) i
        rw [fn_take, if_pos hi] at this
        exact this
  have ld2 : (leadN ((restL y Q).take w) : Int) < (w : Int) := by omega
  refine ⟨[O.lst (wd (fw (joinL (Rws W) m)))] ++ t, ?_⟩
  rw [callI_of e0 rfl]
  unfold f_multipliers
  simp -implicitDefEqProofs only [evE, evEs, evOE, evT, evL, evI, evS, evSs, bind_ok, bind_ex, cal_fn, start0, List.map_cons, List.map_nil, List.length_cons, List.length_nil, List.cons_append, List.nil_append, Nat.reduceAdd, Nat.reduceSub, List.replicate_succ, List.replicate_zero, List.getElem?_cons_zero, List.getElem?_cons_succ, List.set_cons_zero, List.set_cons_succ, setF, Nat.reduceLT, if_true, nxR, thenR, retR, iteK_t, iteK_f, afterB, wipeF, tgo, tgt, bindK_some, and_self, outR_rt, outR_nx, outR_ex, Bool.not_true, Bool.not_false, Bool.false_eq_true, if_false, gOk_nil, andK_t, andK_f, notR_b, truR_b, isT_int, isT_bool, isT_tup, cmp_eq, cmp_ne, cmp_lt, cmp_le, cmp_gt, cmp_ge, add_ok, sub_ok, neg_ok, someR, lit0, lit1, lit2, newR, decide_true, decide_false, ckRows_ok S _ hw0 hw hl hr, ckRow_ok S _ hx (show w ≤ 100 by omega), len_tup, itEnum_tup]
  rw [loopR_pure (J := ⟨(wd W).zipIdx.map fun p => .tup false [.int p.2, p.1], []⟩) (by simp; unfold LIM; omega) rfl (fun d => match d with | .tup _ [.int k, .tup _ xs] => some (TI false ((match ints? xs with | some l => l | none => []) ++ unitL k.toNat m)) | _ => none)]
  · have e1 : (((wd W).zipIdx.map fun p => D.tup false [.int p.2, p.1]).filterMap (fun d => match d with | .tup _ [.int k, .tup _ xs] => some (TI false ((match ints? xs with | some l => l | none => []) ++ unitL k.toNat m)) | _ => none)) = wd (fw (joinL (Rws W) m)) := by
      simp only [wd, Rws, fw, joinL, List.zipIdx_map, List.map_map, List.filterMap_map, Function.comp_def, Prod.map, id_eq]
      have : ∀ q : (Bool × List Int) × Nat, (match D.tup false [.int (q.2 : Int), TI q.1.1 q.1.2] with | .tup _ [.int k, .tup _ xs] => some (TI false ((match ints? xs with | some l => l | none => []) ++ unitL k.toNat m)) | _ => none) = some (TI false (q.1.2 ++ unitL q.2 m)) := fun q => by
        show some (TI false ((match ints? (ri q.1.2) with | some l => l | none => []) ++ unitL ((q.2 : Nat) : Int).toNat m)) = _
        rw [ints_ri]
        simp
      simp only [this, fmap_some]
    have e2 : ((wd W).length : Int) = (m : Int) := by simp [hm]
    simp -implicitDefEqProofs only [evE, evEs, evOE, evT, evL, evI, evS, evSs, bind_ok, bind_ex, cal_fn, start0, List.map_cons, List.map_nil, List.length_cons, List.length_nil, List.cons_append, List.nil_append, Nat.reduceAdd, Nat.reduceSub, List.replicate_succ, List.replicate_zero, List.getElem?_cons_zero, List.getElem?_cons_succ, List.set_cons_zero, List.set_cons_succ, setF, Nat.reduceLT, if_true, nxR, thenR, retR, iteK_t, iteK_f, afterB, wipeF, tgo, tgt, bindK_some, and_self, outR_rt, outR_nx, outR_ex, Bool.not_true, Bool.not_false, Bool.false_eq_true, if_false, gOk_nil, andK_t, andK_f, notR_b, truR_b, isT_int, isT_bool, isT_tup, cmp_eq, cmp_ne, cmp_lt, cmp_le, cmp_gt, cmp_ge, add_ok, sub_ok, neg_ok, someR, lit0, lit1, lit2, newR, decide_true, decide_false, e1, e2, eQ, cal_con S.cSIZE, scaled_ok S _ c x 65535 (by decide) (show x.length < LIM by rw [hx.1]; unfold LIM; omega), show (65536 : Int) - 1 = 65535 by decide, tupR_one, rep_zero true m (by omega) (by omega), cat_TI false false (scl 65535 x) (List.replicate m 0) (by rw [sl, List.length_replicate]; unfold LIM; omega), ← hy, rs, part_int, sl_lo false (restL y Q) w (by omega), lead_ok S, ld2]
    simp
  · intro d hd
    obtain ⟨p, hp, rfl⟩ := List.mem_map.mp hd
    obtain ⟨e, k⟩ := p
    have := List.mem_zipIdx_iff_getElem?.mp hp
    simp only [wd, List.getElem?_map] at this
    cases hq : W[k]? with
    | none => rw [hq] at this; cases this
    | some q =>
      rw [hq] at this
      obtain rfl : TI q.1 q.2 = e := Option.some.inj this
      have rq := hr q (List.mem_of_getElem? hq)
      have e2 : ((wd W).length : Int) = (m : Int) := by simp [hm]
      simp -implicitDefEqProofs only [evE, evEs, evOE, evT, evL, evI, evS, evSs, bind_ok, bind_ex, cal_fn, start0, List.map_cons, List.map_nil, List.length_cons, List.length_nil, List.cons_append, List.nil_append, Nat.reduceAdd, Nat.reduceSub, List.replicate_succ, List.replicate_zero, List.getElem?_cons_zero, List.getElem?_cons_succ, List.set_cons_zero, List.set_cons_succ, setF, Nat.reduceLT, if_true, nxR, thenR, retR, iteK_t, iteK_f, afterB, wipeF, tgo, tgt, bindK_some, and_self, outR_rt, outR_nx, outR_ex, Bool.not_true, Bool.not_false, Bool.false_eq_true, if_false, gOk_nil, andK_t, andK_f, notR_b, truR_b, isT_int, isT_bool, isT_tup, cmp_eq, cmp_ne, cmp_lt, cmp_le, cmp_gt, cmp_ge, add_ok, sub_ok, neg_ok, someR, lit0, lit1, lit2, newR, decide_true, decide_false, e2, unit_ok S _ k m (by omega), cat_TI q.1 false q.2 (unitL k m) (by rw [rq.1]; simp [unitL]; unfold LIM; omega)]
      have e3 : ints? (ri q.2) = some q.2 := ints_ri _
      simp only [TI, e3, Int.toNat_natCast]

end Spans
end WP
namespace WP
open PySem PI
namespace Rl
structure RIx where
  roll : Nat
  drawn : Nat
  lword : Nat
  lrow : Nat
  lrows : Nat
  lsum : Nat
  llead : Nat
  lrest : Nat
  lisForm : Nat
def f_lword (s : RIx) : Fn := ⟨"_law_word", ["_law_dice"], ["_law_dice", "_law_pick"], (.cons (.set 1 (.call s.roll (.cons (.var 0) (.cons (.con (.int 12)) .nil)))) (.cons (.ifS (.of (.cmp .eq (.var 1) (.con (.int 11)))) (.cons (.ret (.call s.roll (.cons (.var 0) (.cons (.con (.int 65536)) .nil)))) .nil) .nil) (.cons (.ret (.lix (.lit (.cons (.con (.int 0)) (.cons (.con (.int 1)) (.cons (.con (.int 2)) (.cons (.con (.int 3)) (.cons (.con (.int 4)) (.cons (.con (.int 6)) (.cons (.con (.int 65535)) (.cons (.con (.int 32768)) (.cons (.con (.int 256)) (.cons (.con (.int 65534)) (.cons (.con (.int 5)) .nil)))))))))))) 1)) .nil)))⟩
def f_lrow (s : RIx) : Fn := ⟨"_law_row", ["_law_dice", "_law_width"], ["_law_dice", "_law_width", "_law_turn"], (.cons (.ret (.bl .tuple (.compU (.one 2) (.range1 (.var 1)) [2] (.call s.lword (.cons (.var 0) .nil))))) .nil)⟩
def f_lrows (s : RIx) : Fn := ⟨"_law_rows", ["_law_dice", "_law_width", "_law_most"], ["_law_dice", "_law_width", "_law_most", "_law_turn"], (.cons (.ret (.bl .tuple (.compU (.one 3) (.range1 (.call s.roll (.cons (.var 0) (.cons (.bin .add (.var 2) (.con (.int 1))) .nil)))) [3] (.call s.lrow (.cons (.var 0) (.cons (.var 1) .nil)))))) .nil)⟩
def f_lsum (s : RIx) : Fn := ⟨"_law_sum", ["_law_rows_here", "_law_factors", "_law_width"], ["_law_rows_here", "_law_factors", "_law_width", "_law_found", "_law_at", "_law_row_here", "_law_place", "_law_one"], (.cons (.set 3 (.bin .mul (.tup (.cons (.con (.int 0)) .nil)) (.var 2))) (.cons (.forS (.two 4 5) (.enum (.var 0)) (.cons (.set 3 (.bl .tuple (.compU (.two 6 7) (.enum (.var 3)) [6, 7] (.bin .mod (.bin .add (.var 7) (.bin .mul (.ix (.var 1) (.var 4)) (.ix (.var 5) (.var 6)))) (.con (.int 65536)))))) .nil)) (.cons (.ret (.var 3)) .nil)))⟩
def f_llead (s : RIx) : Fn := ⟨"_law_lead", ["_law_row_here"], ["_law_row_here", "_law_at", "_law_one"], (.cons (.forS (.two 1 2) (.enum (.var 0)) (.cons (.ifS (.of (.cmp .ne (.var 2) (.con (.int 0)))) (.cons (.ret (.var 1)) .nil) .nil) .nil)) (.cons (.ret (.bi .len (.cons (.var 0) .nil))) .nil))⟩
def f_lrest (s : RIx) : Fn := ⟨"_law_rest", ["_law_rows_here", "_law_row_here"], ["_law_rows_here", "_law_row_here", "_law_one", "_law_at", "_law_times_taken", "_law_place", "_law_number"], (.cons (.forS (.one 2) (.of (.var 0)) (.cons (.set 3 (.call s.llead (.cons (.var 2) .nil))) (.cons (.ifS (.and (.of (.cmp .lt (.var 3) (.bi .len (.cons (.var 1) .nil)))) (.of (.cmp .eq (.bin .mod (.ix (.var 1) (.var 3)) (.ix (.var 2) (.var 3))) (.con (.int 0))))) (.cons (.set 4 (.bin .div (.ix (.var 1) (.var 3)) (.ix (.var 2) (.var 3)))) (.cons (.set 1 (.bl .tuple (.compU (.two 5 6) (.enum (.var 1)) [5, 6] (.bin .mod (.bin .sub (.var 6) (.bin .mul (.var 4) (.ix (.var 2) (.var 5)))) (.con (.int 65536)))))) .nil)) .nil) .nil))) (.cons (.ret (.var 1)) .nil))⟩
def f_lisForm (s : RIx) : Fn := ⟨"_law_is_form", ["_law_rows_here"], ["_law_rows_here", "_law_leads", "_law_powers", "_law_at", "_law_row_here", "_law_later", "_law_high", "_law_one"], (.cons (.set 1 (.newL (.compU (.one 4) (.of (.var 0)) [4] (.call s.llead (.cons (.var 4) .nil))))) (.cons (.ifS (.or (.of (.cmp .ne (.sortSet (.var 1)) (.var 1))) (.and (.of (.cmp .ne (.var 0) (.tup .nil))) (.of (.cmp .ge (.ix (.var 1) (.neg (.con (.int 1)))) (.bi .len (.cons (.ix (.var 0) (.con (.int 0))) .nil)))))) (.cons (.ret (.con (.bl false))) .nil) .nil) (.cons (.set 2 (.newL (.compU (.two 3 4) (.enum (.var 0)) [3, 4] (.bin .div (.con (.int 65536)) (.ix (.var 4) (.ix (.var 1) (.var 3))))))) (.cons (.ifS (.not (.of (.bl .all (.compU (.two 3 4) (.enum (.var 0)) [3, 4] (.cmp .eq (.bin .mod (.con (.int 65536)) (.ix (.var 4) (.ix (.var 1) (.var 3)))) (.con (.int 0))))))) (.cons (.ret (.con (.bl false))) .nil) .nil) (.cons (.forS (.two 3 4) (.enum (.var 0)) (.cons (.forS (.one 5) (.range2 (.bin .add (.var 3) (.con (.int 1))) (.bi .len (.cons (.var 0) .nil))) (.cons (.ifS (.of (.cmp .ge (.ix (.var 4) (.ix (.var 1) (.var 5))) (.ix (.ix (.var 0) (.var 5)) (.ix (.var 1) (.var 5))))) (.cons (.ret (.con (.bl false))) .nil) .nil) .nil)) (.cons (.set 6 (.bl .tuple (.compU (.one 7) (.of (.var 4)) [7] (.bin .mod (.bin .mul (.var 7) (.ix (.var 2) (.var 3))) (.con (.int 65536)))))) (.cons (.ifS (.of (.cmp .lt (.call s.llead (.cons (.call s.lrest (.cons (.sl (.var 0) (.some (.bin .add (.var 3) (.con (.int 1)))) .none) (.cons (.var 6) .nil))) .nil)) (.bi .len (.cons (.var 6) .nil)))) (.cons (.ret (.con (.bl false))) .nil) .nil) .nil)))) (.cons (.ret (.con (.bl true))) .nil))))))⟩
structure RAt (pg : Pg) (s : RIx) : Prop where
  roll : pg.fns[s.roll]? = some (fRoll s.drawn)
  drawn : pg.fns[s.drawn]? = some fDrawn
  lword : pg.fns[s.lword]? = some (f_lword s)
  lrow : pg.fns[s.lrow]? = some (f_lrow s)
  lrows : pg.fns[s.lrows]? = some (f_lrows s)
  llead : pg.fns[s.llead]? = some (f_llead s)
  lrest : pg.fns[s.lrest]? = some (f_lrest s)

variable {pg : Pg} {s : RIx}
theorem roll_at (S : RAt pg s) (n : Nat) {h : Hs} {k : Nat} {a b : Int} (hk : h[k]? = some (.lst [.int a, .int b])) {m : Int} (hm : 0 < m) (hm2 : m < 2 ^ 64) :
    ∃ r a' b', 0 ≤ r ∧ r < m ∧ callI pg (n + 2) s.roll [.ref k, .int m] h = .ok (.int r) (dset h k a' b') := by
  obtain ⟨r, a', b', h1, h2, e⟩ := roll_ok (n := n) S.drawn S.roll a b m h k hk hm (log2_small hm hm2)
  exact ⟨r, a', b', h1, h2, e⟩
theorem word_ok (S : RAt pg s) (n : Nat) {h : Hs} {k : Nat} {a b : Int} (hk : h[k]? = some (.lst [.int a, .int b])) :
    ∃ r a' b', 0 ≤ r ∧ r < 65536 ∧ callI pg (n + 3) s.lword [.ref k] h = .ok (.int r) (dset h k a' b') := by
  have kl : k < h.length := (List.getElem?_eq_some_iff.mp hk).1
  obtain ⟨r, a1, b1, h1, h2, e1⟩ := roll_at S n hk (m := 12) (by decide) (by decide)
  by_cases c : r = 11
  · obtain ⟨q, a2, b2, h3, h4, e2⟩ := roll_at S n (dset_at (h := h) (a := a1) (b := b1) kl) (m := 65536) (by decide) (by decide)
    refine ⟨q, a2, b2, h3, h4, ?_⟩
    rw [callI_of S.lword rfl]
    unfold f_lword
    simp -implicitDefEqProofs only [evE, evEs, evOE, evT, evL, evI, evS, evSs, bind_ok, bind_ex, cal_fn, start0, List.map_cons, List.map_nil, List.length_cons, List.length_nil, List.cons_append, List.nil_append, Nat.reduceAdd, Nat.reduceSub, List.replicate_succ, List.replicate_zero, List.getElem?_cons_zero, List.getElem?_cons_succ, List.set_cons_zero, List.set_cons_succ, setF, Nat.reduceLT, if_true, nxR, thenR, retR, iteK_t, iteK_f, afterB, wipeF, tgo, tgt, bindK_some, and_self, outR_rt, outR_nx, outR_ex, Bool.not_true, Bool.not_false, Bool.false_eq_true, if_false, gOk_nil, andK_t, andK_f, notR_b, truR_b, isT_int, isT_bool, isT_tup, cmp_eq, cmp_ne, cmp_lt, cmp_le, cmp_gt, cmp_ge, add_ok, sub_ok, neg_ok, someR, lit0, lit1, lit2, newR, decide_true, decide_false, e1, c, e2, dset_dset]
  · obtain ⟨j, rfl⟩ : ∃ j : Nat, r = (j : Int) := ⟨r.toNat, by omega⟩
    have hj : j < 11 := by omega
    have ha : L2.atI [D.int 0, .int 1, .int 2, .int 3, .int 4, .int 6, .int 65535, .int 32768, .int 256, .int 65534, .int 5] (j : Int) = some (.int ([0, 1, 2, 3, 4, 6, 65535, 32768, 256, 65534, 5].getD j 0)) := by
      have : j = 0 ∨ j = 1 ∨ j = 2 ∨ j = 3 ∨ j = 4 ∨ j = 5 ∨ j = 6 ∨ j = 7 ∨ j = 8 ∨ j = 9 ∨ j = 10 := by omega
      rcases this with rfl | rfl | rfl | rfl | rfl | rfl | rfl | rfl | rfl | rfl | rfl <;> rfl
    have hb : 0 ≤ ([0, 1, 2, 3, 4, 6, 65535, 32768, 256, 65534, 5] : List Int).getD j 0 ∧ ([0, 1, 2, 3, 4, 6, 65535, 32768, 256, 65534, 5] : List Int).getD j 0 < 65536 := by
      have : j = 0 ∨ j = 1 ∨ j = 2 ∨ j = 3 ∨ j = 4 ∨ j = 5 ∨ j = 6 ∨ j = 7 ∨ j = 8 ∨ j = 9 ∨ j = 10 := by omega
      rcases this with rfl | rfl | rfl | rfl | rfl | rfl | rfl | rfl | rfl | rfl | rfl <;> decide
    refine ⟨_, a1, b1, hb.1, hb.2, ?_⟩
    rw [callI_of S.lword rfl]
    unfold f_lword
    simp -implicitDefEqProofs only [evE, evEs, evOE, evT, evL, evI, evS, evSs, bind_ok, bind_ex, cal_fn, start0, List.map_cons, List.map_nil, List.length_cons, List.length_nil, List.cons_append, List.nil_append, Nat.reduceAdd, Nat.reduceSub, List.replicate_succ, List.replicate_zero, List.getElem?_cons_zero, List.getElem?_cons_succ, List.set_cons_zero, List.set_cons_succ, setF, Nat.reduceLT, if_true, nxR, thenR, retR, iteK_t, iteK_f, afterB, wipeF, tgo, tgt, bindK_some, and_self, outR_rt, outR_nx, outR_ex, Bool.not_true, Bool.not_false, Bool.false_eq_true, if_false, gOk_nil, andK_t, andK_f, notR_b, truR_b, isT_int, isT_bool, isT_tup, cmp_eq, cmp_ne, cmp_lt, cmp_le, cmp_gt, cmp_ge, add_ok, sub_ok, neg_ok, someR, lit0, lit1, lit2, newR, decide_true, decide_false, e1, c, lixR, ixQ, litR]
    rw [if_pos (by decide)]
    simp -implicitDefEqProofs only [evE, evEs, evOE, evT, evL, evI, evS, evSs, bind_ok, bind_ex, cal_fn, start0, List.map_cons, List.map_nil, List.length_cons, List.length_nil, List.cons_append, List.nil_append, Nat.reduceAdd, Nat.reduceSub, List.replicate_succ, List.replicate_zero, List.getElem?_cons_zero, List.getElem?_cons_succ, List.set_cons_zero, List.set_cons_succ, setF, Nat.reduceLT, if_true, nxR, thenR, retR, iteK_t, iteK_f, afterB, wipeF, tgo, tgt, bindK_some, and_self, outR_rt, outR_nx, outR_ex, Bool.not_true, Bool.not_false, Bool.false_eq_true, if_false, gOk_nil, andK_t, andK_f, notR_b, truR_b, isT_int, isT_bool, isT_tup, cmp_eq, cmp_ne, cmp_lt, cmp_le, cmp_gt, cmp_ge, add_ok, sub_ok, neg_ok, someR, lit0, lit1, lit2, newR, decide_true, decide_false, lixR, ixQ, ha]
theorem row_draw (S : RAt pg s) (n : Nat) {h : Hs} {k : Nat} (kl : k < h.length) (a b : Int) {w : Nat} (hw : w ≤ 1000) :
    ∃ xs a' b', Row w xs ∧ callI pg (n + 4) s.lrow [.ref k, .int w] (dset h k a b) = .ok (TI false xs) (dset h k a' b') := by
  have key : ∃ ds h', callI pg (n + 4) s.lrow [.ref k, .int w] (dset h k a b) = .ok (.tup false ds) h' ∧ (∃ a b, h' = dset h k a b) ∧ ds.length = w ∧ ∀ d ∈ ds, ∃ r, d = .int r ∧ 0 ≤ r ∧ r < 65536 := by
    rw [callI_of S.lrow rfl]
    unfold f_lrow
    simp -implicitDefEqProofs only [evE, evEs, evOE, evT, evL, evI, evS, evSs, bind_ok, bind_ex, cal_fn, start0, List.map_cons, List.map_nil, List.length_cons, List.length_nil, List.cons_append, List.nil_append, Nat.reduceAdd, Nat.reduceSub, List.replicate_succ, List.replicate_zero, List.getElem?_cons_zero, List.getElem?_cons_succ, List.set_cons_zero, List.set_cons_succ, setF, Nat.reduceLT, if_true, nxR, thenR, retR, iteK_t, iteK_f, afterB, wipeF, tgo, tgt, bindK_some, and_self, outR_rt, outR_nx, outR_ex, Bool.not_true, Bool.not_false, Bool.false_eq_true, if_false, gOk_nil, andK_t, andK_f, notR_b, truR_b, isT_int, isT_bool, isT_tup, cmp_eq, cmp_ne, cmp_lt, cmp_le, cmp_gt, cmp_ge, add_ok, sub_ok, neg_ok, someR, lit0, lit1, lit2, newR, decide_true, decide_false, rng1_nat (w := w) (dset h k a b) (by omega)]
    generalize e : loopR _ _ _ = r
    have key : ∃ ds h', r = .ok ds h' ∧ (∃ a b, h' = dset h k a b) ∧ ds.length = ((List.range w).map fun (i : Nat) => D.int (i : Int)).length ∧ ∀ d ∈ ds, ∃ r, d = .int r ∧ 0 ≤ r ∧ r < 65536 := by
      rw [← e]
      refine loopR_go (by rw [List.length_map, List.length_range]; unfold LIM; omega) (fun h' => ∃ a b, h' = dset h k a b) (fun d => ∃ r, d = .int r ∧ 0 ≤ r ∧ r < 65536) ?_ _ ⟨a, b, rfl⟩
      rintro x _ h' ⟨a, b, rfl⟩
      obtain ⟨r, a', b', h1, h2, e⟩ := word_ok S n (dset_at (h := h) (a := a) (b := b) kl)
      rw [dset_dset] at e
      refine ⟨.int r, dset h k a' b', ?_, ⟨a', b', rfl⟩, r, rfl, h1, h2⟩
      simp -implicitDefEqProofs only [evE, evEs, evOE, evT, evL, evI, evS, evSs, bind_ok, bind_ex, cal_fn, start0, List.map_cons, List.map_nil, List.length_cons, List.length_nil, List.cons_append, List.nil_append, Nat.reduceAdd, Nat.reduceSub, List.replicate_succ, List.replicate_zero, List.getElem?_cons_zero, List.getElem?_cons_succ, List.set_cons_zero, List.set_cons_succ, setF, Nat.reduceLT, if_true, nxR, thenR, retR, iteK_t, iteK_f, afterB, wipeF, tgo, tgt, bindK_some, and_self, outR_rt, outR_nx, outR_ex, Bool.not_true, Bool.not_false, Bool.false_eq_true, if_false, gOk_nil, andK_t, andK_f, notR_b, truR_b, isT_int, isT_bool, isT_tup, cmp_eq, cmp_ne, cmp_lt, cmp_le, cmp_gt, cmp_ge, add_ok, sub_ok, neg_ok, someR, lit0, lit1, lit2, newR, decide_true, decide_false, e]
    obtain ⟨ds, h', rfl, hp, hl, hq⟩ := key
    exact ⟨ds, h', by simp -implicitDefEqProofs only [evE, evEs, evOE, evT, evL, evI, evS, evSs, bind_ok, bind_ex, cal_fn, start0, List.map_cons, List.map_nil, List.length_cons, List.length_nil, List.cons_append, List.nil_append, Nat.reduceAdd, Nat.reduceSub, List.replicate_succ, List.replicate_zero, List.getElem?_cons_zero, List.getElem?_cons_succ, List.set_cons_zero, List.set_cons_succ, setF, Nat.reduceLT, if_true, nxR, thenR, retR, iteK_t, iteK_f, afterB, wipeF, tgo, tgt, bindK_some, and_self, outR_rt, outR_nx, outR_ex, Bool.not_true, Bool.not_false, Bool.false_eq_true, if_false, gOk_nil, andK_t, andK_f, notR_b, truR_b, isT_int, isT_bool, isT_tup, cmp_eq, cmp_ne, cmp_lt, cmp_le, cmp_gt, cmp_ge, add_ok, sub_ok, neg_ok, someR, lit0, lit1, lit2, newR, decide_true, decide_false, blD_tuple], hp, by simpa using hl, hq⟩
  obtain ⟨ds, h', e, ⟨a', b', rfl⟩, hl, hq⟩ := key
  obtain ⟨xs, rfl, hx⟩ : ∃ xs : List Int, ds = ri xs ∧ ∀ x ∈ xs, 0 ≤ x ∧ x < 65536 := by
    clear e hl
    induction ds with
    | nil => exact ⟨[], rfl, fun x hx => by cases hx⟩
    | cons d r ih =>
      obtain ⟨xs, h1, h2⟩ := ih fun y hy => hq y (List.mem_cons_of_mem _ hy)
      obtain ⟨z, rfl, h3⟩ := hq d List.mem_cons_self
      exact ⟨z :: xs, by rw [h1]; rfl, fun x hx => by
        rcases List.mem_cons.mp hx with rfl | hx
        · exact h3
        · exact h2 x hx⟩
  exact ⟨xs, a', b', ⟨by simpa [ri_len] using hl, hx⟩, e⟩
theorem rows_draw (S : RAt pg s) (n : Nat) {h : Hs} {k : Nat} (kl : k < h.length) (a b : Int) {w m : Nat} (hw : w ≤ 1000) (hm : m ≤ 1000) :
    ∃ W a' b', (∀ p ∈ W, Row w p.2) ∧ W.length ≤ m ∧ callI pg (n + 5) s.lrows [.ref k, .int w, .int m] (dset h k a b) = .ok (.tup false (wd W)) (dset h k a' b') := by
  have key : ∃ ds h', callI pg (n + 5) s.lrows [.ref k, .int w, .int m] (dset h k a b) = .ok (.tup false ds) h' ∧ (∃ a b, h' = dset h k a b) ∧ ds.length ≤ m ∧ ∀ d ∈ ds, ∃ xs, d = TI false xs ∧ Row w xs := by
    obtain ⟨r, a1, b1, h1, h2, e1⟩ := roll_at S (n + 2) (dset_at (h := h) (a := a) (b := b) kl) (m := (m : Int) + 1) (by omega) (by omega)
    rw [dset_dset] at e1
    obtain ⟨j, rfl⟩ : ∃ j : Nat, r = (j : Int) := ⟨r.toNat, by omega⟩
    rw [callI_of S.lrows rfl]
    unfold f_lrows
    simp -implicitDefEqProofs only [evE, evEs, evOE, evT, evL, evI, evS, evSs, bind_ok, bind_ex, cal_fn, start0, List.map_cons, List.map_nil, List.length_cons, List.length_nil, List.cons_append, List.nil_append, Nat.reduceAdd, Nat.reduceSub, List.replicate_succ, List.replicate_zero, List.getElem?_cons_zero, List.getElem?_cons_succ, List.set_cons_zero, List.set_cons_succ, setF, Nat.reduceLT, if_true, nxR, thenR, retR, iteK_t, iteK_f, afterB, wipeF, tgo, tgt, bindK_some, and_self, outR_rt, outR_nx, outR_ex, Bool.not_true, Bool.not_false, Bool.false_eq_true, if_false, gOk_nil, andK_t, andK_f, notR_b, truR_b, isT_int, isT_bool, isT_tup, cmp_eq, cmp_ne, cmp_lt, cmp_le, cmp_gt, cmp_ge, add_ok, sub_ok, neg_ok, someR, lit0, lit1, lit2, newR, decide_true, decide_false, e1, rng1_nat (w := j) (dset h k a1 b1) (by omega)]
    generalize e : loopR _ _ _ = r
    have key : ∃ ds h', r = .ok ds h' ∧ (∃ a b, h' = dset h k a b) ∧ ds.length = ((List.range j).map fun (i : Nat) => D.int (i : Int)).length ∧ ∀ d ∈ ds, ∃ xs, d = TI false xs ∧ Row w xs := by
      rw [← e]
      refine loopR_go (by rw [List.length_map, List.length_range]; unfold LIM; omega) (fun h' => ∃ a b, h' = dset h k a b) (fun d => ∃ xs, d = TI false xs ∧ Row w xs) ?_ _ ⟨a1, b1, rfl⟩
      rintro x _ h' ⟨a, b, rfl⟩
      obtain ⟨xs, a', b', h1, e⟩ := row_draw S n kl a b hw
      refine ⟨TI false xs, dset h k a' b', ?_, ⟨a', b', rfl⟩, xs, rfl, h1⟩
      simp -implicitDefEqProofs only [evE, evEs, evOE, evT, evL, evI, evS, evSs, bind_ok, bind_ex, cal_fn, start0, List.map_cons, List.map_nil, List.length_cons, List.length_nil, List.cons_append, List.nil_append, Nat.reduceAdd, Nat.reduceSub, List.replicate_succ, List.replicate_zero, List.getElem?_cons_zero, List.getElem?_cons_succ, List.set_cons_zero, List.set_cons_succ, setF, Nat.reduceLT, if_true, nxR, thenR, retR, iteK_t, iteK_f, afterB, wipeF, tgo, tgt, bindK_some, and_self, outR_rt, outR_nx, outR_ex, Bool.not_true, Bool.not_false, Bool.false_eq_true, if_false, gOk_nil, andK_t, andK_f, notR_b, truR_b, isT_int, isT_bool, isT_tup, cmp_eq, cmp_ne, cmp_lt, cmp_le, cmp_gt, cmp_ge, add_ok, sub_ok, neg_ok, someR, lit0, lit1, lit2, newR, decide_true, decide_false, e]
    obtain ⟨ds, h', rfl, hp, hl, hq⟩ := key
    exact ⟨ds, h', by simp -implicitDefEqProofs only [evE, evEs, evOE, evT, evL, evI, evS, evSs, bind_ok, bind_ex, cal_fn, start0, List.map_cons, List.map_nil, List.length_cons, List.length_nil, List.cons_append, List.nil_append, Nat.reduceAdd, Nat.reduceSub, List.replicate_succ, List.replicate_zero, List.getElem?_cons_zero, List.getElem?_cons_succ, List.set_cons_zero, List.set_cons_succ, setF, Nat.reduceLT, if_true, nxR, thenR, retR, iteK_t, iteK_f, afterB, wipeF, tgo, tgt, bindK_some, and_self, outR_rt, outR_nx, outR_ex, Bool.not_true, Bool.not_false, Bool.false_eq_true, if_false, gOk_nil, andK_t, andK_f, notR_b, truR_b, isT_int, isT_bool, isT_tup, cmp_eq, cmp_ne, cmp_lt, cmp_le, cmp_gt, cmp_ge, add_ok, sub_ok, neg_ok, someR, lit0, lit1, lit2, newR, decide_true, decide_false, blD_tuple], hp, by rw [hl]; simp; omega, hq⟩
  obtain ⟨ds, h', e, ⟨a', b', rfl⟩, hl, hq⟩ := key
  obtain ⟨W, rfl, hx⟩ : ∃ W, ds = wd W ∧ ∀ p ∈ W, Row w p.2 := by
    clear e hl
    induction ds with
    | nil => exact ⟨[], rfl, fun x hx => by cases hx⟩
    | cons d r ih =>
      obtain ⟨W, h1, h2⟩ := ih fun y hy => hq y (List.mem_cons_of_mem _ hy)
      obtain ⟨z, rfl, h3⟩ := hq d List.mem_cons_self
      exact ⟨(false, z) :: W, by rw [h1]; rfl, fun x hx => by
        rcases List.mem_cons.mp hx with rfl | hx
        · exact h3
        · exact h2 x hx⟩
  exact ⟨W, a', b', hx, by simpa using hl, e⟩
/-! sums of rows -/
theorem comb_app (R : List (List Int)) (r : List Int) (c : Nat → Int) (i : Nat) : comb (R ++ [r]) c i = comb R c i + c R.length * fn r i := by
  induction R generalizing c with
  | nil => simp [comb]
  | cons x R ih =>
    simp only [List.cons_append, comb, List.length_cons]
    rw [ih]
    omega
theorem zip_ri (zs : List Int) (k : Nat) (g : Int → Nat → Int) (F : D → Option D) (hF : ∀ (x : Int) (p : Nat), F (.tup false [.int p, .int x]) = some (.int (g x p))) : (((ri zs).zipIdx k).map fun p => D.tup false [.int p.2, p.1]).filterMap F = ri ((zs.zipIdx k).map fun p => g p.1 p.2) := by
  induction zs generalizing k with
  | nil => rfl
  | cons x r ih =>
    have := ih (k + 1)
    simp only [ri, List.map_cons, List.zipIdx_cons, List.filterMap_cons, hF] at this ⊢
    rw [this]
theorem zip_mem {zs : List Int} {d : D} (h : d ∈ ((ri zs).zipIdx.map fun p => D.tup false [.int p.2, p.1])) : ∃ (x : Int) (p : Nat), p < zs.length ∧ fn zs p = x ∧ d = .tup false [.int p, .int x] := by
  obtain ⟨q, hq, rfl⟩ := List.mem_map.mp h
  obtain ⟨e, k⟩ := q
  have := List.mem_zipIdx_iff_getElem?.mp hq
  simp only [ri, List.getElem?_map] at this
  cases hz : zs[k]? with
  | none => rw [hz] at this; cases this
  | some x =>
    rw [hz] at this
    obtain rfl : D.int x = e := Option.some.inj this
    obtain ⟨h1, h2⟩ := List.getElem?_eq_some_iff.mp hz
    exact ⟨x, k, h1, by rw [fn_at h1]; exact h2, rfl⟩
theorem lsum_step {w : Nat} {xs ys : List Int} {c : Int} (hx : Row w xs) (hy : Row w ys) : ∃ zs, ((xs.zipIdx.map fun p => (p.1 + c * fn ys p.2) % 65536) = zs) ∧ Row w zs ∧ ∀ i, (65536 : Int) ∣ fn zs i - (fn xs i + c * fn ys i) := by
  refine ⟨_, rfl, ?_⟩
  have e : ∀ i, fn (xs.zipIdx.map fun p => (p.1 + c * fn ys p.2) % 65536) i = if i < w then (fn xs i + c * fn ys i) % 65536 else 0 := fun i => by
    rcases Nat.lt_or_ge i w with ci | ci
    · rw [if_pos ci, fn_at (by simp; rw [hx.1]; exact ci), fn_at (by rw [hx.1]; exact ci)]
      simp
    · rw [if_neg (by omega), fn_out (by simp; rw [hx.1]; exact ci)]
  refine ⟨row_of (by simp [hx.1]) fun i hi => ?_, fun i => ?_⟩
  · rw [e, if_pos hi]
    exact ⟨Int.emod_nonneg _ (by decide), Int.emod_lt_of_pos _ (by decide)⟩
  · rw [e]
    split
    · exact dvd_mod _
    · next ci =>
      rw [fn_out (by rw [hx.1]; omega), fn_out (by rw [hy.1]; omega)]
      exact ⟨0, by simp⟩
theorem lsum_ok (e0 : pg.fns[s.lsum]? = some (f_lsum s)) (n : Nat) {w : Nat} (hw : 1 ≤ w) (hw2 : w ≤ 1000) {W : List (Bool × List Int)} (hr : ∀ p ∈ W, Row w p.2) (c : Nat → Int) (hc : ∀ j, j < W.length → 0 ≤ c j ∧ c j < 65536) (rd fd : D) (h : Hs) (gs : List (Nat × List D))
    (hit : itEnum rd h = .ok ⟨(wd W).zipIdx.map fun p => .tup false [.int p.2, p.1], gs⟩ h) (hg : gOk gs h = true) (hf : ∀ j : Nat, j < W.length → ixD fd (.int j) h = .ok (.int (c j)) h) :
    ∃ zs, callI pg (n + 1) s.lsum [rd, fd, .int w] h = .ok (TI false zs) h ∧ Row w zs ∧ ∀ i, (65536 : Int) ∣ fn zs i - comb (Rws W) c i := by
  rw [callI_of e0 rfl]
  unfold f_lsum
  simp -implicitDefEqProofs only [evE, evEs, evOE, evT, evL, evI, evS, evSs, bind_ok, bind_ex, cal_fn, start0, List.map_cons, List.map_nil, List.length_cons, List.length_nil, List.cons_append, List.nil_append, Nat.reduceAdd, Nat.reduceSub, List.replicate_succ, List.replicate_zero, List.getElem?_cons_zero, List.getElem?_cons_succ, List.set_cons_zero, List.set_cons_succ, setF, Nat.reduceLT, if_true, nxR, thenR, retR, iteK_t, iteK_f, afterB, wipeF, tgo, tgt, bindK_some, and_self, outR_rt, outR_nx, outR_ex, Bool.not_true, Bool.not_false, Bool.false_eq_true, if_false, gOk_nil, andK_t, andK_f, notR_b, truR_b, isT_int, isT_bool, isT_tup, cmp_eq, cmp_ne, cmp_lt, cmp_le, cmp_gt, cmp_ge, add_ok, sub_ok, neg_ok, someR, lit0, lit1, lit2, newR, decide_true, decide_false, Spans.tupR_one, Spans.rep_zero true w (Nat.zero_le w) hw2, hit]
  generalize e : forLoop _ _ _ _ _ = r
  have key : ∃ zs x y u v, r = .ok (.nx [some rd, some fd, some (.int w), some (TI false zs), x, y, u, v]) h ∧ Row w zs ∧ ∀ i, (65536 : Int) ∣ fn zs i - comb (Rws W) c i := by
    rw [← e]
    clear e
    refine forLoop_go (fun done rest δ H => H = h ∧ ∃ W1 W2 zs x y u v, W = W1 ++ W2 ∧ rest = ((wd W2).zipIdx W1.length).map (fun p => .tup false [.int p.2, p.1]) ∧ δ = [some rd, some fd, some (.int w), some (TI false zs), x, y, u, v] ∧ Row w zs ∧ ∀ i, (65536 : Int) ∣ fn zs i - comb (Rws W1) c i)
      (Q := fun r => ∃ zs x y u v, r = .ok (.nx [some rd, some fd, some (.int w), some (TI false zs), x, y, u, v]) h ∧ Row w zs ∧ ∀ i, (65536 : Int) ∣ fn zs i - comb (Rws W) c i) ?_ ?_ ?_ _ [] _ _ ?_
    · rintro done rest δ H ⟨rfl, _⟩
      exact hg
    · rintro done y rest δ H ⟨rfl, W1, W2, zs, x, y0, u, v, e1, e2, rfl, rz, hz⟩
      obtain ⟨q, W3, rfl⟩ : ∃ p W2', W2 = p :: W2' := by
        cases W2 with
        | nil => cases e2
        | cons p r => exact ⟨p, r, rfl⟩
      obtain ⟨bq, ys⟩ := q
      simp only [wd, List.map_cons, List.zipIdx_cons, List.cons.injEq] at e2
      obtain ⟨rfl, rfl⟩ := e2
      have ry : Row w ys := hr (bq, ys) (by rw [e1]; simp)
      have jl : W1.length < W.length := by rw [e1]; simp
      obtain ⟨cj, hcj⟩ : ∃ cj, cj = c W1.length := ⟨_, rfl⟩
      have cb := hc W1.length jl
      obtain ⟨ws, e3, rw3, hw3⟩ := lsum_step (c := cj) rz ry
      refine .inl ⟨[some rd, some fd, some (.int w), some (TI false ws), some (.int W1.length), some (TI bq ys), u, v], H, .inl ?_, rfl, W1 ++ [(bq, ys)], W3, ws, _, _, _, _, by rw [e1]; simp, by simp, rfl, rw3, fun i => ?_⟩
      · simp -implicitDefEqProofs only [evE, evEs, evOE, evT, evL, evI, evS, evSs, bind_ok, bind_ex, cal_fn, start0, List.map_cons, List.map_nil, List.length_cons, List.length_nil, List.cons_append, List.nil_append, Nat.reduceAdd, Nat.reduceSub, List.replicate_succ, List.replicate_zero, List.getElem?_cons_zero, List.getElem?_cons_succ, List.set_cons_zero, List.set_cons_succ, setF, Nat.reduceLT, if_true, nxR, thenR, retR, iteK_t, iteK_f, afterB, wipeF, tgo, tgt, bindK_some, and_self, outR_rt, outR_nx, outR_ex, Bool.not_true, Bool.not_false, Bool.false_eq_true, if_false, gOk_nil, andK_t, andK_f, notR_b, truR_b, isT_int, isT_bool, isT_tup, cmp_eq, cmp_ne, cmp_lt, cmp_le, cmp_gt, cmp_ge, add_ok, sub_ok, neg_ok, someR, lit0, lit1, lit2, newR, decide_true, decide_false, TI, itEnum_tup]
        rw [loopR_pure (J := ⟨(ri zs).zipIdx.map fun p => .tup false [.int p.2, p.1], []⟩) (by simp [ri_len]; rw [rz.1]; unfold LIM; omega) rfl (fun d => match d with | .tup _ [.int p, .int x] => some (.int ((x + cj * fn ys p.toNat) % 65536)) | _ => none)]
        · rw [zip_ri zs 0 (fun x p => (x + cj * fn ys p) % 65536) _ (fun x p => by simp), e3]
          simp -implicitDefEqProofs only [evE, evEs, evOE, evT, evL, evI, evS, evSs, bind_ok, bind_ex, cal_fn, start0, List.map_cons, List.map_nil, List.length_cons, List.length_nil, List.cons_append, List.nil_append, Nat.reduceAdd, Nat.reduceSub, List.replicate_succ, List.replicate_zero, List.getElem?_cons_zero, List.getElem?_cons_succ, List.set_cons_zero, List.set_cons_succ, setF, Nat.reduceLT, if_true, nxR, thenR, retR, iteK_t, iteK_f, afterB, wipeF, tgo, tgt, bindK_some, and_self, outR_rt, outR_nx, outR_ex, Bool.not_true, Bool.not_false, Bool.false_eq_true, if_false, gOk_nil, andK_t, andK_f, notR_b, truR_b, isT_int, isT_bool, isT_tup, cmp_eq, cmp_ne, cmp_lt, cmp_le, cmp_gt, cmp_ge, add_ok, sub_ok, neg_ok, someR, lit0, lit1, lit2, newR, decide_true, decide_false, blD_tuple]
        · intro d hd
          obtain ⟨x1, p, hp, _, rfl⟩ := zip_mem hd
          have yb := ry.bd p
          have ix := ix_TI (b := bq) (xs := ys) (i := p) (h := H) (by rw [ry.1, ← rz.1]; exact hp)
          unfold TI at ix
          have hf' := hf W1.length jl
          rw [← hcj] at hf'
          simp -implicitDefEqProofs only [evE, evEs, evOE, evT, evL, evI, evS, evSs, bind_ok, bind_ex, cal_fn, start0, List.map_cons, List.map_nil, List.length_cons, List.length_nil, List.cons_append, List.nil_append, Nat.reduceAdd, Nat.reduceSub, List.replicate_succ, List.replicate_zero, List.getElem?_cons_zero, List.getElem?_cons_succ, List.set_cons_zero, List.set_cons_succ, setF, Nat.reduceLT, if_true, nxR, thenR, retR, iteK_t, iteK_f, afterB, wipeF, tgo, tgt, bindK_some, and_self, outR_rt, outR_nx, outR_ex, Bool.not_true, Bool.not_false, Bool.false_eq_true, if_false, gOk_nil, andK_t, andK_f, notR_b, truR_b, isT_int, isT_bool, isT_tup, cmp_eq, cmp_ne, cmp_lt, cmp_le, cmp_gt, cmp_ge, add_ok, sub_ok, neg_ok, someR, lit0, lit1, lit2, newR, decide_true, decide_false, hf', ix, mul_ok H (mulOk_r (i := cj) (j := fn ys p) (by omega) (by omega)), mod_pos _ H (show (0 : Int) < 65536 by decide), Int.toNat_natCast]
      · have e4 : Rws (W1 ++ [(bq, ys)]) = Rws W1 ++ [ys] := by simp [Rws]
        rw [e4, comb_app]
        obtain ⟨k1, h1⟩ := hw3 i
        obtain ⟨k2, h2⟩ := hz i
        have e5 : (Rws W1).length = W1.length := by simp [Rws]
        rw [e5, ← hcj]
        exact ⟨k1 + k2, by grind⟩
    · rintro done δ H ⟨rfl, W1, W2, zs, x, y0, u, v, e1, e2, rfl, rz, hz⟩
      have : W2 = [] := by
        cases W2 with
        | nil => rfl
        | cons _ _ => cases e2
      subst this
      rw [List.append_nil] at e1
      subst e1
      exact ⟨zs, x, y0, u, v, rfl, rz, hz⟩
    · refine ⟨rfl, [], W, List.replicate w 0, none, none, none, none, rfl, rfl, rfl, ⟨by simp, fun z hz => by rw [(List.mem_replicate.mp hz).2]; decide⟩, fun i => ?_⟩
      have : fn (List.replicate w (0 : Int)) i = 0 := by
        unfold fn
        rw [List.getD_eq_getElem?_getD, List.getElem?_replicate]
        split <;> rfl
      rw [this]
      exact ⟨0, by simp [comb]⟩
  obtain ⟨zs, x, y, u, v, rfl, q⟩ := key
  exact ⟨zs, by simp -implicitDefEqProofs only [evE, evEs, evOE, evT, evL, evI, evS, evSs, bind_ok, bind_ex, cal_fn, start0, List.map_cons, List.map_nil, List.length_cons, List.length_nil, List.cons_append, List.nil_append, Nat.reduceAdd, Nat.reduceSub, List.replicate_succ, List.replicate_zero, List.getElem?_cons_zero, List.getElem?_cons_succ, List.set_cons_zero, List.set_cons_succ, setF, Nat.reduceLT, if_true, nxR, thenR, retR, iteK_t, iteK_f, afterB, wipeF, tgo, tgt, bindK_some, and_self, outR_rt, outR_nx, outR_ex, Bool.not_true, Bool.not_false, Bool.false_eq_true, if_false, gOk_nil, andK_t, andK_f, notR_b, truR_b, isT_int, isT_bool, isT_tup, cmp_eq, cmp_ne, cmp_lt, cmp_le, cmp_gt, cmp_ge, add_ok, sub_ok, neg_ok, someR, lit0, lit1, lit2, newR, decide_true, decide_false], q⟩
/-! leads, what is left -/
theorem llead_ok (S : RAt pg s) (n : Nat) (b : Bool) (xs : List Int) (h : Hs) : callI pg (n + 1) s.llead [TI b xs] h = .ok (.int (leadN xs)) h := by
  rw [callI_of S.llead rfl]
  unfold f_llead
  exact Spans.lead_body _ _ b xs h
def lrestL : List Int → List (List Int) → List Int
  | x, [] => x
  | x, r :: R => if leadN r < x.length ∧ fn x (leadN r) % fn r (leadN r) = 0 then lrestL (les (fn x (leadN r) / fn r (leadN r)) x r) R else lrestL x R
theorem zipWith_idx (xs ys : List Int) (hl : xs.length = ys.length) (c : Int) : xs.zipIdx.map (fun p => (p.1 - c * fn ys p.2) % 65536) = les c xs ys := by
  refine List.ext_getElem (by simp [les, hl]) fun i h1 h2 => ?_
  have : i < ys.length := by simp [les] at h2; omega
  simp [les, fn_at this]
theorem _root_.WP.HF.tail {w : Nat} {r : List Int} {R : List (List Int)} (h : HF w (r :: R)) : HF w R := by
  have ⟨a1, a2⟩ := List.pairwise_cons.mp h.asc
  refine ⟨fun s hs => h.row s (List.mem_cons_of_mem _ hs), fun s hs => h.piv s (List.mem_cons_of_mem _ hs), a2, (List.pairwise_cons.mp h.red).2, fun s hs => ?_⟩
  refine Sp.mono (fun g hg => ?_) (h.clo s (List.mem_cons_of_mem _ hs))
  obtain ⟨t, ht, hl, rfl⟩ := hg
  rcases List.mem_cons.mp ht with rfl | ht
  · have := a1 s hs; omega
  · exact .gen ⟨t, ht, hl, rfl⟩
theorem lrest_zero {w : Nat} : ∀ {R : List (List Int)} {x : List Int}, HF w R → Row w x → Sp (GL R) (fn x) → Row w (lrestL x R) ∧ ∀ i, fn (lrestL x R) i = 0
  | [], x, _, rx, sx => by
    have z : ∀ v, Sp (GL []) v → ∀ i, (65536 : Int) ∣ v i := fun v s => by
      induction s with
      | zero => exact fun i => ⟨0, rfl⟩
      | add c hg _ _ => obtain ⟨_, hx, _⟩ := hg; cases hx
      | @cg u v h _ ih => exact fun i => by obtain ⟨k, hk⟩ := h i; obtain ⟨m, hm⟩ := ih i; exact ⟨m - k, by grind⟩
    have key : ∀ i, fn x i = 0 := fun i => small_dvd (z _ sx i) (by decide) (by have := rx.bd i; omega) (rx.bd i).2
    exact ⟨rx, key⟩
  | r :: R, x, h, rx, sx => by
    have ⟨a1, a2⟩ := List.pairwise_cons.mp h.asc
    have rr := h.row r List.mem_cons_self
    have pr := h.piv r List.mem_cons_self
    have pp := pr.2.pos
    have low : ∀ s ∈ r :: R, leadN r ≤ leadN s := fun s hs => by
      rcases List.mem_cons.mp hs with rfl | hs
      · exact Nat.le_refl _
      · have := a1 s hs; omega
    have sg : Sp (Ge (FL (r :: R)) (leadN r)) (fn x) := Sp.mono (fun g ⟨s, hs, e⟩ => .gen (h.ge.mpr ⟨s, hs, low s hs, e⟩)) sx
    have xl : ∀ i, i < leadN r → fn x i = 0 := fun i hi => small_dvd (sp_low h.bp.bas sg i hi) (by decide) (by have := rx.bd i; omega) (rx.bd i).2
    have dv : fn r (leadN r) ∣ fn x (leadN r) := sp_piv h.bp.bas sg (h.fl.mpr ⟨List.mem_cons_self, rfl⟩)
    have md : fn x (leadN r) % fn r (leadN r) = 0 := Int.emod_eq_zero_of_dvd dv
    unfold lrestL
    rw [if_pos ⟨by rw [rx.1]; exact pr.1, md⟩]
    obtain ⟨q, hq⟩ : ∃ q, q = fn x (leadN r) / fn r (leadN r) := ⟨_, rfl⟩
    rw [← hq]
    have ry := row_les q rx.1 rr.1
    have yl : ∀ i, i < leadN r + 1 → fn (les q x r) i = 0 := fun i hi => by
      rw [fn_les q (by rw [rx.1, rr.1])]
      rcases Nat.lt_or_ge i (leadN r) with c | c
      · rw [xl i c, leadN_low r i c]; simp
      · obtain rfl : i = leadN r := by omega
        rw [hq, Int.ediv_mul_cancel dv]; simp
    refine lrest_zero h.tail ry ?_
    have s0 : Sp (GL (r :: R)) (fn (les q x r)) := sp_les q (by rw [rx.1, rr.1]) sx (.gen ⟨r, List.mem_cons_self, rfl⟩)
    refine Sp.mono (fun g hg => ?_) (sp_from h.bp.bas h.cl (leadN r + 1) (Sp.mono (fun g hg => .gen ((h.gl g).mpr hg)) s0) fun i hi => by rw [yl i hi]; exact ⟨0, rfl⟩)
    obtain ⟨s, hs, hl, rfl⟩ := h.ge.mp hg
    rcases List.mem_cons.mp hs with rfl | hs
    · omega
    · exact .gen ⟨s, hs, rfl⟩
theorem lrest_ok (S : RAt pg s) (n : Nat) {w : Nat} (hw : w ≤ 1000) {x : List Int} (hx : Row w x) (b : Bool) (R : List (Bool × List Int)) (hR : ∀ p ∈ R, Row w p.2 ∧ leadN p.2 < w ∧ 0 < fn p.2 (leadN p.2)) (d : D) (h : Hs) (gs : List (Nat × List D)) (hit : itOf d h = .ok ⟨wd R, gs⟩ h) (hg : gOk gs h = true) :
    ∃ b', callI pg (n + 2) s.lrest [d, TI b x] h = .ok (TI b' (lrestL x (Rws R))) h := by
  rw [callI_of S.lrest rfl]
  unfold f_lrest
  simp -implicitDefEqProofs only [evE, evEs, evOE, evT, evL, evI, evS, evSs, bind_ok, bind_ex, cal_fn, start0, List.map_cons, List.map_nil, List.length_cons, List.length_nil, List.cons_append, List.nil_append, Nat.reduceAdd, Nat.reduceSub, List.replicate_succ, List.replicate_zero, List.getElem?_cons_zero, List.getElem?_cons_succ, List.set_cons_zero, List.set_cons_succ, setF, Nat.reduceLT, if_true, nxR, thenR, retR, iteK_t, iteK_f, afterB, wipeF, tgo, tgt, bindK_some, and_self, outR_rt, outR_nx, outR_ex, Bool.not_true, Bool.not_false, Bool.false_eq_true, if_false, gOk_nil, andK_t, andK_f, notR_b, truR_b, isT_int, isT_bool, isT_tup, cmp_eq, cmp_ne, cmp_lt, cmp_le, cmp_gt, cmp_ge, add_ok, sub_ok, neg_ok, someR, lit0, lit1, lit2, newR, decide_true, decide_false, hit]
  generalize e : forLoop _ _ _ _ _ = r
  have key : ∃ b' o p t u v, r = .ok (.nx [some d, some (TI b' (lrestL x (Rws R))), o, p, t, u, v]) h := by
    rw [← e]
    clear e
    refine forLoop_go (fun done rest δ H => H = h ∧ ∃ R2 x2 b2 o p t u v, rest = wd R2 ∧ (∀ p ∈ R2, p ∈ R) ∧ δ = [some d, some (TI b2 x2), o, p, t, u, v] ∧ Row w x2 ∧ lrestL x2 (Rws R2) = lrestL x (Rws R))
      (Q := fun r => ∃ b' o p t u v, r = .ok (.nx [some d, some (TI b' (lrestL x (Rws R))), o, p, t, u, v]) h) ?_ ?_ ?_ _ [] _ _ ?_
    · rintro done rest δ H ⟨rfl, _⟩
      exact hg
    · rintro done y rest δ H ⟨rfl, R2, x2, b2, o, p, t, u, v, e2, hm, rfl, rx, er⟩
      obtain ⟨q, R3, rfl⟩ : ∃ p W2', R2 = p :: W2' := by
        cases R2 with
        | nil => cases e2
        | cons p r => exact ⟨p, r, rfl⟩
      obtain ⟨bq, r⟩ := q
      simp only [wd, List.map_cons, List.cons.injEq] at e2
      obtain ⟨rfl, rfl⟩ := e2
      obtain ⟨rr, rl, rp⟩ : Row w r ∧ leadN r < w ∧ 0 < fn r (leadN r) := hR (bq, r) (hm _ List.mem_cons_self)
      have xb := rx.bd (leadN r)
      have rb := rr.bd (leadN r)
      have l1 : decide (((leadN r : Nat) : Int) < (x2.length : Int)) = true := decide_eq_true (by rw [rx.1]; omega)
      have ixx := ix_TI (b := b2) (xs := x2) (i := leadN r) (h := H) (by rw [rx.1]; exact rl)
      have ixr := ix_TI (b := bq) (xs := r) (i := leadN r) (h := H) (by rw [rr.1]; exact rl)
      have l2 : leadN r < x2.length := by rw [rx.1]; exact rl
      by_cases cz : fn x2 (leadN r) % fn r (leadN r) = 0
      · obtain ⟨q, hq⟩ : ∃ q, q = fn x2 (leadN r) / fn r (leadN r) := ⟨_, rfl⟩
        have qb : 0 ≤ q ∧ q < 65536 := by
          have h1 : q ≤ fn x2 (leadN r) := by rw [hq]; exact Int.ediv_le_self _ (by omega)
          have h2 : 0 ≤ q := by rw [hq]; exact Int.ediv_nonneg (by omega) (by omega)
          omega
        refine .inl ⟨[some d, some (TI false (les q x2 r)), some (TI bq r), some (.int (leadN r)), some (.int q), u, v], H, .inl ?_, rfl, R3, les q x2 r, false, _, _, _, _, _, rfl, fun p hp => hm p (List.mem_cons_of_mem _ hp), rfl, row_les q rx.1 rr.1, ?_⟩
        · simp -implicitDefEqProofs only [evE, evEs, evOE, evT, evL, evI, evS, evSs, bind_ok, bind_ex, cal_fn, start0, List.map_cons, List.map_nil, List.length_cons, List.length_nil, List.cons_append, List.nil_append, Nat.reduceAdd, Nat.reduceSub, List.replicate_succ, List.replicate_zero, List.getElem?_cons_zero, List.getElem?_cons_succ, List.set_cons_zero, List.set_cons_succ, setF, Nat.reduceLT, if_true, nxR, thenR, retR, iteK_t, iteK_f, afterB, wipeF, tgo, tgt, bindK_some, and_self, outR_rt, outR_nx, outR_ex, Bool.not_true, Bool.not_false, Bool.false_eq_true, if_false, gOk_nil, andK_t, andK_f, notR_b, truR_b, isT_int, isT_bool, isT_tup, cmp_eq, cmp_ne, cmp_lt, cmp_le, cmp_gt, cmp_ge, add_ok, sub_ok, neg_ok, someR, lit0, lit1, lit2, newR, decide_true, decide_false, llead_ok S, len_TI, l1, ixx, ixr, mod_pos _ H rp, cz, div_pos _ H rp (log2_small rp (by omega)), ← hq]
          simp -implicitDefEqProofs only [evE, evEs, evOE, evT, evL, evI, evS, evSs, bind_ok, bind_ex, cal_fn, start0, List.map_cons, List.map_nil, List.length_cons, List.length_nil, List.cons_append, List.nil_append, Nat.reduceAdd, Nat.reduceSub, List.replicate_succ, List.replicate_zero, List.getElem?_cons_zero, List.getElem?_cons_succ, List.set_cons_zero, List.set_cons_succ, setF, Nat.reduceLT, if_true, nxR, thenR, retR, iteK_t, iteK_f, afterB, wipeF, tgo, tgt, bindK_some, and_self, outR_rt, outR_nx, outR_ex, Bool.not_true, Bool.not_false, Bool.false_eq_true, if_false, gOk_nil, andK_t, andK_f, notR_b, truR_b, isT_int, isT_bool, isT_tup, cmp_eq, cmp_ne, cmp_lt, cmp_le, cmp_gt, cmp_ge, add_ok, sub_ok, neg_ok, someR, lit0, lit1, lit2, newR, decide_true, decide_false, TI, itEnum_tup]
          rw [loopR_pure (J := ⟨(ri x2).zipIdx.map fun p => .tup false [.int p.2, p.1], []⟩) (by simp [ri_len]; rw [rx.1]; unfold LIM; omega) rfl (fun d => match d with | .tup _ [.int p, .int x] => some (.int ((x - q * fn r p.toNat) % 65536)) | _ => none)]
          · rw [zip_ri x2 0 (fun x p => (x - q * fn r p) % 65536) _ (fun x p => by simp), zipWith_idx x2 r (by rw [rx.1, rr.1])]
            simp -implicitDefEqProofs only [evE, evEs, evOE, evT, evL, evI, evS, evSs, bind_ok, bind_ex, cal_fn, start0, List.map_cons, List.map_nil, List.length_cons, List.length_nil, List.cons_append, List.nil_append, Nat.reduceAdd, Nat.reduceSub, List.replicate_succ, List.replicate_zero, List.getElem?_cons_zero, List.getElem?_cons_succ, List.set_cons_zero, List.set_cons_succ, setF, Nat.reduceLT, if_true, nxR, thenR, retR, iteK_t, iteK_f, afterB, wipeF, tgo, tgt, bindK_some, and_self, outR_rt, outR_nx, outR_ex, Bool.not_true, Bool.not_false, Bool.false_eq_true, if_false, gOk_nil, andK_t, andK_f, notR_b, truR_b, isT_int, isT_bool, isT_tup, cmp_eq, cmp_ne, cmp_lt, cmp_le, cmp_gt, cmp_ge, add_ok, sub_ok, neg_ok, someR, lit0, lit1, lit2, newR, decide_true, decide_false, blD_tuple]
          · intro d hd
            obtain ⟨x1, p, hp, _, rfl⟩ := zip_mem hd
            have yb := rr.bd p
            have ix := ix_TI (b := bq) (xs := r) (i := p) (h := H) (by rw [rr.1, ← rx.1]; exact hp)
            unfold TI at ix
            simp -implicitDefEqProofs only [evE, evEs, evOE, evT, evL, evI, evS, evSs, bind_ok, bind_ex, cal_fn, start0, List.map_cons, List.map_nil, List.length_cons, List.length_nil, List.cons_append, List.nil_append, Nat.reduceAdd, Nat.reduceSub, List.replicate_succ, List.replicate_zero, List.getElem?_cons_zero, List.getElem?_cons_succ, List.set_cons_zero, List.set_cons_succ, setF, Nat.reduceLT, if_true, nxR, thenR, retR, iteK_t, iteK_f, afterB, wipeF, tgo, tgt, bindK_some, and_self, outR_rt, outR_nx, outR_ex, Bool.not_true, Bool.not_false, Bool.false_eq_true, if_false, gOk_nil, andK_t, andK_f, notR_b, truR_b, isT_int, isT_bool, isT_tup, cmp_eq, cmp_ne, cmp_lt, cmp_le, cmp_gt, cmp_ge, add_ok, sub_ok, neg_ok, someR, lit0, lit1, lit2, newR, decide_true, decide_false, ix, mul_ok H (mulOk_r (i := q) (j := fn r p) (by omega) (by omega)), mod_pos _ H (show (0 : Int) < 65536 by decide), Int.toNat_natCast]
        · rw [← er]
          show _ = lrestL x2 (r :: Rws R3)
          conv => rhs; unfold lrestL
          rw [if_pos ⟨l2, cz⟩, hq]
      · refine .inl ⟨[some d, some (TI b2 x2), some (TI bq r), some (.int (leadN r)), t, u, v], H, .inl ?_, rfl, R3, x2, b2, _, _, _, _, _, rfl, fun p hp => hm p (List.mem_cons_of_mem _ hp), rfl, rx, ?_⟩
        · simp -implicitDefEqProofs only [evE, evEs, evOE, evT, evL, evI, evS, evSs, bind_ok, bind_ex, cal_fn, start0, List.map_cons, List.map_nil, List.length_cons, List.length_nil, List.cons_append, List.nil_append, Nat.reduceAdd, Nat.reduceSub, List.replicate_succ, List.replicate_zero, List.getElem?_cons_zero, List.getElem?_cons_succ, List.set_cons_zero, List.set_cons_succ, setF, Nat.reduceLT, if_true, nxR, thenR, retR, iteK_t, iteK_f, afterB, wipeF, tgo, tgt, bindK_some, and_self, outR_rt, outR_nx, outR_ex, Bool.not_true, Bool.not_false, Bool.false_eq_true, if_false, gOk_nil, andK_t, andK_f, notR_b, truR_b, isT_int, isT_bool, isT_tup, cmp_eq, cmp_ne, cmp_lt, cmp_le, cmp_gt, cmp_ge, add_ok, sub_ok, neg_ok, someR, lit0, lit1, lit2, newR, decide_true, decide_false, llead_ok S, len_TI, l1, ixx, ixr, mod_pos _ H rp, cz]
        · rw [← er]
          show _ = lrestL x2 (r :: Rws R3)
          conv => rhs; unfold lrestL
          rw [if_neg fun z => cz z.2]
    · rintro done δ H ⟨rfl, R2, x2, b2, o, p, t, u, v, e2, hm, rfl, rx, er⟩
      have : R2 = [] := by
        cases R2 with
        | nil => rfl
        | cons _ _ => cases e2
      subst this
      have e3 : x2 = lrestL x (Rws R) := er
      rw [← e3]
      exact ⟨b2, o, p, t, u, v, rfl⟩
    · exact ⟨rfl, R, x, b, none, none, none, none, none, rfl, fun p hp => hp, rfl, hx, rfl⟩
  obtain ⟨b', o, p, t, u, v, rfl⟩ := key
  exact ⟨b', by simp -implicitDefEqProofs only [evE, evEs, evOE, evT, evL, evI, evS, evSs, bind_ok, bind_ex, cal_fn, start0, List.map_cons, List.map_nil, List.length_cons, List.length_nil, List.cons_append, List.nil_append, Nat.reduceAdd, Nat.reduceSub, List.replicate_succ, List.replicate_zero, List.getElem?_cons_zero, List.getElem?_cons_succ, List.set_cons_zero, List.set_cons_succ, setF, Nat.reduceLT, if_true, nxR, thenR, retR, iteK_t, iteK_f, afterB, wipeF, tgo, tgt, bindK_some, and_self, outR_rt, outR_nx, outR_ex, Bool.not_true, Bool.not_false, Bool.false_eq_true, if_false, gOk_nil, andK_t, andK_f, notR_b, truR_b, isT_int, isT_bool, isT_tup, cmp_eq, cmp_ne, cmp_lt, cmp_le, cmp_gt, cmp_ge, add_ok, sub_ok, neg_ok, someR, lit0, lit1, lit2, newR, decide_true, decide_false]⟩
/-! the law's own test of a form -/
theorem insI_asc (x : Int) (l : List Int) (h : (x :: l).Pairwise (· < ·)) : insI x l = x :: l := by
  cases l with
  | nil => rfl
  | cons y r =>
    have := (List.pairwise_cons.mp h).1 y List.mem_cons_self
    show (if x < y then x :: y :: r else if x = y then y :: r else y :: insI x r) = _
    rw [if_pos this]
theorem ded_asc : ∀ l : List Int, l.Pairwise (· < ·) → l.foldr insI [] = l
  | [], _ => rfl
  | x :: r, h => by
    show insI x (r.foldr insI []) = _
    rw [ded_asc r (List.pairwise_cons.mp h).2, insI_asc x r h]
theorem strs_ri (xs : List Int) (h : xs ≠ []) : strs? (ri xs) = none := by
  cases xs with
  | nil => exact absurd rfl h
  | cons x r => rfl
theorem sortSet_asc {H : Hs} {k : Nat} {xs : List Int} (hk : H[k]? = some (.lst (ri xs))) (ha : xs.Pairwise (· < ·)) (hl : xs.length < 63) : sortSetD (.ref k) H = .ok (.ref H.length) (H ++ [.lst (ri xs)]) := by
  show (match lstD' H (.ref k) with
    | some xs => (match strs? xs with
      | some ss => if ss.length ≤ 4000 ∧ (srtT ss).length < 64 then R.ok (D.ref H.length) (H ++ [O.lst ((srtT ss).map D.str)]) else .no
      | none => (match ints? xs with
        | some ns => if ns.length < 63 then R.ok (D.ref H.length) (H ++ [O.lst ((ns.foldr insI []).map D.int)]) else .no
        | none => .no))
    | none => .no) = _
  rw [lstD'_at hk]
  simp only
  cases xs with
  | nil => rfl
  | cons x r =>
    rw [strs_ri (x :: r) (by simp)]
    simp only
    rw [Spans.ints_ri]
    simp only
    rw [if_pos hl, ded_asc _ ha]
    rfl
/-- the leads of a form -/
def leads (R : List (List Int)) : List Int := R.map fun r => (leadN r : Int)
theorem leads_asc {w : Nat} {R : List (List Int)} (h : HF w R) : (leads R).Pairwise (· < ·) := List.pairwise_map.mpr (h.asc.imp fun {a b} h => by omega)
theorem filterMap_wd {α : Type} (W : List (Bool × List Int)) (F : D → Option α) (g : List Int → α) (hF : ∀ b xs, F (TI b xs) = some (g xs)) : (wd W).filterMap F = (Rws W).map g := by
  induction W with
  | nil => rfl
  | cons p r ih =>
    simp only [wd, Rws, List.map_cons, List.filterMap_cons, hF] at ih ⊢
    rw [ih]
theorem zip_wd (W : List (Bool × List Int)) (k : Nat) (g : List Int → Nat → Option D) (F : D → Option D) (hF : ∀ b xs (p : Nat), F (.tup false [.int p, TI b xs]) = g xs p) : (((wd W).zipIdx k).map fun p => D.tup false [.int p.2, p.1]).filterMap F = ((Rws W).zipIdx k).filterMap fun p => g p.1 p.2 := by
  induction W generalizing k with
  | nil => rfl
  | cons p r ih =>
    have := ih (k + 1)
    simp only [wd, Rws, List.map_cons, List.zipIdx_cons, List.filterMap_cons, hF] at this ⊢
    rw [this]
theorem zip_wd_mem {W : List (Bool × List Int)} {d : D} (h : d ∈ ((wd W).zipIdx.map fun p => D.tup false [.int p.2, p.1])) : ∃ (b : Bool) (xs : List Int) (p : Nat), W[p]? = some (b, xs) ∧ d = .tup false [.int p, TI b xs] := by
  obtain ⟨q, hq, rfl⟩ := List.mem_map.mp h
  obtain ⟨e, k⟩ := q
  have := List.mem_zipIdx_iff_getElem?.mp hq
  simp only [wd, List.getElem?_map] at this
  cases hz : W[k]? with
  | none => rw [hz] at this; cases this
  | some x =>
    rw [hz] at this
    obtain rfl : TI x.1 x.2 = e := Option.some.inj this
    exact ⟨x.1, x.2, k, hz, rfl⟩
theorem ix_lst {H : Hs} {k i : Nat} {xs : List D} (hk : H[k]? = some (.lst xs)) (hi : i < xs.length) : ixD (.ref k) (.int i) H = .ok xs[i] H := ix_ref hk (atI_nat hi)
theorem zip_wd' (W : List (Bool × List Int)) (k : Nat) (g : List Int → D) (F : D → Option D) (hF : ∀ b xs (p : Nat), F (.tup false [.int p, TI b xs]) = some (g xs)) : (((wd W).zipIdx k).map fun p => D.tup false [.int p.2, p.1]).filterMap F = (Rws W).map g := by
  induction W generalizing k with
  | nil => rfl
  | cons p r ih =>
    have := ih (k + 1)
    simp only [wd, Rws, List.map_cons, List.zipIdx_cons, List.filterMap_cons, hF] at this ⊢
    rw [this]
theorem _root_.WP.HF.drop {w : Nat} : ∀ {R : List (List Int)} (k : Nat), HF w R → HF w (R.drop k)
  | R, 0, h => h
  | [], k + 1, h => h
  | r :: R, k + 1, h => HF.drop k h.tail
theorem drop_gt {w : Nat} {R : List (List Int)} (h : HF w R) {p : Nat} (hp : p < R.length) {s : List Int} (hs : s ∈ R) (hl : leadN R[p] < leadN s) : s ∈ R.drop (p + 1) := by
  obtain ⟨j, hj, rfl⟩ := List.getElem_of_mem hs
  have : p < j := by
    rcases Nat.lt_or_ge p j with c | c
    · exact c
    · rcases Nat.lt_or_ge j p with c2 | c2
      · have := List.pairwise_iff_getElem.mp h.asc j p hj hp c2
        omega
      · have : j = p := by omega
        subst this
        omega
  rw [List.mem_drop_iff_getElem]
  exact ⟨j - (p + 1), by omega, by simp [show p + 1 + (j - (p + 1)) = j by omega]⟩
theorem ix_last {H : Hs} {k : Nat} {xs : List D} (hk : H[k]? = some (.lst xs)) (hn : 0 < xs.length) : ixD (.ref k) (.int (-1)) H = .ok xs[xs.length - 1] H := by
  refine ix_ref hk ?_
  unfold L2.atI L2.ixN
  rw [if_neg (by decide), if_pos (by omega)]
  have : ((-1 : Int) + (xs.length : Int)).toNat = xs.length - 1 := by omega
  rw [this]
  show xs[xs.length - 1]? = _
  rw [List.getElem?_eq_getElem (by omega)]
theorem part_int (i : Int) (h : Hs) : partR (.int i) h = .ok (some i) h := rfl
theorem tupR_nil (h : Hs) : tupR [] h = .ok (.tup true []) h := rfl
theorem sl_rows (b : Bool) (W : List (Bool × List Int)) (k : Nat) (hk : k ≤ W.length) (h : Hs) : slD (.tup b (wd W)) (some (k : Int)) none h = .ok (.tup false (wd (W.drop k))) h := by
  show R.ok (D.tup false (cutD (wd W) (some (k : Int)) none)) h = _
  rw [Spans.cut_hi _ _ (by simpa using hk)]
  simp [wd, List.map_drop]
theorem isForm_ok (S : RAt pg s) (e0 : pg.fns[s.lisForm]? = some (f_lisForm s)) (n : Nat) {w : Nat} (hw : w ≤ 50) {R : List (List Int)} (hR : HF w R) (b : Bool) (h : Hs) : ∃ t, callI pg (n + 3) s.lisForm [.tup b (wd (Spans.fw R))] h = .ok (.bl true) (h ++ t) := by
  obtain ⟨W, hW⟩ : ∃ W, W = Spans.fw R := ⟨_, rfl⟩
  have rW : Rws W = R := by rw [hW, Spans.fw_rws]
  have lenR := Spans.HF.len hR
  have lenW : W.length = R.length := by rw [← rW]; simp
  have memW : ∀ {p : Nat} {b : Bool} {xs : List Int}, W[p]? = some (b, xs) → R[p]? = some xs := fun {p b xs} h => by
    rw [← rW]
    simp [Rws, h]
  rw [← hW, callI_of e0 rfl]
  unfold f_lisForm
  simp -implicitDefEqProofs only [evE, evEs, evOE, evT, evL, evI, evS, evSs, bind_ok, bind_ex, cal_fn, start0, List.map_cons, List.map_nil, List.length_cons, List.length_nil, List.cons_append, List.nil_append, Nat.reduceAdd, Nat.reduceSub, List.replicate_succ, List.replicate_zero, List.getElem?_cons_zero, List.getElem?_cons_succ, List.set_cons_zero, List.set_cons_succ, setF, Nat.reduceLT, if_true, nxR, thenR, retR, iteK_t, iteK_f, afterB, wipeF, tgo, tgt, bindK_some, and_self, outR_rt, outR_nx, outR_ex, Bool.not_true, Bool.not_false, Bool.false_eq_true, if_false, gOk_nil, andK_t, andK_f, notR_b, truR_b, isT_int, isT_bool, isT_tup, cmp_eq, cmp_ne, cmp_lt, cmp_le, cmp_gt, cmp_ge, add_ok, sub_ok, neg_ok, someR, lit0, lit1, lit2, newR, decide_true, decide_false, itOf_tup]
  rw [loopR_pure (J := ⟨wd W, []⟩) (by simp; unfold LIM; omega) rfl (fun d => match d with | .tup _ xs => some (.int (leadN (match ints? xs with | some l => l | none => []))) | _ => none)]
  · have e1 : (wd W).filterMap (fun d => match d with | .tup _ xs => some (D.int (leadN (match ints? xs with | some l => l | none => []))) | _ => none) = ri (leads R) := by
      rw [filterMap_wd W _ (fun xs => D.int (leadN xs)) (fun b xs => by
        show some (D.int (leadN (match ints? (ri xs) with | some l => l | none => []))) = _
        rw [Spans.ints_ri]), rW]
      simp [ri, leads, List.map_map, Function.comp_def]
    rw [e1]
    obtain ⟨H1, eH1⟩ : ∃ H1, H1 = h ++ [O.lst (ri (leads R))] := ⟨_, rfl⟩
    have at1 : H1[h.length]? = some (.lst (ri (leads R))) := by rw [eH1]; simp
    have ll : (leads R).length = R.length := by simp [leads]
    have ss := sortSet_asc at1 (leads_asc hR) (by rw [ll]; omega)
    obtain ⟨H2, eH2⟩ : ∃ H2, H2 = H1 ++ [O.lst (ri (leads R))] := ⟨_, rfl⟩
    rw [← eH2] at ss
    have at2 : H2[h.length]? = some (.lst (ri (leads R))) := by rw [eH2, List.getElem?_append_left (List.getElem?_eq_some_iff.mp at1).1]; exact at1
    have at2' : H2[H1.length]? = some (.lst (ri (leads R))) := by rw [eH2]; simp
    have ne := cmp_neD (eqD_L at2' at2)
    rw [decide_eq_true rfl] at ne
    simp -implicitDefEqProofs only [evE, evEs, evOE, evT, evL, evI, evS, evSs, bind_ok, bind_ex, cal_fn, start0, List.map_cons, List.map_nil, List.length_cons, List.length_nil, List.cons_append, List.nil_append, Nat.reduceAdd, Nat.reduceSub, List.replicate_succ, List.replicate_zero, List.getElem?_cons_zero, List.getElem?_cons_succ, List.set_cons_zero, List.set_cons_succ, setF, Nat.reduceLT, if_true, nxR, thenR, retR, iteK_t, iteK_f, afterB, wipeF, tgo, tgt, bindK_some, and_self, outR_rt, outR_nx, outR_ex, Bool.not_true, Bool.not_false, Bool.false_eq_true, if_false, gOk_nil, andK_t, andK_f, notR_b, truR_b, isT_int, isT_bool, isT_tup, cmp_eq, cmp_ne, cmp_lt, cmp_le, cmp_gt, cmp_ge, add_ok, sub_ok, neg_ok, someR, lit0, lit1, lit2, newR, decide_true, decide_false, ← eH1, ss, ne]
    have ne2 := cmp_neD (eqD_R b true W [] H2)
    have e4 : (D.tup true (wd []) : D) = .tup true [] := rfl
    rw [e4, rW] at ne2
    -- the powers
    obtain ⟨H3, eH3⟩ : ∃ H3, H3 = H2 ++ [O.lst (R.map fun r => D.int (65536 / fn r (leadN r)))] := ⟨_, rfl⟩
    have at3 : H3[h.length]? = some (.lst (ri (leads R))) := by rw [eH3, List.getElem?_append_left (List.getElem?_eq_some_iff.mp at2).1]; exact at2
    have at3' : H3[H2.length]? = some (.lst (R.map fun r => D.int (65536 / fn r (leadN r)))) := by rw [eH3]; simp
    have lead_at : ∀ {H : Hs} {p : Nat} {xs : List Int}, H[h.length]? = some (.lst (ri (leads R))) → R[p]? = some xs → ixD (.ref h.length) (.int p) H = .ok (.int (leadN xs)) H := fun {H p xs} hH hp => by
      obtain ⟨h1, h2⟩ := List.getElem?_eq_some_iff.mp hp
      rw [ix_lst hH (by rw [ri_len, ll]; exact h1)]
      simp [ri, leads, h2]
    have row_at : ∀ {H : Hs} {b : Bool} {p : Nat} {xs : List Int}, R[p]? = some xs → ixD (TI b xs) (.int (leadN xs)) H = .ok (.int (fn xs (leadN xs))) H := fun {H b p xs} hp => by
      have hm := List.mem_of_getElem? hp
      exact ix_TI (by rw [(hR.row xs hm).1]; exact (hR.piv xs hm).1)
    have piv_at : ∀ {p : Nat} {xs : List Int}, R[p]? = some xs → pw2 (fn xs (leadN xs)) := fun {p xs} hp => (hR.piv xs (List.mem_of_getElem? hp)).2
    simp -implicitDefEqProofs only [evE, evEs, evOE, evT, evL, evI, evS, evSs, bind_ok, bind_ex, cal_fn, start0, List.map_cons, List.map_nil, List.length_cons, List.length_nil, List.cons_append, List.nil_append, Nat.reduceAdd, Nat.reduceSub, List.replicate_succ, List.replicate_zero, List.getElem?_cons_zero, List.getElem?_cons_succ, List.set_cons_zero, List.set_cons_succ, setF, Nat.reduceLT, if_true, nxR, thenR, retR, iteK_t, iteK_f, afterB, wipeF, tgo, tgt, bindK_some, and_self, outR_rt, outR_nx, outR_ex, Bool.not_true, Bool.not_false, Bool.false_eq_true, if_false, gOk_nil, andK_t, andK_f, notR_b, truR_b, isT_int, isT_bool, isT_tup, cmp_eq, cmp_ne, cmp_lt, cmp_le, cmp_gt, cmp_ge, add_ok, sub_ok, neg_ok, someR, lit0, lit1, lit2, newR, decide_true, decide_false, tupR_nil, ne2]
    have test : iteK (fun h1 => ((ixD (D.ref h.length) (D.int (-1)) h1).bind fun x h1 => (((ixD (D.tup b (wd W)) (D.int 0) h1).bind fun x h1 => PI.R.ok [x] h1).bind fun xs h1 => biD Bi.len xs h1).bind fun y h2 => cmpD CO.ge x y h2).bind truR) (fun h1 => PI.R.ok false h1) (!decide (R = [])) H2 = PI.R.ok false H2 := by
      cases hRR : R with
      | nil => simp -implicitDefEqProofs only [evE, evEs, evOE, evT, evL, evI, evS, evSs, bind_ok, bind_ex, cal_fn, start0, List.map_cons, List.map_nil, List.length_cons, List.length_nil, List.cons_append, List.nil_append, Nat.reduceAdd, Nat.reduceSub, List.replicate_succ, List.replicate_zero, List.getElem?_cons_zero, List.getElem?_cons_succ, List.set_cons_zero, List.set_cons_succ, setF, Nat.reduceLT, if_true, nxR, thenR, retR, iteK_t, iteK_f, afterB, wipeF, tgo, tgt, bindK_some, and_self, outR_rt, outR_nx, outR_ex, Bool.not_true, Bool.not_false, Bool.false_eq_true, if_false, gOk_nil, andK_t, andK_f, notR_b, truR_b, isT_int, isT_bool, isT_tup, cmp_eq, cmp_ne, cmp_lt, cmp_le, cmp_gt, cmp_ge, add_ok, sub_ok, neg_ok, someR, lit0, lit1, lit2, newR, decide_true, decide_false]
      | cons r0 R0 =>
        have c0 : ¬ (r0 :: R0 = []) := by simp
        simp -implicitDefEqProofs only [evE, evEs, evOE, evT, evL, evI, evS, evSs, bind_ok, bind_ex, cal_fn, start0, List.map_cons, List.map_nil, List.length_cons, List.length_nil, List.cons_append, List.nil_append, Nat.reduceAdd, Nat.reduceSub, List.replicate_succ, List.replicate_zero, List.getElem?_cons_zero, List.getElem?_cons_succ, List.set_cons_zero, List.set_cons_succ, setF, Nat.reduceLT, if_true, nxR, thenR, retR, iteK_t, iteK_f, afterB, wipeF, tgo, tgt, bindK_some, and_self, outR_rt, outR_nx, outR_ex, Bool.not_true, Bool.not_false, Bool.false_eq_true, if_false, gOk_nil, andK_t, andK_f, notR_b, truR_b, isT_int, isT_bool, isT_tup, cmp_eq, cmp_ne, cmp_lt, cmp_le, cmp_gt, cmp_ge, add_ok, sub_ok, neg_ok, someR, lit0, lit1, lit2, newR, decide_true, decide_false, c0]
        have lz : 0 < (ri (leads R)).length := by rw [ri_len, ll, hRR]; simp
        have w0 : 0 < W.length := by rw [lenW, hRR]; simp
        have i0 : ixD (D.tup b (wd W)) (D.int 0) H2 = .ok (TI W[0].1 W[0].2) H2 := by
          have := ix_tup (b := b) (xs := wd W) (i := 0) (h := H2) (by simpa using w0)
          simpa using this
        have m0 : R[0]? = some W[0].2 := memW (b := W[0].1) (by rw [List.getElem?_eq_getElem w0])
        have rw0 := hR.row _ (List.mem_of_getElem? m0)
        obtain ⟨z, hz1, hz2⟩ : ∃ z : Nat, (ri (leads R))[(ri (leads R)).length - 1] = D.int z ∧ z < w := by
          have hlt : R.length - 1 < R.length := by rw [hRR]; simp
          refine ⟨leadN R[R.length - 1], ?_, (hR.piv _ (List.getElem_mem hlt)).1⟩
          simp [ri, leads]
        have cz : ¬ ((w : Int) ≤ (z : Int)) := by omega
        simp -implicitDefEqProofs only [evE, evEs, evOE, evT, evL, evI, evS, evSs, bind_ok, bind_ex, cal_fn, start0, List.map_cons, List.map_nil, List.length_cons, List.length_nil, List.cons_append, List.nil_append, Nat.reduceAdd, Nat.reduceSub, List.replicate_succ, List.replicate_zero, List.getElem?_cons_zero, List.getElem?_cons_succ, List.set_cons_zero, List.set_cons_succ, setF, Nat.reduceLT, if_true, nxR, thenR, retR, iteK_t, iteK_f, afterB, wipeF, tgo, tgt, bindK_some, and_self, outR_rt, outR_nx, outR_ex, Bool.not_true, Bool.not_false, Bool.false_eq_true, if_false, gOk_nil, andK_t, andK_f, notR_b, truR_b, isT_int, isT_bool, isT_tup, cmp_eq, cmp_ne, cmp_lt, cmp_le, cmp_gt, cmp_ge, add_ok, sub_ok, neg_ok, someR, lit0, lit1, lit2, newR, decide_true, decide_false, ix_last at2 lz, hz1, i0, len_TI, rw0.1, cz]
    rw [test]
    simp -implicitDefEqProofs only [evE, evEs, evOE, evT, evL, evI, evS, evSs, bind_ok, bind_ex, cal_fn, start0, List.map_cons, List.map_nil, List.length_cons, List.length_nil, List.cons_append, List.nil_append, Nat.reduceAdd, Nat.reduceSub, List.replicate_succ, List.replicate_zero, List.getElem?_cons_zero, List.getElem?_cons_succ, List.set_cons_zero, List.set_cons_succ, setF, Nat.reduceLT, if_true, nxR, thenR, retR, iteK_t, iteK_f, afterB, wipeF, tgo, tgt, bindK_some, and_self, outR_rt, outR_nx, outR_ex, Bool.not_true, Bool.not_false, Bool.false_eq_true, if_false, gOk_nil, andK_t, andK_f, notR_b, truR_b, isT_int, isT_bool, isT_tup, cmp_eq, cmp_ne, cmp_lt, cmp_le, cmp_gt, cmp_ge, add_ok, sub_ok, neg_ok, someR, lit0, lit1, lit2, newR, decide_true, decide_false, itEnum_tup]
    rw [loopR_pure (J := ⟨(wd W).zipIdx.map fun p => D.tup false [.int p.2, p.1], []⟩) (by simp; unfold LIM; omega) rfl (fun d => match d with | .tup _ [.int _, .tup _ xs] => some (.int (65536 / fn ((ints? xs).getD []) (leadN ((ints? xs).getD [])))) | _ => none)]
    · rw [zip_wd' W 0 (fun r => D.int (65536 / fn r (leadN r))) _ (fun b xs p => by
          show some (D.int (65536 / fn ((ints? (ri xs)).getD []) (leadN ((ints? (ri xs)).getD [])))) = _
          rw [Spans.ints_ri]
          rfl), rW]
      simp -implicitDefEqProofs only [evE, evEs, evOE, evT, evL, evI, evS, evSs, bind_ok, bind_ex, cal_fn, start0, List.map_cons, List.map_nil, List.length_cons, List.length_nil, List.cons_append, List.nil_append, Nat.reduceAdd, Nat.reduceSub, List.replicate_succ, List.replicate_zero, List.getElem?_cons_zero, List.getElem?_cons_succ, List.set_cons_zero, List.set_cons_succ, setF, Nat.reduceLT, if_true, nxR, thenR, retR, iteK_t, iteK_f, afterB, wipeF, tgo, tgt, bindK_some, and_self, outR_rt, outR_nx, outR_ex, Bool.not_true, Bool.not_false, Bool.false_eq_true, if_false, gOk_nil, andK_t, andK_f, notR_b, truR_b, isT_int, isT_bool, isT_tup, cmp_eq, cmp_ne, cmp_lt, cmp_le, cmp_gt, cmp_ge, add_ok, sub_ok, neg_ok, someR, lit0, lit1, lit2, newR, decide_true, decide_false, itEnum_tup, ← eH3]
      rw [loopR_pure (J := ⟨(wd W).zipIdx.map fun p => D.tup false [.int p.2, p.1], []⟩) (by simp; unfold LIM; omega) rfl (fun d => some (.bl true))]
      · rw [zip_wd' W 0 (fun r => D.bl true) _ (fun b xs p => rfl), rW]
        have eb : R.map (fun _ => D.bl true) = (R.map fun _ => true).map D.bl := by rw [List.map_map]; rfl
        have ea : (R.map fun _ => true).all id = true := by simp
        simp -implicitDefEqProofs only [evE, evEs, evOE, evT, evL, evI, evS, evSs, bind_ok, bind_ex, cal_fn, start0, List.map_cons, List.map_nil, List.length_cons, List.length_nil, List.cons_append, List.nil_append, Nat.reduceAdd, Nat.reduceSub, List.replicate_succ, List.replicate_zero, List.getElem?_cons_zero, List.getElem?_cons_succ, List.set_cons_zero, List.set_cons_succ, setF, Nat.reduceLT, if_true, nxR, thenR, retR, iteK_t, iteK_f, afterB, wipeF, tgo, tgt, bindK_some, and_self, outR_rt, outR_nx, outR_ex, Bool.not_true, Bool.not_false, Bool.false_eq_true, if_false, gOk_nil, andK_t, andK_f, notR_b, truR_b, isT_int, isT_bool, isT_tup, cmp_eq, cmp_ne, cmp_lt, cmp_le, cmp_gt, cmp_ge, add_ok, sub_ok, neg_ok, someR, lit0, lit1, lit2, newR, decide_true, decide_false, eb, blD_all, ea, itEnum_tup]
        generalize e : forLoop _ _ _ _ _ = r
        have key : ∃ δ, r = .ok (.nx δ) H3 := by
          rw [← e]
          clear e
          refine forLoop_go (fun done rest δ H => H = H3 ∧ ∃ k x y z u v, k ≤ W.length ∧ rest = ((wd (W.drop k)).zipIdx k).map (fun p => .tup false [.int p.2, p.1]) ∧ δ = [some (.tup b (wd W)), some (.ref h.length), some (.ref H2.length), x, y, z, u, v])
            (Q := fun r => ∃ δ, r = .ok (.nx δ) H3) (fun _ _ _ _ _ => rfl) ?_ ?_ _ [] _ _ ⟨rfl, 0, _, _, _, _, _, Nat.zero_le _, rfl, rfl⟩
          · rintro done y rest δ H ⟨rfl, k, x, y0, z, u, v, hk, hrest, rfl⟩
            have lt : k < W.length := by
              rcases Nat.lt_or_ge k W.length with c | c
              · exact c
              · rw [List.drop_of_length_le c] at hrest
                cases hrest
            rw [List.drop_eq_getElem_cons lt] at hrest
            simp only [wd, List.map_cons, List.zipIdx_cons, List.cons.injEq] at hrest
            obtain ⟨rfl, rfl⟩ := hrest
            obtain ⟨bk, xs, hWk⟩ : ∃ bk xs, W[k] = (bk, xs) := ⟨_, _, rfl⟩
            have hWk' : W[k]? = some (bk, xs) := by rw [List.getElem?_eq_getElem lt, hWk]
            have mk := memW hWk'
            have kR : k < R.length := by omega
            have hRk : R[k] = xs := (List.getElem?_eq_some_iff.mp mk).2
            have xm := List.mem_of_getElem? mk
            have rx := hR.row xs xm
            have px := (hR.piv xs xm).2.pos
            rw [hWk]
            obtain ⟨c, hc⟩ : ∃ c, c = 65536 / fn xs (leadN xs) := ⟨_, rfl⟩
            have cb : 0 ≤ c ∧ c ≤ 65536 := by rw [hc]; exact ⟨Int.ediv_nonneg (by decide) (by omega), Int.ediv_le_self _ (by decide)⟩
            have hcast : ((k : Nat) : Int) + 1 = ((k + 1 : Nat) : Int) := by omega
            have wl2 : (wd W).length = W.length := by simp
            obtain ⟨b', er⟩ := lrest_ok S n (w := w) (by omega) (x := scl c xs) (row_scl c rx.1) false (W.drop (k + 1)) (fun p hp => by
              have hp2 : p.2 ∈ R := by rw [← rW]; exact List.mem_map.mpr ⟨p, List.mem_of_mem_drop hp, rfl⟩
              exact ⟨hR.row _ hp2, (hR.piv _ hp2).1, (hR.piv _ hp2).2.pos.1⟩) (.tup false (wd (W.drop (k + 1)))) H [] rfl rfl
            have eD : Rws (W.drop (k + 1)) = R.drop (k + 1) := by rw [← rW]; simp [Rws, List.map_drop]
            rw [eD] at er
            have sp : Sp (GL (R.drop (k + 1))) (fn (scl c xs)) := by
              refine Sp.cg (u := fun i => c * fn xs i) (fun i => ?_) (Sp.mono (fun g hg => ?_) (show Sp _ (fun i => c * fn xs i) by rw [hc]; exact hR.clo xs xm))
              · rw [fn_scl]
                obtain ⟨t, ht⟩ := dvd_mod' (fn xs i * c)
                exact ⟨t, by grind⟩
              · obtain ⟨s2, hs, hl, rfl⟩ := hg
                exact .gen ⟨s2, drop_gt hR kR hs (by rw [hRk]; exact hl), rfl⟩
            obtain ⟨rz, zz⟩ := lrest_zero (hR.drop (k + 1)) (row_scl c rx.1) sp
            have lz := leadN_zero.mpr zz
            have l1 : (lrestL (scl c xs) (R.drop (k + 1))).length = w := rz.1
            have l2 : (scl c xs).length = w := by simp [scl, rx.1]
            have pk : ixD (.ref H2.length) (.int k) H = .ok (.int c) H := by
              rw [ix_lst at3' (by simpa using kR)]
              simp [hRk, hc]
            refine .inl ⟨[some (.tup b (wd W)), some (.ref h.length), some (.ref H2.length), some (.int k), some (TI bk xs), ?z, some (TI false (scl c xs)), v], H, .inl ?_, rfl, k + 1, _, _, _, _, _, lt, rfl, rfl⟩
            case z => exact if k + 1 < R.length then some (.int ((R.length - 1 : Nat) : Int)) else z
            simp -implicitDefEqProofs only [evE, evEs, evOE, evT, evL, evI, evS, evSs, bind_ok, bind_ex, cal_fn, start0, List.map_cons, List.map_nil, List.length_cons, List.length_nil, List.cons_append, List.nil_append, Nat.reduceAdd, Nat.reduceSub, List.replicate_succ, List.replicate_zero, List.getElem?_cons_zero, List.getElem?_cons_succ, List.set_cons_zero, List.set_cons_succ, setF, Nat.reduceLT, if_true, nxR, thenR, retR, iteK_t, iteK_f, afterB, wipeF, tgo, tgt, bindK_some, and_self, outR_rt, outR_nx, outR_ex, Bool.not_true, Bool.not_false, Bool.false_eq_true, if_false, gOk_nil, andK_t, andK_f, notR_b, truR_b, isT_int, isT_bool, isT_tup, cmp_eq, cmp_ne, cmp_lt, cmp_le, cmp_gt, cmp_ge, add_ok, sub_ok, neg_ok, someR, lit0, lit1, lit2, newR, decide_true, decide_false, len_tup, wl2, lenW, hcast, rng2_nat (a := k + 1) (b := R.length) H (by omega) (by omega)]
            generalize e2 : forLoop _ _ _ _ _ = r2
            have key2 : r2 = .ok (.nx [some (.tup b (wd W)), some (.ref h.length), some (.ref H2.length), some (.int k), some (TI bk xs), (if k + 1 < R.length then some (.int ((R.length - 1 : Nat) : Int)) else z), u, v]) H := by
              rw [← e2]
              clear e2
              refine forLoop_go (fun done rest δ H' => H' = H ∧ ∃ j z', k + 1 ≤ j ∧ j ≤ max (k + 1) R.length ∧ rest = (List.range (R.length - j)).map (fun (i : Nat) => D.int ((j + i : Nat) : Int)) ∧ δ = [some (.tup b (wd W)), some (.ref h.length), some (.ref H2.length), some (.int k), some (TI bk xs), z', u, v] ∧ z' = if k + 1 < j then some (.int ((j - 1 : Nat) : Int)) else z)
                (Q := fun r => r = .ok (.nx [some (.tup b (wd W)), some (.ref h.length), some (.ref H2.length), some (.int k), some (TI bk xs), (if k + 1 < R.length then some (.int ((R.length - 1 : Nat) : Int)) else z), u, v]) H) (fun _ _ _ _ _ => rfl) ?_ ?_ _ [] _ _ ⟨rfl, k + 1, z, Nat.le_refl _, by omega, rfl, rfl, by simp⟩
              · rintro done y rest δ H' ⟨rfl, j, z', h1, h2, h3, rfl, hz'⟩
                have jl : j < R.length := by
                  rcases Nat.lt_or_ge j R.length with c | c
                  · exact c
                  · rw [Nat.sub_eq_zero_of_le c] at h3
                    cases h3
                have e5 : R.length - j = (R.length - (j + 1)) + 1 := by omega
                rw [e5, List.range_succ_eq_map] at h3
                simp only [List.map_cons, List.map_map, List.cons.injEq, Nat.add_zero] at h3
                obtain ⟨rfl, rfl⟩ := h3
                have jW : j < W.length := by omega
                obtain ⟨bj, ys, hWj⟩ : ∃ bj ys, W[j] = (bj, ys) := ⟨_, _, rfl⟩
                have mj := memW (show W[j]? = some (bj, ys) by rw [List.getElem?_eq_getElem jW, hWj])
                have ym := List.mem_of_getElem? mj
                have hRj : R[j] = ys := (List.getElem?_eq_some_iff.mp mj).2
                have asc := List.pairwise_iff_getElem.mp hR.asc k j kR jl (by omega)
                have red := List.pairwise_iff_getElem.mp hR.red k j kR jl (by omega)
                rw [hRk, hRj] at asc red
                have iy : ixD (.tup b (wd W)) (.int j) H' = .ok (TI bj ys) H' := by
                  rw [ix_tup (by simpa using jW)]
                  simp [hWj]
                have cn : ¬ fn ys (leadN ys) ≤ fn xs (leadN ys) := by omega
                refine .inl ⟨[some (.tup b (wd W)), some (.ref h.length), some (.ref H2.length), some (.int k), some (TI bk xs), some (.int j), u, v], H', .inl ?_, rfl, j + 1, some (.int j), by omega, by omega, ?_, rfl, ?_⟩
                · simp -implicitDefEqProofs only [evE, evEs, evOE, evT, evL, evI, evS, evSs, bind_ok, bind_ex, cal_fn, start0, List.map_cons, List.map_nil, List.length_cons, List.length_nil, List.cons_append, List.nil_append, Nat.reduceAdd, Nat.reduceSub, List.replicate_succ, List.replicate_zero, List.getElem?_cons_zero, List.getElem?_cons_succ, List.set_cons_zero, List.set_cons_succ, setF, Nat.reduceLT, if_true, nxR, thenR, retR, iteK_t, iteK_f, afterB, wipeF, tgo, tgt, bindK_some, and_self, outR_rt, outR_nx, outR_ex, Bool.not_true, Bool.not_false, Bool.false_eq_true, if_false, gOk_nil, andK_t, andK_f, notR_b, truR_b, isT_int, isT_bool, isT_tup, cmp_eq, cmp_ne, cmp_lt, cmp_le, cmp_gt, cmp_ge, add_ok, sub_ok, neg_ok, someR, lit0, lit1, lit2, newR, decide_true, decide_false, lead_at at3 mj, ix_TI (b := bk) (xs := xs) (i := leadN ys) (h := H') (by rw [rx.1]; exact (hR.piv ys ym).1), iy, row_at mj, cn]
                · refine List.map_congr_left fun i _ => ?_
                  simp only [Function.comp_apply, Nat.succ_eq_add_one]
                  congr 1
                  omega
                · rw [if_pos (by omega)]
                  simp
              · rintro done δ H' ⟨rfl, j, z', h1, h2, h3, rfl, hz'⟩
                have e5 : R.length - j = 0 := by
                  rcases Nat.eq_zero_or_pos (R.length - j) with c | c
                  · exact c
                  · obtain ⟨m, hm⟩ : ∃ m, R.length - j = m + 1 := ⟨R.length - j - 1, by omega⟩
                    rw [hm, List.range_succ_eq_map] at h3
                    cases h3
                rw [hz']
                congr 6
                by_cases c1 : k + 1 < R.length
                · have : j = R.length := by omega
                  rw [if_pos c1, if_pos (by omega), this]
                · rw [if_neg c1, if_neg (by omega)]
            rw [key2]
            have cn : ¬ ((w : Int) < (w : Int)) := by omega
            simp -implicitDefEqProofs only [evE, evEs, evOE, evT, evL, evI, evS, evSs, bind_ok, bind_ex, cal_fn, start0, List.map_cons, List.map_nil, List.length_cons, List.length_nil, List.cons_append, List.nil_append, Nat.reduceAdd, Nat.reduceSub, List.replicate_succ, List.replicate_zero, List.getElem?_cons_zero, List.getElem?_cons_succ, List.set_cons_zero, List.set_cons_succ, setF, Nat.reduceLT, if_true, nxR, thenR, retR, iteK_t, iteK_f, afterB, wipeF, tgo, tgt, bindK_some, and_self, outR_rt, outR_nx, outR_ex, Bool.not_true, Bool.not_false, Bool.false_eq_true, if_false, gOk_nil, andK_t, andK_f, notR_b, truR_b, isT_int, isT_bool, isT_tup, cmp_eq, cmp_ne, cmp_lt, cmp_le, cmp_gt, cmp_ge, add_ok, sub_ok, neg_ok, someR, lit0, lit1, lit2, newR, decide_true, decide_false, TI, itOf_tup]
            rw [loopR_pure (J := ⟨ri xs, []⟩) (by rw [ri_len, rx.1]; unfold LIM; omega) rfl (fun d => match d with | .int x => some (.int (x * c % 65536)) | _ => none)]
            · have e6 : (ri xs).filterMap (fun d => match d with | .int x => some (D.int (x * c % 65536)) | _ => none) = ri (scl c xs) := by
                simp [scl, ri, List.filterMap_map, Function.comp_def, fmap_some]
              have er2 := er
              unfold TI at er2
              simp -implicitDefEqProofs only [evE, evEs, evOE, evT, evL, evI, evS, evSs, bind_ok, bind_ex, cal_fn, start0, List.map_cons, List.map_nil, List.length_cons, List.length_nil, List.cons_append, List.nil_append, Nat.reduceAdd, Nat.reduceSub, List.replicate_succ, List.replicate_zero, List.getElem?_cons_zero, List.getElem?_cons_succ, List.set_cons_zero, List.set_cons_succ, setF, Nat.reduceLT, if_true, nxR, thenR, retR, iteK_t, iteK_f, afterB, wipeF, tgo, tgt, bindK_some, and_self, outR_rt, outR_nx, outR_ex, Bool.not_true, Bool.not_false, Bool.false_eq_true, if_false, gOk_nil, andK_t, andK_f, notR_b, truR_b, isT_int, isT_bool, isT_tup, cmp_eq, cmp_ne, cmp_lt, cmp_le, cmp_gt, cmp_ge, add_ok, sub_ok, neg_ok, someR, lit0, lit1, lit2, newR, decide_true, decide_false, e6, blD_tuple, hcast, part_int, sl_rows b W (k + 1) lt H, er2]
              have ll2 := llead_ok S (n + 1) b' (lrestL (scl c xs) (R.drop (k + 1))) H
              unfold TI at ll2
              simp -implicitDefEqProofs only [evE, evEs, evOE, evT, evL, evI, evS, evSs, bind_ok, bind_ex, cal_fn, start0, List.map_cons, List.map_nil, List.length_cons, List.length_nil, List.cons_append, List.nil_append, Nat.reduceAdd, Nat.reduceSub, List.replicate_succ, List.replicate_zero, List.getElem?_cons_zero, List.getElem?_cons_succ, List.set_cons_zero, List.set_cons_succ, setF, Nat.reduceLT, if_true, nxR, thenR, retR, iteK_t, iteK_f, afterB, wipeF, tgo, tgt, bindK_some, and_self, outR_rt, outR_nx, outR_ex, Bool.not_true, Bool.not_false, Bool.false_eq_true, if_false, gOk_nil, andK_t, andK_f, notR_b, truR_b, isT_int, isT_bool, isT_tup, cmp_eq, cmp_ne, cmp_lt, cmp_le, cmp_gt, cmp_ge, add_ok, sub_ok, neg_ok, someR, lit0, lit1, lit2, newR, decide_true, decide_false, ll2, lz, l1, len_tup, ri_len, l2, cn]
            · intro d hd
              obtain ⟨i, hi, rfl⟩ := List.mem_map.mp hd
              simp -implicitDefEqProofs only [evE, evEs, evOE, evT, evL, evI, evS, evSs, bind_ok, bind_ex, cal_fn, start0, List.map_cons, List.map_nil, List.length_cons, List.length_nil, List.cons_append, List.nil_append, Nat.reduceAdd, Nat.reduceSub, List.replicate_succ, List.replicate_zero, List.getElem?_cons_zero, List.getElem?_cons_succ, List.set_cons_zero, List.set_cons_succ, setF, Nat.reduceLT, if_true, nxR, thenR, retR, iteK_t, iteK_f, afterB, wipeF, tgo, tgt, bindK_some, and_self, outR_rt, outR_nx, outR_ex, Bool.not_true, Bool.not_false, Bool.false_eq_true, if_false, gOk_nil, andK_t, andK_f, notR_b, truR_b, isT_int, isT_bool, isT_tup, cmp_eq, cmp_ne, cmp_lt, cmp_le, cmp_gt, cmp_ge, add_ok, sub_ok, neg_ok, someR, lit0, lit1, lit2, newR, decide_true, decide_false, pk, mul_ok H (mulOk_r (i := i) (j := c) (by omega) (by omega)), mod_pos _ H (show (0 : Int) < 65536 by decide)]
          · rintro done δ H ⟨rfl, k, x, y0, z, u, v, hk, hrest, rfl⟩
            exact ⟨_, rfl⟩
        obtain ⟨δ, rfl⟩ := key
        refine ⟨[O.lst (ri (leads R))] ++ [O.lst (ri (leads R))] ++ [O.lst (R.map fun r => D.int (65536 / fn r (leadN r)))], ?_⟩
        simp -implicitDefEqProofs only [evE, evEs, evOE, evT, evL, evI, evS, evSs, bind_ok, bind_ex, cal_fn, start0, List.map_cons, List.map_nil, List.length_cons, List.length_nil, List.cons_append, List.nil_append, Nat.reduceAdd, Nat.reduceSub, List.replicate_succ, List.replicate_zero, List.getElem?_cons_zero, List.getElem?_cons_succ, List.set_cons_zero, List.set_cons_succ, setF, Nat.reduceLT, if_true, nxR, thenR, retR, iteK_t, iteK_f, afterB, wipeF, tgo, tgt, bindK_some, and_self, outR_rt, outR_nx, outR_ex, Bool.not_true, Bool.not_false, Bool.false_eq_true, if_false, gOk_nil, andK_t, andK_f, notR_b, truR_b, isT_int, isT_bool, isT_tup, cmp_eq, cmp_ne, cmp_lt, cmp_le, cmp_gt, cmp_ge, add_ok, sub_ok, neg_ok, someR, lit0, lit1, lit2, newR, decide_true, decide_false]
        rw [eH3, eH2, eH1]
        simp
      · intro d hd
        obtain ⟨b1, xs, p, hp, rfl⟩ := zip_wd_mem hd
        have pp := (piv_at (memW hp)).pos
        have z : (65536 : Int) % fn xs (leadN xs) = 0 := Int.emod_eq_zero_of_dvd pp.2.2
        simp -implicitDefEqProofs only [evE, evEs, evOE, evT, evL, evI, evS, evSs, bind_ok, bind_ex, cal_fn, start0, List.map_cons, List.map_nil, List.length_cons, List.length_nil, List.cons_append, List.nil_append, Nat.reduceAdd, Nat.reduceSub, List.replicate_succ, List.replicate_zero, List.getElem?_cons_zero, List.getElem?_cons_succ, List.set_cons_zero, List.set_cons_succ, setF, Nat.reduceLT, if_true, nxR, thenR, retR, iteK_t, iteK_f, afterB, wipeF, tgo, tgt, bindK_some, and_self, outR_rt, outR_nx, outR_ex, Bool.not_true, Bool.not_false, Bool.false_eq_true, if_false, gOk_nil, andK_t, andK_f, notR_b, truR_b, isT_int, isT_bool, isT_tup, cmp_eq, cmp_ne, cmp_lt, cmp_le, cmp_gt, cmp_ge, add_ok, sub_ok, neg_ok, someR, lit0, lit1, lit2, newR, decide_true, decide_false, lead_at at3 (memW hp), row_at (memW hp), mod_pos 65536 H3 pp.1, z]
    · intro d hd
      obtain ⟨b1, xs, p, hp, rfl⟩ := zip_wd_mem hd
      have pp := (piv_at (memW hp)).pos
      simp -implicitDefEqProofs only [evE, evEs, evOE, evT, evL, evI, evS, evSs, bind_ok, bind_ex, cal_fn, start0, List.map_cons, List.map_nil, List.length_cons, List.length_nil, List.cons_append, List.nil_append, Nat.reduceAdd, Nat.reduceSub, List.replicate_succ, List.replicate_zero, List.getElem?_cons_zero, List.getElem?_cons_succ, List.set_cons_zero, List.set_cons_succ, setF, Nat.reduceLT, if_true, nxR, thenR, retR, iteK_t, iteK_f, afterB, wipeF, tgo, tgt, bindK_some, and_self, outR_rt, outR_nx, outR_ex, Bool.not_true, Bool.not_false, Bool.false_eq_true, if_false, gOk_nil, andK_t, andK_f, notR_b, truR_b, isT_int, isT_bool, isT_tup, cmp_eq, cmp_ne, cmp_lt, cmp_le, cmp_gt, cmp_ge, add_ok, sub_ok, neg_ok, someR, lit0, lit1, lit2, newR, decide_true, decide_false, lead_at at2 (memW hp), row_at (memW hp), div_pos 65536 H2 pp.1 (log2_small pp.1 (by omega))]
      show _ = PI.R.ok (some (D.int (65536 / fn ((ints? (ri xs)).getD []) (leadN ((ints? (ri xs)).getD []))))) H2
      rw [Spans.ints_ri]
      rfl
  · intro x hx
    obtain ⟨p, hp, rfl⟩ := List.mem_map.mp hx
    simp -implicitDefEqProofs only [evE, evEs, evOE, evT, evL, evI, evS, evSs, bind_ok, bind_ex, cal_fn, start0, List.map_cons, List.map_nil, List.length_cons, List.length_nil, List.cons_append, List.nil_append, Nat.reduceAdd, Nat.reduceSub, List.replicate_succ, List.replicate_zero, List.getElem?_cons_zero, List.getElem?_cons_succ, List.set_cons_zero, List.set_cons_succ, setF, Nat.reduceLT, if_true, nxR, thenR, retR, iteK_t, iteK_f, afterB, wipeF, tgo, tgt, bindK_some, and_self, outR_rt, outR_nx, outR_ex, Bool.not_true, Bool.not_false, Bool.false_eq_true, if_false, gOk_nil, andK_t, andK_f, notR_b, truR_b, isT_int, isT_bool, isT_tup, cmp_eq, cmp_ne, cmp_lt, cmp_le, cmp_gt, cmp_ge, add_ok, sub_ok, neg_ok, someR, lit0, lit1, lit2, newR, decide_true, decide_false, llead_ok S]
    have e3 : ints? (ri p.2) = some p.2 := Spans.ints_ri _
    simp only [TI, e3]

section
variable {r : RIx}
/-- the dice stand first -/
def Dc (H : Hs) : Prop := ∃ a b, H[0]? = some (.lst [.int a, .int b])
theorem Dc.app {H : Hs} (d : Dc H) (t : Hs) : Dc (H ++ t) := by
  obtain ⟨a, b, e⟩ := d
  exact ⟨a, b, by rw [List.getElem?_append_left (List.getElem?_eq_some_iff.mp e).1]; exact e⟩
theorem Dc.pos {H : Hs} (d : Dc H) : 0 < H.length := by
  obtain ⟨a, b, e⟩ := d
  exact (List.getElem?_eq_some_iff.mp e).1
theorem Dc.eq {H : Hs} (d : Dc H) : ∃ a b, H = dset H 0 a b := by
  have p := d.pos
  obtain ⟨a, b, e⟩ := d
  refine ⟨a, b, ?_⟩
  unfold dset
  rw [← (List.getElem?_eq_some_iff.mp e).2]
  exact (List.set_getElem_self p).symm
theorem Dc.dset {H : Hs} (p : 0 < H.length) (a b : Int) : Dc (dset H 0 a b) := ⟨a, b, dset_at p⟩
theorem dset_other {H : Hs} {a b : Int} {k : Nat} (hk : k ≠ 0) : (dset H 0 a b)[k]? = H[k]? := by
  unfold dset
  rw [List.getElem?_set_ne (Ne.symm hk)]
theorem dset_len {H : Hs} {a b : Int} : (dset H 0 a b).length = H.length := by simp [dset]
theorem roll_D (R : RAt pg r) (n : Nat) {H : Hs} (d : Dc H) {m : Int} (hm : 0 < m) (hm2 : m < 2 ^ 64) : ∃ q a b, 0 ≤ q ∧ q < m ∧ callI pg (n + 2) r.roll [.ref 0, .int m] H = .ok (.int q) (dset H 0 a b) := by
  obtain ⟨a, b, e⟩ := d
  exact roll_at R n e hm hm2
theorem word_D (R : RAt pg r) (n : Nat) {H : Hs} (d : Dc H) : ∃ q a b, 0 ≤ q ∧ q < 65536 ∧ callI pg (n + 3) r.lword [.ref 0] H = .ok (.int q) (dset H 0 a b) := by
  obtain ⟨a, b, e⟩ := d
  exact word_ok R n e
theorem rows_D (R : RAt pg r) (n : Nat) {H : Hs} (d : Dc H) {w m : Nat} (hw : w ≤ 1000) (hm : m ≤ 1000) :
    ∃ W a b, (∀ p ∈ W, Row w p.2) ∧ W.length ≤ m ∧ callI pg (n + 5) r.lrows [.ref 0, .int w, .int m] H = .ok (.tup false (wd W)) (dset H 0 a b) := by
  obtain ⟨a, b, e⟩ := d.eq
  obtain ⟨W, a', b', h1, h2, h3⟩ := rows_draw R n d.pos a b hw hm
  rw [← e] at h3
  exact ⟨W, a', b', h1, h2, h3⟩
/-! forms of rows told in another way -/
theorem eqv_set {R : List (List Int)} {a : Nat} (ha : a < R.length) {z : List Int} (h1 : Sp (GL R) (fn z)) (h2 : Sp (GL (R.set a z)) (fn R[a])) : Eqv (GL (R.set a z)) (GL R) := by
  refine Eqv.of (fun g ⟨x, hx, e⟩ => ?_) fun g ⟨x, hx, e⟩ => ?_
  · subst e
    rcases List.mem_or_eq_of_mem_set hx with h | h
    · exact .gen ⟨x, h, rfl⟩
    · rw [h]; exact h1
  · subst e
    obtain ⟨i, hi, rfl⟩ := List.getElem_of_mem hx
    by_cases c : i = a
    · subst c; exact h2
    · refine .gen ⟨R[i], ?_, rfl⟩
      refine List.mem_iff_getElem.mpr ⟨i, by simpa using hi, ?_⟩
      rw [List.getElem_set_ne (Ne.symm c)]
theorem eqv_rev (R : List (List Int)) : Eqv (GL R.reverse) (GL R) := Eqv.of (fun g ⟨x, hx, e⟩ => .gen ⟨x, List.mem_reverse.mp hx, e⟩) fun g ⟨x, hx, e⟩ => .gen ⟨x, List.mem_reverse.mpr hx, e⟩
theorem row_eq {w : Nat} {xs ys : List Int} (hx : Row w xs) (hy : Row w ys) (h : ∀ i, i < w → (65536 : Int) ∣ fn xs i - fn ys i) : xs = ys := by
  refine fn_ext (hx.1.trans hy.1.symm) fun i => ?_
  rcases Nat.lt_or_ge i w with c | c
  · have a := hx.bd i
    have b := hy.bd i
    have := small_dvd (h i c) (by decide) (by omega) (by omega)
    omega
  · rw [fn_out (by rw [hx.1]; exact c), fn_out (by rw [hy.1]; exact c)]
theorem wd_inj {W V : List (Bool × List Int)} : Rws W = Rws V → True := fun _ => trivial
/-- the sum with one row added to another -/
theorem sp_of_comb {R : List (List Int)} {c : Nat → Int} {zs : List Int} (h : ∀ i, (65536 : Int) ∣ fn zs i - comb R c i) : Sp (GL R) (fn zs) := Sp.cg (u := fun i => comb R c i) (fun i => by obtain ⟨k, hk⟩ := h i; exact ⟨-k, by grind⟩) (comb_sp R c)
end

end Rl
end WP
namespace WP
open PySem PI
namespace Rl
variable {pg : Pg} {s : Spans.Ix} {r : RIx}
theorem lrest_sub {w : Nat} : ∀ {R : List (List Int)} {x : List Int}, (∀ q ∈ R, Row w q) → Row w x → Row w (lrestL x R) ∧ Sp (GL R) (fun i => fn x i - fn (lrestL x R) i)
  | [], x, _, hx => ⟨hx, Sp.congr (fun i => by simp [lrestL]) .zero⟩
  | q :: R, x, hR, hx => by
    have h2 : ∀ q ∈ R, Row w q := fun y hy => hR y (List.mem_cons_of_mem _ hy)
    have up : ∀ {v}, Sp (GL R) v → Sp (GL (q :: R)) v := Sp.mono fun g ⟨y, hy, e⟩ => .gen ⟨y, List.mem_cons_of_mem _ hy, e⟩
    unfold lrestL
    split
    · have hq := hR q List.mem_cons_self
      have rl := row_les (fn x (leadN q) / fn q (leadN q)) hx.1 hq.1
      obtain ⟨a, b⟩ := lrest_sub h2 rl
      refine ⟨a, Sp.cg (u := fun i => (fn (les (fn x (leadN q) / fn q (leadN q)) x q) i - fn (lrestL (les (fn x (leadN q) / fn q (leadN q)) x q) R) i) + (fn x (leadN q) / fn q (leadN q)) * fn q i) (fun i => ?_) (Sp.lin _ (up b) (.gen ⟨q, List.mem_cons_self, rfl⟩))⟩
      rw [fn_les _ (by rw [hx.1, hq.1])]
      obtain ⟨k, hk⟩ := dvd_mod (fn x i - fn x (leadN q) / fn q (leadN q) * fn q i)
      exact ⟨k, by grind⟩
    · obtain ⟨a, b⟩ := lrest_sub h2 hx
      exact ⟨a, up b⟩
/-- in the span just if nothing is left, told by the law -/
theorem lrest_iff {w : Nat} {Q : List (List Int)} (hQ : HF w Q) {x : List Int} (hx : Row w x) : leadN (lrestL x Q) = w ↔ Sp (GL Q) (fn x) := by
  obtain ⟨a, b⟩ := lrest_sub hQ.row hx
  have lz := leadN_zero (xs := lrestL x Q)
  rw [a.1] at lz
  rw [lz]
  constructor
  · intro z
    exact b.congr fun i => by rw [z i]; omega
  · intro sx
    exact (lrest_zero hQ hx sx).2
def fLproduct : Fn := ⟨"_law_product", ["_law_row_here", "_law_other"], ["_law_row_here", "_law_other", "_law_at", "_law_one"], (.cons (.ret (.bin .mod (.bl .sum (.compU (.two 2 3) (.enum (.var 0)) [2, 3] (.bin .mul (.var 3) (.ix (.var 1) (.var 2))))) (.con (.int 65536)))) .nil)⟩
theorem sum_dot (xs : List Int) (v : Vc) : ((xs.zipIdx 0).map fun p => p.1 * v p.2).sum = dotN xs.length (fn xs) v := by
  induction xs using WP.snoc_ind with
  | h0 => rfl
  | h1 l a ih =>
    rw [List.zipIdx_append, List.map_append, List.sum_append, List.length_append]
    simp only [List.length_singleton, dotN]
    have e1 : dotN l.length (fn (l ++ [a])) v = dotN l.length (fn l) v := dotN_ext fun i hi => by rw [fn_app, if_pos hi]
    have e2 : fn (l ++ [a]) l.length = a := by rw [fn_app, if_neg (by omega), Nat.sub_self]; rfl
    rw [e1, e2, ← ih]
    simp
theorem blD_sum (ns : List Int) (h : Hs) : blD .sum (ri ns) h = .ok (.int ns.sum) h := by
  show (match ints? (ri ns) with | some ns => R.ok (D.int ns.sum) h | none => .no) = _
  rw [Spans.ints_ri]
theorem lproduct_ok {i : Nat} (e0 : pg.fns[i]? = some fLproduct) (n : Nat) {w : Nat} (hw : w ≤ 1000) {xs ys : List Int} (hx : Row w xs) (hy : Row w ys) (b c : Bool) (h : Hs) :
    callI pg (n + 1) i [TI b xs, TI c ys] h = .ok (.int (dotN w (fn xs) (fn ys) % 65536)) h := by
  rw [callI_of e0 rfl]
  unfold fLproduct
  simp -implicitDefEqProofs only [evE, evEs, evOE, evT, evL, evI, evS, evSs, bind_ok, bind_ex, cal_fn, start0, List.map_cons, List.map_nil, List.length_cons, List.length_nil, List.cons_append, List.nil_append, Nat.reduceAdd, Nat.reduceSub, List.replicate_succ, List.replicate_zero, List.getElem?_cons_zero, List.getElem?_cons_succ, List.set_cons_zero, List.set_cons_succ, setF, Nat.reduceLT, if_true, nxR, thenR, retR, iteK_t, iteK_f, afterB, wipeF, tgo, tgt, bindK_some, and_self, outR_rt, outR_nx, outR_ex, Bool.not_true, Bool.not_false, Bool.false_eq_true, if_false, gOk_nil, andK_t, andK_f, notR_b, truR_b, isT_int, isT_bool, isT_tup, cmp_eq, cmp_ne, cmp_lt, cmp_le, cmp_gt, cmp_ge, add_ok, sub_ok, neg_ok, someR, lit0, lit1, lit2, newR, decide_true, decide_false, TI, itEnum_tup]
  rw [loopR_pure (J := ⟨(ri xs).zipIdx.map fun p => .tup false [.int p.2, p.1], []⟩) (by simp [ri]; rw [hx.1]; unfold LIM; omega) rfl (fun d => match d with | .tup _ [.int k, .int x] => some (.int (x * fn ys k.toNat)) | _ => none)]
  · have e1 := zip_ri xs 0 (fun x p => x * fn ys p) (fun d => match d with | .tup _ [.int k, .int x] => some (.int (x * fn ys k.toNat)) | _ => none) fun x p => by simp
    simp -implicitDefEqProofs only [evE, evEs, evOE, evT, evL, evI, evS, evSs, bind_ok, bind_ex, cal_fn, start0, List.map_cons, List.map_nil, List.length_cons, List.length_nil, List.cons_append, List.nil_append, Nat.reduceAdd, Nat.reduceSub, List.replicate_succ, List.replicate_zero, List.getElem?_cons_zero, List.getElem?_cons_succ, List.set_cons_zero, List.set_cons_succ, setF, Nat.reduceLT, if_true, nxR, thenR, retR, iteK_t, iteK_f, afterB, wipeF, tgo, tgt, bindK_some, and_self, outR_rt, outR_nx, outR_ex, Bool.not_true, Bool.not_false, Bool.false_eq_true, if_false, gOk_nil, andK_t, andK_f, notR_b, truR_b, isT_int, isT_bool, isT_tup, cmp_eq, cmp_ne, cmp_lt, cmp_le, cmp_gt, cmp_ge, add_ok, sub_ok, neg_ok, someR, lit0, lit1, lit2, newR, decide_true, decide_false, e1, blD_sum, mod_pos _ h (show (0 : Int) < 65536 by decide)]
    rw [sum_dot, hx.1]
  · intro d hd
    obtain ⟨x, p, h1, rfl, rfl⟩ := zip_mem hd
    have ix : ixD (.tup c (ri ys)) (.int p) h = .ok (.int (fn ys p)) h := ix_TI (b := c) (by rw [hy.1, ← hx.1]; exact h1)
    have := hy.bd p
    simp -implicitDefEqProofs only [evE, evEs, evOE, evT, evL, evI, evS, evSs, bind_ok, bind_ex, cal_fn, start0, List.map_cons, List.map_nil, List.length_cons, List.length_nil, List.cons_append, List.nil_append, Nat.reduceAdd, Nat.reduceSub, List.replicate_succ, List.replicate_zero, List.getElem?_cons_zero, List.getElem?_cons_succ, List.set_cons_zero, List.set_cons_succ, setF, Nat.reduceLT, if_true, nxR, thenR, retR, iteK_t, iteK_f, afterB, wipeF, tgo, tgt, bindK_some, and_self, outR_rt, outR_nx, outR_ex, Bool.not_true, Bool.not_false, Bool.false_eq_true, if_false, gOk_nil, andK_t, andK_f, notR_b, truR_b, isT_int, isT_bool, isT_tup, cmp_eq, cmp_ne, cmp_lt, cmp_le, cmp_gt, cmp_ge, add_ok, sub_ok, neg_ok, someR, lit0, lit1, lit2, newR, decide_true, decide_false, ix, mul_ok h (mulOk_r (i := fn xs p) (j := fn ys p) (by omega) (by omega)), Int.toNat_natCast]
theorem cat_wd (b c : Bool) (W V : List (Bool × List Int)) (hl : W.length + V.length ≤ LIM) (h : Hs) : binD .add (.tup b (wd W)) (.tup c (wd V)) h = .ok (.tup false (wd (W ++ V))) h := by
  show (if (wd W).length + (wd V).length ≤ LIM then R.ok (D.tup false (wd W ++ wd V)) h else .no) = _
  rw [if_pos (by simpa using hl)]
  simp [wd]
/-- a row drawn; the dice stand first -/
theorem row_D (R : RAt pg r) (n : Nat) {H : Hs} (d : Dc H) {w : Nat} (hw : w ≤ 1000) :
    ∃ xs a b, Row w xs ∧ callI pg (n + 4) r.lrow [.ref 0, .int w] H = .ok (TI false xs) (dset H 0 a b) := by
  obtain ⟨a, b, e⟩ := d.eq
  obtain ⟨xs, a', b', h1, h3⟩ := row_draw R n d.pos a b hw
  rw [← e] at h3
  exact ⟨xs, a', b', h1, h3⟩
/-- words drawn, one for each thing of a tuple -/
theorem words_D (R : RAt pg r) (n : Nat) {H : Hs} (d : Dc H) {xs : List D} (hl : xs.length ≤ 1000) {f : D → Hs → PI.R (Option D)} (hf : ∀ x h, x ∈ xs → f x h = (callI pg (n + 3) r.lword [.ref 0] h).bind fun v h1 => .ok (some v) h1) :
    ∃ ns H', loopR f ⟨xs, []⟩ H = .ok (ri ns) H' ∧ Dc H' ∧ ns.length = xs.length ∧ ∀ x ∈ ns, 0 ≤ x ∧ x < 65536 := by
  obtain ⟨ds, H', e, p, l, q⟩ := loopR_go (f := f) (xs := xs) (by unfold LIM; omega) Dc (fun d => ∃ r, d = .int r ∧ 0 ≤ r ∧ r < 65536) (fun x hx h p => by
    obtain ⟨z, a, b, h1, h2, e⟩ := word_D R n p
    exact ⟨.int z, dset h 0 a b, by rw [hf x h hx, e]; rfl, Dc.dset p.pos a b, z, rfl, h1, h2⟩) H d
  obtain ⟨ns, rfl, hx⟩ : ∃ ns : List Int, ds = ri ns ∧ ∀ x ∈ ns, 0 ≤ x ∧ x < 65536 := by
    clear e l
    induction ds with
    | nil => exact ⟨[], rfl, fun x hx => by cases hx⟩
    | cons d r ih =>
      obtain ⟨xs, h1, h2⟩ := ih fun y hy => q y (List.mem_cons_of_mem _ hy)
      obtain ⟨z, rfl, h3⟩ := q d List.mem_cons_self
      exact ⟨z :: xs, by rw [h1]; rfl, fun x hx => by
        rcases List.mem_cons.mp hx with rfl | hx
        · exact h3
        · exact h2 x hx⟩
  exact ⟨ns, H', e, p, by simpa [ri_len] using l, hx⟩

end Rl
end WP
namespace WP
open PySem PI
namespace K03
def st0 (s : Spans.Ix) (r : Rl.RIx) (y : Spans.EIx) (i : Nat) : Sx := (.set 2 (.bin .add (.con (.int 1)) (.call r.roll (.cons (.var 1) (.cons (.con (.int 5)) .nil)))))
def st1 (s : Spans.Ix) (r : Rl.RIx) (y : Spans.EIx) (i : Nat) : Sx := (.set 3 (.call r.lrows (.cons (.var 1) (.cons (.var 2) (.cons (.con (.int 5)) .nil)))))
def st2 (s : Spans.Ix) (r : Rl.RIx) (y : Spans.EIx) (i : Nat) : Sx := (.set 4 (.call r.lrow (.cons (.var 1) (.cons (.var 2) .nil))))
def st3 (s : Spans.Ix) (r : Rl.RIx) (y : Spans.EIx) (i : Nat) : Sx := (.ifS (.of (.cmp .eq (.call r.roll (.cons (.var 1) (.cons (.con (.int 2)) .nil))) (.con (.int 0)))) (.cons (.set 4 (.call r.lsum (.cons (.var 3) (.cons (.newL (.compU (.one 7) (.of (.var 3)) [7] (.call r.lword (.cons (.var 1) .nil)))) (.cons (.var 2) .nil))))) .nil) .nil)
def st4 (s : Spans.Ix) (r : Rl.RIx) (y : Spans.EIx) (i : Nat) : Sx := (.set 5 (.cmp .eq (.call r.llead (.cons (.call r.lrest (.cons (.call s.form (.cons (.var 3) (.cons (.var 2) .nil))) (.cons (.var 4) .nil))) .nil)) (.var 2)))
def st5 (s : Spans.Ix) (r : Rl.RIx) (y : Spans.EIx) (i : Nat) : Sx := (.ifS (.of (.cmp .ne (.call y.contains (.cons (.var 3) (.cons (.var 2) (.cons (.var 4) .nil)))) (.var 5))) (.cons (.ret (.con (.bl false))) .nil) .nil)
def st6 (s : Spans.Ix) (r : Rl.RIx) (y : Spans.EIx) (i : Nat) : Sx := (.ifS (.of (.cmp .ne (.bl .all (.compU (.one 7) (.of (.call y.equations (.cons (.var 3) (.cons (.var 2) .nil)))) [7] (.cmp .eq (.call i (.cons (.var 7) (.cons (.var 4) .nil))) (.con (.int 0))))) (.var 5))) (.cons (.ret (.con (.bl false))) .nil) .nil)
def st7 (s : Spans.Ix) (r : Rl.RIx) (y : Spans.EIx) (i : Nat) : Sx := (.set 6 (.call s.multipliers (.cons (.var 3) (.cons (.var 2) (.cons (.var 4) .nil)))))
def st8 (s : Spans.Ix) (r : Rl.RIx) (y : Spans.EIx) (i : Nat) : Sx := (.ifS (.of (.cmp .ne (.cmp .isN (.var 6) (.con (.non))) (.notV (.var 5)))) (.cons (.ret (.con (.bl false))) .nil) .nil)
def st9 (s : Spans.Ix) (r : Rl.RIx) (y : Spans.EIx) (i : Nat) : Sx := (.ifS (.and (.of (.var 5)) (.of (.cmp .ne (.bi .len (.cons (.var 6) .nil)) (.bi .len (.cons (.var 3) .nil))))) (.cons (.ret (.con (.bl false))) .nil) .nil)
def st10 (s : Spans.Ix) (r : Rl.RIx) (y : Spans.EIx) (i : Nat) : Sx := (.ifS (.and (.of (.var 5)) (.of (.cmp .ne (.call r.lsum (.cons (.var 3) (.cons (.var 6) (.cons (.var 2) .nil)))) (.var 4)))) (.cons (.ret (.con (.bl false))) .nil) .nil)
def st11 (s : Spans.Ix) (r : Rl.RIx) (y : Spans.EIx) (i : Nat) : Sx := (.ifS (.not (.of (.bl .all (.compU (.one 7) (.of (.var 3)) [7] (.call y.contains (.cons (.var 3) (.cons (.var 2) (.cons (.var 7) .nil)))))))) (.cons (.ret (.con (.bl false))) .nil) .nil)
def st12 (s : Spans.Ix) (r : Rl.RIx) (y : Spans.EIx) (i : Nat) : Sx := (.ifS (.not (.of (.call y.contains (.cons (.var 3) (.cons (.var 2) (.cons (.bin .mul (.tup (.cons (.con (.int 0)) .nil)) (.var 2)) .nil)))))) (.cons (.ret (.con (.bl false))) .nil) .nil)
def st13 (s : Spans.Ix) (r : Rl.RIx) (y : Spans.EIx) (i : Nat) : Sx := (.ifS (.or (.of (.cmp .ne (.call s.sameSpan (.cons (.var 3) (.cons (.bin .add (.var 3) (.tup (.cons (.var 4) .nil))) (.cons (.var 2) .nil)))) (.var 5))) (.of (.cmp .ne (.call s.sameSpan (.cons (.bin .add (.var 3) (.tup (.cons (.var 4) .nil))) (.cons (.var 3) (.cons (.var 2) .nil)))) (.var 5)))) (.cons (.ret (.con (.bl false))) .nil) .nil)
def st14 (s : Spans.Ix) (r : Rl.RIx) (y : Spans.EIx) (i : Nat) : Sx := (.ifS (.or (.not (.of (.call y.contains (.cons (.tup (.cons (.tup (.cons (.con (.int 2)) (.cons (.con (.int 4)) .nil))) .nil)) (.cons (.con (.int 2)) (.cons (.tup (.cons (.con (.int 4)) (.cons (.con (.int 8)) .nil))) .nil)))))) (.of (.call y.contains (.cons (.tup (.cons (.tup (.cons (.con (.int 2)) (.cons (.con (.int 4)) .nil))) .nil)) (.cons (.con (.int 2)) (.cons (.tup (.cons (.con (.int 1)) (.cons (.con (.int 2)) .nil))) .nil)))))) (.cons (.ret (.con (.bl false))) .nil) .nil)
def st15 (s : Spans.Ix) (r : Rl.RIx) (y : Spans.EIx) (i : Nat) : Sx := (.ifS (.of (.cmp .notN (.call s.multipliers (.cons (.tup (.cons (.tup (.cons (.con (.int 2)) (.cons (.con (.int 0)) .nil))) .nil)) (.cons (.con (.int 2)) (.cons (.tup (.cons (.con (.int 1)) (.cons (.con (.int 0)) .nil))) .nil)))) (.con (.non)))) (.cons (.ret (.con (.bl false))) .nil) .nil)
def body (s : Spans.Ix) (r : Rl.RIx) (y : Spans.EIx) (i : Nat) : Ss := (.cons (st0 s r y i) (.cons (st1 s r y i) (.cons (st2 s r y i) (.cons (st3 s r y i) (.cons (st4 s r y i) (.cons (st5 s r y i) (.cons (st6 s r y i) (.cons (st7 s r y i) (.cons (st8 s r y i) (.cons (st9 s r y i) (.cons (st10 s r y i) (.cons (st11 s r y i) (.cons (st12 s r y i) (.cons (st13 s r y i) (.cons (st14 s r y i) (.cons (st15 s r y i) .nil))))))))))))))))

variable {pg : Pg} {s : Spans.Ix} {r : Rl.RIx} {y : Spans.EIx} {i : Nat}
open Rl
/-- what else of the program is spoken of -/
structure Yt (pg : Pg) (s : Spans.Ix) (r : Rl.RIx) (y : Spans.EIx) (i : Nat) : Prop where
  sameSpan : pg.fns[s.sameSpan]? = some (Spans.f_sameSpan s)
  multipliers : pg.fns[s.multipliers]? = some (Spans.f_multipliers s)
  lsum : pg.fns[r.lsum]? = some (Rl.f_lsum r)
  lproduct : pg.fns[i]? = some Rl.fLproduct
  ext : Spans.EAt pg s y
theorem row_eq' {w : Nat} {xs ys : List Int} (hx : Row w xs) (hy : Row w ys) (h : ∀ i, i < w → (65536 : Int) ∣ fn xs i - fn ys i) : xs = ys := Rl.row_eq hx hy h
abbrev Fs (w : Nat) (W : List (Bool × List Int)) (x4 x5 x6 x7 : Option D) : Fr := [none, some (.ref 0), some (.int (w : Int)), some (.tup false (wd W)), x4, x5, x6, x7]
theorem st0_ok (R : RAt pg r) (n wl : Nat) {H : Hs} (d : Dc H) {x2 x3 x4 x5 x6 x7 : Option D} :
    ∃ w a b, 0 < w ∧ w ≤ 5 ∧ evS (cal pg (n + 20)) wl (st0 s r y i) [none, some (.ref 0), x2, x3, x4, x5, x6, x7] H = .ok (.nx [none, some (.ref 0), some (.int ((w : Nat) : Int)), x3, x4, x5, x6, x7]) (dset H 0 a b) := by
  obtain ⟨q, a, b, h1, h2, e⟩ := roll_D R (n + 18) d (m := 5) (by decide) (by decide)
  obtain ⟨j, rfl⟩ : ∃ j : Nat, q = (j : Int) := ⟨q.toNat, by omega⟩
  refine ⟨1 + j, a, b, by omega, by omega, ?_⟩
  unfold st0
  simp -implicitDefEqProofs only [evE, evEs, evOE, evT, evL, evI, evS, evSs, bind_ok, bind_ex, cal_fn, start0, List.map_cons, List.map_nil, List.length_cons, List.length_nil, List.cons_append, List.nil_append, Nat.reduceAdd, Nat.reduceSub, List.replicate_succ, List.replicate_zero, List.getElem?_cons_zero, List.getElem?_cons_succ, List.set_cons_zero, List.set_cons_succ, setF, Nat.reduceLT, if_true, nxR, thenR, retR, iteK_t, iteK_f, afterB, wipeF, tgo, tgt, bindK_some, and_self, outR_rt, outR_nx, outR_ex, Bool.not_true, Bool.not_false, Bool.false_eq_true, if_false, gOk_nil, andK_t, andK_f, notR_b, truR_b, isT_int, isT_bool, isT_tup, cmp_eq, cmp_ne, cmp_lt, cmp_le, cmp_gt, cmp_ge, add_ok, sub_ok, neg_ok, someR, lit0, lit1, lit2, newR, decide_true, decide_false, e]
  simp
theorem st1_ok (R : RAt pg r) (n wl : Nat) {H : Hs} (d : Dc H) {w : Nat} (hw : w ≤ 5) {x3 x4 x5 x6 x7 : Option D} :
    ∃ W a b, (∀ p ∈ W, Row w p.2) ∧ W.length ≤ 5 ∧ evS (cal pg (n + 20)) wl (st1 s r y i) [none, some (.ref 0), some (.int (w : Int)), x3, x4, x5, x6, x7] H = .ok (.nx (Fs w W x4 x5 x6 x7)) (dset H 0 a b) := by
  obtain ⟨W, a, b, h1, h2, e⟩ := rows_D R (n + 15) d (w := w) (m := 5) (by omega) (by omega)
  refine ⟨W, a, b, h1, h2, ?_⟩
  have e : callI pg (n + 20) r.lrows [.ref 0, .int w, .int 5] H = .ok (.tup false (wd W)) (dset H 0 a b) := e
  unfold st1
  simp -implicitDefEqProofs only [evE, evEs, evOE, evT, evL, evI, evS, evSs, bind_ok, bind_ex, cal_fn, start0, List.map_cons, List.map_nil, List.length_cons, List.length_nil, List.cons_append, List.nil_append, Nat.reduceAdd, Nat.reduceSub, List.replicate_succ, List.replicate_zero, List.getElem?_cons_zero, List.getElem?_cons_succ, List.set_cons_zero, List.set_cons_succ, setF, Nat.reduceLT, if_true, nxR, thenR, retR, iteK_t, iteK_f, afterB, wipeF, tgo, tgt, bindK_some, and_self, outR_rt, outR_nx, outR_ex, Bool.not_true, Bool.not_false, Bool.false_eq_true, if_false, gOk_nil, andK_t, andK_f, notR_b, truR_b, isT_int, isT_bool, isT_tup, cmp_eq, cmp_ne, cmp_lt, cmp_le, cmp_gt, cmp_ge, add_ok, sub_ok, neg_ok, someR, lit0, lit1, lit2, newR, decide_true, decide_false, e]
theorem st2_ok (R : RAt pg r) (n wl : Nat) {H : Hs} (d : Dc H) {w : Nat} (hw : w ≤ 5) {W : List (Bool × List Int)} {x4 x5 x6 x7 : Option D} :
    ∃ x a b, Row w x ∧ evS (cal pg (n + 20)) wl (st2 s r y i) (Fs w W x4 x5 x6 x7) H = .ok (.nx (Fs w W (some (TI false x)) x5 x6 x7)) (dset H 0 a b) := by
  obtain ⟨x, a, b, h1, e⟩ := row_D R (n + 16) d (w := w) (by omega)
  refine ⟨x, a, b, h1, ?_⟩
  unfold st2
  simp -implicitDefEqProofs only [evE, evEs, evOE, evT, evL, evI, evS, evSs, bind_ok, bind_ex, cal_fn, start0, List.map_cons, List.map_nil, List.length_cons, List.length_nil, List.cons_append, List.nil_append, Nat.reduceAdd, Nat.reduceSub, List.replicate_succ, List.replicate_zero, List.getElem?_cons_zero, List.getElem?_cons_succ, List.set_cons_zero, List.set_cons_succ, setF, Nat.reduceLT, if_true, nxR, thenR, retR, iteK_t, iteK_f, afterB, wipeF, tgo, tgt, bindK_some, and_self, outR_rt, outR_nx, outR_ex, Bool.not_true, Bool.not_false, Bool.false_eq_true, if_false, gOk_nil, andK_t, andK_f, notR_b, truR_b, isT_int, isT_bool, isT_tup, cmp_eq, cmp_ne, cmp_lt, cmp_le, cmp_gt, cmp_ge, add_ok, sub_ok, neg_ok, someR, lit0, lit1, lit2, newR, decide_true, decide_false, e]
theorem st3_ok (R : RAt pg r) (Y : Yt pg s r y i) (n wl : Nat) {H : Hs} (d : Dc H) {w : Nat} (hw0 : 0 < w) (hw : w ≤ 5) {W : List (Bool × List Int)} (hl : W.length ≤ 5) (hr : ∀ p ∈ W, Row w p.2) {x : List Int} (hx : Row w x) {x5 x6 x7 : Option D} :
    ∃ z H', Row w z ∧ Dc H' ∧ evS (cal pg (n + 20)) wl (st3 s r y i) (Fs w W (some (TI false x)) x5 x6 x7) H = .ok (.nx (Fs w W (some (TI false z)) x5 x6 x7)) H' := by
  obtain ⟨q, a, b, h1, h2, e⟩ := roll_D R (n + 18) d (m := 2) (by decide) (by decide)
  have d1 := Dc.dset d.pos a b
  by_cases c : q = 0
  · subst c
    unfold st3
    simp -implicitDefEqProofs only [evE, evEs, evOE, evT, evL, evI, evS, evSs, bind_ok, bind_ex, cal_fn, start0, List.map_cons, List.map_nil, List.length_cons, List.length_nil, List.cons_append, List.nil_append, Nat.reduceAdd, Nat.reduceSub, List.replicate_succ, List.replicate_zero, List.getElem?_cons_zero, List.getElem?_cons_succ, List.set_cons_zero, List.set_cons_succ, setF, Nat.reduceLT, if_true, nxR, thenR, retR, iteK_t, iteK_f, afterB, wipeF, tgo, tgt, bindK_some, and_self, outR_rt, outR_nx, outR_ex, Bool.not_true, Bool.not_false, Bool.false_eq_true, if_false, gOk_nil, andK_t, andK_f, notR_b, truR_b, isT_int, isT_bool, isT_tup, cmp_eq, cmp_ne, cmp_lt, cmp_le, cmp_gt, cmp_ge, add_ok, sub_ok, neg_ok, someR, lit0, lit1, lit2, newR, decide_true, decide_false, e, itOf_tup]
    generalize e2 : loopR _ _ _ = rr
    have key : ∃ ns H', rr = .ok (ri ns) H' ∧ Dc H' ∧ ns.length = (wd W).length ∧ ∀ x ∈ ns, 0 ≤ x ∧ x < 65536 := by
      rw [← e2]
      exact words_D R (n + 17) d1 (by simp; omega) (fun x h _ => rfl)
    obtain ⟨ns, H1, rfl, d2, l1, b1⟩ := key
    have rn : Row W.length ns := ⟨by simpa using l1, b1⟩
    obtain ⟨zs, e3, rz, hz⟩ := lsum_ok Y.lsum (n + 19) (w := w) (by omega) (by omega) hr (fun j => fn ns j) (fun j hj => rn.bd j) (.tup false (wd W)) (.ref H1.length) (H1 ++ [O.lst (ri ns)]) [] (itEnum_tup _ _ _) rfl (fun j hj => by
      rw [ix_lst (xs := ri ns) (by simp) (by rw [ri_len, rn.1]; exact hj)]
      simp [ri, fn_at (show j < ns.length by rw [rn.1]; exact hj)])
    refine ⟨zs, H1 ++ [O.lst (ri ns)], rz, d2.app _, ?_⟩
    simp -implicitDefEqProofs only [evE, evEs, evOE, evT, evL, evI, evS, evSs, bind_ok, bind_ex, cal_fn, start0, List.map_cons, List.map_nil, List.length_cons, List.length_nil, List.cons_append, List.nil_append, Nat.reduceAdd, Nat.reduceSub, List.replicate_succ, List.replicate_zero, List.getElem?_cons_zero, List.getElem?_cons_succ, List.set_cons_zero, List.set_cons_succ, setF, Nat.reduceLT, if_true, nxR, thenR, retR, iteK_t, iteK_f, afterB, wipeF, tgo, tgt, bindK_some, and_self, outR_rt, outR_nx, outR_ex, Bool.not_true, Bool.not_false, Bool.false_eq_true, if_false, gOk_nil, andK_t, andK_f, notR_b, truR_b, isT_int, isT_bool, isT_tup, cmp_eq, cmp_ne, cmp_lt, cmp_le, cmp_gt, cmp_ge, add_ok, sub_ok, neg_ok, someR, lit0, lit1, lit2, newR, decide_true, decide_false, e3]
  · refine ⟨x, dset H 0 a b, hx, d1, ?_⟩
    unfold st3
    simp -implicitDefEqProofs only [evE, evEs, evOE, evT, evL, evI, evS, evSs, bind_ok, bind_ex, cal_fn, start0, List.map_cons, List.map_nil, List.length_cons, List.length_nil, List.cons_append, List.nil_append, Nat.reduceAdd, Nat.reduceSub, List.replicate_succ, List.replicate_zero, List.getElem?_cons_zero, List.getElem?_cons_succ, List.set_cons_zero, List.set_cons_succ, setF, Nat.reduceLT, if_true, nxR, thenR, retR, iteK_t, iteK_f, afterB, wipeF, tgo, tgt, bindK_some, and_self, outR_rt, outR_nx, outR_ex, Bool.not_true, Bool.not_false, Bool.false_eq_true, if_false, gOk_nil, andK_t, andK_f, notR_b, truR_b, isT_int, isT_bool, isT_tup, cmp_eq, cmp_ne, cmp_lt, cmp_le, cmp_gt, cmp_ge, add_ok, sub_ok, neg_ok, someR, lit0, lit1, lit2, newR, decide_true, decide_false, e, c]

theorem rowsP {Q : List (List Int)} {w : Nat} (hQ : HF w Q) : ∀ p ∈ Spans.fw Q, Row w p.2 ∧ leadN p.2 < w ∧ 0 < fn p.2 (leadN p.2) := fun q hq => by
  obtain ⟨y, hy, rfl⟩ := List.mem_map.mp hq
  exact ⟨hQ.row y hy, (hQ.piv y hy).1, (hQ.piv y hy).2.pos.1⟩
theorem st4_ok (S : Spans.At pg s) (R : RAt pg r) (n wl : Nat) {H : Hs} {w : Nat} (hw0 : 0 < w) (hw : w ≤ 5) {W : List (Bool × List Int)} (hl : W.length ≤ 5) (hr : ∀ p ∈ W, Row w p.2) {x : List Int} (hx : Row w x) {x5 x6 x7 : Option D} :
    ∃ v t, (v = true ↔ Sp (GL (Rws W)) (fn x)) ∧ evS (cal pg (n + 20)) wl (st4 s r y i) (Fs w W (some (TI false x)) x5 x6 x7) H = .ok (.nx (Fs w W (some (TI false x)) (some (.bl v)) x6 x7)) (H ++ t) := by
  obtain ⟨Q, t, e, h1, h2⟩ := Spans.form_ok S (n + 11) hw0 (by omega) (by omega) hr false H
  obtain ⟨b', e2⟩ := lrest_ok R (n + 18) (w := w) (by omega) hx false (Spans.fw Q) (rowsP h1) (.tup false (wd (Spans.fw Q))) (H ++ t) [] rfl rfl
  rw [Spans.fw_rws] at e2
  refine ⟨decide (leadN (lrestL x Q) = w), t, ?_, ?_⟩
  · rw [decide_eq_true_iff, lrest_iff h1 hx]
    exact h2 _
  · unfold st4
    simp -implicitDefEqProofs only [evE, evEs, evOE, evT, evL, evI, evS, evSs, bind_ok, bind_ex, cal_fn, start0, List.map_cons, List.map_nil, List.length_cons, List.length_nil, List.cons_append, List.nil_append, Nat.reduceAdd, Nat.reduceSub, List.replicate_succ, List.replicate_zero, List.getElem?_cons_zero, List.getElem?_cons_succ, List.set_cons_zero, List.set_cons_succ, setF, Nat.reduceLT, if_true, nxR, thenR, retR, iteK_t, iteK_f, afterB, wipeF, tgo, tgt, bindK_some, and_self, outR_rt, outR_nx, outR_ex, Bool.not_true, Bool.not_false, Bool.false_eq_true, if_false, gOk_nil, andK_t, andK_f, notR_b, truR_b, isT_int, isT_bool, isT_tup, cmp_eq, cmp_ne, cmp_lt, cmp_le, cmp_gt, cmp_ge, add_ok, sub_ok, neg_ok, someR, lit0, lit1, lit2, newR, decide_true, decide_false, e, e2, llead_ok R]
    have : ((leadN (lrestL x Q) : Int) = (w : Int)) ↔ leadN (lrestL x Q) = w := by omega
    simp only [this]
theorem ne_bl (a b : Bool) (h : Hs) : cmpD .ne (.bl a) (.bl b) h = .ok (.bl (a != b)) h := by
  cases a <;> cases b <;> rfl
theorem iff_eq {a b : Bool} {p : Prop} (h : a = true ↔ p) (k : b = true ↔ p) : a = b := by
  cases a <;> cases b <;> simp_all
theorem st5_ok (S : Spans.At pg s) (Y : Yt pg s r y i) (n wl : Nat) {H : Hs} {w : Nat} (hw0 : 0 < w) (hw : w ≤ 5) {W : List (Bool × List Int)} (hl : W.length ≤ 5) (hr : ∀ p ∈ W, Row w p.2) {x : List Int} (hx : Row w x) {v : Bool} (hv : v = true ↔ Sp (GL (Rws W)) (fn x)) {x6 x7 : Option D} :
    ∃ t, evS (cal pg (n + 20)) wl (st5 s r y i) (Fs w W (some (TI false x)) (some (.bl v)) x6 x7) H = .ok (.nx (Fs w W (some (TI false x)) (some (.bl v)) x6 x7)) (H ++ t) := by
  obtain ⟨t, u, e, h1⟩ := Spans.contains_ok S Y.ext (n + 11) hw0 (show w ≤ 16 by omega) (by omega) hr false false hx H
  obtain rfl := iff_eq h1 hv
  refine ⟨t, ?_⟩
  unfold st5
  simp -implicitDefEqProofs only [evE, evEs, evOE, evT, evL, evI, evS, evSs, bind_ok, bind_ex, cal_fn, start0, List.map_cons, List.map_nil, List.length_cons, List.length_nil, List.cons_append, List.nil_append, Nat.reduceAdd, Nat.reduceSub, List.replicate_succ, List.replicate_zero, List.getElem?_cons_zero, List.getElem?_cons_succ, List.set_cons_zero, List.set_cons_succ, setF, Nat.reduceLT, if_true, nxR, thenR, retR, iteK_t, iteK_f, afterB, wipeF, tgo, tgt, bindK_some, and_self, outR_rt, outR_nx, outR_ex, Bool.not_true, Bool.not_false, Bool.false_eq_true, if_false, gOk_nil, andK_t, andK_f, notR_b, truR_b, isT_int, isT_bool, isT_tup, cmp_eq, cmp_ne, cmp_lt, cmp_le, cmp_gt, cmp_ge, add_ok, sub_ok, neg_ok, someR, lit0, lit1, lit2, newR, decide_true, decide_false, e, ne_bl, bne_self_eq_false]
theorem st6_ok (S : Spans.At pg s) (Y : Yt pg s r y i) (n wl : Nat) {H : Hs} {w : Nat} (hw0 : 0 < w) (hw : w ≤ 5) {W : List (Bool × List Int)} (hl : W.length ≤ 5) (hr : ∀ p ∈ W, Row w p.2) {x : List Int} (hx : Row w x) {v : Bool} (hv : v = true ↔ Sp (GL (Rws W)) (fn x)) {x6 x7 : Option D} :
    ∃ t, evS (cal pg (n + 20)) wl (st6 s r y i) (Fs w W (some (TI false x)) (some (.bl v)) x6 x7) H = .ok (.nx (Fs w W (some (TI false x)) (some (.bl v)) x6 x7)) (H ++ t) := by
  obtain ⟨P, t, e, h1, h2⟩ := Spans.equations_ok S Y.ext (n + 10) hw0 (show w ≤ 16 by omega) (by omega) hr false H
  obtain ⟨Q, _, _, hQ, q⟩ := Spans.form_ok S (n + 11) hw0 (show w ≤ 16 by omega) (by omega) hr false H
  have eT := (HF.tails h1).row
  obtain ⟨T, hT⟩ : ∃ T, T = tailsL P W.length := ⟨_, rfl⟩
  rw [← hT] at e eT
  have lT : T.length ≤ w := by rw [hT]; exact Spans.HF.len (HF.tails h1)
  refine ⟨t, ?_⟩
  unfold st6
  simp -implicitDefEqProofs only [evE, evEs, evOE, evT, evL, evI, evS, evSs, bind_ok, bind_ex, cal_fn, start0, List.map_cons, List.map_nil, List.length_cons, List.length_nil, List.cons_append, List.nil_append, Nat.reduceAdd, Nat.reduceSub, List.replicate_succ, List.replicate_zero, List.getElem?_cons_zero, List.getElem?_cons_succ, List.set_cons_zero, List.set_cons_succ, setF, Nat.reduceLT, if_true, nxR, thenR, retR, iteK_t, iteK_f, afterB, wipeF, tgo, tgt, bindK_some, and_self, outR_rt, outR_nx, outR_ex, Bool.not_true, Bool.not_false, Bool.false_eq_true, if_false, gOk_nil, andK_t, andK_f, notR_b, truR_b, isT_int, isT_bool, isT_tup, cmp_eq, cmp_ne, cmp_lt, cmp_le, cmp_gt, cmp_ge, add_ok, sub_ok, neg_ok, someR, lit0, lit1, lit2, newR, decide_true, decide_false, e, itOf_tup]
  rw [loopR_pure (J := ⟨wd (Spans.fw T), []⟩) (by simp [Spans.fw]; unfold LIM; omega) rfl (fun d => match d with | .tup _ xs => (match ints? xs with | some l => some (.bl (decide (dotN w (fn l) (fn x) % 65536 = 0))) | none => none) | _ => none)]
  · have eb : ((wd (Spans.fw T)).filterMap fun d => match d with | .tup _ xs => (match ints? xs with | some l => some (D.bl (decide (dotN w (fn l) (fn x) % 65536 = 0))) | none => none) | _ => none) = (T.map fun l => decide (dotN w (fn l) (fn x) % 65536 = 0)).map D.bl := by
      clear e eT lT hT
      induction T with
      | nil => rfl
      | cons l T ih =>
        show List.filterMap _ (TI false l :: wd (Spans.fw T)) = _
        have e1 : ints? (ri l) = some l := Spans.ints_ri l
        rw [List.filterMap_cons, ih]
        simp only [TI, e1]
        rfl
    have ev' : (T.map fun l => decide (dotN w (fn l) (fn x) % 65536 = 0)).all id = v := by
      refine iff_eq (p := Sp (GL (Rws W)) (fn x)) ?_ hv
      rw [← eqs_iff (m := W.length) (Spans.rws_row hr) (by simp [Rws]) h1 h2 hQ q hx, ← hT, List.all_eq_true]
      constructor
      · intro h l hl
        have := h _ (List.mem_map.mpr ⟨l, hl, rfl⟩)
        simp only [id_eq, decide_eq_true_eq] at this
        exact Int.dvd_of_emod_eq_zero this
      · intro h b hb
        obtain ⟨l, hl, rfl⟩ := List.mem_map.mp hb
        simp only [id_eq, decide_eq_true_eq]
        exact Int.emod_eq_zero_of_dvd (h l hl)
    simp -implicitDefEqProofs only [evE, evEs, evOE, evT, evL, evI, evS, evSs, bind_ok, bind_ex, cal_fn, start0, List.map_cons, List.map_nil, List.length_cons, List.length_nil, List.cons_append, List.nil_append, Nat.reduceAdd, Nat.reduceSub, List.replicate_succ, List.replicate_zero, List.getElem?_cons_zero, List.getElem?_cons_succ, List.set_cons_zero, List.set_cons_succ, setF, Nat.reduceLT, if_true, nxR, thenR, retR, iteK_t, iteK_f, afterB, wipeF, tgo, tgt, bindK_some, and_self, outR_rt, outR_nx, outR_ex, Bool.not_true, Bool.not_false, Bool.false_eq_true, if_false, gOk_nil, andK_t, andK_f, notR_b, truR_b, isT_int, isT_bool, isT_tup, cmp_eq, cmp_ne, cmp_lt, cmp_le, cmp_gt, cmp_ge, add_ok, sub_ok, neg_ok, someR, lit0, lit1, lit2, newR, decide_true, decide_false, eb, blD_all, ev', ne_bl, bne_self_eq_false]
  · intro d hd
    obtain ⟨p, hp, rfl⟩ := List.mem_map.mp hd
    obtain ⟨l, hl, rfl⟩ := List.mem_map.mp hp
    have e1 : ints? (ri l) = some l := Spans.ints_ri l
    simp -implicitDefEqProofs only [evE, evEs, evOE, evT, evL, evI, evS, evSs, bind_ok, bind_ex, cal_fn, start0, List.map_cons, List.map_nil, List.length_cons, List.length_nil, List.cons_append, List.nil_append, Nat.reduceAdd, Nat.reduceSub, List.replicate_succ, List.replicate_zero, List.getElem?_cons_zero, List.getElem?_cons_succ, List.set_cons_zero, List.set_cons_succ, setF, Nat.reduceLT, if_true, nxR, thenR, retR, iteK_t, iteK_f, afterB, wipeF, tgo, tgt, bindK_some, and_self, outR_rt, outR_nx, outR_ex, Bool.not_true, Bool.not_false, Bool.false_eq_true, if_false, gOk_nil, andK_t, andK_f, notR_b, truR_b, isT_int, isT_bool, isT_tup, cmp_eq, cmp_ne, cmp_lt, cmp_le, cmp_gt, cmp_ge, add_ok, sub_ok, neg_ok, someR, lit0, lit1, lit2, newR, decide_true, decide_false, lproduct_ok Y.lproduct (n + 19) (w := w) (by omega) (eT l hl) hx false false]
    simp only [TI, e1]

/-- the factors: none, or the row's -/
def Fc (w : Nat) (W : List (Bool × List Int)) (x : List Int) (v : Bool) (d : D) : Prop := (v = false ∧ d = .non) ∨ (v = true ∧ ∃ ds, d = TI false ds ∧ Row W.length ds ∧ ∀ i, i < w → (65536 : Int) ∣ fn x i - comb (Rws W) (fun j => fn ds j) i)
theorem st7_ok (S : Spans.At pg s) (Y : Yt pg s r y i) (n wl : Nat) {H : Hs} {w : Nat} (hw0 : 0 < w) (hw : w ≤ 5) {W : List (Bool × List Int)} (hl : W.length ≤ 5) (hr : ∀ p ∈ W, Row w p.2) {x : List Int} (hx : Row w x) {v : Bool} (hv : v = true ↔ Sp (GL (Rws W)) (fn x)) {x6 x7 : Option D} :
    ∃ d t, Fc w W x v d ∧ evS (cal pg (n + 20)) wl (st7 s r y i) (Fs w W (some (TI false x)) (some (.bl v)) x6 x7) H = .ok (.nx (Fs w W (some (TI false x)) (some (.bl v)) (some d) x7)) (H ++ t) := by
  cases v with
  | true =>
    obtain ⟨ds, t, e, h1, h2⟩ := Spans.multipliers_ok S Y.multipliers (n + 11) hw0 (show w ≤ 16 by omega) (by omega) hr false false hx (hv.mp rfl) H
    refine ⟨TI false ds, t, .inr ⟨rfl, ds, rfl, h1, h2⟩, ?_⟩
    unfold st7
    simp -implicitDefEqProofs only [evE, evEs, evOE, evT, evL, evI, evS, evSs, bind_ok, bind_ex, cal_fn, start0, List.map_cons, List.map_nil, List.length_cons, List.length_nil, List.cons_append, List.nil_append, Nat.reduceAdd, Nat.reduceSub, List.replicate_succ, List.replicate_zero, List.getElem?_cons_zero, List.getElem?_cons_succ, List.set_cons_zero, List.set_cons_succ, setF, Nat.reduceLT, if_true, nxR, thenR, retR, iteK_t, iteK_f, afterB, wipeF, tgo, tgt, bindK_some, and_self, outR_rt, outR_nx, outR_ex, Bool.not_true, Bool.not_false, Bool.false_eq_true, if_false, gOk_nil, andK_t, andK_f, notR_b, truR_b, isT_int, isT_bool, isT_tup, cmp_eq, cmp_ne, cmp_lt, cmp_le, cmp_gt, cmp_ge, add_ok, sub_ok, neg_ok, someR, lit0, lit1, lit2, newR, decide_true, decide_false, e]
  | false =>
    obtain ⟨t, e⟩ := Spans.multipliers_none S Y.multipliers (n + 11) hw0 (show w ≤ 16 by omega) (by omega) hr false false hx (fun s => absurd (hv.mpr s) (by decide)) H
    refine ⟨.non, t, .inl ⟨rfl, rfl⟩, ?_⟩
    unfold st7
    simp -implicitDefEqProofs only [evE, evEs, evOE, evT, evL, evI, evS, evSs, bind_ok, bind_ex, cal_fn, start0, List.map_cons, List.map_nil, List.length_cons, List.length_nil, List.cons_append, List.nil_append, Nat.reduceAdd, Nat.reduceSub, List.replicate_succ, List.replicate_zero, List.getElem?_cons_zero, List.getElem?_cons_succ, List.set_cons_zero, List.set_cons_succ, setF, Nat.reduceLT, if_true, nxR, thenR, retR, iteK_t, iteK_f, afterB, wipeF, tgo, tgt, bindK_some, and_self, outR_rt, outR_nx, outR_ex, Bool.not_true, Bool.not_false, Bool.false_eq_true, if_false, gOk_nil, andK_t, andK_f, notR_b, truR_b, isT_int, isT_bool, isT_tup, cmp_eq, cmp_ne, cmp_lt, cmp_le, cmp_gt, cmp_ge, add_ok, sub_ok, neg_ok, someR, lit0, lit1, lit2, newR, decide_true, decide_false, e]
theorem isN_non (h : Hs) : cmpD .isN .non .non h = .ok (.bl true) h := rfl
theorem isN_TI (b : Bool) (xs : List Int) (h : Hs) : cmpD .isN (TI b xs) .non h = .ok (.bl false) h := rfl
theorem st8_ok (n wl : Nat) {H : Hs} {w : Nat} {W : List (Bool × List Int)} {x : List Int} {v : Bool} {d : D} (hd : Fc w W x v d) {x7 : Option D} :
    evS (cal pg (n + 20)) wl (st8 s r y i) (Fs w W (some (TI false x)) (some (.bl v)) (some d) x7) H = .ok (.nx (Fs w W (some (TI false x)) (some (.bl v)) (some d) x7)) H := by
  unfold st8
  rcases hd with ⟨rfl, rfl⟩ | ⟨rfl, ds, rfl, _, _⟩
  · simp -implicitDefEqProofs only [evE, evEs, evOE, evT, evL, evI, evS, evSs, bind_ok, bind_ex, cal_fn, start0, List.map_cons, List.map_nil, List.length_cons, List.length_nil, List.cons_append, List.nil_append, Nat.reduceAdd, Nat.reduceSub, List.replicate_succ, List.replicate_zero, List.getElem?_cons_zero, List.getElem?_cons_succ, List.set_cons_zero, List.set_cons_succ, setF, Nat.reduceLT, if_true, nxR, thenR, retR, iteK_t, iteK_f, afterB, wipeF, tgo, tgt, bindK_some, and_self, outR_rt, outR_nx, outR_ex, Bool.not_true, Bool.not_false, Bool.false_eq_true, if_false, gOk_nil, andK_t, andK_f, notR_b, truR_b, isT_int, isT_bool, isT_tup, cmp_eq, cmp_ne, cmp_lt, cmp_le, cmp_gt, cmp_ge, add_ok, sub_ok, neg_ok, someR, lit0, lit1, lit2, newR, decide_true, decide_false, isN_non, ne_bl, bne_self_eq_false]
  · simp -implicitDefEqProofs only [evE, evEs, evOE, evT, evL, evI, evS, evSs, bind_ok, bind_ex, cal_fn, start0, List.map_cons, List.map_nil, List.length_cons, List.length_nil, List.cons_append, List.nil_append, Nat.reduceAdd, Nat.reduceSub, List.replicate_succ, List.replicate_zero, List.getElem?_cons_zero, List.getElem?_cons_succ, List.set_cons_zero, List.set_cons_succ, setF, Nat.reduceLT, if_true, nxR, thenR, retR, iteK_t, iteK_f, afterB, wipeF, tgo, tgt, bindK_some, and_self, outR_rt, outR_nx, outR_ex, Bool.not_true, Bool.not_false, Bool.false_eq_true, if_false, gOk_nil, andK_t, andK_f, notR_b, truR_b, isT_int, isT_bool, isT_tup, cmp_eq, cmp_ne, cmp_lt, cmp_le, cmp_gt, cmp_ge, add_ok, sub_ok, neg_ok, someR, lit0, lit1, lit2, newR, decide_true, decide_false, isN_TI, ne_bl, bne_self_eq_false]
theorem st9_ok (n wl : Nat) {H : Hs} {w : Nat} {W : List (Bool × List Int)} {x : List Int} {v : Bool} {d : D} (hd : Fc w W x v d) {x7 : Option D} :
    evS (cal pg (n + 20)) wl (st9 s r y i) (Fs w W (some (TI false x)) (some (.bl v)) (some d) x7) H = .ok (.nx (Fs w W (some (TI false x)) (some (.bl v)) (some d) x7)) H := by
  unfold st9
  rcases hd with ⟨rfl, rfl⟩ | ⟨rfl, ds, rfl, h1, _⟩
  · simp -implicitDefEqProofs only [evE, evEs, evOE, evT, evL, evI, evS, evSs, bind_ok, bind_ex, cal_fn, start0, List.map_cons, List.map_nil, List.length_cons, List.length_nil, List.cons_append, List.nil_append, Nat.reduceAdd, Nat.reduceSub, List.replicate_succ, List.replicate_zero, List.getElem?_cons_zero, List.getElem?_cons_succ, List.set_cons_zero, List.set_cons_succ, setF, Nat.reduceLT, if_true, nxR, thenR, retR, iteK_t, iteK_f, afterB, wipeF, tgo, tgt, bindK_some, and_self, outR_rt, outR_nx, outR_ex, Bool.not_true, Bool.not_false, Bool.false_eq_true, if_false, gOk_nil, andK_t, andK_f, notR_b, truR_b, isT_int, isT_bool, isT_tup, cmp_eq, cmp_ne, cmp_lt, cmp_le, cmp_gt, cmp_ge, add_ok, sub_ok, neg_ok, someR, lit0, lit1, lit2, newR, decide_true, decide_false]
  · have e1 : biD .len [TI false ds] H = .ok (.int W.length) H := by
      rw [show TI false ds = .tup false (ri ds) from rfl, len_tup, ri_len, h1.1]
    have e2 : biD .len [.tup false (wd W)] H = .ok (.int W.length) H := by rw [len_tup]; simp
    simp -implicitDefEqProofs only [evE, evEs, evOE, evT, evL, evI, evS, evSs, bind_ok, bind_ex, cal_fn, start0, List.map_cons, List.map_nil, List.length_cons, List.length_nil, List.cons_append, List.nil_append, Nat.reduceAdd, Nat.reduceSub, List.replicate_succ, List.replicate_zero, List.getElem?_cons_zero, List.getElem?_cons_succ, List.set_cons_zero, List.set_cons_succ, setF, Nat.reduceLT, if_true, nxR, thenR, retR, iteK_t, iteK_f, afterB, wipeF, tgo, tgt, bindK_some, and_self, outR_rt, outR_nx, outR_ex, Bool.not_true, Bool.not_false, Bool.false_eq_true, if_false, gOk_nil, andK_t, andK_f, notR_b, truR_b, isT_int, isT_bool, isT_tup, cmp_eq, cmp_ne, cmp_lt, cmp_le, cmp_gt, cmp_ge, add_ok, sub_ok, neg_ok, someR, lit0, lit1, lit2, newR, decide_true, decide_false, e1, e2]
    simp [iteK_f]
theorem st10_ok (Y : Yt pg s r y i) (n wl : Nat) {H : Hs} {w : Nat} (hw0 : 0 < w) (hw : w ≤ 5) {W : List (Bool × List Int)} (hr : ∀ p ∈ W, Row w p.2) {x : List Int} (hx : Row w x) {v : Bool} {d : D} (hd : Fc w W x v d) {x7 : Option D} :
    evS (cal pg (n + 20)) wl (st10 s r y i) (Fs w W (some (TI false x)) (some (.bl v)) (some d) x7) H = .ok (.nx (Fs w W (some (TI false x)) (some (.bl v)) (some d) x7)) H := by
  unfold st10
  rcases hd with ⟨rfl, rfl⟩ | ⟨rfl, ds, rfl, h1, h2⟩
  · simp -implicitDefEqProofs only [evE, evEs, evOE, evT, evL, evI, evS, evSs, bind_ok, bind_ex, cal_fn, start0, List.map_cons, List.map_nil, List.length_cons, List.length_nil, List.cons_append, List.nil_append, Nat.reduceAdd, Nat.reduceSub, List.replicate_succ, List.replicate_zero, List.getElem?_cons_zero, List.getElem?_cons_succ, List.set_cons_zero, List.set_cons_succ, setF, Nat.reduceLT, if_true, nxR, thenR, retR, iteK_t, iteK_f, afterB, wipeF, tgo, tgt, bindK_some, and_self, outR_rt, outR_nx, outR_ex, Bool.not_true, Bool.not_false, Bool.false_eq_true, if_false, gOk_nil, andK_t, andK_f, notR_b, truR_b, isT_int, isT_bool, isT_tup, cmp_eq, cmp_ne, cmp_lt, cmp_le, cmp_gt, cmp_ge, add_ok, sub_ok, neg_ok, someR, lit0, lit1, lit2, newR, decide_true, decide_false]
  · obtain ⟨zs, e3, rz, hz⟩ := lsum_ok Y.lsum (n + 19) (w := w) (by omega) (by omega) hr (fun j => fn ds j) (fun j hj => h1.bd j) (.tup false (wd W)) (TI false ds) H [] (itEnum_tup _ _ _) rfl (fun j hj => ix_TI (by rw [h1.1]; exact hj))
    obtain rfl : zs = x := Rl.row_eq rz hx fun j hj => by
      obtain ⟨a, ha⟩ := hz j
      obtain ⟨b, hb⟩ := h2 j hj
      exact ⟨a - b, by omega⟩
    have n1 := cmp_neD (eqD_T false false zs zs H)
    rw [decide_eq_true rfl] at n1
    simp -implicitDefEqProofs only [evE, evEs, evOE, evT, evL, evI, evS, evSs, bind_ok, bind_ex, cal_fn, start0, List.map_cons, List.map_nil, List.length_cons, List.length_nil, List.cons_append, List.nil_append, Nat.reduceAdd, Nat.reduceSub, List.replicate_succ, List.replicate_zero, List.getElem?_cons_zero, List.getElem?_cons_succ, List.set_cons_zero, List.set_cons_succ, setF, Nat.reduceLT, if_true, nxR, thenR, retR, iteK_t, iteK_f, afterB, wipeF, tgo, tgt, bindK_some, and_self, outR_rt, outR_nx, outR_ex, Bool.not_true, Bool.not_false, Bool.false_eq_true, if_false, gOk_nil, andK_t, andK_f, notR_b, truR_b, isT_int, isT_bool, isT_tup, cmp_eq, cmp_ne, cmp_lt, cmp_le, cmp_gt, cmp_ge, add_ok, sub_ok, neg_ok, someR, lit0, lit1, lit2, newR, decide_true, decide_false, e3, n1]
theorem st11_ok (S : Spans.At pg s) (Y : Yt pg s r y i) (n wl : Nat) {H : Hs} (d : Dc H) {w : Nat} (hw0 : 0 < w) (hw : w ≤ 5) {W : List (Bool × List Int)} (hl : W.length ≤ 5) (hr : ∀ p ∈ W, Row w p.2) {x4 x5 x6 x7 : Option D} :
    ∃ H', Dc H' ∧ evS (cal pg (n + 20)) wl (st11 s r y i) (Fs w W x4 x5 x6 x7) H = .ok (.nx (Fs w W x4 x5 x6 x7)) H' := by
  unfold st11
  simp -implicitDefEqProofs only [evE, evEs, evOE, evT, evL, evI, evS, evSs, bind_ok, bind_ex, cal_fn, start0, List.map_cons, List.map_nil, List.length_cons, List.length_nil, List.cons_append, List.nil_append, Nat.reduceAdd, Nat.reduceSub, List.replicate_succ, List.replicate_zero, List.getElem?_cons_zero, List.getElem?_cons_succ, List.set_cons_zero, List.set_cons_succ, setF, Nat.reduceLT, if_true, nxR, thenR, retR, iteK_t, iteK_f, afterB, wipeF, tgo, tgt, bindK_some, and_self, outR_rt, outR_nx, outR_ex, Bool.not_true, Bool.not_false, Bool.false_eq_true, if_false, gOk_nil, andK_t, andK_f, notR_b, truR_b, isT_int, isT_bool, isT_tup, cmp_eq, cmp_ne, cmp_lt, cmp_le, cmp_gt, cmp_ge, add_ok, sub_ok, neg_ok, someR, lit0, lit1, lit2, newR, decide_true, decide_false, itOf_tup]
  generalize e2 : loopR _ _ _ = rr
  have key : ∃ ds H', rr = .ok ds H' ∧ Dc H' ∧ ds.length = (wd W).length ∧ ∀ d ∈ ds, d = .bl true := by
    rw [← e2]
    refine loopR_go (by simp; unfold LIM; omega) Dc (fun d => d = .bl true) (fun d hd h p => ?_) H d
    obtain ⟨q, hq, rfl⟩ := List.mem_map.mp hd
    obtain ⟨t, u, e, h1⟩ := Spans.contains_ok S Y.ext (n + 11) hw0 (show w ≤ 16 by omega) (by omega) hr false q.1 (hr q hq) h
    obtain rfl : u = true := h1.mpr (.gen ⟨q.2, List.mem_map.mpr ⟨q, hq, rfl⟩, rfl⟩)
    refine ⟨_, _, ?_, p.app t, rfl⟩
    simp -implicitDefEqProofs only [evE, evEs, evOE, evT, evL, evI, evS, evSs, bind_ok, bind_ex, cal_fn, start0, List.map_cons, List.map_nil, List.length_cons, List.length_nil, List.cons_append, List.nil_append, Nat.reduceAdd, Nat.reduceSub, List.replicate_succ, List.replicate_zero, List.getElem?_cons_zero, List.getElem?_cons_succ, List.set_cons_zero, List.set_cons_succ, setF, Nat.reduceLT, if_true, nxR, thenR, retR, iteK_t, iteK_f, afterB, wipeF, tgo, tgt, bindK_some, and_self, outR_rt, outR_nx, outR_ex, Bool.not_true, Bool.not_false, Bool.false_eq_true, if_false, gOk_nil, andK_t, andK_f, notR_b, truR_b, isT_int, isT_bool, isT_tup, cmp_eq, cmp_ne, cmp_lt, cmp_le, cmp_gt, cmp_ge, add_ok, sub_ok, neg_ok, someR, lit0, lit1, lit2, newR, decide_true, decide_false, e]
  obtain ⟨ds, H', rfl, dH, hln, hall⟩ := key
  have eb : ds = (List.replicate ds.length true).map D.bl := by
    rw [List.map_replicate]
    exact List.eq_replicate_iff.mpr ⟨rfl, hall⟩
  have ea : (List.replicate ds.length true).all id = true := by simp
  refine ⟨H', dH, ?_⟩
  rw [eb]
  simp -implicitDefEqProofs only [evE, evEs, evOE, evT, evL, evI, evS, evSs, bind_ok, bind_ex, cal_fn, start0, List.map_cons, List.map_nil, List.length_cons, List.length_nil, List.cons_append, List.nil_append, Nat.reduceAdd, Nat.reduceSub, List.replicate_succ, List.replicate_zero, List.getElem?_cons_zero, List.getElem?_cons_succ, List.set_cons_zero, List.set_cons_succ, setF, Nat.reduceLT, if_true, nxR, thenR, retR, iteK_t, iteK_f, afterB, wipeF, tgo, tgt, bindK_some, and_self, outR_rt, outR_nx, outR_ex, Bool.not_true, Bool.not_false, Bool.false_eq_true, if_false, gOk_nil, andK_t, andK_f, notR_b, truR_b, isT_int, isT_bool, isT_tup, cmp_eq, cmp_ne, cmp_lt, cmp_le, cmp_gt, cmp_ge, add_ok, sub_ok, neg_ok, someR, lit0, lit1, lit2, newR, decide_true, decide_false, blD_all, ea]
theorem row_zeros (w : Nat) : Row w (List.replicate w 0) := ⟨by simp, fun z hz => by rw [(List.mem_replicate.mp hz).2]; decide⟩
theorem fn_zeros (w i : Nat) : fn (List.replicate w 0) i = 0 := by
  unfold fn
  rw [List.getD_eq_getElem?_getD, List.getElem?_replicate]
  split <;> rfl
theorem st12_ok (S : Spans.At pg s) (Y : Yt pg s r y i) (n wl : Nat) {H : Hs} {w : Nat} (hw0 : 0 < w) (hw : w ≤ 5) {W : List (Bool × List Int)} (hl : W.length ≤ 5) (hr : ∀ p ∈ W, Row w p.2) {x4 x5 x6 x7 : Option D} :
    ∃ t, evS (cal pg (n + 20)) wl (st12 s r y i) (Fs w W x4 x5 x6 x7) H = .ok (.nx (Fs w W x4 x5 x6 x7)) (H ++ t) := by
  obtain ⟨t, u, e, h1⟩ := Spans.contains_ok S Y.ext (n + 11) hw0 (show w ≤ 16 by omega) (by omega) hr false false (row_zeros w) H
  obtain rfl : u = true := h1.mpr (Sp.zero.congr fun i => (fn_zeros w i).symm)
  refine ⟨t, ?_⟩
  unfold st12
  simp -implicitDefEqProofs only [evE, evEs, evOE, evT, evL, evI, evS, evSs, bind_ok, bind_ex, cal_fn, start0, List.map_cons, List.map_nil, List.length_cons, List.length_nil, List.cons_append, List.nil_append, Nat.reduceAdd, Nat.reduceSub, List.replicate_succ, List.replicate_zero, List.getElem?_cons_zero, List.getElem?_cons_succ, List.set_cons_zero, List.set_cons_succ, setF, Nat.reduceLT, if_true, nxR, thenR, retR, iteK_t, iteK_f, afterB, wipeF, tgo, tgt, bindK_some, and_self, outR_rt, outR_nx, outR_ex, Bool.not_true, Bool.not_false, Bool.false_eq_true, if_false, gOk_nil, andK_t, andK_f, notR_b, truR_b, isT_int, isT_bool, isT_tup, cmp_eq, cmp_ne, cmp_lt, cmp_le, cmp_gt, cmp_ge, add_ok, sub_ok, neg_ok, someR, lit0, lit1, lit2, newR, decide_true, decide_false, Spans.tupR_one, Spans.rep_zero true w (Nat.zero_le w) (show w ≤ 1000 by omega), e]
theorem eqv_snoc {R : List (List Int)} {x : List Int} : Eqv (GL R) (GL (R ++ [x])) ↔ Sp (GL R) (fn x) := by
  constructor
  · intro e
    exact (e _).mpr (.gen ⟨x, by simp, rfl⟩)
  · intro sx
    refine Eqv.of (fun g ⟨z, hz, e⟩ => .gen ⟨z, by simp [hz], e⟩) fun g ⟨z, hz, e⟩ => ?_
    subst e
    rcases List.mem_append.mp hz with h | h
    · exact .gen ⟨z, h, rfl⟩
    · rw [List.mem_singleton.mp h]; exact sx
theorem st13_ok (S : Spans.At pg s) (Y : Yt pg s r y i) (n wl : Nat) {H : Hs} {w : Nat} (hw0 : 0 < w) (hw : w ≤ 5) {W : List (Bool × List Int)} (hl : W.length ≤ 5) (hr : ∀ p ∈ W, Row w p.2) {x : List Int} (hx : Row w x) {v : Bool} (hv : v = true ↔ Sp (GL (Rws W)) (fn x)) {x6 x7 : Option D} :
    ∃ t, evS (cal pg (n + 20)) wl (st13 s r y i) (Fs w W (some (TI false x)) (some (.bl v)) x6 x7) H = .ok (.nx (Fs w W (some (TI false x)) (some (.bl v)) x6 x7)) (H ++ t) := by
  have hr' : ∀ p ∈ W ++ [(false, x)], Row w p.2 := fun p hp => by
    rcases List.mem_append.mp hp with h | h
    · exact hr p h
    · rw [List.mem_singleton.mp h]; exact hx
  have hl' : (W ++ [(false, x)]).length ≤ 16 := by simp; omega
  have eR : Rws (W ++ [(false, x)]) = Rws W ++ [x] := by simp [Rws]
  have cat : ∀ h, binD .add (.tup false (wd W)) (.tup true [TI false x]) h = .ok (.tup false (wd (W ++ [(false, x)]))) h := fun h => cat_wd false true W [(false, x)] (by simp; unfold LIM; omega) h
  obtain ⟨t1, u1, e1, h1⟩ := Spans.sameSpan2_ok S Y.sameSpan (n + 11) hw0 (show w ≤ 16 by omega) (by omega) hr hl' hr' false false H
  obtain ⟨t2, u2, e2, h2⟩ := Spans.sameSpan2_ok S Y.sameSpan (n + 11) hw0 (show w ≤ 16 by omega) hl' hr' (by omega) hr false false (H ++ t1)
  rw [eR, eqv_snoc] at h1
  rw [eR] at h2
  have h2 : u2 = true ↔ Sp (GL (Rws W)) (fn x) := h2.trans (⟨fun e => eqv_snoc.mp e.symm, fun e => (eqv_snoc.mpr e).symm⟩)
  obtain rfl := iff_eq h1 hv
  obtain rfl := iff_eq h2 hv
  refine ⟨t1 ++ t2, ?_⟩
  unfold st13
  simp -implicitDefEqProofs only [evE, evEs, evOE, evT, evL, evI, evS, evSs, bind_ok, bind_ex, cal_fn, start0, List.map_cons, List.map_nil, List.length_cons, List.length_nil, List.cons_append, List.nil_append, Nat.reduceAdd, Nat.reduceSub, List.replicate_succ, List.replicate_zero, List.getElem?_cons_zero, List.getElem?_cons_succ, List.set_cons_zero, List.set_cons_succ, setF, Nat.reduceLT, if_true, nxR, thenR, retR, iteK_t, iteK_f, afterB, wipeF, tgo, tgt, bindK_some, and_self, outR_rt, outR_nx, outR_ex, Bool.not_true, Bool.not_false, Bool.false_eq_true, if_false, gOk_nil, andK_t, andK_f, notR_b, truR_b, isT_int, isT_bool, isT_tup, cmp_eq, cmp_ne, cmp_lt, cmp_le, cmp_gt, cmp_ge, add_ok, sub_ok, neg_ok, someR, lit0, lit1, lit2, newR, decide_true, decide_false, Spans.tupR_one, cat, e1, e2, ne_bl, bne_self_eq_false]
  simp
theorem tupR_two (a b : D) (h : Hs) : tupR [a, b] h = .ok (.tup true [a, b]) h := rfl
theorem gl_one {a v : List Int} (h : Sp (GL [a]) (fn v)) : ∃ c : Int, ∀ i, (65536 : Int) ∣ fn v i - c * fn a i := by
  have key : ∀ {u : Vc}, Sp (GL [a]) u → ∃ c : Int, ∀ i, (65536 : Int) ∣ u i - c * fn a i := fun {u} h => by
    induction h with
    | zero => exact ⟨0, fun i => ⟨0, by simp⟩⟩
    | @add g u c hg _ ih =>
      obtain ⟨k, hk⟩ := ih
      obtain ⟨z, hz, rfl⟩ := hg
      obtain rfl := List.mem_singleton.mp hz
      refine ⟨k + c, fun i => ?_⟩
      obtain ⟨q, hq⟩ := hk i
      exact ⟨q, by grind⟩
    | @cg u v e _ ih =>
      obtain ⟨k, hk⟩ := ih
      refine ⟨k, fun i => ?_⟩
      obtain ⟨q, hq⟩ := hk i
      obtain ⟨z, hz⟩ := e i
      exact ⟨q - z, by omega⟩
  exact key h
theorem row2 {a b : Int} (ha : 0 ≤ a ∧ a < 65536) (hb : 0 ≤ b ∧ b < 65536) : Row 2 [a, b] := ⟨rfl, fun x hx => by
  rcases List.mem_cons.mp hx with rfl | hx
  · exact ha
  · rw [List.mem_singleton.mp hx]; exact hb⟩
theorem st14_ok (S : Spans.At pg s) (Y : Yt pg s r y i) (n wl : Nat) {H : Hs} {w : Nat} {W : List (Bool × List Int)} {x4 x5 x6 x7 : Option D} :
    ∃ t, evS (cal pg (n + 20)) wl (st14 s r y i) (Fs w W x4 x5 x6 x7) H = .ok (.nx (Fs w W x4 x5 x6 x7)) (H ++ t) := by
  have hr : ∀ p ∈ [(true, ([2, 4] : List Int))], Row 2 p.2 := fun p hp => by
    rw [List.mem_singleton.mp hp]; exact row2 (by decide) (by decide)
  obtain ⟨t1, u1, e1, h1⟩ := Spans.contains_ok S Y.ext (n + 11) (w := 2) (by decide) (by decide) (W := [(true, [2, 4])]) (by decide) hr true true (x := [4, 8]) (row2 (by decide) (by decide)) H
  obtain ⟨t2, u2, e2, h2⟩ := Spans.contains_ok S Y.ext (n + 11) (w := 2) (by decide) (by decide) (W := [(true, [2, 4])]) (by decide) hr true true (x := [1, 2]) (row2 (by decide) (by decide)) (H ++ t1)
  obtain rfl : u1 = true := h1.mpr (Sp.congr (u := fun i => 2 * fn [2, 4] i) (fun i => by
    rcases Nat.lt_or_ge i 2 with c | c
    · have : i = 0 ∨ i = 1 := by omega
      rcases this with rfl | rfl <;> rfl
    · rw [fn_out (xs := [2, 4]) c, fn_out (xs := [4, 8]) c]; rfl) (Sp.smul 2 (.gen ⟨_, List.mem_singleton.mpr rfl, rfl⟩)))
  have u2f : u2 = false := by
    cases u2 with
    | false => rfl
    | true =>
      obtain ⟨c, hc⟩ := gl_one (h2.mp rfl)
      obtain ⟨k, hk⟩ := hc 0
      have hk : (1 : Int) - c * 2 = 65536 * k := hk
      omega
  subst u2f
  have e1 : callI pg (n + 20) y.contains [.tup true [.tup true [.int 2, .int 4]], .int 2, .tup true [.int 4, .int 8]] H = .ok (.bl true) (H ++ t1) := e1
  have e2 : callI pg (n + 20) y.contains [.tup true [.tup true [.int 2, .int 4]], .int 2, .tup true [.int 1, .int 2]] (H ++ t1) = .ok (.bl false) (H ++ t1 ++ t2) := e2
  refine ⟨t1 ++ t2, ?_⟩
  unfold st14
  simp -implicitDefEqProofs only [evE, evEs, evOE, evT, evL, evI, evS, evSs, bind_ok, bind_ex, cal_fn, start0, List.map_cons, List.map_nil, List.length_cons, List.length_nil, List.cons_append, List.nil_append, Nat.reduceAdd, Nat.reduceSub, List.replicate_succ, List.replicate_zero, List.getElem?_cons_zero, List.getElem?_cons_succ, List.set_cons_zero, List.set_cons_succ, setF, Nat.reduceLT, if_true, nxR, thenR, retR, iteK_t, iteK_f, afterB, wipeF, tgo, tgt, bindK_some, and_self, outR_rt, outR_nx, outR_ex, Bool.not_true, Bool.not_false, Bool.false_eq_true, if_false, gOk_nil, andK_t, andK_f, notR_b, truR_b, isT_int, isT_bool, isT_tup, cmp_eq, cmp_ne, cmp_lt, cmp_le, cmp_gt, cmp_ge, add_ok, sub_ok, neg_ok, someR, lit0, lit1, lit2, newR, decide_true, decide_false, Spans.tupR_one, tupR_two, e1, e2]
  simp
theorem st15_ok (S : Spans.At pg s) (Y : Yt pg s r y i) (n wl : Nat) {H : Hs} {w : Nat} {W : List (Bool × List Int)} {x4 x5 x6 x7 : Option D} :
    ∃ t, evS (cal pg (n + 20)) wl (st15 s r y i) (Fs w W x4 x5 x6 x7) H = .ok (.nx (Fs w W x4 x5 x6 x7)) (H ++ t) := by
  have hr : ∀ p ∈ [(true, ([2, 0] : List Int))], Row 2 p.2 := fun p hp => by
    rw [List.mem_singleton.mp hp]; exact row2 (by decide) (by decide)
  obtain ⟨t, e⟩ := Spans.multipliers_none S Y.multipliers (n + 11) (w := 2) (by decide) (by decide) (W := [(true, [2, 0])]) (by decide) hr true true (x := [1, 0]) (row2 (by decide) (by decide)) (fun h => by
    obtain ⟨c, hc⟩ := gl_one h
    obtain ⟨k, hk⟩ := hc 0
    have hk : (1 : Int) - c * 2 = 65536 * k := hk
    omega) H
  have e : callI pg (n + 20) s.multipliers [.tup true [.tup true [.int 2, .int 0]], .int 2, .tup true [.int 1, .int 0]] H = .ok .non (H ++ t) := e
  have nn : ∀ h, cmpD .notN .non .non h = .ok (.bl false) h := fun h => rfl
  refine ⟨t, ?_⟩
  unfold st15
  simp -implicitDefEqProofs only [evE, evEs, evOE, evT, evL, evI, evS, evSs, bind_ok, bind_ex, cal_fn, start0, List.map_cons, List.map_nil, List.length_cons, List.length_nil, List.cons_append, List.nil_append, Nat.reduceAdd, Nat.reduceSub, List.replicate_succ, List.replicate_zero, List.getElem?_cons_zero, List.getElem?_cons_succ, List.set_cons_zero, List.set_cons_succ, setF, Nat.reduceLT, if_true, nxR, thenR, retR, iteK_t, iteK_f, afterB, wipeF, tgo, tgt, bindK_some, and_self, outR_rt, outR_nx, outR_ex, Bool.not_true, Bool.not_false, Bool.false_eq_true, if_false, gOk_nil, andK_t, andK_f, notR_b, truR_b, isT_int, isT_bool, isT_tup, cmp_eq, cmp_ne, cmp_lt, cmp_le, cmp_gt, cmp_ge, add_ok, sub_ok, neg_ok, someR, lit0, lit1, lit2, newR, decide_true, decide_false, Spans.tupR_one, tupR_two, e, nn]
theorem run (Y : Yt pg s r y i) (S : Spans.At pg s) (R : RAt pg r) (n wl : Nat) (c : Int) : ∃ δ H, evSs (cal pg (n + 20)) wl (body s r y i) [none, some (.ref 0), none, none, none, none, none, none] [.lst [.int c, .int 0]] = .ok (.nx δ) H ∧ δ.length = 8 := by
  have d0 : Dc [.lst [.int c, .int 0]] := ⟨c, 0, rfl⟩
  obtain ⟨w, a, b, hw0, hw, e0⟩ := st0_ok (s := s) (y := y) (i := i) R n wl d0 (x2 := none) (x3 := none) (x4 := none) (x5 := none) (x6 := none) (x7 := none)
  have d1 := Dc.dset d0.pos a b
  obtain ⟨W, a2, b2, hr, hl, e1⟩ := st1_ok (s := s) (y := y) (i := i) R n wl d1 hw (x3 := none) (x4 := none) (x5 := none) (x6 := none) (x7 := none)
  have d2 := Dc.dset d1.pos a2 b2
  obtain ⟨x0, a3, b3, hx0, e2⟩ := st2_ok (s := s) (y := y) (i := i) R n wl d2 hw (W := W) (x4 := none) (x5 := none) (x6 := none) (x7 := none)
  have d3 := Dc.dset d2.pos a3 b3
  obtain ⟨x, H3, hx, d4, e3⟩ := st3_ok R Y n wl d3 hw0 hw hl hr hx0 (x5 := none) (x6 := none) (x7 := none)
  obtain ⟨v, t4, hv, e4⟩ := st4_ok (y := y) (i := i) S R n wl (H := H3) hw0 hw hl hr hx (x5 := none) (x6 := none) (x7 := none)
  obtain ⟨t5, e5⟩ := st5_ok S Y n wl (H := H3 ++ t4) hw0 hw hl hr hx hv (x6 := none) (x7 := none)
  obtain ⟨t6, e6⟩ := st6_ok S Y n wl (H := H3 ++ t4 ++ t5) hw0 hw hl hr hx hv (x6 := none) (x7 := none)
  obtain ⟨d, t7, hd, e7⟩ := st7_ok S Y n wl (H := H3 ++ t4 ++ t5 ++ t6) hw0 hw hl hr hx hv (x6 := none) (x7 := none)
  have e8 := st8_ok (pg := pg) (s := s) (r := r) (y := y) (i := i) n wl (H := H3 ++ t4 ++ t5 ++ t6 ++ t7) hd (x7 := none)
  have e9 := st9_ok (pg := pg) (s := s) (r := r) (y := y) (i := i) n wl (H := H3 ++ t4 ++ t5 ++ t6 ++ t7) hd (x7 := none)
  have e10 := st10_ok Y n wl (H := H3 ++ t4 ++ t5 ++ t6 ++ t7) hw0 hw hr hx hd (x7 := none)
  have d7 : Dc (H3 ++ t4 ++ t5 ++ t6 ++ t7) := (((d4.app t4).app t5).app t6).app t7
  obtain ⟨H11, d11, e11⟩ := st11_ok S Y n wl d7 hw0 hw hl hr (x4 := some (TI false x)) (x5 := some (.bl v)) (x6 := some d) (x7 := none)
  obtain ⟨t12, e12⟩ := st12_ok S Y n wl (H := H11) hw0 hw hl hr (x4 := some (TI false x)) (x5 := some (.bl v)) (x6 := some d) (x7 := none)
  obtain ⟨t13, e13⟩ := st13_ok S Y n wl (H := H11 ++ t12) hw0 hw hl hr hx hv (x6 := some d) (x7 := none)
  obtain ⟨t14, e14⟩ := st14_ok S Y n wl (H := H11 ++ t12 ++ t13) (w := w) (W := W) (x4 := some (TI false x)) (x5 := some (.bl v)) (x6 := some d) (x7 := none)
  obtain ⟨t15, e15⟩ := st15_ok S Y n wl (H := H11 ++ t12 ++ t13 ++ t14) (w := w) (W := W) (x4 := some (TI false x)) (x5 := some (.bl v)) (x6 := some d) (x7 := none)
  refine ⟨_, _, ess_cons e0 (ess_cons e1 (ess_cons e2 (ess_cons e3 (ess_cons e4 (ess_cons e5 (ess_cons e6 (ess_cons e7 (ess_cons e8 (ess_cons e9 (ess_cons e10 (ess_cons e11 (ess_cons e12 (ess_cons e13 (ess_cons e14 (ess_cons e15 rfl))))))))))))))), rfl⟩

end K03
end WP
set_option maxHeartbeats 0
namespace Q03
open PySem PySem.Spec PyProof.Rows L2 PI
def f0 : Fn := ⟨"is_integer", ["value"], ["value"], (.cons (.ret (.andV (.isT .int (.var 0)) (.notV (.isT .bool (.var 0))))) .nil)⟩
def f1 : Fn := ⟨"is_word", ["value"], ["value"], (.cons (.ret (.andV (.call 0 (.cons (.var 0) .nil)) (.chain .le .lt (.con (.int 0)) (.var 0) (.glob 0)))) .nil)⟩
def f2 : Fn := ⟨"check_word", ["number"], ["number"], (.cons (.ifS (.not (.of (.call 1 (.cons (.var 0) .nil)))) (.cons (.raiseS 1) .nil) .nil) .nil)⟩
def f3 : Fn := ⟨"inverse", ["number"], ["number", "found", "_"], (.cons (.expr (.call 2 (.cons (.var 0) .nil))) (.cons (.ifS (.of (.cmp .eq (.bin .mod (.var 0) (.con (.int 2))) (.con (.int 0)))) (.cons (.raiseS 3) .nil) .nil) (.cons (.set 1 (.var 0)) (.cons (.forS (.one 2) (.range1 (.con (.int 3))) (.cons (.set 1 (.bin .mod (.bin .mul (.var 1) (.bin .sub (.con (.int 2)) (.bin .mul (.var 0) (.var 1)))) (.glob 0))) .nil)) (.cons (.ret (.var 1)) .nil)))))⟩
def f4 : Fn := ⟨"are_words", ["value", "many"], ["value", "many", "number"], (.cons (.ret (.andV (.isT .tuple (.var 0)) (.andV (.cmp .eq (.bi .len (.cons (.var 0) .nil)) (.var 1)) (.bl .all (.compU (.one 2) (.of (.var 0)) [2] (.call 1 (.cons (.var 2) .nil))))))) .nil)⟩
def f5 : Fn := ⟨"check_row", ["row", "width"], ["row", "width"], (.cons (.ifS (.not (.of (.call 4 (.cons (.var 0) (.cons (.var 1) .nil))))) (.cons (.raiseS 2) .nil) .nil) .nil)⟩
def f6 : Fn := ⟨"check_width", ["width"], ["width"], (.cons (.ifS (.or (.not (.of (.call 0 (.cons (.var 0) .nil)))) (.not (.of (.chain .le .le (.con (.int 1)) (.var 0) (.glob 1))))) (.cons (.raiseS 2) .nil) .nil) .nil)⟩
def f7 : Fn := ⟨"check_rows", ["rows", "width"], ["rows", "width", "row"], (.cons (.expr (.call 6 (.cons (.var 1) .nil))) (.cons (.ifS (.or (.not (.of (.isT .tuple (.var 0)))) (.of (.cmp .gt (.bi .len (.cons (.var 0) .nil)) (.glob 2)))) (.cons (.raiseS 2) .nil) .nil) (.cons (.forS (.one 2) (.of (.var 0)) (.cons (.expr (.call 5 (.cons (.var 2) (.cons (.var 1) .nil)))) .nil)) .nil)))⟩
def f8 : Fn := ⟨"lead", ["row"], ["row", "place", "number"], (.cons (.forS (.two 1 2) (.enum (.var 0)) (.cons (.ifS (.of (.cmp .ne (.var 2) (.con (.int 0)))) (.cons (.ret (.var 1)) .nil) .nil) .nil)) (.cons (.ret (.bi .len (.cons (.var 0) .nil))) .nil))⟩
def f9 : Fn := ⟨"scaled", ["row", "factor"], ["row", "factor", "number"], (.cons (.ret (.bl .tuple (.compU (.one 2) (.of (.var 0)) [2] (.bin .mod (.bin .mul (.var 2) (.var 1)) (.glob 0))))) .nil)⟩
def f10 : Fn := ⟨"lessened", ["row", "factor", "other"], ["row", "factor", "other", "mine", "its"], (.cons (.ret (.bl .tuple (.compU (.two 3 4) (.zip (.var 0) (.var 2)) [3, 4] (.bin .mod (.bin .sub (.var 3) (.bin .mul (.var 1) (.var 4))) (.glob 0))))) .nil)⟩
def f11 : Fn := ⟨"with_power", ["row", "place"], ["row", "place", "power"], (.cons (.set 2 (.bin .and_ (.ix (.var 0) (.var 1)) (.neg (.ix (.var 0) (.var 1))))) (.cons (.ret (.call 9 (.cons (.var 0) (.cons (.call 3 (.cons (.bin .div (.ix (.var 0) (.var 1)) (.var 2)) .nil)) .nil)))) .nil))⟩
def f12 : Fn := ⟨"take_in", ["found", "row"], ["found", "row", "grown", "waiting", "place"], (.cons (.set 2 (.con (.bl false))) (.cons (.set 3 (.newL (.lit (.cons (.var 1) .nil)))) (.cons (.whileS (.of (.var 3)) (.cons (.set 1 (.me .pop (.var 3) .nil)) (.cons (.set 4 (.call 8 (.cons (.var 1) .nil))) (.cons (.ifS (.of (.cmp .eq (.var 4) (.bi .len (.cons (.var 1) .nil)))) (.cons (.cnt) .nil) .nil) (.cons (.set 1 (.call 11 (.cons (.var 1) (.cons (.var 4) .nil)))) (.cons (.ifS (.and (.of (.cmp .in_ (.var 4) (.var 0))) (.of (.cmp .ge (.ix (.var 1) (.var 4)) (.ix (.ix (.var 0) (.var 4)) (.var 4))))) (.cons (.expr (.me .append (.var 3) (.cons (.call 10 (.cons (.var 1) (.cons (.bin .div (.ix (.var 1) (.var 4)) (.ix (.ix (.var 0) (.var 4)) (.var 4))) (.cons (.ix (.var 0) (.var 4)) .nil)))) .nil))) (.cons (.cnt) .nil)) .nil) (.cons (.set 2 (.con (.bl true))) (.cons (.ifS (.of (.cmp .in_ (.var 4) (.var 0))) (.cons (.expr (.me .append (.var 3) (.cons (.ix (.var 0) (.var 4)) .nil))) .nil) .nil) (.cons (.setix (.var 0) (.var 4) (.var 1)) (.cons (.expr (.me .append (.var 3) (.cons (.call 9 (.cons (.var 1) (.cons (.bin .div (.glob 0) (.ix (.var 1) (.var 4))) .nil))) .nil))) .nil)))))))))) (.cons (.ret (.var 2)) .nil))))⟩
def f13 : Fn := ⟨"closed", ["rows"], ["rows", "found", "row"], (.cons (.set 1 (.newD)) (.cons (.forS (.one 2) (.of (.var 0)) (.cons (.expr (.call 12 (.cons (.var 1) (.cons (.var 2) .nil)))) .nil)) (.cons (.ret (.var 1)) .nil)))⟩
def f14 : Fn := ⟨"rest", ["row", "formed"], ["row", "formed", "one", "place"], (.cons (.forS (.one 2) (.of (.var 1)) (.cons (.set 3 (.call 8 (.cons (.var 2) .nil))) (.cons (.set 0 (.call 10 (.cons (.var 0) (.cons (.bin .div (.ix (.var 0) (.var 3)) (.ix (.var 2) (.var 3))) (.cons (.var 2) .nil))))) .nil))) (.cons (.ret (.var 0)) .nil))⟩
def f15 : Fn := ⟨"form_of", ["rows"], ["rows", "found", "formed", "place"], (.cons (.set 1 (.call 13 (.cons (.var 0) .nil))) (.cons (.set 2 (.newL (.lit .nil))) (.cons (.forS (.one 3) (.of (.sortR (.bi .list (.cons (.var 1) .nil)))) (.cons (.set 2 (.bin .add (.newL (.lit (.cons (.call 14 (.cons (.ix (.var 1) (.var 3)) (.cons (.var 2) .nil))) .nil))) (.var 2))) .nil)) (.cons (.ret (.bi .tuple (.cons (.var 2) .nil))) .nil))))⟩
def f16 : Fn := ⟨"unit", ["place", "width"], ["place", "width", "at"], (.cons (.ret (.bl .tuple (.compU (.one 2) (.range1 (.var 1)) [2] (.ite (.of (.cmp .eq (.var 2) (.var 0))) (.con (.int 1)) (.con (.int 0)))))) .nil)⟩
def f17 : Fn := ⟨"tails", ["rows", "width"], ["rows", "width", "row"], (.cons (.ret (.bl .tuple (.comp (.one 2) (.of (.var 0)) [2] (.of (.cmp .ge (.call 8 (.cons (.var 2) .nil)) (.var 1))) (.sl (.var 2) (.some (.var 1)) .none)))) .nil)⟩
def f18 : Fn := ⟨"equations_of", ["rows", "width"], ["rows", "width", "columns", "place", "row"], (.cons (.set 2 (.newL (.compU (.one 3) (.range1 (.var 1)) [3] (.bin .add (.bl .tuple (.compU (.one 4) (.of (.var 0)) [4] (.ix (.var 4) (.var 3)))) (.call 16 (.cons (.var 3) (.cons (.var 1) .nil))))))) (.cons (.ret (.call 17 (.cons (.call 15 (.cons (.var 2) .nil)) (.cons (.bi .len (.cons (.var 0) .nil)) .nil)))) .nil))⟩
def f19 : Fn := ⟨"form", ["rows", "width"], ["rows", "width"], (.cons (.expr (.call 7 (.cons (.var 0) (.cons (.var 1) .nil)))) (.cons (.ret (.call 15 (.cons (.var 0) .nil))) .nil))⟩
def f20 : Fn := ⟨"contains", ["rows", "width", "row"], ["rows", "width", "row"], (.cons (.expr (.call 7 (.cons (.var 0) (.cons (.var 1) .nil)))) (.cons (.expr (.call 5 (.cons (.var 2) (.cons (.var 1) .nil)))) (.cons (.ret (.cmp .eq (.call 8 (.cons (.call 14 (.cons (.var 2) (.cons (.call 15 (.cons (.var 0) .nil)) .nil))) .nil)) (.var 1))) .nil)))⟩
def f21 : Fn := ⟨"same_span", ["rows", "others", "width"], ["rows", "others", "width"], (.cons (.expr (.call 7 (.cons (.var 0) (.cons (.var 2) .nil)))) (.cons (.expr (.call 7 (.cons (.var 1) (.cons (.var 2) .nil)))) (.cons (.ret (.cmp .eq (.call 15 (.cons (.var 0) .nil)) (.call 15 (.cons (.var 1) .nil)))) .nil)))⟩
def f22 : Fn := ⟨"equations", ["rows", "width"], ["rows", "width"], (.cons (.expr (.call 7 (.cons (.var 0) (.cons (.var 1) .nil)))) (.cons (.ret (.call 18 (.cons (.var 0) (.cons (.var 1) .nil)))) .nil))⟩
def f23 : Fn := ⟨"multipliers", ["rows", "width", "row"], ["rows", "width", "row", "many", "joined", "left", "at", "one"], (.cons (.expr (.call 7 (.cons (.var 0) (.cons (.var 1) .nil)))) (.cons (.expr (.call 5 (.cons (.var 2) (.cons (.var 1) .nil)))) (.cons (.set 3 (.bi .len (.cons (.var 0) .nil))) (.cons (.set 4 (.call 15 (.cons (.newL (.compU (.two 6 7) (.enum (.var 0)) [6, 7] (.bin .add (.var 7) (.call 16 (.cons (.var 6) (.cons (.var 3) .nil)))))) .nil))) (.cons (.set 5 (.call 14 (.cons (.bin .add (.call 9 (.cons (.var 2) (.cons (.bin .sub (.glob 0) (.con (.int 1))) .nil))) (.bin .mul (.tup (.cons (.con (.int 0)) .nil)) (.var 3))) (.cons (.var 4) .nil)))) (.cons (.ifS (.of (.cmp .lt (.call 8 (.cons (.sl (.var 5) .none (.some (.var 1))) .nil)) (.var 1))) (.cons (.ret (.con (.non))) .nil) .nil) (.cons (.ret (.sl (.var 5) (.some (.var 1)) .none)) .nil)))))))⟩
def f24 : Fn := ⟨"_law_cell", ["_law_script", "_law_k"], ["_law_script", "_law_k"], (.cons (.ifS (.of (.cmp .eq (.var 0) (.newL (.lit .nil)))) (.cons (.ret (.bin .mul (.var 1) (.con (.int 7919)))) .nil) .nil) (.cons (.ret (.bin .add (.ix (.var 0) (.bin .mod (.var 1) (.bi .len (.cons (.var 0) .nil)))) (.bin .mul (.bin .div (.var 1) (.bi .len (.cons (.var 0) .nil))) (.con (.int 104729))))) .nil))⟩
def f25 : Fn := ⟨"_law_drawn", ["_law_cell_here", "_law_k"], ["_law_cell_here", "_law_k", "_law_more"], (.cons (.set 2 (.bin .mod (.bin .add (.bin .mul (.var 0) (.con (.int 6364136223846793005))) (.bin .mul (.bin .add (.var 1) (.con (.int 1))) (.con (.int 1442695040888963407)))) (.con (.int 340282366920938463463374607431768211507)))) (.cons (.set 2 (.bin .mod (.bin .mul (.var 2) (.var 2)) (.con (.int 340282366920938463463374607431768211297)))) (.cons (.set 2 (.bin .mul (.bin .mul (.bin .add (.bin .mod (.var 2) (.con (.int 18446744073709551557))) (.con (.int 1))) (.bin .add (.bin .div (.var 2) (.con (.int 18446744073709551557))) (.con (.int 1)))) (.var 2))) (.cons (.ret (.bin .mod (.var 2) (.con (.int 340282366920938463463374607431768211507)))) .nil))))⟩
def f26 : Fn := ⟨"_law_roll", ["_law_dice", "_law_many"], ["_law_dice", "_law_many", "_law_told"], (.cons (.ifS (.of (.cmp .ge (.ix (.var 0) (.con (.int 0))) (.bin .pow (.con (.int 10)) (.con (.int 18))))) (.cons (.set 2 (.bin .mod (.ix (.var 0) (.con (.int 0))) (.var 1))) (.cons (.setix (.var 0) (.con (.int 0)) (.bin .div (.ix (.var 0) (.con (.int 0))) (.var 1))) (.cons (.ret (.var 2)) .nil))) .nil) (.cons (.setix (.var 0) (.con (.int 1)) (.bin .add (.ix (.var 0) (.con (.int 1))) (.con (.int 1)))) (.cons (.ret (.bin .mod (.bin .div (.call 25 (.cons (.ix (.var 0) (.con (.int 0))) (.cons (.ix (.var 0) (.con (.int 1))) .nil))) (.con (.int 8))) (.var 1))) .nil)))⟩
def f27 : Fn := ⟨"_law_rounds", ["_law_script", "_law_most"], ["_law_script", "_law_most", "_law_k"], (.cons (.ret (.newL (.compU (.one 2) (.range1 (.bi .max2 (.cons (.con (.int 1)) (.cons (.bi .min2 (.cons (.var 1) (.cons (.bi .len (.cons (.var 0) .nil)) .nil))) .nil)))) [2] (.newL (.lit (.cons (.call 24 (.cons (.var 0) (.cons (.var 2) .nil))) (.cons (.con (.int 0)) .nil))))))) .nil)⟩
def f28 : Fn := ⟨"_law_word", ["_law_dice"], ["_law_dice", "_law_pick"], (.cons (.set 1 (.call 26 (.cons (.var 0) (.cons (.con (.int 12)) .nil)))) (.cons (.ifS (.of (.cmp .eq (.var 1) (.con (.int 11)))) (.cons (.ret (.call 26 (.cons (.var 0) (.cons (.con (.int 65536)) .nil)))) .nil) .nil) (.cons (.ret (.lix (.lit (.cons (.con (.int 0)) (.cons (.con (.int 1)) (.cons (.con (.int 2)) (.cons (.con (.int 3)) (.cons (.con (.int 4)) (.cons (.con (.int 6)) (.cons (.con (.int 65535)) (.cons (.con (.int 32768)) (.cons (.con (.int 256)) (.cons (.con (.int 65534)) (.cons (.con (.int 5)) .nil)))))))))))) 1)) .nil)))⟩
def f29 : Fn := ⟨"_law_row", ["_law_dice", "_law_width"], ["_law_dice", "_law_width", "_law_turn"], (.cons (.ret (.bl .tuple (.compU (.one 2) (.range1 (.var 1)) [2] (.call 28 (.cons (.var 0) .nil))))) .nil)⟩
def f30 : Fn := ⟨"_law_rows", ["_law_dice", "_law_width", "_law_most"], ["_law_dice", "_law_width", "_law_most", "_law_turn"], (.cons (.ret (.bl .tuple (.compU (.one 3) (.range1 (.call 26 (.cons (.var 0) (.cons (.bin .add (.var 2) (.con (.int 1))) .nil)))) [3] (.call 29 (.cons (.var 0) (.cons (.var 1) .nil)))))) .nil)⟩
def f31 : Fn := ⟨"_law_product", ["_law_row_here", "_law_other"], ["_law_row_here", "_law_other", "_law_at", "_law_one"], (.cons (.ret (.bin .mod (.bl .sum (.compU (.two 2 3) (.enum (.var 0)) [2, 3] (.bin .mul (.var 3) (.ix (.var 1) (.var 2))))) (.con (.int 65536)))) .nil)⟩
def f32 : Fn := ⟨"_law_sum", ["_law_rows_here", "_law_factors", "_law_width"], ["_law_rows_here", "_law_factors", "_law_width", "_law_found", "_law_at", "_law_row_here", "_law_place", "_law_one"], (.cons (.set 3 (.bin .mul (.tup (.cons (.con (.int 0)) .nil)) (.var 2))) (.cons (.forS (.two 4 5) (.enum (.var 0)) (.cons (.set 3 (.bl .tuple (.compU (.two 6 7) (.enum (.var 3)) [6, 7] (.bin .mod (.bin .add (.var 7) (.bin .mul (.ix (.var 1) (.var 4)) (.ix (.var 5) (.var 6)))) (.con (.int 65536)))))) .nil)) (.cons (.ret (.var 3)) .nil)))⟩
def f33 : Fn := ⟨"_law_lead", ["_law_row_here"], ["_law_row_here", "_law_at", "_law_one"], (.cons (.forS (.two 1 2) (.enum (.var 0)) (.cons (.ifS (.of (.cmp .ne (.var 2) (.con (.int 0)))) (.cons (.ret (.var 1)) .nil) .nil) .nil)) (.cons (.ret (.bi .len (.cons (.var 0) .nil))) .nil))⟩
def f34 : Fn := ⟨"_law_rest", ["_law_rows_here", "_law_row_here"], ["_law_rows_here", "_law_row_here", "_law_one", "_law_at", "_law_times_taken", "_law_place", "_law_number"], (.cons (.forS (.one 2) (.of (.var 0)) (.cons (.set 3 (.call 33 (.cons (.var 2) .nil))) (.cons (.ifS (.and (.of (.cmp .lt (.var 3) (.bi .len (.cons (.var 1) .nil)))) (.of (.cmp .eq (.bin .mod (.ix (.var 1) (.var 3)) (.ix (.var 2) (.var 3))) (.con (.int 0))))) (.cons (.set 4 (.bin .div (.ix (.var 1) (.var 3)) (.ix (.var 2) (.var 3)))) (.cons (.set 1 (.bl .tuple (.compU (.two 5 6) (.enum (.var 1)) [5, 6] (.bin .mod (.bin .sub (.var 6) (.bin .mul (.var 4) (.ix (.var 2) (.var 5)))) (.con (.int 65536)))))) .nil)) .nil) .nil))) (.cons (.ret (.var 1)) .nil))⟩
def st0 : Sx := (.set 2 (.bin .add (.con (.int 1)) (.call 26 (.cons (.var 1) (.cons (.con (.int 5)) .nil)))))
def st1 : Sx := (.set 3 (.call 30 (.cons (.var 1) (.cons (.var 2) (.cons (.con (.int 5)) .nil)))))
def st2 : Sx := (.set 4 (.call 29 (.cons (.var 1) (.cons (.var 2) .nil))))
def st3 : Sx := (.ifS (.of (.cmp .eq (.call 26 (.cons (.var 1) (.cons (.con (.int 2)) .nil))) (.con (.int 0)))) (.cons (.set 4 (.call 32 (.cons (.var 3) (.cons (.newL (.compU (.one 7) (.of (.var 3)) [7] (.call 28 (.cons (.var 1) .nil)))) (.cons (.var 2) .nil))))) .nil) .nil)
def st4 : Sx := (.set 5 (.cmp .eq (.call 33 (.cons (.call 34 (.cons (.call 19 (.cons (.var 3) (.cons (.var 2) .nil))) (.cons (.var 4) .nil))) .nil)) (.var 2)))
def st5 : Sx := (.ifS (.of (.cmp .ne (.call 20 (.cons (.var 3) (.cons (.var 2) (.cons (.var 4) .nil)))) (.var 5))) (.cons (.ret (.con (.bl false))) .nil) .nil)
def st6 : Sx := (.ifS (.of (.cmp .ne (.bl .all (.compU (.one 7) (.of (.call 22 (.cons (.var 3) (.cons (.var 2) .nil)))) [7] (.cmp .eq (.call 31 (.cons (.var 7) (.cons (.var 4) .nil))) (.con (.int 0))))) (.var 5))) (.cons (.ret (.con (.bl false))) .nil) .nil)
def st7 : Sx := (.set 6 (.call 23 (.cons (.var 3) (.cons (.var 2) (.cons (.var 4) .nil)))))
def st8 : Sx := (.ifS (.of (.cmp .ne (.cmp .isN (.var 6) (.con (.non))) (.notV (.var 5)))) (.cons (.ret (.con (.bl false))) .nil) .nil)
def st9 : Sx := (.ifS (.and (.of (.var 5)) (.of (.cmp .ne (.bi .len (.cons (.var 6) .nil)) (.bi .len (.cons (.var 3) .nil))))) (.cons (.ret (.con (.bl false))) .nil) .nil)
def st10 : Sx := (.ifS (.and (.of (.var 5)) (.of (.cmp .ne (.call 32 (.cons (.var 3) (.cons (.var 6) (.cons (.var 2) .nil)))) (.var 4)))) (.cons (.ret (.con (.bl false))) .nil) .nil)
def st11 : Sx := (.ifS (.not (.of (.bl .all (.compU (.one 7) (.of (.var 3)) [7] (.call 20 (.cons (.var 3) (.cons (.var 2) (.cons (.var 7) .nil)))))))) (.cons (.ret (.con (.bl false))) .nil) .nil)
def st12 : Sx := (.ifS (.not (.of (.call 20 (.cons (.var 3) (.cons (.var 2) (.cons (.bin .mul (.tup (.cons (.con (.int 0)) .nil)) (.var 2)) .nil)))))) (.cons (.ret (.con (.bl false))) .nil) .nil)
def st13 : Sx := (.ifS (.or (.of (.cmp .ne (.call 21 (.cons (.var 3) (.cons (.bin .add (.var 3) (.tup (.cons (.var 4) .nil))) (.cons (.var 2) .nil)))) (.var 5))) (.of (.cmp .ne (.call 21 (.cons (.bin .add (.var 3) (.tup (.cons (.var 4) .nil))) (.cons (.var 3) (.cons (.var 2) .nil)))) (.var 5)))) (.cons (.ret (.con (.bl false))) .nil) .nil)
def st14 : Sx := (.ifS (.or (.not (.of (.call 20 (.cons (.tup (.cons (.tup (.cons (.con (.int 2)) (.cons (.con (.int 4)) .nil))) .nil)) (.cons (.con (.int 2)) (.cons (.tup (.cons (.con (.int 4)) (.cons (.con (.int 8)) .nil))) .nil)))))) (.of (.call 20 (.cons (.tup (.cons (.tup (.cons (.con (.int 2)) (.cons (.con (.int 4)) .nil))) .nil)) (.cons (.con (.int 2)) (.cons (.tup (.cons (.con (.int 1)) (.cons (.con (.int 2)) .nil))) .nil)))))) (.cons (.ret (.con (.bl false))) .nil) .nil)
def st15 : Sx := (.ifS (.of (.cmp .notN (.call 23 (.cons (.tup (.cons (.tup (.cons (.con (.int 2)) (.cons (.con (.int 0)) .nil))) .nil)) (.cons (.con (.int 2)) (.cons (.tup (.cons (.con (.int 1)) (.cons (.con (.int 0)) .nil))) .nil)))) (.con (.non)))) (.cons (.ret (.con (.bl false))) .nil) .nil)
def lawBody : Ss := (.cons st0 (.cons st1 (.cons st2 (.cons st3 (.cons st4 (.cons st5 (.cons st6 (.cons st7 (.cons st8 (.cons st9 (.cons st10 (.cons st11 (.cons st12 (.cons st13 (.cons st14 (.cons st15 .nil))))))))))))))))
def f35 : Fn := ⟨"law", ["_law_script"], ["_law_script", "_law_dice", "_law_width", "_law_some", "_law_row_here", "_law_due", "_law_factors", "_law_one"], (.cons (.forS (.one 1) (.of (.call 27 (.cons (.var 0) (.cons (.con (.int 4)) .nil)))) lawBody) (.cons (.ret (.con (.bl true))) .nil))⟩
def fns : List Fn := [f0, f1, f2, f3, f4, f5, f6, f7, f8, f9, f10, f11, f12, f13, f14, f15, f16, f17, f18, f19, f20, f21, f22, f23, f24, f25, f26, f27, f28, f29, f30, f31, f32, f33, f34, f35]
def con : List (Str × D) := [("SIZE", .int 65536), ("WIDEST", .int 16), ("MOST_ROWS", .int 16)]
def dic : List (Str × List (Str × D)) := []
def cnames : List Str := ["FlowError", "InvalidNumber", "InvalidRow", "NotOdd"]
def nms : List (Option Str) := [none, none, none, none]
def insL : List (Str × List Str) := []
def pg : Pg := ⟨fns, con, dic, cnames, 1000000000, nms, [], [], insL⟩
abbrev s0 : Stmt := PySem.Challenge.pw_flowkeep_k03_whole_contained_rows.main.body.getD 7 (.Pass ⟨0, 0, 0, 0⟩)
abbrev s1 : Stmt := PySem.Challenge.pw_flowkeep_k03_whole_contained_rows.main.body.getD 8 (.Pass ⟨0, 0, 0, 0⟩)
abbrev s2 : Stmt := PySem.Challenge.pw_flowkeep_k03_whole_contained_rows.main.body.getD 9 (.Pass ⟨0, 0, 0, 0⟩)
abbrev s3 : Stmt := PySem.Challenge.pw_flowkeep_k03_whole_contained_rows.main.body.getD 10 (.Pass ⟨0, 0, 0, 0⟩)
abbrev s4 : Stmt := PySem.Challenge.pw_flowkeep_k03_whole_contained_rows.main.body.getD 11 (.Pass ⟨0, 0, 0, 0⟩)
abbrev s5 : Stmt := PySem.Challenge.pw_flowkeep_k03_whole_contained_rows.main.body.getD 15 (.Pass ⟨0, 0, 0, 0⟩)
abbrev s6 : Stmt := PySem.Challenge.pw_flowkeep_k03_whole_contained_rows.main.body.getD 16 (.Pass ⟨0, 0, 0, 0⟩)
abbrev s7 : Stmt := PySem.Challenge.pw_flowkeep_k03_whole_contained_rows.main.body.getD 17 (.Pass ⟨0, 0, 0, 0⟩)
abbrev s8 : Stmt := PySem.Challenge.pw_flowkeep_k03_whole_contained_rows.main.body.getD 18 (.Pass ⟨0, 0, 0, 0⟩)
abbrev s9 : Stmt := PySem.Challenge.pw_flowkeep_k03_whole_contained_rows.main.body.getD 19 (.Pass ⟨0, 0, 0, 0⟩)
abbrev s10 : Stmt := PySem.Challenge.pw_flowkeep_k03_whole_contained_rows.main.body.getD 20 (.Pass ⟨0, 0, 0, 0⟩)
abbrev s11 : Stmt := PySem.Challenge.pw_flowkeep_k03_whole_contained_rows.main.body.getD 21 (.Pass ⟨0, 0, 0, 0⟩)
abbrev s12 : Stmt := PySem.Challenge.pw_flowkeep_k03_whole_contained_rows.main.body.getD 22 (.Pass ⟨0, 0, 0, 0⟩)
abbrev s13 : Stmt := PySem.Challenge.pw_flowkeep_k03_whole_contained_rows.main.body.getD 23 (.Pass ⟨0, 0, 0, 0⟩)
abbrev s14 : Stmt := PySem.Challenge.pw_flowkeep_k03_whole_contained_rows.main.body.getD 24 (.Pass ⟨0, 0, 0, 0⟩)
abbrev s15 : Stmt := PySem.Challenge.pw_flowkeep_k03_whole_contained_rows.main.body.getD 25 (.Pass ⟨0, 0, 0, 0⟩)
abbrev s16 : Stmt := PySem.Challenge.pw_flowkeep_k03_whole_contained_rows.main.body.getD 26 (.Pass ⟨0, 0, 0, 0⟩)
abbrev s17 : Stmt := PySem.Challenge.pw_flowkeep_k03_whole_contained_rows.main.body.getD 27 (.Pass ⟨0, 0, 0, 0⟩)
abbrev s18 : Stmt := PySem.Challenge.pw_flowkeep_k03_whole_contained_rows.main.body.getD 28 (.Pass ⟨0, 0, 0, 0⟩)
abbrev s19 : Stmt := PySem.Challenge.pw_flowkeep_k03_whole_contained_rows.main.body.getD 29 (.Pass ⟨0, 0, 0, 0⟩)
abbrev s20 : Stmt := PySem.Challenge.pw_flowkeep_k03_whole_contained_rows.main.body.getD 30 (.Pass ⟨0, 0, 0, 0⟩)
abbrev s21 : Stmt := PySem.Challenge.pw_flowkeep_k03_whole_contained_rows.main.body.getD 31 (.Pass ⟨0, 0, 0, 0⟩)
abbrev s22 : Stmt := PySem.Challenge.pw_flowkeep_k03_whole_contained_rows.main.body.getD 32 (.Pass ⟨0, 0, 0, 0⟩)
abbrev s23 : Stmt := PySem.Challenge.pw_flowkeep_k03_whole_contained_rows.main.body.getD 33 (.Pass ⟨0, 0, 0, 0⟩)
abbrev s24 : Stmt := PySem.Challenge.pw_flowkeep_k03_whole_contained_rows.main.body.getD 35 (.Pass ⟨0, 0, 0, 0⟩)
abbrev s25 : Stmt := PySem.Challenge.pw_flowkeep_k03_whole_contained_rows.main.body.getD 36 (.Pass ⟨0, 0, 0, 0⟩)
abbrev s26 : Stmt := PySem.Challenge.pw_flowkeep_k03_whole_contained_rows.main.body.getD 37 (.Pass ⟨0, 0, 0, 0⟩)
abbrev s27 : Stmt := PySem.Challenge.pw_flowkeep_k03_whole_contained_rows.main.body.getD 38 (.Pass ⟨0, 0, 0, 0⟩)
abbrev s28 : Stmt := PySem.Challenge.pw_flowkeep_k03_whole_contained_rows.main.body.getD 39 (.Pass ⟨0, 0, 0, 0⟩)
abbrev s29 : Stmt := PySem.Challenge.pw_flowkeep_k03_whole_contained_rows.main.body.getD 40 (.Pass ⟨0, 0, 0, 0⟩)
abbrev s30 : Stmt := PySem.Challenge.pw_flowkeep_k03_whole_contained_rows.main.body.getD 41 (.Pass ⟨0, 0, 0, 0⟩)
abbrev s31 : Stmt := PySem.Challenge.pw_flowkeep_k03_whole_contained_rows.main.body.getD 42 (.Pass ⟨0, 0, 0, 0⟩)
abbrev s32 : Stmt := PySem.Challenge.pw_flowkeep_k03_whole_contained_rows.main.body.getD 43 (.Pass ⟨0, 0, 0, 0⟩)
abbrev s33 : Stmt := PySem.Challenge.pw_flowkeep_k03_whole_contained_rows.main.body.getD 44 (.Pass ⟨0, 0, 0, 0⟩)
abbrev s34 : Stmt := PySem.Challenge.pw_flowkeep_k03_whole_contained_rows.main.body.getD 45 (.Pass ⟨0, 0, 0, 0⟩)
abbrev s35 : Stmt := PySem.Challenge.pw_flowkeep_k03_whole_contained_rows.main.body.getD 46 (.Pass ⟨0, 0, 0, 0⟩)
theorem c0 : chkSs f0.N pg (pg.lm "is_integer") f0.body (defScope s0) (defBody s0) = true := by decide +kernel
theorem d0 : FnScope f0.N f0.ps (defScope s0) := ⟨rfl, rfl, rfl, by decide +kernel, rfl, by decide +kernel, by decide +kernel⟩
theorem c1 : chkSs f1.N pg (pg.lm "is_word") f1.body (defScope s1) (defBody s1) = true := by decide +kernel
theorem d1 : FnScope f1.N f1.ps (defScope s1) := ⟨rfl, rfl, rfl, by decide +kernel, rfl, by decide +kernel, by decide +kernel⟩
theorem c2 : chkSs f2.N pg (pg.lm "check_word") f2.body (defScope s2) (defBody s2) = true := by decide +kernel
theorem d2 : FnScope f2.N f2.ps (defScope s2) := ⟨rfl, rfl, rfl, by decide +kernel, rfl, by decide +kernel, by decide +kernel⟩
theorem c3 : chkSs f3.N pg (pg.lm "inverse") f3.body (defScope s3) (defBody s3) = true := by decide +kernel
theorem d3 : FnScope f3.N f3.ps (defScope s3) := ⟨rfl, rfl, rfl, by decide +kernel, rfl, by decide +kernel, by decide +kernel⟩
theorem c4 : chkSs f4.N pg (pg.lm "are_words") f4.body (defScope s4) (defBody s4) = true := by decide +kernel
theorem d4 : FnScope f4.N f4.ps (defScope s4) := ⟨rfl, rfl, rfl, by decide +kernel, rfl, by decide +kernel, by decide +kernel⟩
theorem c5 : chkSs f5.N pg (pg.lm "check_row") f5.body (defScope s5) (defBody s5) = true := by decide +kernel
theorem d5 : FnScope f5.N f5.ps (defScope s5) := ⟨rfl, rfl, rfl, by decide +kernel, rfl, by decide +kernel, by decide +kernel⟩
theorem c6 : chkSs f6.N pg (pg.lm "check_width") f6.body (defScope s6) (defBody s6) = true := by decide +kernel
theorem d6 : FnScope f6.N f6.ps (defScope s6) := ⟨rfl, rfl, rfl, by decide +kernel, rfl, by decide +kernel, by decide +kernel⟩
theorem c7 : chkSs f7.N pg (pg.lm "check_rows") f7.body (defScope s7) (defBody s7) = true := by decide +kernel
theorem d7 : FnScope f7.N f7.ps (defScope s7) := ⟨rfl, rfl, rfl, by decide +kernel, rfl, by decide +kernel, by decide +kernel⟩
theorem c8 : chkSs f8.N pg (pg.lm "lead") f8.body (defScope s8) (defBody s8) = true := by decide +kernel
theorem d8 : FnScope f8.N f8.ps (defScope s8) := ⟨rfl, rfl, rfl, by decide +kernel, rfl, by decide +kernel, by decide +kernel⟩
theorem c9 : chkSs f9.N pg (pg.lm "scaled") f9.body (defScope s9) (defBody s9) = true := by decide +kernel
theorem d9 : FnScope f9.N f9.ps (defScope s9) := ⟨rfl, rfl, rfl, by decide +kernel, rfl, by decide +kernel, by decide +kernel⟩
theorem c10 : chkSs f10.N pg (pg.lm "lessened") f10.body (defScope s10) (defBody s10) = true := by decide +kernel
theorem d10 : FnScope f10.N f10.ps (defScope s10) := ⟨rfl, rfl, rfl, by decide +kernel, rfl, by decide +kernel, by decide +kernel⟩
theorem c11 : chkSs f11.N pg (pg.lm "with_power") f11.body (defScope s11) (defBody s11) = true := by decide +kernel
theorem d11 : FnScope f11.N f11.ps (defScope s11) := ⟨rfl, rfl, rfl, by decide +kernel, rfl, by decide +kernel, by decide +kernel⟩
theorem c12 : chkSs f12.N pg (pg.lm "take_in") f12.body (defScope s12) (defBody s12) = true := by decide +kernel
theorem d12 : FnScope f12.N f12.ps (defScope s12) := ⟨rfl, rfl, rfl, by decide +kernel, rfl, by decide +kernel, by decide +kernel⟩
theorem c13 : chkSs f13.N pg (pg.lm "closed") f13.body (defScope s13) (defBody s13) = true := by decide +kernel
theorem d13 : FnScope f13.N f13.ps (defScope s13) := ⟨rfl, rfl, rfl, by decide +kernel, rfl, by decide +kernel, by decide +kernel⟩
theorem c14 : chkSs f14.N pg (pg.lm "rest") f14.body (defScope s14) (defBody s14) = true := by decide +kernel
theorem d14 : FnScope f14.N f14.ps (defScope s14) := ⟨rfl, rfl, rfl, by decide +kernel, rfl, by decide +kernel, by decide +kernel⟩
theorem c15 : chkSs f15.N pg (pg.lm "form_of") f15.body (defScope s15) (defBody s15) = true := by decide +kernel
theorem d15 : FnScope f15.N f15.ps (defScope s15) := ⟨rfl, rfl, rfl, by decide +kernel, rfl, by decide +kernel, by decide +kernel⟩
theorem c16 : chkSs f16.N pg (pg.lm "unit") f16.body (defScope s16) (defBody s16) = true := by decide +kernel
theorem d16 : FnScope f16.N f16.ps (defScope s16) := ⟨rfl, rfl, rfl, by decide +kernel, rfl, by decide +kernel, by decide +kernel⟩
theorem c17 : chkSs f17.N pg (pg.lm "tails") f17.body (defScope s17) (defBody s17) = true := by decide +kernel
theorem d17 : FnScope f17.N f17.ps (defScope s17) := ⟨rfl, rfl, rfl, by decide +kernel, rfl, by decide +kernel, by decide +kernel⟩
theorem c18 : chkSs f18.N pg (pg.lm "equations_of") f18.body (defScope s18) (defBody s18) = true := by decide +kernel
theorem d18 : FnScope f18.N f18.ps (defScope s18) := ⟨rfl, rfl, rfl, by decide +kernel, rfl, by decide +kernel, by decide +kernel⟩
theorem c19 : chkSs f19.N pg (pg.lm "form") f19.body (defScope s19) (defBody s19) = true := by decide +kernel
theorem d19 : FnScope f19.N f19.ps (defScope s19) := ⟨rfl, rfl, rfl, by decide +kernel, rfl, by decide +kernel, by decide +kernel⟩
theorem c20 : chkSs f20.N pg (pg.lm "contains") f20.body (defScope s20) (defBody s20) = true := by decide +kernel
theorem d20 : FnScope f20.N f20.ps (defScope s20) := ⟨rfl, rfl, rfl, by decide +kernel, rfl, by decide +kernel, by decide +kernel⟩
theorem c21 : chkSs f21.N pg (pg.lm "same_span") f21.body (defScope s21) (defBody s21) = true := by decide +kernel
theorem d21 : FnScope f21.N f21.ps (defScope s21) := ⟨rfl, rfl, rfl, by decide +kernel, rfl, by decide +kernel, by decide +kernel⟩
theorem c22 : chkSs f22.N pg (pg.lm "equations") f22.body (defScope s22) (defBody s22) = true := by decide +kernel
theorem d22 : FnScope f22.N f22.ps (defScope s22) := ⟨rfl, rfl, rfl, by decide +kernel, rfl, by decide +kernel, by decide +kernel⟩
theorem c23 : chkSs f23.N pg (pg.lm "multipliers") f23.body (defScope s23) (defBody s23) = true := by decide +kernel
theorem d23 : FnScope f23.N f23.ps (defScope s23) := ⟨rfl, rfl, rfl, by decide +kernel, rfl, by decide +kernel, by decide +kernel⟩
theorem c24 : chkSs f24.N pg (pg.lm "_law_cell") f24.body (defScope s24) (defBody s24) = true := by decide +kernel
theorem d24 : FnScope f24.N f24.ps (defScope s24) := ⟨rfl, rfl, rfl, by decide +kernel, rfl, by decide +kernel, by decide +kernel⟩
theorem c25 : chkSs f25.N pg (pg.lm "_law_drawn") f25.body (defScope s25) (defBody s25) = true := by decide +kernel
theorem d25 : FnScope f25.N f25.ps (defScope s25) := ⟨rfl, rfl, rfl, by decide +kernel, rfl, by decide +kernel, by decide +kernel⟩
theorem c26 : chkSs f26.N pg (pg.lm "_law_roll") f26.body (defScope s26) (defBody s26) = true := by decide +kernel
theorem d26 : FnScope f26.N f26.ps (defScope s26) := ⟨rfl, rfl, rfl, by decide +kernel, rfl, by decide +kernel, by decide +kernel⟩
theorem c27 : chkSs f27.N pg (pg.lm "_law_rounds") f27.body (defScope s27) (defBody s27) = true := by decide +kernel
theorem d27 : FnScope f27.N f27.ps (defScope s27) := ⟨rfl, rfl, rfl, by decide +kernel, rfl, by decide +kernel, by decide +kernel⟩
theorem c28 : chkSs f28.N pg (pg.lm "_law_word") f28.body (defScope s28) (defBody s28) = true := by decide +kernel
theorem d28 : FnScope f28.N f28.ps (defScope s28) := ⟨rfl, rfl, rfl, by decide +kernel, rfl, by decide +kernel, by decide +kernel⟩
theorem c29 : chkSs f29.N pg (pg.lm "_law_row") f29.body (defScope s29) (defBody s29) = true := by decide +kernel
theorem d29 : FnScope f29.N f29.ps (defScope s29) := ⟨rfl, rfl, rfl, by decide +kernel, rfl, by decide +kernel, by decide +kernel⟩
theorem c30 : chkSs f30.N pg (pg.lm "_law_rows") f30.body (defScope s30) (defBody s30) = true := by decide +kernel
theorem d30 : FnScope f30.N f30.ps (defScope s30) := ⟨rfl, rfl, rfl, by decide +kernel, rfl, by decide +kernel, by decide +kernel⟩
theorem c31 : chkSs f31.N pg (pg.lm "_law_product") f31.body (defScope s31) (defBody s31) = true := by decide +kernel
theorem d31 : FnScope f31.N f31.ps (defScope s31) := ⟨rfl, rfl, rfl, by decide +kernel, rfl, by decide +kernel, by decide +kernel⟩
theorem c32 : chkSs f32.N pg (pg.lm "_law_sum") f32.body (defScope s32) (defBody s32) = true := by decide +kernel
theorem d32 : FnScope f32.N f32.ps (defScope s32) := ⟨rfl, rfl, rfl, by decide +kernel, rfl, by decide +kernel, by decide +kernel⟩
theorem c33 : chkSs f33.N pg (pg.lm "_law_lead") f33.body (defScope s33) (defBody s33) = true := by decide +kernel
theorem d33 : FnScope f33.N f33.ps (defScope s33) := ⟨rfl, rfl, rfl, by decide +kernel, rfl, by decide +kernel, by decide +kernel⟩
theorem c34 : chkSs f34.N pg (pg.lm "_law_rest") f34.body (defScope s34) (defBody s34) = true := by decide +kernel
theorem d34 : FnScope f34.N f34.ps (defScope s34) := ⟨rfl, rfl, rfl, by decide +kernel, rfl, by decide +kernel, by decide +kernel⟩
theorem c35 : chkSs f35.N pg (pg.lm "law") f35.body (defScope s35) (defBody s35) = true := by decide +kernel
theorem d35 : FnScope f35.N f35.ps (defScope s35) := ⟨rfl, rfl, rfl, by decide +kernel, rfl, by decide +kernel, by decide +kernel⟩
def sx : WP.Spans.Ix := ⟨0, 1, 2, 3, 4, 5, 6, 7, 8, 9, 10, 11, 12, 13, 14, 15, 16, 19, 21, 23, 0, 1, 2, 1, 2, 3⟩
theorem sx_at : WP.Spans.At pg sx := ⟨by decide, rfl, rfl, rfl, rfl, rfl, rfl, rfl, rfl, rfl, rfl, rfl, rfl, rfl, rfl, rfl, rfl, rfl, rfl, rfl, rfl, rfl⟩
def rx : WP.Rl.RIx := ⟨26, 25, 28, 29, 30, 32, 33, 34, 0⟩
theorem rx_at : WP.Rl.RAt pg rx := ⟨rfl, rfl, rfl, rfl, rfl, rfl, rfl⟩
def ex : WP.Spans.EIx := ⟨20, 17, 18, 22⟩
theorem ex_at : WP.Spans.EAt pg sx ex := ⟨rfl, rfl, rfl, rfl⟩
theorem yt_at : WP.K03.Yt pg sx rx ex 31 := ⟨rfl, rfl, rfl, rfl, ex_at⟩
theorem own_run (c : Int) : goesOn 8 (evSs (cal pg 42) pg.wl lawBody (frD f35.N 1) [.lst [.int c, .int 0]]) = true := by
  obtain ⟨δ, H, e, hl⟩ := WP.K03.run yt_at sx_at rx_at 22 pg.wl c
  have e2 : evSs (cal pg 42) pg.wl lawBody (frD f35.N 1) [.lst [.int c, .int 0]] = .ok (.nx δ) H := e
  rw [e2]
  exact decide_eq_true hl
theorem law_at {P : Program} {w : World} {K : PySem.W.Frag} {mg : Str → Option Value} {T : List (Addr × Str)} {cs : List (Addr × Addr)} {cls : Nat → Addr} (t : Top P w K mg T cs cls pg) :
    ∃ a fd, mg ("law" : Str) = some (.ref a) ∧ (∀ (s : Shared) (u : Value), BindsTo s fd ⟨[u], []⟩ [("_law_script", u)]) ∧ ∀ base : Heap, (∀ p ∈ cs, LamX.TabB base mg p.1 p.2) → FnOk P w K mg base (L2N.CX P w) 43 a fd ["_law_script"] (spLawF K T) := by
  refine law_fn t (iC := 24) (iR := 27) (n := 40) (d := 1) (most := 4) (b := lawBody) (N := f35.N) rfl rfl (by decide) (by decide) (iL := 35) rfl (t.fn 35 f35 rfl) fun X E g hN u hc => ?_
  rw [← hN] at hc
  refine body_run g hc fun c => ?_
  rw [hN]
  exact own_run c
set_option maxHeartbeats 0 in
theorem fin {w : World} {K : PySem.W.Frag} {h : Heap} {fa : Addr} {mg : Str → Option Value} (X : K.In h) (G : h.Ns mainGlobals mg) (hmg : mg ("law" : Str) = some (.ref fa))
    {g0 : Addr} {od0 an0 : Option Addr} {sl0 : Array (Option Value)} {oc0 kV0 dc0 pm0 ct0 : Value} {cd0 : Value}
    {g1 : Addr} {od1 an1 : Option Addr} {sl1 : Array (Option Value)} {oc1 kV1 dc1 pm1 ct1 : Value} {cd1 : Value}
    {g2 : Addr} {od2 an2 : Option Addr} {sl2 : Array (Option Value)} {oc2 kV2 dc2 pm2 ct2 : Value} {cd2 : Value}
    {g3 : Addr} {od3 an3 : Option Addr} {sl3 : Array (Option Value)} {oc3 kV3 dc3 pm3 ct3 : Value} {cd3 : Value}
    {g4 : Addr} {od4 an4 : Option Addr} {sl4 : Array (Option Value)} {oc4 kV4 dc4 pm4 ct4 : Value} {cd4 : Value}
    {g5 : Addr} {od5 an5 : Option Addr} {sl5 : Array (Option Value)} {oc5 kV5 dc5 pm5 ct5 : Value} {cd5 : Value}
    {g6 : Addr} {od6 an6 : Option Addr} {sl6 : Array (Option Value)} {oc6 kV6 dc6 pm6 ct6 : Value} {cd6 : Value}
    {g7 : Addr} {od7 an7 : Option Addr} {sl7 : Array (Option Value)} {oc7 kV7 dc7 pm7 ct7 : Value} {cd7 : Value}
    {g8 : Addr} {od8 an8 : Option Addr} {sl8 : Array (Option Value)} {oc8 kV8 dc8 pm8 ct8 : Value} {cd8 : Value}
    {g9 : Addr} {od9 an9 : Option Addr} {sl9 : Array (Option Value)} {oc9 kV9 dc9 pm9 ct9 : Value} {cd9 : Value}
    {g10 : Addr} {od10 an10 : Option Addr} {sl10 : Array (Option Value)} {oc10 kV10 dc10 pm10 ct10 : Value} {cd10 : Value}
    {g11 : Addr} {od11 an11 : Option Addr} {sl11 : Array (Option Value)} {oc11 kV11 dc11 pm11 ct11 : Value} {cd11 : Value}
    {g12 : Addr} {od12 an12 : Option Addr} {sl12 : Array (Option Value)} {oc12 kV12 dc12 pm12 ct12 : Value} {cd12 : Value}
    {g13 : Addr} {od13 an13 : Option Addr} {sl13 : Array (Option Value)} {oc13 kV13 dc13 pm13 ct13 : Value} {cd13 : Value}
    {g14 : Addr} {od14 an14 : Option Addr} {sl14 : Array (Option Value)} {oc14 kV14 dc14 pm14 ct14 : Value} {cd14 : Value}
    {g15 : Addr} {od15 an15 : Option Addr} {sl15 : Array (Option Value)} {oc15 kV15 dc15 pm15 ct15 : Value} {cd15 : Value}
    {g16 : Addr} {od16 an16 : Option Addr} {sl16 : Array (Option Value)} {oc16 kV16 dc16 pm16 ct16 : Value} {cd16 : Value}
    {g17 : Addr} {od17 an17 : Option Addr} {sl17 : Array (Option Value)} {oc17 kV17 dc17 pm17 ct17 : Value} {cd17 : Value}
    {g18 : Addr} {od18 an18 : Option Addr} {sl18 : Array (Option Value)} {oc18 kV18 dc18 pm18 ct18 : Value} {cd18 : Value}
    {g19 : Addr} {od19 an19 : Option Addr} {sl19 : Array (Option Value)} {oc19 kV19 dc19 pm19 ct19 : Value} {cd19 : Value}
    {g20 : Addr} {od20 an20 : Option Addr} {sl20 : Array (Option Value)} {oc20 kV20 dc20 pm20 ct20 : Value} {cd20 : Value}
    {g21 : Addr} {od21 an21 : Option Addr} {sl21 : Array (Option Value)} {oc21 kV21 dc21 pm21 ct21 : Value} {cd21 : Value}
    {g22 : Addr} {od22 an22 : Option Addr} {sl22 : Array (Option Value)} {oc22 kV22 dc22 pm22 ct22 : Value} {cd22 : Value}
    {g23 : Addr} {od23 an23 : Option Addr} {sl23 : Array (Option Value)} {oc23 kV23 dc23 pm23 ct23 : Value} {cd23 : Value}
    {g24 : Addr} {od24 an24 : Option Addr} {sl24 : Array (Option Value)} {oc24 kV24 dc24 pm24 ct24 : Value} {cd24 : Value}
    {g25 : Addr} {od25 an25 : Option Addr} {sl25 : Array (Option Value)} {oc25 kV25 dc25 pm25 ct25 : Value} {cd25 : Value}
    {g26 : Addr} {od26 an26 : Option Addr} {sl26 : Array (Option Value)} {oc26 kV26 dc26 pm26 ct26 : Value} {cd26 : Value}
    {g27 : Addr} {od27 an27 : Option Addr} {sl27 : Array (Option Value)} {oc27 kV27 dc27 pm27 ct27 : Value} {cd27 : Value}
    {g28 : Addr} {od28 an28 : Option Addr} {sl28 : Array (Option Value)} {oc28 kV28 dc28 pm28 ct28 : Value} {cd28 : Value}
    {g29 : Addr} {od29 an29 : Option Addr} {sl29 : Array (Option Value)} {oc29 kV29 dc29 pm29 ct29 : Value} {cd29 : Value}
    {g30 : Addr} {od30 an30 : Option Addr} {sl30 : Array (Option Value)} {oc30 kV30 dc30 pm30 ct30 : Value} {cd30 : Value}
    {g31 : Addr} {od31 an31 : Option Addr} {sl31 : Array (Option Value)} {oc31 kV31 dc31 pm31 ct31 : Value} {cd31 : Value}
    {g32 : Addr} {od32 an32 : Option Addr} {sl32 : Array (Option Value)} {oc32 kV32 dc32 pm32 ct32 : Value} {cd32 : Value}
    {g33 : Addr} {od33 an33 : Option Addr} {sl33 : Array (Option Value)} {oc33 kV33 dc33 pm33 ct33 : Value} {cd33 : Value}
    {g34 : Addr} {od34 an34 : Option Addr} {sl34 : Array (Option Value)} {oc34 kV34 dc34 pm34 ct34 : Value} {cd34 : Value}
    {g35 : Addr} {od35 an35 : Option Addr} {sl35 : Array (Option Value)} {oc35 kV35 dc35 pm35 ct35 : Value} {cd35 : Value}
    {w0 : Tok}
    {w1 : Tok}
    {w2 : Tok}
    {x0 : Addr}
    {x1 : Addr}
    {x2 : Addr}
    {x3 : Addr}
    (a0 : PySem.W.nsIn K mainGlobals "is_integer" = some (some (.ref g0)))
    (l0 : K.lookup g0 = some ⟨oc0, od0, .func (PySem.W.fnOf "is_integer" "is_integer" (defArgs s0) (defBody s0) (defScope s0) .none kV0 dc0 pm0 an0 cd0 ct0), sl0⟩)
    (e0 : PySem.W.codeIn K cd0 "is_integer" = true)
    (k0 : PySem.W.keepIn K (.ref g0) = true)
    (a1 : PySem.W.nsIn K mainGlobals "is_word" = some (some (.ref g1)))
    (l1 : K.lookup g1 = some ⟨oc1, od1, .func (PySem.W.fnOf "is_word" "is_word" (defArgs s1) (defBody s1) (defScope s1) .none kV1 dc1 pm1 an1 cd1 ct1), sl1⟩)
    (e1 : PySem.W.codeIn K cd1 "is_word" = true)
    (k1 : PySem.W.keepIn K (.ref g1) = true)
    (a2 : PySem.W.nsIn K mainGlobals "check_word" = some (some (.ref g2)))
    (l2 : K.lookup g2 = some ⟨oc2, od2, .func (PySem.W.fnOf "check_word" "check_word" (defArgs s2) (defBody s2) (defScope s2) .none kV2 dc2 pm2 an2 cd2 ct2), sl2⟩)
    (e2 : PySem.W.codeIn K cd2 "check_word" = true)
    (k2 : PySem.W.keepIn K (.ref g2) = true)
    (a3 : PySem.W.nsIn K mainGlobals "inverse" = some (some (.ref g3)))
    (l3 : K.lookup g3 = some ⟨oc3, od3, .func (PySem.W.fnOf "inverse" "inverse" (defArgs s3) (defBody s3) (defScope s3) .none kV3 dc3 pm3 an3 cd3 ct3), sl3⟩)
    (e3 : PySem.W.codeIn K cd3 "inverse" = true)
    (k3 : PySem.W.keepIn K (.ref g3) = true)
    (a4 : PySem.W.nsIn K mainGlobals "are_words" = some (some (.ref g4)))
    (l4 : K.lookup g4 = some ⟨oc4, od4, .func (PySem.W.fnOf "are_words" "are_words" (defArgs s4) (defBody s4) (defScope s4) .none kV4 dc4 pm4 an4 cd4 ct4), sl4⟩)
    (e4 : PySem.W.codeIn K cd4 "are_words" = true)
    (k4 : PySem.W.keepIn K (.ref g4) = true)
    (a5 : PySem.W.nsIn K mainGlobals "check_row" = some (some (.ref g5)))
    (l5 : K.lookup g5 = some ⟨oc5, od5, .func (PySem.W.fnOf "check_row" "check_row" (defArgs s5) (defBody s5) (defScope s5) .none kV5 dc5 pm5 an5 cd5 ct5), sl5⟩)
    (e5 : PySem.W.codeIn K cd5 "check_row" = true)
    (k5 : PySem.W.keepIn K (.ref g5) = true)
    (a6 : PySem.W.nsIn K mainGlobals "check_width" = some (some (.ref g6)))
    (l6 : K.lookup g6 = some ⟨oc6, od6, .func (PySem.W.fnOf "check_width" "check_width" (defArgs s6) (defBody s6) (defScope s6) .none kV6 dc6 pm6 an6 cd6 ct6), sl6⟩)
    (e6 : PySem.W.codeIn K cd6 "check_width" = true)
    (k6 : PySem.W.keepIn K (.ref g6) = true)
    (a7 : PySem.W.nsIn K mainGlobals "check_rows" = some (some (.ref g7)))
    (l7 : K.lookup g7 = some ⟨oc7, od7, .func (PySem.W.fnOf "check_rows" "check_rows" (defArgs s7) (defBody s7) (defScope s7) .none kV7 dc7 pm7 an7 cd7 ct7), sl7⟩)
    (e7 : PySem.W.codeIn K cd7 "check_rows" = true)
    (k7 : PySem.W.keepIn K (.ref g7) = true)
    (a8 : PySem.W.nsIn K mainGlobals "lead" = some (some (.ref g8)))
    (l8 : K.lookup g8 = some ⟨oc8, od8, .func (PySem.W.fnOf "lead" "lead" (defArgs s8) (defBody s8) (defScope s8) .none kV8 dc8 pm8 an8 cd8 ct8), sl8⟩)
    (e8 : PySem.W.codeIn K cd8 "lead" = true)
    (k8 : PySem.W.keepIn K (.ref g8) = true)
    (a9 : PySem.W.nsIn K mainGlobals "scaled" = some (some (.ref g9)))
    (l9 : K.lookup g9 = some ⟨oc9, od9, .func (PySem.W.fnOf "scaled" "scaled" (defArgs s9) (defBody s9) (defScope s9) .none kV9 dc9 pm9 an9 cd9 ct9), sl9⟩)
    (e9 : PySem.W.codeIn K cd9 "scaled" = true)
    (k9 : PySem.W.keepIn K (.ref g9) = true)
    (a10 : PySem.W.nsIn K mainGlobals "lessened" = some (some (.ref g10)))
    (l10 : K.lookup g10 = some ⟨oc10, od10, .func (PySem.W.fnOf "lessened" "lessened" (defArgs s10) (defBody s10) (defScope s10) .none kV10 dc10 pm10 an10 cd10 ct10), sl10⟩)
    (e10 : PySem.W.codeIn K cd10 "lessened" = true)
    (k10 : PySem.W.keepIn K (.ref g10) = true)
    (a11 : PySem.W.nsIn K mainGlobals "with_power" = some (some (.ref g11)))
    (l11 : K.lookup g11 = some ⟨oc11, od11, .func (PySem.W.fnOf "with_power" "with_power" (defArgs s11) (defBody s11) (defScope s11) .none kV11 dc11 pm11 an11 cd11 ct11), sl11⟩)
    (e11 : PySem.W.codeIn K cd11 "with_power" = true)
    (k11 : PySem.W.keepIn K (.ref g11) = true)
    (a12 : PySem.W.nsIn K mainGlobals "take_in" = some (some (.ref g12)))
    (l12 : K.lookup g12 = some ⟨oc12, od12, .func (PySem.W.fnOf "take_in" "take_in" (defArgs s12) (defBody s12) (defScope s12) .none kV12 dc12 pm12 an12 cd12 ct12), sl12⟩)
    (e12 : PySem.W.codeIn K cd12 "take_in" = true)
    (k12 : PySem.W.keepIn K (.ref g12) = true)
    (a13 : PySem.W.nsIn K mainGlobals "closed" = some (some (.ref g13)))
    (l13 : K.lookup g13 = some ⟨oc13, od13, .func (PySem.W.fnOf "closed" "closed" (defArgs s13) (defBody s13) (defScope s13) .none kV13 dc13 pm13 an13 cd13 ct13), sl13⟩)
    (e13 : PySem.W.codeIn K cd13 "closed" = true)
    (k13 : PySem.W.keepIn K (.ref g13) = true)
    (a14 : PySem.W.nsIn K mainGlobals "rest" = some (some (.ref g14)))
    (l14 : K.lookup g14 = some ⟨oc14, od14, .func (PySem.W.fnOf "rest" "rest" (defArgs s14) (defBody s14) (defScope s14) .none kV14 dc14 pm14 an14 cd14 ct14), sl14⟩)
    (e14 : PySem.W.codeIn K cd14 "rest" = true)
    (k14 : PySem.W.keepIn K (.ref g14) = true)
    (a15 : PySem.W.nsIn K mainGlobals "form_of" = some (some (.ref g15)))
    (l15 : K.lookup g15 = some ⟨oc15, od15, .func (PySem.W.fnOf "form_of" "form_of" (defArgs s15) (defBody s15) (defScope s15) .none kV15 dc15 pm15 an15 cd15 ct15), sl15⟩)
    (e15 : PySem.W.codeIn K cd15 "form_of" = true)
    (k15 : PySem.W.keepIn K (.ref g15) = true)
    (a16 : PySem.W.nsIn K mainGlobals "unit" = some (some (.ref g16)))
    (l16 : K.lookup g16 = some ⟨oc16, od16, .func (PySem.W.fnOf "unit" "unit" (defArgs s16) (defBody s16) (defScope s16) .none kV16 dc16 pm16 an16 cd16 ct16), sl16⟩)
    (e16 : PySem.W.codeIn K cd16 "unit" = true)
    (k16 : PySem.W.keepIn K (.ref g16) = true)
    (a17 : PySem.W.nsIn K mainGlobals "tails" = some (some (.ref g17)))
    (l17 : K.lookup g17 = some ⟨oc17, od17, .func (PySem.W.fnOf "tails" "tails" (defArgs s17) (defBody s17) (defScope s17) .none kV17 dc17 pm17 an17 cd17 ct17), sl17⟩)
    (e17 : PySem.W.codeIn K cd17 "tails" = true)
    (k17 : PySem.W.keepIn K (.ref g17) = true)
    (a18 : PySem.W.nsIn K mainGlobals "equations_of" = some (some (.ref g18)))
    (l18 : K.lookup g18 = some ⟨oc18, od18, .func (PySem.W.fnOf "equations_of" "equations_of" (defArgs s18) (defBody s18) (defScope s18) .none kV18 dc18 pm18 an18 cd18 ct18), sl18⟩)
    (e18 : PySem.W.codeIn K cd18 "equations_of" = true)
    (k18 : PySem.W.keepIn K (.ref g18) = true)
    (a19 : PySem.W.nsIn K mainGlobals "form" = some (some (.ref g19)))
    (l19 : K.lookup g19 = some ⟨oc19, od19, .func (PySem.W.fnOf "form" "form" (defArgs s19) (defBody s19) (defScope s19) .none kV19 dc19 pm19 an19 cd19 ct19), sl19⟩)
    (e19 : PySem.W.codeIn K cd19 "form" = true)
    (k19 : PySem.W.keepIn K (.ref g19) = true)
    (a20 : PySem.W.nsIn K mainGlobals "contains" = some (some (.ref g20)))
    (l20 : K.lookup g20 = some ⟨oc20, od20, .func (PySem.W.fnOf "contains" "contains" (defArgs s20) (defBody s20) (defScope s20) .none kV20 dc20 pm20 an20 cd20 ct20), sl20⟩)
    (e20 : PySem.W.codeIn K cd20 "contains" = true)
    (k20 : PySem.W.keepIn K (.ref g20) = true)
    (a21 : PySem.W.nsIn K mainGlobals "same_span" = some (some (.ref g21)))
    (l21 : K.lookup g21 = some ⟨oc21, od21, .func (PySem.W.fnOf "same_span" "same_span" (defArgs s21) (defBody s21) (defScope s21) .none kV21 dc21 pm21 an21 cd21 ct21), sl21⟩)
    (e21 : PySem.W.codeIn K cd21 "same_span" = true)
    (k21 : PySem.W.keepIn K (.ref g21) = true)
    (a22 : PySem.W.nsIn K mainGlobals "equations" = some (some (.ref g22)))
    (l22 : K.lookup g22 = some ⟨oc22, od22, .func (PySem.W.fnOf "equations" "equations" (defArgs s22) (defBody s22) (defScope s22) .none kV22 dc22 pm22 an22 cd22 ct22), sl22⟩)
    (e22 : PySem.W.codeIn K cd22 "equations" = true)
    (k22 : PySem.W.keepIn K (.ref g22) = true)
    (a23 : PySem.W.nsIn K mainGlobals "multipliers" = some (some (.ref g23)))
    (l23 : K.lookup g23 = some ⟨oc23, od23, .func (PySem.W.fnOf "multipliers" "multipliers" (defArgs s23) (defBody s23) (defScope s23) .none kV23 dc23 pm23 an23 cd23 ct23), sl23⟩)
    (e23 : PySem.W.codeIn K cd23 "multipliers" = true)
    (k23 : PySem.W.keepIn K (.ref g23) = true)
    (a24 : PySem.W.nsIn K mainGlobals "_law_cell" = some (some (.ref g24)))
    (l24 : K.lookup g24 = some ⟨oc24, od24, .func (PySem.W.fnOf "_law_cell" "_law_cell" (defArgs s24) (defBody s24) (defScope s24) .none kV24 dc24 pm24 an24 cd24 ct24), sl24⟩)
    (e24 : PySem.W.codeIn K cd24 "_law_cell" = true)
    (k24 : PySem.W.keepIn K (.ref g24) = true)
    (a25 : PySem.W.nsIn K mainGlobals "_law_drawn" = some (some (.ref g25)))
    (l25 : K.lookup g25 = some ⟨oc25, od25, .func (PySem.W.fnOf "_law_drawn" "_law_drawn" (defArgs s25) (defBody s25) (defScope s25) .none kV25 dc25 pm25 an25 cd25 ct25), sl25⟩)
    (e25 : PySem.W.codeIn K cd25 "_law_drawn" = true)
    (k25 : PySem.W.keepIn K (.ref g25) = true)
    (a26 : PySem.W.nsIn K mainGlobals "_law_roll" = some (some (.ref g26)))
    (l26 : K.lookup g26 = some ⟨oc26, od26, .func (PySem.W.fnOf "_law_roll" "_law_roll" (defArgs s26) (defBody s26) (defScope s26) .none kV26 dc26 pm26 an26 cd26 ct26), sl26⟩)
    (e26 : PySem.W.codeIn K cd26 "_law_roll" = true)
    (k26 : PySem.W.keepIn K (.ref g26) = true)
    (a27 : PySem.W.nsIn K mainGlobals "_law_rounds" = some (some (.ref g27)))
    (l27 : K.lookup g27 = some ⟨oc27, od27, .func (PySem.W.fnOf "_law_rounds" "_law_rounds" (defArgs s27) (defBody s27) (defScope s27) .none kV27 dc27 pm27 an27 cd27 ct27), sl27⟩)
    (e27 : PySem.W.codeIn K cd27 "_law_rounds" = true)
    (k27 : PySem.W.keepIn K (.ref g27) = true)
    (a28 : PySem.W.nsIn K mainGlobals "_law_word" = some (some (.ref g28)))
    (l28 : K.lookup g28 = some ⟨oc28, od28, .func (PySem.W.fnOf "_law_word" "_law_word" (defArgs s28) (defBody s28) (defScope s28) .none kV28 dc28 pm28 an28 cd28 ct28), sl28⟩)
    (e28 : PySem.W.codeIn K cd28 "_law_word" = true)
    (k28 : PySem.W.keepIn K (.ref g28) = true)
    (a29 : PySem.W.nsIn K mainGlobals "_law_row" = some (some (.ref g29)))
    (l29 : K.lookup g29 = some ⟨oc29, od29, .func (PySem.W.fnOf "_law_row" "_law_row" (defArgs s29) (defBody s29) (defScope s29) .none kV29 dc29 pm29 an29 cd29 ct29), sl29⟩)
    (e29 : PySem.W.codeIn K cd29 "_law_row" = true)
    (k29 : PySem.W.keepIn K (.ref g29) = true)
    (a30 : PySem.W.nsIn K mainGlobals "_law_rows" = some (some (.ref g30)))
    (l30 : K.lookup g30 = some ⟨oc30, od30, .func (PySem.W.fnOf "_law_rows" "_law_rows" (defArgs s30) (defBody s30) (defScope s30) .none kV30 dc30 pm30 an30 cd30 ct30), sl30⟩)
    (e30 : PySem.W.codeIn K cd30 "_law_rows" = true)
    (k30 : PySem.W.keepIn K (.ref g30) = true)
    (a31 : PySem.W.nsIn K mainGlobals "_law_product" = some (some (.ref g31)))
    (l31 : K.lookup g31 = some ⟨oc31, od31, .func (PySem.W.fnOf "_law_product" "_law_product" (defArgs s31) (defBody s31) (defScope s31) .none kV31 dc31 pm31 an31 cd31 ct31), sl31⟩)
    (e31 : PySem.W.codeIn K cd31 "_law_product" = true)
    (k31 : PySem.W.keepIn K (.ref g31) = true)
    (a32 : PySem.W.nsIn K mainGlobals "_law_sum" = some (some (.ref g32)))
    (l32 : K.lookup g32 = some ⟨oc32, od32, .func (PySem.W.fnOf "_law_sum" "_law_sum" (defArgs s32) (defBody s32) (defScope s32) .none kV32 dc32 pm32 an32 cd32 ct32), sl32⟩)
    (e32 : PySem.W.codeIn K cd32 "_law_sum" = true)
    (k32 : PySem.W.keepIn K (.ref g32) = true)
    (a33 : PySem.W.nsIn K mainGlobals "_law_lead" = some (some (.ref g33)))
    (l33 : K.lookup g33 = some ⟨oc33, od33, .func (PySem.W.fnOf "_law_lead" "_law_lead" (defArgs s33) (defBody s33) (defScope s33) .none kV33 dc33 pm33 an33 cd33 ct33), sl33⟩)
    (e33 : PySem.W.codeIn K cd33 "_law_lead" = true)
    (k33 : PySem.W.keepIn K (.ref g33) = true)
    (a34 : PySem.W.nsIn K mainGlobals "_law_rest" = some (some (.ref g34)))
    (l34 : K.lookup g34 = some ⟨oc34, od34, .func (PySem.W.fnOf "_law_rest" "_law_rest" (defArgs s34) (defBody s34) (defScope s34) .none kV34 dc34 pm34 an34 cd34 ct34), sl34⟩)
    (e34 : PySem.W.codeIn K cd34 "_law_rest" = true)
    (k34 : PySem.W.keepIn K (.ref g34) = true)
    (a35 : PySem.W.nsIn K mainGlobals "law" = some (some (.ref g35)))
    (l35 : K.lookup g35 = some ⟨oc35, od35, .func (PySem.W.fnOf "law" "law" (defArgs s35) (defBody s35) (defScope s35) .none kV35 dc35 pm35 an35 cd35 ct35), sl35⟩)
    (e35 : PySem.W.codeIn K cd35 "law" = true)
    (k35 : PySem.W.keepIn K (.ref g35) = true)
    (n0 : PySem.W.nsIn K mainGlobals "SIZE" = some (some (.int 65536 w0)))
    (n1 : PySem.W.nsIn K mainGlobals "WIDEST" = some (some (.int 16 w1)))
    (n2 : PySem.W.nsIn K mainGlobals "MOST_ROWS" = some (some (.int 16 w2)))
    (xa0 : PySem.W.nsIn K mainGlobals "FlowError" = some (some (.ref x0)))
    (xe0 : PySem.W.excIn K x0 [.type "ValueError", .type "Exception", .type "BaseException", .type "object"] "ValueError.__new__" = true)
    (xk0 : PySem.W.keepIn K (.ref x0) = true)
    (xs0 : PySem.W.subIn K (.ref x0) (.type "BaseException") = some true)
    (xt0 : PySem.W.typeIn K (.ref x0) = some (.type "type"))
    (xa1 : PySem.W.nsIn K mainGlobals "InvalidNumber" = some (some (.ref x1)))
    (xe1 : PySem.W.excIn K x1 [.type "ValueError", .type "Exception", .type "BaseException", .type "object"] "ValueError.__new__" = true)
    (xk1 : PySem.W.keepIn K (.ref x1) = true)
    (xs1 : PySem.W.subIn K (.ref x1) (.type "BaseException") = some true)
    (xt1 : PySem.W.typeIn K (.ref x1) = some (.type "type"))
    (xa2 : PySem.W.nsIn K mainGlobals "InvalidRow" = some (some (.ref x2)))
    (xe2 : PySem.W.excIn K x2 [.type "ValueError", .type "Exception", .type "BaseException", .type "object"] "ValueError.__new__" = true)
    (xk2 : PySem.W.keepIn K (.ref x2) = true)
    (xs2 : PySem.W.subIn K (.ref x2) (.type "BaseException") = some true)
    (xt2 : PySem.W.typeIn K (.ref x2) = some (.type "type"))
    (xa3 : PySem.W.nsIn K mainGlobals "NotOdd" = some (some (.ref x3)))
    (xe3 : PySem.W.excIn K x3 [.type "ValueError", .type "Exception", .type "BaseException", .type "object"] "ValueError.__new__" = true)
    (xk3 : PySem.W.keepIn K (.ref x3) = true)
    (xs3 : PySem.W.subIn K (.ref x3) (.type "BaseException") = some true)
    (xt3 : PySem.W.typeIn K (.ref x3) = some (.type "type"))
    (z0 : PySem.W.nsIn K mainGlobals "len" = some none)
    (z1 : PySem.W.nsIn K mainGlobals "tuple" = some none)
    (z2 : PySem.W.nsIn K mainGlobals "list" = some none)
    (z3 : PySem.W.nsIn K mainGlobals "int" = some none)
    (z4 : PySem.W.nsIn K mainGlobals "str" = some none)
    (z5 : PySem.W.nsIn K mainGlobals "max" = some none)
    (z6 : PySem.W.nsIn K mainGlobals "min" = some none)
    (z7 : PySem.W.nsIn K mainGlobals "isinstance" = some none)
    (z8 : PySem.W.nsIn K mainGlobals "range" = some none)
    (z9 : PySem.W.nsIn K mainGlobals "enumerate" = some none)
    (z10 : PySem.W.nsIn K mainGlobals "zip" = some none)
    (z11 : PySem.W.nsIn K mainGlobals "all" = some none)
    (z12 : PySem.W.nsIn K mainGlobals "any" = some none)
    (z13 : PySem.W.nsIn K mainGlobals "sum" = some none)
    (z14 : PySem.W.nsIn K mainGlobals "sorted" = some none)
    (z15 : PySem.W.nsIn K mainGlobals "set" = some none)
    (z16 : PySem.W.nsIn K mainGlobals "bool" = some none)
    (z17 : PySem.W.nsIn K mainGlobals "dict" = some none)
    : LamX.LawAtS PySem.Challenge.rw_flowkeep_k03_whole_contained_rows w K (L2N.CX (PySem.Challenge.rw_flowkeep_k03_whole_contained_rows).prog w) 43 63 "_law_script" mg fa h := by
  have F0 := fun_mk (st := s0) l0 e0 k0
  have F1 := fun_mk (st := s1) l1 e1 k1
  have F2 := fun_mk (st := s2) l2 e2 k2
  have F3 := fun_mk (st := s3) l3 e3 k3
  have F4 := fun_mk (st := s4) l4 e4 k4
  have F5 := fun_mk (st := s5) l5 e5 k5
  have F6 := fun_mk (st := s6) l6 e6 k6
  have F7 := fun_mk (st := s7) l7 e7 k7
  have F8 := fun_mk (st := s8) l8 e8 k8
  have F9 := fun_mk (st := s9) l9 e9 k9
  have F10 := fun_mk (st := s10) l10 e10 k10
  have F11 := fun_mk (st := s11) l11 e11 k11
  have F12 := fun_mk (st := s12) l12 e12 k12
  have F13 := fun_mk (st := s13) l13 e13 k13
  have F14 := fun_mk (st := s14) l14 e14 k14
  have F15 := fun_mk (st := s15) l15 e15 k15
  have F16 := fun_mk (st := s16) l16 e16 k16
  have F17 := fun_mk (st := s17) l17 e17 k17
  have F18 := fun_mk (st := s18) l18 e18 k18
  have F19 := fun_mk (st := s19) l19 e19 k19
  have F20 := fun_mk (st := s20) l20 e20 k20
  have F21 := fun_mk (st := s21) l21 e21 k21
  have F22 := fun_mk (st := s22) l22 e22 k22
  have F23 := fun_mk (st := s23) l23 e23 k23
  have F24 := fun_mk (st := s24) l24 e24 k24
  have F25 := fun_mk (st := s25) l25 e25 k25
  have F26 := fun_mk (st := s26) l26 e26 k26
  have F27 := fun_mk (st := s27) l27 e27 k27
  have F28 := fun_mk (st := s28) l28 e28 k28
  have F29 := fun_mk (st := s29) l29 e29 k29
  have F30 := fun_mk (st := s30) l30 e30 k30
  have F31 := fun_mk (st := s31) l31 e31 k31
  have F32 := fun_mk (st := s32) l32 e32 k32
  have F33 := fun_mk (st := s33) l33 e33 k33
  have F34 := fun_mk (st := s34) l34 e34 k34
  have F35 := fun_mk (st := s35) l35 e35 k35
  have t : Top (PySem.Challenge.rw_flowkeep_k03_whole_contained_rows).prog w K mg [] [] (clsOf [x0, x1, x2, x3]) pg := by
    refine ⟨fun i f hf => ?_, ?_, fun i x d hc => ?_, fun x hx => ?_, fun k s hk => ?_, fun i x kvs hc => ?_, fun c as hc => ?_⟩
    · have hf : fns[i]? = some f := hf
      unfold fns at hf
      match i, hf with
      | 0, hf => cases hf; exact ⟨g0, _, s0, _, PySem.W.mg_of X G a0, fun _ => rfl, F0, fun us hl => match us, hl with | [_], _ => rfl, d0, c0, fun z => absurd z (by decide +kernel)⟩
      | 1, hf => cases hf; exact ⟨g1, _, s1, _, PySem.W.mg_of X G a1, fun _ => rfl, F1, fun us hl => match us, hl with | [_], _ => rfl, d1, c1, fun z => absurd z (by decide +kernel)⟩
      | 2, hf => cases hf; exact ⟨g2, _, s2, _, PySem.W.mg_of X G a2, fun _ => rfl, F2, fun us hl => match us, hl with | [_], _ => rfl, d2, c2, fun z => absurd z (by decide +kernel)⟩
      | 3, hf => cases hf; exact ⟨g3, _, s3, _, PySem.W.mg_of X G a3, fun _ => rfl, F3, fun us hl => match us, hl with | [_], _ => rfl, d3, c3, fun z => absurd z (by decide +kernel)⟩
      | 4, hf => cases hf; exact ⟨g4, _, s4, _, PySem.W.mg_of X G a4, fun _ => rfl, F4, fun us hl => match us, hl with | [_, _], _ => rfl, d4, c4, fun z => absurd z (by decide +kernel)⟩
      | 5, hf => cases hf; exact ⟨g5, _, s5, _, PySem.W.mg_of X G a5, fun _ => rfl, F5, fun us hl => match us, hl with | [_, _], _ => rfl, d5, c5, fun z => absurd z (by decide +kernel)⟩
      | 6, hf => cases hf; exact ⟨g6, _, s6, _, PySem.W.mg_of X G a6, fun _ => rfl, F6, fun us hl => match us, hl with | [_], _ => rfl, d6, c6, fun z => absurd z (by decide +kernel)⟩
      | 7, hf => cases hf; exact ⟨g7, _, s7, _, PySem.W.mg_of X G a7, fun _ => rfl, F7, fun us hl => match us, hl with | [_, _], _ => rfl, d7, c7, fun z => absurd z (by decide +kernel)⟩
      | 8, hf => cases hf; exact ⟨g8, _, s8, _, PySem.W.mg_of X G a8, fun _ => rfl, F8, fun us hl => match us, hl with | [_], _ => rfl, d8, c8, fun z => absurd z (by decide +kernel)⟩
      | 9, hf => cases hf; exact ⟨g9, _, s9, _, PySem.W.mg_of X G a9, fun _ => rfl, F9, fun us hl => match us, hl with | [_, _], _ => rfl, d9, c9, fun z => absurd z (by decide +kernel)⟩
      | 10, hf => cases hf; exact ⟨g10, _, s10, _, PySem.W.mg_of X G a10, fun _ => rfl, F10, fun us hl => match us, hl with | [_, _, _], _ => rfl, d10, c10, fun z => absurd z (by decide +kernel)⟩
      | 11, hf => cases hf; exact ⟨g11, _, s11, _, PySem.W.mg_of X G a11, fun _ => rfl, F11, fun us hl => match us, hl with | [_, _], _ => rfl, d11, c11, fun z => absurd z (by decide +kernel)⟩
      | 12, hf => cases hf; exact ⟨g12, _, s12, _, PySem.W.mg_of X G a12, fun _ => rfl, F12, fun us hl => match us, hl with | [_, _], _ => rfl, d12, c12, fun z => absurd z (by decide +kernel)⟩
      | 13, hf => cases hf; exact ⟨g13, _, s13, _, PySem.W.mg_of X G a13, fun _ => rfl, F13, fun us hl => match us, hl with | [_], _ => rfl, d13, c13, fun z => absurd z (by decide +kernel)⟩
      | 14, hf => cases hf; exact ⟨g14, _, s14, _, PySem.W.mg_of X G a14, fun _ => rfl, F14, fun us hl => match us, hl with | [_, _], _ => rfl, d14, c14, fun z => absurd z (by decide +kernel)⟩
      | 15, hf => cases hf; exact ⟨g15, _, s15, _, PySem.W.mg_of X G a15, fun _ => rfl, F15, fun us hl => match us, hl with | [_], _ => rfl, d15, c15, fun z => absurd z (by decide +kernel)⟩
      | 16, hf => cases hf; exact ⟨g16, _, s16, _, PySem.W.mg_of X G a16, fun _ => rfl, F16, fun us hl => match us, hl with | [_, _], _ => rfl, d16, c16, fun z => absurd z (by decide +kernel)⟩
      | 17, hf => cases hf; exact ⟨g17, _, s17, _, PySem.W.mg_of X G a17, fun _ => rfl, F17, fun us hl => match us, hl with | [_, _], _ => rfl, d17, c17, fun z => absurd z (by decide +kernel)⟩
      | 18, hf => cases hf; exact ⟨g18, _, s18, _, PySem.W.mg_of X G a18, fun _ => rfl, F18, fun us hl => match us, hl with | [_, _], _ => rfl, d18, c18, fun z => absurd z (by decide +kernel)⟩
      | 19, hf => cases hf; exact ⟨g19, _, s19, _, PySem.W.mg_of X G a19, fun _ => rfl, F19, fun us hl => match us, hl with | [_, _], _ => rfl, d19, c19, fun z => absurd z (by decide +kernel)⟩
      | 20, hf => cases hf; exact ⟨g20, _, s20, _, PySem.W.mg_of X G a20, fun _ => rfl, F20, fun us hl => match us, hl with | [_, _, _], _ => rfl, d20, c20, fun z => absurd z (by decide +kernel)⟩
      | 21, hf => cases hf; exact ⟨g21, _, s21, _, PySem.W.mg_of X G a21, fun _ => rfl, F21, fun us hl => match us, hl with | [_, _, _], _ => rfl, d21, c21, fun z => absurd z (by decide +kernel)⟩
      | 22, hf => cases hf; exact ⟨g22, _, s22, _, PySem.W.mg_of X G a22, fun _ => rfl, F22, fun us hl => match us, hl with | [_, _], _ => rfl, d22, c22, fun z => absurd z (by decide +kernel)⟩
      | 23, hf => cases hf; exact ⟨g23, _, s23, _, PySem.W.mg_of X G a23, fun _ => rfl, F23, fun us hl => match us, hl with | [_, _, _], _ => rfl, d23, c23, fun z => absurd z (by decide +kernel)⟩
      | 24, hf => cases hf; exact ⟨g24, _, s24, _, PySem.W.mg_of X G a24, fun _ => rfl, F24, fun us hl => match us, hl with | [_, _], _ => rfl, d24, c24, fun z => absurd z (by decide +kernel)⟩
      | 25, hf => cases hf; exact ⟨g25, _, s25, _, PySem.W.mg_of X G a25, fun _ => rfl, F25, fun us hl => match us, hl with | [_, _], _ => rfl, d25, c25, fun z => absurd z (by decide +kernel)⟩
      | 26, hf => cases hf; exact ⟨g26, _, s26, _, PySem.W.mg_of X G a26, fun _ => rfl, F26, fun us hl => match us, hl with | [_, _], _ => rfl, d26, c26, fun z => absurd z (by decide +kernel)⟩
      | 27, hf => cases hf; exact ⟨g27, _, s27, _, PySem.W.mg_of X G a27, fun _ => rfl, F27, fun us hl => match us, hl with | [_, _], _ => rfl, d27, c27, fun z => absurd z (by decide +kernel)⟩
      | 28, hf => cases hf; exact ⟨g28, _, s28, _, PySem.W.mg_of X G a28, fun _ => rfl, F28, fun us hl => match us, hl with | [_], _ => rfl, d28, c28, fun z => absurd z (by decide +kernel)⟩
      | 29, hf => cases hf; exact ⟨g29, _, s29, _, PySem.W.mg_of X G a29, fun _ => rfl, F29, fun us hl => match us, hl with | [_, _], _ => rfl, d29, c29, fun z => absurd z (by decide +kernel)⟩
      | 30, hf => cases hf; exact ⟨g30, _, s30, _, PySem.W.mg_of X G a30, fun _ => rfl, F30, fun us hl => match us, hl with | [_, _, _], _ => rfl, d30, c30, fun z => absurd z (by decide +kernel)⟩
      | 31, hf => cases hf; exact ⟨g31, _, s31, _, PySem.W.mg_of X G a31, fun _ => rfl, F31, fun us hl => match us, hl with | [_, _], _ => rfl, d31, c31, fun z => absurd z (by decide +kernel)⟩
      | 32, hf => cases hf; exact ⟨g32, _, s32, _, PySem.W.mg_of X G a32, fun _ => rfl, F32, fun us hl => match us, hl with | [_, _, _], _ => rfl, d32, c32, fun z => absurd z (by decide +kernel)⟩
      | 33, hf => cases hf; exact ⟨g33, _, s33, _, PySem.W.mg_of X G a33, fun _ => rfl, F33, fun us hl => match us, hl with | [_], _ => rfl, d33, c33, fun z => absurd z (by decide +kernel)⟩
      | 34, hf => cases hf; exact ⟨g34, _, s34, _, PySem.W.mg_of X G a34, fun _ => rfl, F34, fun us hl => match us, hl with | [_, _], _ => rfl, d34, c34, fun z => absurd z (by decide +kernel)⟩
      | 35, hf => cases hf; exact ⟨g35, _, s35, _, PySem.W.mg_of X G a35, fun _ => rfl, F35, fun us hl => match us, hl with | [_], _ => rfl, d35, c35, fun z => absurd z (by decide +kernel)⟩
      | i + 36, hf => cases hf
    · rintro ⟨x, hx⟩
      cases hx
    · have hc : con[i]? = some (x, d) := hc
      unfold con at hc
      match i, hc with
      | 0, hc => cases hc; exact ⟨.int 65536, _, PySem.W.mg_of X G n0, ⟨_, rfl⟩, fun _ _ => .int _⟩
      | 1, hc => cases hc; exact ⟨.int 16, _, PySem.W.mg_of X G n1, ⟨_, rfl⟩, fun _ _ => .int _⟩
      | 2, hc => cases hc; exact ⟨.int 16, _, PySem.W.mg_of X G n2, ⟨_, rfl⟩, fun _ _ => .int _⟩
      | i + 3, hc => cases hc
    · simp only [bnames, List.mem_cons, List.not_mem_nil, or_false] at hx
      rcases hx with rfl | rfl | rfl | rfl | rfl | rfl | rfl | rfl | rfl | rfl | rfl | rfl | rfl | rfl | rfl | rfl | rfl | rfl
      · exact PySem.W.mg_none_of X G z0
      · exact PySem.W.mg_none_of X G z1
      · exact PySem.W.mg_none_of X G z2
      · exact PySem.W.mg_none_of X G z3
      · exact PySem.W.mg_none_of X G z4
      · exact PySem.W.mg_none_of X G z5
      · exact PySem.W.mg_none_of X G z6
      · exact PySem.W.mg_none_of X G z7
      · exact PySem.W.mg_none_of X G z8
      · exact PySem.W.mg_none_of X G z9
      · exact PySem.W.mg_none_of X G z10
      · exact PySem.W.mg_none_of X G z11
      · exact PySem.W.mg_none_of X G z12
      · exact PySem.W.mg_none_of X G z13
      · exact PySem.W.mg_none_of X G z14
      · exact PySem.W.mg_none_of X G z15
      · exact PySem.W.mg_none_of X G z16
      · exact PySem.W.mg_none_of X G z17
    · have hk : cnames[k]? = some s := hk
      unfold cnames at hk
      match k, hk with
      | 0, hk => cases hk; exact ⟨xe0, PySem.W.mg_of X G xa0, xk0, xs0, xt0, by decide +kernel⟩
      | 1, hk => cases hk; exact ⟨xe1, PySem.W.mg_of X G xa1, xk1, xs1, xt1, by decide +kernel⟩
      | 2, hk => cases hk; exact ⟨xe2, PySem.W.mg_of X G xa2, xk2, xs2, xt2, by decide +kernel⟩
      | 3, hk => cases hk; exact ⟨xe3, PySem.W.mg_of X G xa3, xk3, xs3, xt3, by decide +kernel⟩
      | k + 4, hk => cases hk
    · have hc : dic[i]? = some (x, kvs) := hc
      unfold dic at hc
      match i, hc with
      | i + 0, hc => cases hc
    · have hc : (c, as) ∈ insL := hc
      cases hc
  refine law_end hmg t ?_ ?_ ?_ ?_ law_at
  · intro p hp; cases hp
  · intro p hp; cases hp
  · intro p hp; cases hp
  · intro p hp; cases hp
end Q03
open PySem PySem.W PyProof.Rows
set_option maxHeartbeats 0 in
theorem PySem.Challenge.cw_flowkeep_k03_whole_contained_rows_holds : PySem.Challenge.rw_flowkeep_k03_whole_contained_rows.Holds := by
  w_on; o_law; k_head; (case hw => w_witness2)
  k_fill
  refine LamX.walk_ofTs (l := PySem.Challenge.rw_flowkeep_k03_whole_contained_rows) (n := 63) (k := 43) (x := "_law_script") (CX := fun w => L2N.CX PySem.Challenge.rw_flowkeep_k03_whole_contained_rows.prog w) rfl (by decide) rfl ⟨rfl, by decide, by decide⟩ (fun w h Y => PySem.W.kIn_of Y) ?F (fun _ _ _ _ _ h => PI.cx_no h)
  case F =>
    intro w mg fa h Y KX G hmg
    refine' Q03.fin KX G hmg ?a0 ?l0 ?e0 ?k0 ?a1 ?l1 ?e1 ?k1 ?a2 ?l2 ?e2 ?k2 ?a3 ?l3 ?e3 ?k3 ?a4 ?l4 ?e4 ?k4 ?a5 ?l5 ?e5 ?k5 ?a6 ?l6 ?e6 ?k6 ?a7 ?l7 ?e7 ?k7 ?a8 ?l8 ?e8 ?k8 ?a9 ?l9 ?e9 ?k9 ?a10 ?l10 ?e10 ?k10 ?a11 ?l11 ?e11 ?k11 ?a12 ?l12 ?e12 ?k12 ?a13 ?l13 ?e13 ?k13 ?a14 ?l14 ?e14 ?k14 ?a15 ?l15 ?e15 ?k15 ?a16 ?l16 ?e16 ?k16 ?a17 ?l17 ?e17 ?k17 ?a18 ?l18 ?e18 ?k18 ?a19 ?l19 ?e19 ?k19 ?a20 ?l20 ?e20 ?k20 ?a21 ?l21 ?e21 ?k21 ?a22 ?l22 ?e22 ?k22 ?a23 ?l23 ?e23 ?k23 ?a24 ?l24 ?e24 ?k24 ?a25 ?l25 ?e25 ?k25 ?a26 ?l26 ?e26 ?k26 ?a27 ?l27 ?e27 ?k27 ?a28 ?l28 ?e28 ?k28 ?a29 ?l29 ?e29 ?k29 ?a30 ?l30 ?e30 ?k30 ?a31 ?l31 ?e31 ?k31 ?a32 ?l32 ?e32 ?k32 ?a33 ?l33 ?e33 ?k33 ?a34 ?l34 ?e34 ?k34 ?a35 ?l35 ?e35 ?k35 ?n0 ?n1 ?n2 ?xa0 ?xe0 ?xk0 ?xs0 ?xt0 ?xa1 ?xe1 ?xk1 ?xs1 ?xt1 ?xa2 ?xe2 ?xk2 ?xs2 ?xt2 ?xa3 ?xe3 ?xk3 ?xs3 ?xt3 ?z0 ?z1 ?z2 ?z3 ?z4 ?z5 ?z6 ?z7 ?z8 ?z9 ?z10 ?z11 ?z12 ?z13 ?z14 ?z15 ?z16 ?z17
    (case a0 => k_is)
    (case l0 => k_is)
    (case e0 => k_is)
    (case k0 => k_is)
    (case a1 => k_is)
    (case l1 => k_is)
    (case e1 => k_is)
    (case k1 => k_is)
    (case a2 => k_is)
    (case l2 => k_is)
    (case e2 => k_is)
    (case k2 => k_is)
    (case a3 => k_is)
    (case l3 => k_is)
    (case e3 => k_is)
    (case k3 => k_is)
    (case a4 => k_is)
    (case l4 => k_is)
    (case e4 => k_is)
    (case k4 => k_is)
    (case a5 => k_is)
    (case l5 => k_is)
    (case e5 => k_is)
    (case k5 => k_is)
    (case a6 => k_is)
    (case l6 => k_is)
    (case e6 => k_is)
    (case k6 => k_is)
    (case a7 => k_is)
    (case l7 => k_is)
    (case e7 => k_is)
    (case k7 => k_is)
    (case a8 => k_is)
    (case l8 => k_is)
    (case e8 => k_is)
    (case k8 => k_is)
    (case a9 => k_is)
    (case l9 => k_is)
    (case e9 => k_is)
    (case k9 => k_is)
    (case a10 => k_is)
    (case l10 => k_is)
    (case e10 => k_is)
    (case k10 => k_is)
    (case a11 => k_is)
    (case l11 => k_is)
    (case e11 => k_is)
    (case k11 => k_is)
    (case a12 => k_is)
    (case l12 => k_is)
    (case e12 => k_is)
    (case k12 => k_is)
    (case a13 => k_is)
    (case l13 => k_is)
    (case e13 => k_is)
    (case k13 => k_is)
    (case a14 => k_is)
    (case l14 => k_is)
    (case e14 => k_is)
    (case k14 => k_is)
    (case a15 => k_is)
    (case l15 => k_is)
    (case e15 => k_is)
    (case k15 => k_is)
    (case a16 => k_is)
    (case l16 => k_is)
    (case e16 => k_is)
    (case k16 => k_is)
    (case a17 => k_is)
    (case l17 => k_is)
    (case e17 => k_is)
    (case k17 => k_is)
    (case a18 => k_is)
    (case l18 => k_is)
    (case e18 => k_is)
    (case k18 => k_is)
    (case a19 => k_is)
    (case l19 => k_is)
    (case e19 => k_is)
    (case k19 => k_is)
    (case a20 => k_is)
    (case l20 => k_is)
    (case e20 => k_is)
    (case k20 => k_is)
    (case a21 => k_is)
    (case l21 => k_is)
    (case e21 => k_is)
    (case k21 => k_is)
    (case a22 => k_is)
    (case l22 => k_is)
    (case e22 => k_is)
    (case k22 => k_is)
    (case a23 => k_is)
    (case l23 => k_is)
    (case e23 => k_is)
    (case k23 => k_is)
    (case a24 => k_is)
    (case l24 => k_is)
    (case e24 => k_is)
    (case k24 => k_is)
    (case a25 => k_is)
    (case l25 => k_is)
    (case e25 => k_is)
    (case k25 => k_is)
    (case a26 => k_is)
    (case l26 => k_is)
    (case e26 => k_is)
    (case k26 => k_is)
    (case a27 => k_is)
    (case l27 => k_is)
    (case e27 => k_is)
    (case k27 => k_is)
    (case a28 => k_is)
    (case l28 => k_is)
    (case e28 => k_is)
    (case k28 => k_is)
    (case a29 => k_is)
    (case l29 => k_is)
    (case e29 => k_is)
    (case k29 => k_is)
    (case a30 => k_is)
    (case l30 => k_is)
    (case e30 => k_is)
    (case k30 => k_is)
    (case a31 => k_is)
    (case l31 => k_is)
    (case e31 => k_is)
    (case k31 => k_is)
    (case a32 => k_is)
    (case l32 => k_is)
    (case e32 => k_is)
    (case k32 => k_is)
    (case a33 => k_is)
    (case l33 => k_is)
    (case e33 => k_is)
    (case k33 => k_is)
    (case a34 => k_is)
    (case l34 => k_is)
    (case e34 => k_is)
    (case k34 => k_is)
    (case a35 => k_is)
    (case l35 => k_is)
    (case e35 => k_is)
    (case k35 => k_is)
    (case n0 => k_is)
    (case n1 => k_is)
    (case n2 => k_is)
    (case xa0 => k_is)
    (case xe0 => k_exc)
    (case xk0 => k_is)
    (case xs0 => k_is)
    (case xt0 => k_is)
    (case xa1 => k_is)
    (case xe1 => k_exc)
    (case xk1 => k_is)
    (case xs1 => k_is)
    (case xt1 => k_is)
    (case xa2 => k_is)
    (case xe2 => k_exc)
    (case xk2 => k_is)
    (case xs2 => k_is)
    (case xt2 => k_is)
    (case xa3 => k_is)
    (case xe3 => k_exc)
    (case xk3 => k_is)
    (case xs3 => k_is)
    (case xt3 => k_is)
    (case z0 => k_is)
    (case z1 => k_is)
    (case z2 => k_is)
    (case z3 => k_is)
    (case z4 => k_is)
    (case z5 => k_is)
    (case z6 => k_is)
    (case z7 => k_is)
    (case z8 => k_is)
    (case z9 => k_is)
    (case z10 => k_is)
    (case z11 => k_is)
    (case z12 => k_is)
    (case z13 => k_is)
    (case z14 => k_is)
    (case z15 => k_is)
    (case z16 => k_is)
    (case z17 => k_is)
