import PyProof.Rows.All
import Wide.All
import OpenK.AllK
import Wide.FinOn
import HandS.ForExc
import HandS.Walk
import HandS.Zip
import HandS.IsInst
import HandS.Wide
import HandS.TupMul
import HandS.SortKw
import HandS.Strs
import HandS.SetFor
import HandS.ExcCtx
import HandS.Lambda
import HandS.HotCalls
import HandS.TupAny
import KE.GoesMore
import KE.GoesEnum
import HandS.ForMost
import PySem.Challenge.RW_flowkeep_k65_whole_odd_graphs
set_option Elab.async false
set_option linter.all false
set_option maxRecDepth 100000
set_option maxHeartbeats 4000000
namespace PI
open PySem L2

/-! ### data -/
inductive D where
  | non | bl (b : Bool) | int (i : Int) | str (s : Str)
  | tup (xs : List D) | frz (xs : List D) | ref (k : Nat)
  deriving Inhabited

inductive O where
  | lst (xs : List D)
  | dct (kvs : List (D × D))
  deriving Inhabited
abbrev Hs := List O
abbrev Fr := List (Option D)

mutual
def D.same : D → D → Bool
  | .non, .non => true
  | .bl a, .bl b => a == b
  | .int a, .int b => a == b
  | .str a, .str b => decide (a = b)
  | .tup a, .tup b => D.sameL a b
  | .frz a, .frz b => D.sameL a b
  | .ref a, .ref b => a == b
  | _, _ => false
def D.sameL : List D → List D → Bool
  | [], [] => true
  | a :: r, b :: q => D.same a b && D.sameL r q
  | _, _ => false
end

inductive R (α : Type) where
  | ok (a : α) (h : Hs)
  | ex (c : Nat) (h : Hs)
  | no
@[inline] def R.bind {α β : Type} (r : R α) (f : α → Hs → R β) : R β := match r with
  | .ok a h => f a h
  | .ex c h => .ex c h
  | .no => .no

/-! ### the text -/
inductive BO | add | sub | mul | div | mod | pow | and_
  deriving DecidableEq
inductive CO | eq | ne | lt | le | gt | ge | isN | notN | in_ | notIn
  deriving DecidableEq
/-- built-in functions, by values -/
inductive Bi | len | tuple | list | int_ | str_ | max2 | min2
  deriving DecidableEq
/-- what isinstance asks -/
inductive Ty | non | bool | int | str | tuple | list
  deriving DecidableEq
/-- built-in functions upon a list just made -/
inductive Bl | tuple | all | any | sum | len | sorted | lenSet | sortedSet
  deriving DecidableEq
inductive Me | append | index | get | pop
  deriving DecidableEq
inductive Tg | one (i : Nat) | two (i j : Nat)
  deriving DecidableEq

mutual
inductive E where
  | var (i : Nat)
  | con (d : D)
  | glob (i : Nat)
  | bin (op : BO) (a b : E)
  | neg (a : E)
  | notV (a : E)
  | cmp (op : CO) (a b : E)
  | chain (o1 o2 : CO) (a b c : E)
  | andV (a b : E) | orV (a b : E)
  | ite (t : T) (a b : E)
  | tup (es : Es)
  | newL (l : L)
  | ix (a b : E)
  | sl (a : E) (lo hi : OE)
  | call (f : Nat) (es : Es)
  | bi (b : Bi) (es : Es)
  | isT (t : Ty) (e : E)
  | bl (b : Bl) (l : L)
  | me (m : Me) (o : E) (es : Es)
  | gget (i : Nat) (a : E)
  | lenSet (a : E) | sortSet (a : E)
inductive OE where
  | none | some (e : E)
inductive Es where
  | nil | cons (e : E) (r : Es)
inductive T where
  | of (e : E)
  | and (a b : T) | or (a b : T) | not (a : T)
inductive L where
  | lit (es : Es)
  | comp (tg : Tg) (it : I) (own : List Nat) (c : T) (el : E)
  | compU (tg : Tg) (it : I) (own : List Nat) (el : E)
inductive I where
  | of (e : E)
  | ofL (l : L)
  | range1 (a : E) | range2 (a b : E)
  | enum (a : E) | zip (a b : E)
end

mutual
inductive Sx where
  | set (i : Nat) (e : E)
  | two (i j : Nat) (e : E)
  | par (i j : Nat) (a b : E)
  | setix (o i e : E)
  | aug (i : Nat) (e : E)
  | expr (e : E)
  | ret (e : E) | retN
  | ifS (t : T) (a b : Ss)
  | whileS (t : T) (b : Ss)
  | forS (tg : Tg) (it : I) (b : Ss)
  | raiseS (c : Nat)
  | pass | brk | cnt | never
inductive Ss where
  | nil | cons (s : Sx) (r : Ss)
end

/-! ### what it does -/
def LIM : Nat := 16777216
def mulOk (i j : Int) : Bool := (decide (-(2 ^ 64) < i) && decide (i < 2 ^ 64)) || (decide (-(2 ^ 64) < j) && decide (j < 2 ^ 64)) || decide (i.natAbs.log2 + j.natAbs.log2 < 1000000)

mutual
/-- as data, the lists of the heap written out -/
def D.py (h : Hs) (n : Nat) : D → Option PyData
  | .non => some .none
  | .bl b => some (.bool b)
  | .int i => some (.int i)
  | .str s => some (.str s)
  | .tup xs => (D.pyL h n xs).map .tuple
  | .frz xs => (D.pyL h n xs).map .list
  | .ref _ => none
def D.pyL (h : Hs) (n : Nat) : List D → Option (List PyData)
  | [] => some []
  | x :: r => match D.py h n x with
    | some a => (D.pyL h n r).map (a :: ·)
    | none => none
end
/-- one level of lists of the heap -/
def D.py1 (h : Hs) (d : D) : Option PyData := match d with
  | .ref k => match h[k]? with
    | some (.lst xs) => (D.pyL h 0 xs).map .list
    | _ => none
  | d => D.py h 0 d
def eqD (x y : D) (h : Hs) : Option Bool := match D.py1 h x, D.py1 h y with
  | some a, some b => if SeqAt.shaped a && SeqAt.shaped b then some (PyData.eqv a b) else none
  | _, _ => none

def R.ofB (o : Option Bool) (h : Hs) : R D := match o with
  | some b => .ok (.bl b) h
  | none => .no

def binD (op : BO) (x y : D) (h : Hs) : R D := match op, x, y with
  | .add, .int i, .int j => .ok (.int (i + j)) h
  | .add, .str i, .str j => if i.length + j.length ≤ LIM then .ok (.str (i ++ j)) h else .no
  | .add, .tup xs, .tup ys => if xs.length + ys.length ≤ LIM then .ok (.tup (xs ++ ys)) h else .no
  | .add, .ref k, .ref m => match h[k]?, h[m]? with
    | some (.lst xs), some (.lst ys) => if xs.length + ys.length ≤ LIM then .ok (.ref h.length) (h ++ [.lst (xs ++ ys)]) else .no
    | _, _ => .no
  | .sub, .int i, .int j => .ok (.int (i - j)) h
  | .mul, .int i, .int j => if mulOk i j then .ok (.int (i * j)) h else .no
  | .mul, .tup xs, .int k => if xs.isEmpty = false ∧ 2 ≤ k ∧ k ≤ 1000 ∧ xs.length ≤ 1000 then .ok (.tup (List.replicate k.toNat xs).flatten) h else .no
  | .div, .int i, .int j => if 0 < j ∧ j.natAbs.log2 < 9000 then .ok (.int (i / j)) h else .no
  | .mod, .int i, .int j => if 0 < j then .ok (.int (i % j)) h else .no
  | .pow, .int i, .int j => if 0 ≤ j ∧ j ≤ 1000000 ∧ i.natAbs < 2 ^ 64 then .ok (.int (i ^ j.toNat)) h else .no
  | .and_, .int i, .int j => .ok (.int (Builtin.bitAnd i j)) h
  | _, _, _ => .no

/-- the ints, the texts of a list -/
def ints? : List D → Option (List Int)
  | [] => some []
  | .int i :: r => (ints? r).map (i :: ·)
  | _ => none
def bools? : List D → Option (List Bool)
  | [] => some []
  | .bl i :: r => (bools? r).map (i :: ·)
  | _ => none
def strs? : List D → Option (List Str)
  | [] => some []
  | .str i :: r => (strs? r).map (i :: ·)
  | _ => none

def flatD : D → Bool
  | .non | .bl _ | .int _ | .str _ => true
  | _ => false
def toV : D → V
  | .bl b => .bl b
  | .int i => .int i
  | .str s => .str s
  | _ => .non
/-- the items of a list, a tuple -/
def seqD (h : Hs) : D → Option (List D)
  | .tup xs => some xs
  | .frz xs => some xs
  | .ref k => match h[k]? with
    | some (.lst xs) => some xs
    | _ => none
  | _ => none

def inD (x y : D) (h : Hs) : Option Bool := match y with
  | .str z => match x with
    | .str c => if c.length = 1 then some (decide (c.cps.getD 0 0 ∈ z.cps.toList)) else none
    | _ => none
  | y => match seqD h y with
    | some ys => if flatD x && ys.all flatD then some (inV (toV x) (ys.map toV)) else none
    | none => none
def ltD (op : CO) (x y : D) : Option Bool := match x with
  | .int i => match y with
    | .int j => match op with
      | .lt => some (decide (i < j))
      | .le => some (decide (i ≤ j))
      | .gt => some (decide (j < i))
      | .ge => some (decide (j ≤ i))
      | _ => none
    | _ => none
  | _ => none
def isN (x : D) : Bool := match x with
  | .non => true
  | _ => false
def cmpD (op : CO) (x y : D) (h : Hs) : R D := match op with
  | .eq => R.ofB (eqD x y h) h
  | .ne => R.ofB ((eqD x y h).map (!·)) h
  | .isN => match y with
    | .non => .ok (.bl (isN x)) h
    | _ => .no
  | .notN => match y with
    | .non => .ok (.bl (!isN x)) h
    | _ => .no
  | .lt => R.ofB (ltD .lt x y) h
  | .le => R.ofB (ltD .le x y) h
  | .gt => R.ofB (ltD .gt x y) h
  | .ge => R.ofB (ltD .ge x y) h
  | .in_ => R.ofB (inD x y h) h
  | .notIn => R.ofB ((inD x y h).map (!·)) h

def truD (x : D) (h : Hs) : Option Bool := match x with
  | .non => some false
  | .bl b => some b
  | .int i => some (i != 0)
  | .str s => if s.length ≤ LIM then some ((s.length : Int) != 0) else none
  | .tup xs => some (!xs.isEmpty)
  | .frz xs => some (!xs.isEmpty)
  | .ref k => match h[k]? with
    | some (.lst xs) => some (!xs.isEmpty)
    | _ => none

def ixQ (xs : Option (List D)) (i : Int) (h : Hs) : R D := match xs with
  | some xs => match atI xs i with
    | some d => .ok d h
    | none => .no
  | none => .no
def ixD (x y : D) (h : Hs) : R D := match y with
  | .int i => match x with
    | .str z => if z.length ≤ LIM then match atI z.cps.toList i with
        | some c => .ok (.str ⟨#[c]⟩) h
        | none => .no
      else .no
    | x => ixQ (seqD h x) i h
  | _ => .no
def cutD (xs : List D) (lo hi : Option Int) : List D := (xs.drop (HT.sIx xs.length 0 lo)).take (HT.sIx xs.length xs.length hi - HT.sIx xs.length 0 lo)
def slD (x : D) (lo hi : Option Int) (h : Hs) : R D := match x with
  | .tup xs => .ok (.tup (cutD xs lo hi)) h
  | .ref k => match h[k]? with
    | some (.lst xs) => .ok (.ref h.length) (h ++ [.lst (cutD xs lo hi)])
    | _ => .no
  | _ => .no

def lenD (h : Hs) (x : D) : Option Nat := match x with
  | .str s => if s.length ≤ LIM then some s.length else none
  | x => (seqD h x).map List.length
def bi1 (b : Bi) (x : D) (h : Hs) : R D := match b with
  | .len => match lenD h x with
    | some n => .ok (.int n) h
    | none => .no
  | .tuple => match seqD h x with
    | some xs => .ok (.tup xs) h
    | none => .no
  | .list => match seqD h x with
    | some xs => .ok (.ref h.length) (h ++ [.lst xs])
    | none => .no
  | .int_ => match x with
    | .int i => .ok (.int i) h
    | .bl b => .ok (.int (if b then 1 else 0)) h
    | _ => .no
  | .str_ => match x with
    | .int i => if i.natAbs.log2 < 1920 then .ok (.str (Str.ofString (toString i))) h else .no
    | _ => .no
  | _ => .no
def bi2 (b : Bi) (x y : D) (h : Hs) : R D := match b with
  | .max2 => match x with
    | .int i => match y with
      | .int j => .ok (.int (if j > i then j else i)) h
      | _ => .no
    | _ => .no
  | .min2 => match x with
    | .int i => match y with
      | .int j => .ok (.int (if j < i then j else i)) h
      | _ => .no
    | _ => .no
  | _ => .no
def biD (b : Bi) (ds : List D) (h : Hs) : R D := match ds with
  | [x] => bi1 b x h
  | [x, y] => bi2 b x y h
  | _ => .no
def tyD (h : Hs) : D → Ty
  | .non => .non
  | .bl _ => .bool
  | .int _ => .int
  | .str _ => .str
  | .tup _ => .tuple
  | .frz _ => .list
  | .ref _ => .list
def Ty.sub (a b : Ty) : Bool := decide (a = b) || (decide (a = .bool) && decide (b = .int))
def insB (x : Int) : List Int → List Int
  | [] => [x]
  | y :: r => if x ≤ y then x :: y :: r else y :: insB x r
def sortI (xs : List Int) : List Int := xs.foldr insB []
def dedI : List Int → List Int
  | [] => []
  | x :: r => if r.contains x then dedI r else x :: dedI r
def dedS : List Str → List Str
  | [] => []
  | x :: r => if r.contains x then dedS r else x :: dedS r

def stT (acc : List Str) (k : Str) : List Str := if acc.any (· == k) then acc else acc ++ [k]
def lenSetD (x : D) (h : Hs) : R D := match seqD h x with
  | some xs => match strs? xs with
    | some ss => if ss.length ≤ 4000 then .ok (.int (ss.foldl stT []).length) h else .no
    | none => .no
  | none => .no
def insI (x : Int) : List Int → List Int
  | [] => [x]
  | y :: r => if x < y then x :: y :: r else if x = y then y :: r else y :: insI x r
def sortSetD (x : D) (h : Hs) : R D := match x with
  | .tup xs => match ints? xs with
    | some ns => if ns.length < 63 then .ok (.ref h.length) (h ++ [.lst ((ns.foldr insI []).map .int)]) else .no
    | none => .no
  | _ => .no
def kvD : List (Str × D) → Str → D
  | [], _ => .non
  | (k, v) :: r, s => if k = s then v else kvD r s
def getD1 (t : Option (List (Str × D))) (x : D) (h : Hs) : R D := match t with
  | some kvs => match x with
    | .str s => .ok (kvD kvs s) h
    | _ => .no
  | none => .no
def blD (b : Bl) (xs : List D) (h : Hs) : R D := match b with
  | .tuple => .ok (.tup xs) h
  | .len => .ok (.int xs.length) h
  | .all => match bools? xs with
    | some bs => .ok (.bl (bs.all id)) h
    | none => .no
  | .any => match bools? xs with
    | some bs => .ok (.bl (bs.any id)) h
    | none => .no
  | .sum => match ints? xs with
    | some ns => .ok (.int ns.sum) h
    | none => .no
  | .sorted => .no
  | .lenSet => .no
  | .sortedSet => .no

def lstD (h : Hs) (x : D) : Option (Nat × List D) := match x with
  | .ref k => match h[k]? with
    | some (.lst xs) => some (k, xs)
    | _ => none
  | _ => none
def me0 (m : Me) (o : D) (h : Hs) : R D := match m with
  | .pop => match lstD h o with
    | some (k, xs) => match xs.getLast? with
      | some x => .ok x (h.set k (.lst xs.dropLast))
      | none => .no
    | none => .no
  | _ => .no
def me1 (m : Me) (o x : D) (h : Hs) : R D := match m with
  | .append => match lstD h o with
    | some (k, xs) => if xs.length < LIM then .ok .non (h.set k (.lst (xs ++ [x]))) else .no
    | none => .no
  | _ => .no
def meD (m : Me) (o : D) (ds : List D) (h : Hs) : R D := match ds with
  | [] => me0 m o h
  | [x] => me1 m o x h
  | _ => .no

/-- what a loop goes over, the lists that stay meanwhile -/
structure IT where
  items : List D
  gs : List (Nat × List D)
def gOk (gs : List (Nat × List D)) (h : Hs) : Bool := gs.all fun p => match h[p.1]? with
  | some (.lst ys) => D.sameL ys p.2
  | _ => false
def bindTg (tg : Tg) (d : D) (δ : Fr) : Option Fr := match tg, d with
  | .one i, d => if i < δ.length then some (δ.set i (some d)) else none
  | .two i j, .tup [a, b] => if i < δ.length ∧ j < δ.length then some ((δ.set i (some a)).set j (some b)) else none
  | _, _ => none
def wipeF (δ : Fr) : List Nat → Fr
  | [] => δ
  | v :: vs => (wipeF δ vs).set v none

def compLoop (f : D → Hs → R (Option D)) (g : Hs → Bool) : List D → Hs → R (List D)
  | [], h => if g h then .ok [] h else .no
  | x :: xs, h => if g h then match f x h with
      | .ok o h1 => match compLoop f g xs h1 with
        | .ok r h2 => .ok (match o with | some d => d :: r | none => r) h2
        | _ => .no
      | _ => .no
    else .no

def itOf (x : D) (h : Hs) : R IT := match x with
  | .tup xs => .ok ⟨xs, []⟩ h
  | .frz xs => .ok ⟨xs, []⟩ h
  | .str s => .ok ⟨s.cps.toList.map fun c => .str ⟨#[c]⟩, []⟩ h
  | .ref k => match h[k]? with
    | some (.lst xs) => .ok ⟨xs, [(k, xs)]⟩ h
    | _ => .no
  | _ => .no
def itEnum (x : D) (h : Hs) : R IT := match itOf x h with
  | .ok it h => match x with
    | .str _ => .no
    | _ => .ok ⟨it.items.zipIdx.map fun p => .tup [.int p.2, p.1], it.gs⟩ h
  | _ => .no
def itZip (x y : D) (h : Hs) : R IT := match x, y with
  | .tup xs, .tup ys => .ok ⟨(xs.zip ys).map fun p => .tup [p.1, p.2], []⟩ h
  | .ref k, .ref m => match h[k]?, h[m]? with
    | some (.lst xs), some (.lst ys) => .ok ⟨(xs.zip ys).map fun p => .tup [p.1, p.2], [(k, xs), (m, ys)]⟩ h
    | _, _ => .no
  | _, _ => .no
def rangeD (lo hi : Int) : List D := (List.range (hi - lo).toNat).map fun (i : Nat) => D.int (lo + (i : Int))
def i62 (j : Int) : Bool := decide (-(2 ^ 62) ≤ j) && decide (j < 2 ^ 62)

structure Cal where
  fn : Nat → List D → Hs → R D
  con : List D
  dic : List (List (Str × D))

def negR (x : D) (h : Hs) : R D := match x with
  | .int i => .ok (.int (-i)) h
  | _ => .no
def notR (x : D) (h : Hs) : R D := match x with
  | .bl b => .ok (.bl (!b)) h
  | _ => .no
def andK (k : Hs → R D) (x : D) (h : Hs) : R D := match x with
  | .bl b => match b with
    | true => k h
    | false => .ok (.bl false) h
  | _ => .no
def orK (k : Hs → R D) (x : D) (h : Hs) : R D := match x with
  | .bl b => match b with
    | true => .ok (.bl true) h
    | false => k h
  | _ => .no
def iteK {α : Type} (k k' : Hs → R α) (x : Bool) (h : Hs) : R α := match x with
  | true => k h
  | false => k' h
def refK (k : Hs → R D) (x : D) (h : Hs) : R D := match x with
  | .ref _ => k h
  | _ => .no
def tupR (xs : List D) (h : Hs) : R D := if xs.length ≤ LIM then .ok (.tup xs) h else .no
def litR (xs : List D) (h : Hs) : R (List D) := if xs.length ≤ LIM then .ok xs h else .no
def partR (x : D) (h : Hs) : R (Option Int) := match x with
  | .int i => .ok (some i) h
  | _ => .no
def truR (x : D) (h : Hs) : R Bool := match truD x h with
  | some b => .ok b h
  | none => .no
def newR (xs : List D) (h : Hs) : R D := .ok (.ref h.length) (h ++ [.lst xs])
def someR (y : D) (h : Hs) : R (Option D) := .ok (some y) h
def noneR (h : Hs) : R (Option D) := .ok none h
def rng1 (x : D) (h : Hs) : R IT := match x with
  | .int j => if i62 j then .ok ⟨rangeD 0 j, []⟩ h else .no
  | _ => .no
def rng2 (x y : D) (h : Hs) : R IT := match x with
  | .int i => match y with
    | .int j => if i62 i && i62 j then .ok ⟨rangeD i j, []⟩ h else .no
    | _ => .no
  | _ => .no
def loopR (f : D → Hs → R (Option D)) (J : IT) (h : Hs) : R (List D) := if J.items.length < LIM then compLoop f (gOk J.gs) J.items h else .no
def bindK {α : Type} (k : Fr → Hs → R α) (o : Option Fr) (h : Hs) : R α := match o with
  | some δ => k δ h
  | none => .no

mutual
def evE (c : Cal) : E → Fr → Hs → R D
  | .var i, δ, h => match δ[i]? with
    | some (some d) => .ok d h
    | _ => .no
  | .con d, _, h => .ok d h
  | .glob i, _, h => match c.con[i]? with
    | some d => .ok d h
    | none => .no
  | .bin op a b, δ, h => (evE c a δ h).bind fun x h1 => (evE c b δ h1).bind fun y h2 => binD op x y h2
  | .neg a, δ, h => (evE c a δ h).bind negR
  | .notV a, δ, h => (evE c a δ h).bind notR
  | .cmp op a b, δ, h => (evE c a δ h).bind fun x h1 => (evE c b δ h1).bind fun y h2 => cmpD op x y h2
  | .chain o1 o2 a b d, δ, h => (evE c a δ h).bind fun x h1 => (evE c b δ h1).bind fun y h2 => (cmpD o1 x y h2).bind fun z h3 => andK (fun h3 => (evE c d δ h3).bind fun u h4 => cmpD o2 y u h4) z h3
  | .andV a b, δ, h => (evE c a δ h).bind fun x h1 => andK (fun h1 => evE c b δ h1) x h1
  | .orV a b, δ, h => (evE c a δ h).bind fun x h1 => orK (fun h1 => evE c b δ h1) x h1
  | .ite t a b, δ, h => (evT c t δ h).bind fun x h1 => iteK (fun h1 => evE c a δ h1) (fun h1 => evE c b δ h1) x h1
  | .tup es, δ, h => (evEs c es δ h).bind tupR
  | .newL l, δ, h => (evL c l δ h).bind newR
  | .ix a b, δ, h => (evE c a δ h).bind fun x h1 => (evE c b δ h1).bind fun y h2 => ixD x y h2
  | .sl a lo hi, δ, h => (evE c a δ h).bind fun x h1 => (evOE c lo δ h1).bind fun l h2 => (evOE c hi δ h2).bind fun u h3 => slD x l u h3
  | .call f es, δ, h => (evEs c es δ h).bind fun xs h1 => c.fn f xs h1
  | .bi b es, δ, h => (evEs c es δ h).bind fun xs h1 => biD b xs h1
  | .isT t e, δ, h => (evE c e δ h).bind fun x h1 => .ok (.bl ((tyD h1 x).sub t)) h1
  | .bl b l, δ, h => (evL c l δ h).bind fun xs h1 => blD b xs h1
  | .me m o es, δ, h => (evE c o δ h).bind fun x h1 => refK (fun h1 => (evEs c es δ h1).bind fun xs h2 => meD m x xs h2) x h1
  | .gget i a, δ, h => (evE c a δ h).bind fun x h1 => getD1 c.dic[i]? x h1
  | .lenSet a, δ, h => (evE c a δ h).bind lenSetD
  | .sortSet a, δ, h => (evE c a δ h).bind sortSetD
def evOE (c : Cal) : OE → Fr → Hs → R (Option Int)
  | .none, _, h => .ok none h
  | .some e, δ, h => (evE c e δ h).bind partR
def evEs (c : Cal) : Es → Fr → Hs → R (List D)
  | .nil, _, h => .ok [] h
  | .cons e r, δ, h => (evE c e δ h).bind fun x h1 => (evEs c r δ h1).bind fun xs h2 => .ok (x :: xs) h2
def evT (c : Cal) : T → Fr → Hs → R Bool
  | .of e, δ, h => (evE c e δ h).bind truR
  | .and a b, δ, h => (evT c a δ h).bind fun x h1 => iteK (fun h1 => evT c b δ h1) (fun h1 => .ok false h1) x h1
  | .or a b, δ, h => (evT c a δ h).bind fun x h1 => iteK (fun h1 => .ok true h1) (fun h1 => evT c b δ h1) x h1
  | .not a, δ, h => (evT c a δ h).bind fun x h1 => .ok (!x) h1
def evL (c : Cal) : L → Fr → Hs → R (List D)
  | .lit es, δ, h => (evEs c es δ h).bind litR
  | .comp tg it own t el, δ, h => (evI c it δ h).bind fun J h1 => loopR (fun x h2 => bindK (fun δ' h2 => (evT c t δ' h2).bind fun b h3 =>
      iteK (fun h3 => (evE c el δ' h3).bind someR) noneR b h3) (bindTg tg x (wipeF δ own)) h2) J h1
  | .compU tg it own el, δ, h => (evI c it δ h).bind fun J h1 => loopR (fun x h2 => bindK (fun δ' h2 => (evE c el δ' h2).bind someR) (bindTg tg x (wipeF δ own)) h2) J h1
def evI (c : Cal) : I → Fr → Hs → R IT
  | .of e, δ, h => (evE c e δ h).bind itOf
  | .ofL l, δ, h => (evL c l δ h).bind fun xs h1 => .ok ⟨xs, []⟩ h1
  | .range1 a, δ, h => (evE c a δ h).bind rng1
  | .range2 a b, δ, h => (evE c a δ h).bind fun x h1 => (evE c b δ h1).bind fun y h2 => rng2 x y h2
  | .enum a, δ, h => (evE c a δ h).bind itEnum
  | .zip a b, δ, h => (evE c a δ h).bind fun x h1 => (evE c b δ h1).bind fun y h2 => itZip x y h2
end

inductive Out where
  | nx (δ : Fr) | rt (d : D) | bk (δ : Fr) | ct (δ : Fr)
/-- behind a loop's body; k: the next turn -/
def afterB (k : Fr → Hs → R Out) (o : Out) (h : Hs) : R Out := match o with
  | .nx δ => k δ h
  | .ct δ => k δ h
  | .bk δ => .ok (.nx δ) h
  | .rt d => .ok (.rt d) h
def nxR (δ : Fr) (h : Hs) : R Out := .ok (.nx δ) h
def forLoop (f : D → Fr → Hs → R Out) (g : Hs → Bool) : List D → Fr → Hs → R Out
  | [], δ, h => if g h then nxR δ h else .no
  | x :: xs, δ, h => if g h then (f x δ h).bind (afterB (forLoop f g xs)) else .no
def whileLoop (t : Fr → Hs → R Bool) (b : Fr → Hs → R Out) : Nat → Fr → Hs → R Out
  | 0, _, _ => .no
  | n + 1, δ, h => (t δ h).bind fun c h1 => iteK (fun h1 => (b δ h1).bind (afterB (whileLoop t b n))) (nxR δ) c h1
def setF (δ : Fr) (i : Nat) (d : D) (h : Hs) : R Out := if i < δ.length then .ok (.nx (δ.set i (some d))) h else .no
def retR (x : D) (h : Hs) : R Out := .ok (.rt x) h
def twoR (i j : Nat) (δ : Fr) (x : D) (h : Hs) : R Out := bindK nxR (bindTg (.two i j) x δ) h
def parR (i j : Nat) (δ : Fr) (x y : D) (h : Hs) : R Out := if i < δ.length ∧ j < δ.length then nxR ((δ.set i (some x)).set j (some y)) h else .no
def setixR (δ : Fr) (v x y : D) (h : Hs) : R Out := match lstD h x with
  | some (k, xs) => match y with
    | .int n => match ixN xs.length n with
      | some j => nxR δ (h.set k (.lst (xs.set j v)))
      | none => .no
    | _ => .no
  | none => .no
def augR (i : Nat) (δ : Fr) (x : Int) (y : D) (h : Hs) : R Out := match y with
  | .int j => setF δ i (.int (x + j)) h
  | _ => .no
/-- behind a statement -/
def thenR (k : Fr → Hs → R Out) (o : Out) (h : Hs) : R Out := match o with
  | .nx δ => k δ h
  | o => .ok o h
mutual
def evS (c : Cal) (wl : Nat) : Sx → Fr → Hs → R Out
  | .set i e, δ, h => (evE c e δ h).bind fun x h1 => setF δ i x h1
  | .two i j e, δ, h => (evE c e δ h).bind fun x h1 => twoR i j δ x h1
  | .par i j a b, δ, h => (evE c a δ h).bind fun x h1 => (evE c b δ h1).bind fun y h2 => parR i j δ x y h2
  | .setix o i e, δ, h => (evE c e δ h).bind fun v h1 => (evE c o δ h1).bind fun x h2 => (evE c i δ h2).bind fun y h3 => setixR δ v x y h3
  | .aug i e, δ, h => match δ[i]? with
    | some (some (.int x)) => (evE c e δ h).bind fun y h1 => augR i δ x y h1
    | _ => .no
  | .expr e, δ, h => (evE c e δ h).bind fun _ h1 => nxR δ h1
  | .ret e, δ, h => (evE c e δ h).bind retR
  | .retN, _, h => .ok (.rt .non) h
  | .ifS t a b, δ, h => (evT c t δ h).bind fun x h1 => iteK (fun h1 => evSs c wl a δ h1) (fun h1 => evSs c wl b δ h1) x h1
  | .whileS t b, δ, h => whileLoop (evT c t) (evSs c wl b) wl δ h
  | .forS tg it b, δ, h => (evI c it δ h).bind fun J h1 => forLoop (fun x δ' h2 => bindK (fun δ2 h2 => evSs c wl b δ2 h2) (bindTg tg x δ') h2) (gOk J.gs) J.items δ h1
  | .raiseS k, _, h => .ex k h
  | .pass, δ, h => nxR δ h
  | .brk, δ, h => .ok (.bk δ) h
  | .cnt, δ, h => .ok (.ct δ) h
  | .never, _, _ => .no
def evSs (c : Cal) (wl : Nat) : Ss → Fr → Hs → R Out
  | .nil, δ, h => nxR δ h
  | .cons s r, δ, h => (evS c wl s δ h).bind (thenR fun δ h => evSs c wl r δ h)
end

structure Fn where
  name : Str
  ps : List Str
  N : List Str
  body : Ss
structure Pg where
  fns : List Fn
  con : List (Str × D)
  dic : List (Str × List (Str × D))
  cls : List Str
  wl : Nat
def outR : R Out → R D
  | .ok (.nx _) h => .ok .non h
  | .ok (.rt d) h => .ok d h
  | .ex c h => .ex c h
  | _ => .no
def start0 (f : Fn) (ds : List D) : Fr := ds.map some ++ List.replicate (f.N.length - ds.length) none
def callI (pg : Pg) : Nat → Nat → List D → Hs → R D
  | 0, _, _, _ => .no
  | n + 1, i, ds, h => match pg.fns[i]? with
    | none => .no
    | some f => if ds.length = f.ps.length then outR (evSs ⟨callI pg n, pg.con.map (·.2), pg.dic.map (·.2)⟩ pg.wl f.body (start0 f ds) h) else .no
end PI
namespace PI
open PySem L2

/-! ### what stands for what -/
section
variable (K : PySem.W.Frag)
/-- a list that never changes -/
def FrzL (H : Hp) (a : Addr) (vs : List V) : Prop :=
  (∃ o, H a = some (.frz o (.lst vs))) ∨ ∃ (o : Obj) (its : Array Value) (n : Nat), K.lookup a = some o ∧ o.cls = .type "list" ∧ o.dict = none ∧ o.data = .seq its n ∧ its.size ≤ sizeLine ∧ Vals vs its.toList
mutual
inductive Rel (ρ : List Addr) (H : Hp) : D → V → Prop
  | non : Rel ρ H .non .non
  | bl (b : Bool) : Rel ρ H (.bl b) (.bl b)
  | int (i : Int) : Rel ρ H (.int i) (.int i)
  | str (s : Str) : Rel ρ H (.str s) (.str s)
  | tup {a : Addr} {xs : List D} {vs : List V} : SqT K H a vs → RelAll ρ H xs vs → Rel ρ H (.tup xs) (.ref a)
  | frz {a : Addr} {xs : List D} {vs : List V} : FrzL K H a vs → RelAll ρ H xs vs → Rel ρ H (.frz xs) (.ref a)
  | ref {k : Nat} {a : Addr} : ρ[k]? = some a → Rel ρ H (.ref k) (.ref a)
inductive RelAll (ρ : List Addr) (H : Hp) : List D → List V → Prop
  | nil : RelAll ρ H [] []
  | cons {d : D} {v : V} {ds : List D} {vs : List V} : Rel ρ H d v → RelAll ρ H ds vs → RelAll ρ H (d :: ds) (v :: vs)
end
def ORel (ρ : List Addr) (H : Hp) (a : Addr) : O → Prop
  | .lst xs => ∃ vs, H a = some (.lst vs) ∧ RelAll K ρ H xs vs
  | .dct _ => False
structure HRel (T : List (Addr × Str)) (ρ : List Addr) (h : Hs) (H : Hp) : Prop where
  len : ρ.length = h.length
  nd : ρ.Nodup
  obj : ∀ (k : Nat) (o : O), h[k]? = some o → ∃ a, ρ[k]? = some a ∧ ORel K ρ H a o
  tabs : LamX.Tabs T H
structure Ext (T : List (Addr × Str)) (ρ : List Addr) (H : Hp) (ρ' : List Addr) (h' : Hs) (H' : Hp) : Prop where
  pre : ∃ l, ρ' = ρ ++ l
  new : ∀ a ∈ ρ', a ∉ ρ → H a = none
  keep : ∀ a o, H a = some o → a ∉ ρ → (∀ ps, o ≠ .tbl ps) → H' a = some o
  tbl : ∀ a ps, H a = some (.tbl ps) → ∃ ps', H' a = some (.tbl ps')
  rel : HRel K T ρ' h' H'
def FrRel (ρ : List Addr) (H : Hp) (δ : Fr) (σ : L2.St) : Prop := δ.length = σ.length ∧ ∀ (i : Nat) (d : D), δ[i]? = some (some d) → ∃ v, σ[i]? = some (some v) ∧ Rel K ρ H d v
end
section
variable {K : PySem.W.Frag} {T : List (Addr × Str)} {ρ ρ' ρ'' : List Addr} {h h' h'' : Hs} {H H' H'' : Hp}

theorem HRel.at (r : HRel K T ρ h H) {a : Addr} (ha : a ∈ ρ) : ∃ vs, H a = some (.lst vs) := by
  obtain ⟨k, hk, e⟩ := List.mem_iff_getElem.mp ha
  have hk' : k < h.length := by rw [← r.len]; exact hk
  obtain ⟨b, e2, q⟩ := r.obj k h[k] (by simp [hk'])
  have : b = a := by
    rw [List.getElem?_eq_getElem hk, e] at e2
    exact (Option.some.inj e2).symm
  subst this
  cases ho : h[k] with
  | lst xs => rw [ho] at q; obtain ⟨vs, q1, _⟩ := q; exact ⟨vs, q1⟩
  | dct kvs => rw [ho] at q; exact q.elim
theorem HRel.nmem (r : HRel K T ρ h H) {a : Addr} {o : HO} (e : H a = some o) (ho : ∀ vs, o ≠ .lst vs) : a ∉ ρ := fun ha => by
  obtain ⟨vs, q⟩ := r.at ha
  rw [e] at q
  exact ho vs (Option.some.inj q)
theorem HRel.nmem_none (r : HRel K T ρ h H) {a : Addr} (e : H a = none) : a ∉ ρ := fun ha => by
  obtain ⟨vs, q⟩ := r.at ha
  rw [e] at q
  cases q
theorem Ext.refl (r : HRel K T ρ h H) : Ext K T ρ H ρ h H := ⟨⟨[], by simp⟩, fun a ha hn => absurd ha hn, fun _ _ e _ _ => e, fun _ ps e => ⟨ps, e⟩, r⟩
theorem Ext.trans (a : Ext K T ρ H ρ' h' H') (b : Ext K T ρ' H' ρ'' h'' H'') : Ext K T ρ H ρ'' h'' H'' := by
  obtain ⟨l1, e1⟩ := a.pre
  obtain ⟨l2, e2⟩ := b.pre
  refine ⟨⟨l1 ++ l2, by rw [e2, e1, List.append_assoc]⟩, fun x hx hn => ?_, fun x o e hn ht => ?_, fun x ps e => ?_, b.rel⟩
  · by_cases hx' : x ∈ ρ'
    · exact a.new x hx' hn
    · have q := b.new x hx hx'
      cases hH : H x with
      | none => rfl
      | some o =>
        by_cases ht : ∃ ps, o = .tbl ps
        · obtain ⟨ps, rfl⟩ := ht
          obtain ⟨ps', e'⟩ := a.tbl x ps hH
          rw [q] at e'
          cases e'
        · have := a.keep x o hH hn fun ps e => ht ⟨ps, e⟩
          rw [q] at this
          cases this
  · have hx' : x ∉ ρ' := fun hx' => by
      have := a.new x hx' hn
      rw [e] at this
      cases this
    exact b.keep x o (a.keep x o e hn ht) hx' ht
  · obtain ⟨ps', e'⟩ := a.tbl x ps e
    exact b.tbl x ps' e'
theorem Ext.at (a : Ext K T ρ H ρ' h' H') {k : Nat} {x : Addr} (e : ρ[k]? = some x) : ρ'[k]? = some x := by
  obtain ⟨l, rfl⟩ := a.pre
  rw [List.getElem?_append_left (List.getElem?_eq_some_iff.mp e).1]
  exact e
theorem Ext.rd (a : Ext K T ρ H ρ' h' H') (r : HRel K T ρ h H) {x : Addr} {o : HO} (e : H x = some o) (ho : ∀ vs, o ≠ .lst vs) (ht : ∀ ps, o ≠ .tbl ps) : H' x = some o := a.keep x o e (r.nmem e ho) ht
structure Mono (ρ : List Addr) (H : Hp) (ρ' : List Addr) (H' : Hp) : Prop where
  at_ : ∀ (k : Nat) (x : Addr), ρ[k]? = some x → ρ'[k]? = some x
  tup : ∀ a vs, H a = some (.tup vs) → H' a = some (.tup vs)
  frz : ∀ a o u, H a = some (.frz o u) → H' a = some (.frz o u)
theorem Ext.mono (a : Ext K T ρ H ρ' h' H') (r : HRel K T ρ h H) : Mono ρ H ρ' H' :=
  ⟨fun _ _ e => a.at e, fun _ _ e => a.rd r e (fun _ z => by cases z) (fun _ z => by cases z), fun _ _ _ e => a.rd r e (fun _ z => by cases z) (fun _ z => by cases z)⟩
theorem Mono.sqt (a : Mono ρ H ρ' H') {x : Addr} {vs : List V} (e : SqT K H x vs) : SqT K H' x vs := by
  rcases e with (e | ⟨o, e⟩) | e
  · exact .inl (.inl (a.tup _ _ e))
  · exact .inl (.inr ⟨o, a.frz _ _ _ e⟩)
  · exact .inr e
theorem FrzL.sql {x : Addr} {vs : List V} (e : FrzL K H x vs) : SqL K H x vs := by
  rcases e with ⟨o, e⟩ | e
  · exact .inl (.inr ⟨o, e⟩)
  · exact .inr e
theorem Mono.frzl (a : Mono ρ H ρ' H') {x : Addr} {vs : List V} (e : FrzL K H x vs) : FrzL K H' x vs := by
  rcases e with ⟨o, e⟩ | e
  · exact .inl ⟨o, a.frz _ _ _ e⟩
  · exact .inr e
mutual
theorem Rel.mono (a : Mono ρ H ρ' H') : ∀ {d : D} {v : V}, Rel K ρ H d v → Rel K ρ' H' d v
  | _, _, .non => .non
  | _, _, .bl b => .bl b
  | _, _, .int i => .int i
  | _, _, .str s => .str s
  | _, _, .tup e q => .tup (a.sqt e) (RelAll.mono a q)
  | _, _, .frz e q => .frz (a.frzl e) (RelAll.mono a q)
  | _, _, .ref e => .ref (a.at_ _ _ e)
theorem RelAll.mono (a : Mono ρ H ρ' H') : ∀ {ds : List D} {vs : List V}, RelAll K ρ H ds vs → RelAll K ρ' H' ds vs
  | _, _, .nil => .nil
  | _, _, .cons p q => .cons (Rel.mono a p) (RelAll.mono a q)
end
theorem Rel.ext (a : Ext K T ρ H ρ' h' H') (r : HRel K T ρ h H) {d : D} {v : V} (q : Rel K ρ H d v) : Rel K ρ' H' d v := q.mono (a.mono r)
theorem RelAll.ext (a : Ext K T ρ H ρ' h' H') (r : HRel K T ρ h H) {ds : List D} {vs : List V} (q : RelAll K ρ H ds vs) : RelAll K ρ' H' ds vs := q.mono (a.mono r)
theorem ORel.mono (a : Mono ρ H ρ' H') {x : Addr} {o : O} (e : H' x = H x) (q : ORel K ρ H x o) : ORel K ρ' H' x o := by
  cases o with
  | lst xs => obtain ⟨vs, q1, q2⟩ := q; exact ⟨vs, by rw [e]; exact q1, q2.mono a⟩
  | dct _ => exact q.elim
theorem FrRel.ext (a : Ext K T ρ H ρ' h' H') (r : HRel K T ρ h H) {δ : Fr} {σ : L2.St} (f : FrRel K ρ H δ σ) : FrRel K ρ' H' δ σ :=
  ⟨f.1, fun i d e => let ⟨v, e1, e2⟩ := f.2 i d e; ⟨v, e1, e2.ext a r⟩⟩
theorem RelAll.length : ∀ {ds : List D} {vs : List V}, RelAll K ρ H ds vs → ds.length = vs.length
  | _, _, .nil => rfl
  | _, _, .cons _ q => by rw [List.length_cons, List.length_cons, RelAll.length q]
theorem RelAll.get : ∀ {ds : List D} {vs : List V}, RelAll K ρ H ds vs → ∀ {i : Nat} {d : D}, ds[i]? = some d → ∃ v, vs[i]? = some v ∧ Rel K ρ H d v
  | _, _, .nil, i, d, e => by simp at e
  | _, _, .cons p q, 0, d, e => by
    obtain rfl := Option.some.inj e
    exact ⟨_, rfl, p⟩
  | _, _, .cons p q, i + 1, d, e => by
    obtain ⟨v, e1, e2⟩ := RelAll.get q (i := i) (d := d) (by simpa using e)
    exact ⟨v, by simpa using e1, e2⟩
theorem RelAll.of_get {ds : List D} {vs : List V} (r : RelAll K ρ H ds vs) {i : Nat} {v : V} (e : vs[i]? = some v) : ∃ d, ds[i]? = some d ∧ Rel K ρ H d v := by
  have hi : i < ds.length := by rw [r.length]; exact (List.getElem?_eq_some_iff.mp e).1
  obtain ⟨w, e1, e2⟩ := r.get (List.getElem?_eq_getElem hi)
  rw [e] at e1
  cases e1
  exact ⟨_, List.getElem?_eq_getElem hi, e2⟩
theorem RelAll.append : ∀ {ds es : List D} {vs ws : List V}, RelAll K ρ H ds vs → RelAll K ρ H es ws → RelAll K ρ H (ds ++ es) (vs ++ ws)
  | _, _, _, _, .nil, q => q
  | _, _, _, _, .cons p r, q => .cons p (RelAll.append r q)
theorem RelAll.take : ∀ {ds : List D} {vs : List V} (n : Nat), RelAll K ρ H ds vs → RelAll K ρ H (ds.take n) (vs.take n)
  | _, _, 0, _ => by simpa using .nil
  | _, _, _ + 1, .nil => by simpa using .nil
  | _, _, n + 1, .cons p r => by simpa using .cons p (RelAll.take n r)
theorem RelAll.drop : ∀ {ds : List D} {vs : List V} (n : Nat), RelAll K ρ H ds vs → RelAll K ρ H (ds.drop n) (vs.drop n)
  | _, _, 0, r => by simpa using r
  | _, _, _ + 1, .nil => by simpa using .nil
  | _, _, n + 1, .cons p r => by simpa using RelAll.drop n r
theorem RelAll.set {d : D} {v : V} (p : Rel K ρ H d v) : ∀ {ds : List D} {vs : List V} (n : Nat), RelAll K ρ H ds vs → RelAll K ρ H (ds.set n d) (vs.set n v)
  | _, _, _, .nil => by simpa using .nil
  | _, _, 0, .cons _ r => by simpa using .cons p r
  | _, _, n + 1, .cons q r => by simpa using .cons q (RelAll.set p n r)
theorem RelAll.dropLast : ∀ {ds : List D} {vs : List V}, RelAll K ρ H ds vs → RelAll K ρ H ds.dropLast vs.dropLast := fun {ds vs} r => by
  rw [List.dropLast_eq_take, List.dropLast_eq_take, r.length]
  exact r.take _

/-- a new tuple, or any thing that is not tracked by ρ, is laid -/
theorem Mono.new_ {p : Addr} {o : HO} (hp : H p = none) : Mono ρ H ρ (upd H p o) :=
  ⟨fun _ _ e => e, fun a vs e => by rw [upd_ne (ne_of_none e hp)]; exact e, fun a ob u e => by rw [upd_ne (ne_of_none e hp)]; exact e⟩
theorem Ext.new_ (r : HRel K T ρ h H) {p : Addr} {o : HO} (hp : H p = none) : Ext K T ρ H ρ h (upd H p o) := by
  have k : ∀ b o', H b = some o' → upd H p o b = some o' := fun b o' e => by rw [upd_ne (ne_of_none e hp)]; exact e
  refine ⟨⟨[], by simp⟩, fun a ha hn => absurd ha hn, fun a o' e _ _ => k a o' e, fun a ps e => ⟨ps, k a _ e⟩, r.len, r.nd, fun i o' e => ?_, r.tabs.ext k⟩
  obtain ⟨a, e1, e2⟩ := r.obj i o' e
  refine ⟨a, e1, e2.mono (.new_ hp) ?_⟩
  obtain ⟨vs, q⟩ := r.at (List.mem_of_getElem? e1)
  exact upd_ne (ne_of_none q hp)
theorem Mono.lst (r : HRel K T ρ h H) {a : Addr} (ha : a ∈ ρ) {vs : List V} : Mono ρ H ρ (upd H a (.lst vs)) := by
  obtain ⟨ws, q⟩ := r.at ha
  exact ⟨fun _ _ e => e, fun b us e => by rw [upd_ne (ne_of e q (by intro z; cases z))]; exact e, fun b ob u e => by rw [upd_ne (ne_of e q (by intro z; cases z))]; exact e⟩
theorem Mono.push {p : Addr} : Mono ρ H (ρ ++ [p]) H :=
  ⟨fun k x e => by rw [List.getElem?_append_left (List.getElem?_eq_some_iff.mp e).1]; exact e, fun _ _ e => e, fun _ _ _ e => e⟩
theorem Mono.trans (a : Mono ρ H ρ' H') (b : Mono ρ' H' ρ'' H'') : Mono ρ H ρ'' H'' :=
  ⟨fun k x e => b.at_ k x (a.at_ k x e), fun x v e => b.tup x v (a.tup x v e), fun x o u e => b.frz x o u (a.frz x o u e)⟩
theorem tabs_lst {p : Addr} {vs : List V} (t : LamX.Tabs T H) (hp : (∃ ws, H p = some (.lst ws)) ∨ H p = none) : LamX.Tabs T (upd H p (.lst vs)) := fun q hq => by
  obtain ⟨ps, h1, h2, h3⟩ := t q hq
  have ne : ∀ b o, H b = some o → (∀ ws, o ≠ .lst ws) → b ≠ p := fun b o e n z => by
    subst z
    rcases hp with ⟨ws, z⟩ | z
    · rw [e] at z; exact n ws (Option.some.inj z)
    · rw [e] at z; cases z
  refine ⟨ps, by rw [upd_ne (ne _ _ h1 fun _ z => by cases z)]; exact h1, h2, fun pos cv hc => ?_⟩
  obtain ⟨c, e1, e2⟩ := h3 pos cv hc
  exact ⟨c, e1, by rw [upd_ne (ne _ _ e2 fun _ z => by unfold LamX.CodeO at z; cases z)]; exact e2⟩
/-- a list of ours is written -/
theorem Ext.write (r : HRel K T ρ h H) {k : Nat} {a : Addr} (ha : ρ[k]? = some a) {xs : List D} {vs : List V} (q : RelAll K ρ H xs vs) : Ext K T ρ H ρ (h.set k (.lst xs)) (upd H a (.lst vs)) := by
  have hm := List.mem_of_getElem? ha
  have M : Mono ρ H ρ (upd H a (.lst vs)) := .lst r hm
  obtain ⟨ws, hw⟩ := r.at hm
  refine ⟨⟨[], by simp⟩, fun b hb hn => absurd hb hn, fun b o e hn _ => by rw [upd_ne (fun z => hn (by rw [z]; exact hm))]; exact e, fun b ps e => ⟨ps, by rw [upd_ne (ne_of e hw (by intro z; cases z))]; exact e⟩, by rw [List.length_set]; exact r.len, r.nd, fun i o e => ?_, tabs_lst r.tabs (.inl ⟨ws, hw⟩)⟩
  by_cases hi : i = k
  · subst hi
    have hk : i < h.length := by rw [← r.len]; exact (List.getElem?_eq_some_iff.mp ha).1
    rw [List.getElem?_set_self hk] at e
    cases e
    exact ⟨a, ha, vs, upd_same, q.mono M⟩
  · rw [List.getElem?_set_ne (Ne.symm hi)] at e
    obtain ⟨b, e1, e2⟩ := r.obj i o e
    refine ⟨b, e1, e2.mono M (upd_ne fun z => hi ?_)⟩
    subst z
    exact nd_ix r.nd e1 ha
/-- a new list is ours from now on -/
theorem Ext.push (r : HRel K T ρ h H) {p : Addr} {xs : List D} {vs : List V} (hp : H p = none) (q : RelAll K ρ H xs vs) : Ext K T ρ H (ρ ++ [p]) (h ++ [.lst xs]) (upd H p (.lst vs)) := by
  have M : Mono ρ H (ρ ++ [p]) (upd H p (.lst vs)) := (Mono.new_ hp).trans .push
  have np := r.nmem_none hp
  refine ⟨⟨[p], rfl⟩, fun a ha hn => ?_, fun b o e hn _ => by rw [upd_ne (ne_of_none e hp)]; exact e, fun b ps e => ⟨ps, by rw [upd_ne (ne_of_none e hp)]; exact e⟩, by simp [r.len], ?_, fun i o e => ?_, tabs_lst r.tabs (.inr hp)⟩
  · rcases List.mem_append.mp ha with z | z
    · exact absurd z hn
    · rw [List.mem_singleton.mp z]; exact hp
  · rw [List.nodup_append]
    exact ⟨r.nd, by simp, fun a ha b hb => by rw [List.mem_singleton.mp hb]; exact fun z => np (z ▸ ha)⟩
  · by_cases hi : i < h.length
    · rw [List.getElem?_append_left hi] at e
      obtain ⟨b, e1, e2⟩ := r.obj i o e
      refine ⟨b, M.at_ _ _ e1, e2.mono M (upd_ne ?_)⟩
      exact fun z => np (z ▸ List.mem_of_getElem? e1)
    · have hi' : i = h.length := by
        have := (List.getElem?_eq_some_iff.mp e).1
        simp at this
        omega
      subst hi'
      rw [List.getElem?_append_right (Nat.le_refl _)] at e
      simp at e
      subst e
      refine ⟨p, ?_, vs, upd_same, q.mono M⟩
      rw [← r.len, List.getElem?_append_right (Nat.le_refl _)]
      simp
/-- the same, the list laid before -/
theorem Ext.adopt (r : HRel K T ρ h H) {p : Addr} {xs : List D} {vs : List V} (np : p ∉ ρ) (hp : H p = some (.lst vs)) (q : RelAll K ρ H xs vs) : HRel K T (ρ ++ [p]) (h ++ [.lst xs]) H := by
  have M : Mono ρ H (ρ ++ [p]) H := .push
  refine ⟨by simp [r.len], ?_, fun i o e => ?_, r.tabs⟩
  · rw [List.nodup_append]
    exact ⟨r.nd, by simp, fun a ha b hb => by rw [List.mem_singleton.mp hb]; exact fun z => np (z ▸ ha)⟩
  · by_cases hi : i < h.length
    · rw [List.getElem?_append_left hi] at e
      obtain ⟨b, e1, e2⟩ := r.obj i o e
      exact ⟨b, M.at_ _ _ e1, e2.mono M rfl⟩
    · have hi' : i = h.length := by
        have := (List.getElem?_eq_some_iff.mp e).1
        simp at this
        omega
      subst hi'
      rw [List.getElem?_append_right (Nat.le_refl _)] at e
      simp at e
      subst e
      refine ⟨p, ?_, vs, hp, q.mono M⟩
      rw [← r.len, List.getElem?_append_right (Nat.le_refl _)]
      simp

/-! ### what is wanted behind a step -/
section
variable (K T) (E : XK) (cls : Nat → Addr)
def Post {α : Type} (ρ : List Addr) (H : Hp) (G : List Addr → Hs → Hp → α → Prop) : R α → Prop
  | .ok a h' => ∀ ρ' H', Ext K T ρ H ρ' h' H' → G ρ' h' H' a
  | .ex c h' => ∀ ρ' H', Ext K T ρ H ρ' h' H' → E (.ref (cls c)) none H'
  | .no => False
end
variable {E : XK} {cls : Nat → Addr} {α β : Type}
theorem Post.ext {r : R α} {G : List Addr → Hs → Hp → α → Prop} (a : Ext K T ρ H ρ' h' H') (p : Post K T E cls ρ H G r) : Post K T E cls ρ' H' G r := by
  cases r with
  | ok x h1 => exact fun ρ2 H2 b => p ρ2 H2 (a.trans b)
  | ex c h1 => exact fun ρ2 H2 b => p ρ2 H2 (a.trans b)
  | no => exact p
theorem Post.mono {r : R α} {G G' : List Addr → Hs → Hp → α → Prop} (p : Post K T E cls ρ H G r) (k : ∀ ρ' h' H' x, Ext K T ρ H ρ' h' H' → G ρ' h' H' x → G' ρ' h' H' x) : Post K T E cls ρ H G' r := by
  cases r with
  | ok x h1 => exact fun ρ2 H2 b => k _ _ _ _ b (p ρ2 H2 b)
  | ex c h1 => exact p
  | no => exact p
theorem Post.bind {r : R α} {f : α → Hs → R β} {G : List Addr → Hs → Hp → β → Prop} (p : Post K T E cls ρ H G (r.bind f)) : Post K T E cls ρ H (fun ρ1 h1 H1 x => Post K T E cls ρ1 H1 G (f x h1)) r := by
  cases r with
  | ok x h1 => exact fun ρ2 H2 b => Post.ext b p
  | ex c h1 => exact p
  | no => exact p
theorem Post.ok {x : α} {G : List Addr → Hs → Hp → α → Prop} (r : HRel K T ρ h H) (p : Post K T E cls ρ H G (.ok x h)) : G ρ h H x := p ρ H (Ext.refl r)
end
end PI
namespace PI
open PySem L2
def BO.op : BO → Operator
  | .add => .Add | .sub => .Sub | .mul => .Mult | .div => .FloorDiv | .mod => .Mod | .pow => .Pow | .and_ => .BitAnd
def CO.op : CO → CmpOp
  | .eq => .Eq | .ne => .NotEq | .lt => .Lt | .le => .LtE | .gt => .Gt | .ge => .GtE | .isN => .Is | .notN => .IsNot | .in_ => .In | .notIn => .NotIn
def GD (K : PySem.W.Frag) (Q : VK) : List Addr → Hs → Hp → D → Prop := fun ρ _ H d => ∀ v, Rel K ρ H d v → Q v H
theorem lim_eq : LIM = sizeLine := by rw [sizeLine_eq]; rfl
theorem RelAll.rep {K : PySem.W.Frag} {ρ : List Addr} {H : Hp} {ds : List D} {vs : List V} (r : RelAll K ρ H ds vs) : ∀ n, RelAll K ρ H (List.replicate n ds).flatten (List.replicate n vs).flatten
  | 0 => by simpa using .nil
  | n + 1 => by
    rw [List.replicate_succ, List.replicate_succ, List.flatten_cons, List.flatten_cons]
    exact r.append (RelAll.rep r n)
section
variable {X : Cx} {T : List (Addr × Str)} {E : XK} {cls : Nat → Addr} {ρ : List Addr} {h : Hs} {H : Hp} {Q : VK}
theorem GD.tup (r : HRel X.K T ρ h H) {xs : List D} {vs : List V} (q : RelAll X.K ρ H xs vs) (p : Post X.K T E cls ρ H (GD X.K Q) (.ok (.tup xs) h)) {a : Addr} (ha : H a = none) : Q (.ref a) (upd H a (.tup vs)) :=
  p ρ _ (Ext.new_ r ha) _ (.tup (SqT.of upd_same) (q.mono (.new_ ha)))
theorem GD.push (r : HRel X.K T ρ h H) {xs : List D} {vs : List V} (q : RelAll X.K ρ H xs vs) (p : Post X.K T E cls ρ H (GD X.K Q) (.ok (.ref h.length) (h ++ [.lst xs]))) {a : Addr} (ha : H a = none) : Q (.ref a) (upd H a (.lst vs)) :=
  p _ _ (Ext.push r ha q) _ (.ref (by rw [← r.len, List.getElem?_append_right (Nat.le_refl _)]; simp))
theorem HRel.lst (r : HRel X.K T ρ h H) {k : Nat} {a : Addr} {xs : List D} (ha : ρ[k]? = some a) (hk : h[k]? = some (.lst xs)) : ∃ vs, H a = some (.lst vs) ∧ RelAll X.K ρ H xs vs := by
  obtain ⟨b, e1, q⟩ := r.obj k _ hk
  rw [ha] at e1
  cases e1
  exact q
def rBin (K : PySem.W.Frag) (T : List (Addr × Str)) (E : XK) (cls : Nat → Addr) (op : BO) : R2 := fun x y H Q => ∃ ρ h d1 d2, HRel K T ρ h H ∧ Rel K ρ H d1 x ∧ Rel K ρ H d2 y ∧ Post K T E cls ρ H (GD K Q) (binD op d1 d2 h)
theorem op_bin (op : BO) : OpR X (binaryOp op.op) (rBin X.K T E cls op) := by
  intro pins s σ H x y v u Q I rx ry hh
  obtain ⟨ρ, h, d1, d2, r, r1, r2, p⟩ := hh
  cases op <;> cases r1 <;> cases r2 <;> try exact (p : False).elim
  case add.int.int i j => exact op_add pins s σ H _ _ v u Q I rx ry ⟨i, j, rfl, rfl, Post.ok r p _ (.int _)⟩
  case add.str.str i j =>
    rw [binD] at p
    split at p
    case isTrue hl => exact op_add_str pins s σ H _ _ v u Q I rx ry ⟨i, j, rfl, rfl, by rw [← lim_eq]; exact hl, Post.ok r p _ (.str _)⟩
    case isFalse hl => exact (p : False).elim
  case add.tup.tup a xs vs e q b ys ws e' q' =>
    rw [binD] at p
    split at p
    case isTrue hl =>
      have z1 := q.length
      have z2 := q'.length
      refine op_catA pins s σ H _ _ v u Q I rx ry ⟨a, b, vs, ws, rfl, rfl, e, e', by rw [← z1, ← z2, ← lim_eq]; exact hl, fun e0 => ?_, fun e1 e0 => ?_, fun e1 e2 pp hp => GD.tup r (q.append q') p hp⟩
      · subst e0
        obtain rfl := List.eq_nil_of_length_eq_zero z1
        exact Post.ok r p _ (.tup e' q')
      · subst e0
        obtain rfl := List.eq_nil_of_length_eq_zero z2
        rw [List.append_nil] at p
        exact Post.ok r p _ (.tup e q)
    case isFalse hl => exact (p : False).elim
  case add.ref.ref k a e m b e' =>
    rw [binD] at p
    split at p
    case h_1 xs ys h1 h2 =>
      split at p
      case isTrue hl =>
        obtain ⟨vs, q1, q2⟩ := r.lst e h1
        obtain ⟨ws, q3, q4⟩ := r.lst e' h2
        exact op_cat pins s σ H _ _ v u Q I rx ry ⟨a, b, vs, ws, rfl, rfl, q1, q3, by rw [← q2.length, ← q4.length, ← lim_eq]; exact hl, fun pp hp => GD.push r (q2.append q4) p hp⟩
      case isFalse hl => exact (p : False).elim
    all_goals exact (p : False).elim
  case sub.int.int i j => exact op_sub pins s σ H _ _ v u Q I rx ry ⟨i, j, rfl, rfl, Post.ok r p _ (.int _)⟩
  case mul.int.int i j =>
    rw [binD] at p
    split at p
    case isTrue hl =>
      unfold mulOk at hl
      simp only [Bool.or_eq_true, Bool.and_eq_true, decide_eq_true_eq] at hl
      rcases hl with (hl | hl) | hl
      · exact op_mul pins s σ H _ _ v u Q I rx ry ⟨i, j, rfl, rfl, .inl hl, Post.ok r p _ (.int _)⟩
      · exact op_mul pins s σ H _ _ v u Q I rx ry ⟨i, j, rfl, rfl, .inr hl, Post.ok r p _ (.int _)⟩
      · exact op_mulW pins s σ H _ _ v u Q I rx ry ⟨i, j, rfl, rfl, hl, Post.ok r p _ (.int _)⟩
    case isFalse hl => exact (p : False).elim
  case mul.tup.int a xs vs e q k =>
    rw [binD] at p
    split at p
    case isTrue hl =>
      obtain ⟨h1, h2, h3, h4⟩ := hl
      have z1 := q.length
      refine op_repT pins s σ H _ _ v u Q I rx ry ⟨a, k, vs, rfl, rfl, e, fun e0 => ?_, h2, h3, by omega, fun pp hp => GD.tup r (q.rep k.toNat) p hp⟩
      subst e0
      obtain rfl := List.eq_nil_of_length_eq_zero z1
      exact absurd h1 (by simp)
    case isFalse hl => exact (p : False).elim
  case div.int.int i j =>
    rw [binD] at p
    split at p
    case isTrue hl => exact op_fdivW pins s σ H _ _ v u Q I rx ry ⟨i, j, rfl, rfl, hl, Post.ok r p _ (.int _)⟩
    case isFalse hl => exact (p : False).elim
  case mod.int.int i j =>
    rw [binD] at p
    split at p
    case isTrue hl => exact op_modN pins s σ H _ _ v u Q I rx ry ⟨i, j, rfl, rfl, by omega, by show Q (.int (i.fmod j)) H; rw [Int.fmod_eq_emod_of_nonneg _ (by omega)]; exact Post.ok r p _ (.int _)⟩
    case isFalse hl => exact (p : False).elim
  case pow.int.int i j =>
    rw [binD] at p
    split at p
    case isTrue hl => exact op_pow pins s σ H _ _ v u Q I rx ry ⟨i, j, rfl, rfl, hl, Post.ok r p _ (.int _)⟩
    case isFalse hl => exact (p : False).elim
  case and_.int.int i j => exact op_and pins s σ H _ _ v u Q I rx ry ⟨i, j, rfl, rfl, Post.ok r p _ (.int _)⟩

/-! ### comparisons -/
def D.shp (d : D) : Prop := True
mutual
theorem py_dp : ∀ {d : D} {v : V} {e : PyData}, Rel X.K ρ H d v → D.py h 0 d = some e → Dp X.K H v e
  | _, _, _, .non, q => by rw [D.py] at q; cases q; exact .non
  | _, _, _, .bl b, q => by rw [D.py] at q; cases q; exact .bl b
  | _, _, _, .int b, q => by rw [D.py] at q; cases q; exact .int b
  | _, _, _, .str b, q => by rw [D.py] at q; cases q; exact .str b
  | _, _, _, .tup e r, q => by
    rw [D.py] at q
    obtain ⟨es, h1, h2⟩ := Option.map_eq_some_iff.mp q
    subst h2
    exact .tup e (pyL_dp r h1)
  | _, _, _, .frz e r, q => by
    rw [D.py] at q
    obtain ⟨es, h1, h2⟩ := Option.map_eq_some_iff.mp q
    subst h2
    exact .lst e.sql (pyL_dp r h1)
  | _, _, _, .ref e, q => by rw [D.py] at q; cases q
theorem pyL_dp : ∀ {ds : List D} {vs : List V} {es : List PyData}, RelAll X.K ρ H ds vs → D.pyL h 0 ds = some es → DpAll X.K H vs es
  | _, _, _, .nil, q => by rw [D.pyL] at q; cases q; exact .nil
  | _, _, _, .cons r1 r2, q => by
    rw [D.pyL] at q
    split at q
    case h_1 a ha =>
      obtain ⟨es, h1, h2⟩ := Option.map_eq_some_iff.mp q
      subst h2
      exact .cons (py_dp r1 ha) (pyL_dp r2 h1)
    case h_2 => cases q
end
theorem py1_dp (r : HRel X.K T ρ h H) {d : D} {v : V} {e : PyData} (q : Rel X.K ρ H d v) (p : D.py1 h d = some e) : Dp X.K H v e := by
  cases q with
  | ref hk =>
    rw [D.py1] at p
    split at p
    case h_1 xs hx =>
      obtain ⟨es, h1, h2⟩ := Option.map_eq_some_iff.mp p
      subst h2
      obtain ⟨vs, q1, q2⟩ := r.lst hk hx
      exact .lst (SqL.of q1) (pyL_dp q2 h1)
    case h_2 => cases p
  | non => exact py_dp (ρ := ρ) (h := h) .non p
  | bl b => exact py_dp (ρ := ρ) (h := h) (.bl b) p
  | int b => exact py_dp (ρ := ρ) (h := h) (.int b) p
  | str b => exact py_dp (ρ := ρ) (h := h) (.str b) p
  | tup e q => exact py_dp (.tup e q) p
  | frz e q => exact py_dp (.frz e q) p
theorem eqD_dp (r : HRel X.K T ρ h H) {d1 d2 : D} {x y : V} {b : Bool} (q1 : Rel X.K ρ H d1 x) (q2 : Rel X.K ρ H d2 y) (p : eqD d1 d2 h = some b) :
    ∃ a e, Dp X.K H x a ∧ Dp X.K H y e ∧ SeqAt.shaped a = true ∧ SeqAt.shaped e = true ∧ PyData.eqv a e = b := by
  unfold eqD at p
  split at p
  case h_1 a e h1 h2 =>
    split at p
    case isTrue hs =>
      simp only [Bool.and_eq_true] at hs
      exact ⟨a, e, py1_dp r q1 h1, py1_dp r q2 h2, hs.1, hs.2, Option.some.inj p⟩
    case isFalse => cases p
  case h_2 => cases p
theorem Rel.sq (r : HRel X.K T ρ h H) {d : D} {v : V} {xs : List D} (q : Rel X.K ρ H d v) (e : seqD h d = some xs) : ∃ a vs, v = .ref a ∧ (SqL X.K H a vs ∨ SqT X.K H a vs) ∧ RelAll X.K ρ H xs vs := by
  cases q with
  | ref hk =>
    rw [seqD] at e
    split at e
    case h_1 ys hy =>
      cases e
      obtain ⟨vs, q1, q2⟩ := r.lst hk hy
      exact ⟨_, vs, rfl, .inl (SqL.of q1), q2⟩
    case h_2 => cases e
  | tup e1 e2 =>
    rw [seqD] at e
    cases e
    exact ⟨_, _, rfl, .inr e1, e2⟩
  | frz e1 e2 =>
    rw [seqD] at e
    cases e
    exact ⟨_, _, rfl, .inl e1.sql, e2⟩
  | non => cases e
  | bl _ => cases e
  | int _ => cases e
  | str _ => cases e
theorem flat_toV {d : D} {v : V} (q : Rel X.K ρ H d v) (f : flatD d = true) : v = toV d ∧ flatV v = true := by
  cases q <;> first
    | exact ⟨rfl, rfl⟩
    | cases f
theorem flat_toVs : ∀ {ds : List D} {vs : List V}, RelAll X.K ρ H ds vs → ds.all flatD = true → vs = ds.map toV ∧ vs.all flatV = true
  | _, _, .nil, _ => ⟨rfl, rfl⟩
  | _, _, .cons r1 r2, f => by
    rw [List.all_cons, Bool.and_eq_true] at f
    obtain ⟨e1, f1⟩ := flat_toV r1 f.1
    obtain ⟨e2, f2⟩ := flat_toVs r2 f.2
    refine ⟨by rw [List.map_cons, ← e1, ← e2], by rw [List.all_cons, f1, f2]; rfl⟩
def rCmp (K : PySem.W.Frag) (T : List (Addr × Str)) (E : XK) (cls : Nat → Addr) (op : CO) : R2 := fun x y H Q => ∃ ρ h d1 d2, HRel K T ρ h H ∧ Rel K ρ H d1 x ∧ Rel K ρ H d2 y ∧ Post K T E cls ρ H (GD K Q) (cmpD op d1 d2 h)
theorem rel_non {d : D} {v : V} (q : Rel X.K ρ H d v) : decide (v = .non) = isN d := by
  cases q <;> rfl
theorem one_cp {c : Str} (h : c.length = 1) : c = ⟨#[c.cps.getD 0 0]⟩ := by
  obtain ⟨⟨l⟩⟩ := c
  match l, h with
  | [a], _ => rfl
theorem ofB_none {o : Option Bool} (p : Post X.K T E cls ρ H (GD X.K Q) (R.ofB o h)) : ∃ b, o = some b ∧ Post X.K T E cls ρ H (GD X.K Q) (.ok (.bl b) h) := by
  cases o with
  | none => exact (p : False).elim
  | some b => exact ⟨b, rfl, p⟩
theorem inD_of (r : HRel X.K T ρ h H) {d1 d2 : D} {x y : V} {b : Bool} (r1 : Rel X.K ρ H d1 x) (r2 : Rel X.K ρ H d2 y) (e : inD d1 d2 h = some b) :
    (∃ c z, x = .str ⟨#[c]⟩ ∧ y = .str z ∧ decide (c ∈ z.cps.toList) = b) ∨
    (∃ a vs, y = .ref a ∧ (SqL X.K H a vs ∨ SqT X.K H a vs) ∧ flatV x = true ∧ vs.all flatV = true ∧ inV x vs = b) := by
  have key : ∀ ys, seqD h d2 = some ys → (if flatD d1 && ys.all flatD then some (inV (toV d1) (ys.map toV)) else none) = some b →
      (∃ a vs, y = .ref a ∧ (SqL X.K H a vs ∨ SqT X.K H a vs) ∧ flatV x = true ∧ vs.all flatV = true ∧ inV x vs = b) := fun ys hy e => by
    split at e
    case isTrue hf =>
      rw [Bool.and_eq_true] at hf
      obtain ⟨a, vs, rfl, hq, q⟩ := r2.sq r hy
      obtain ⟨e1, f1⟩ := flat_toV r1 hf.1
      obtain ⟨e2, f2⟩ := flat_toVs q hf.2
      exact ⟨a, vs, rfl, hq, f1, f2, by rw [e1, e2]; exact Option.some.inj e⟩
    case isFalse => cases e
  cases r2 with
  | str z =>
    unfold inD at e
    cases r1 with
    | str c =>
      simp only at e
      split at e
      case isTrue hc => exact .inl ⟨_, z, by rw [← one_cp hc], rfl, Option.some.inj e⟩
      case isFalse => cases e
    | _ => cases e
  | tup e1 e2 => exact .inr (key _ rfl e)
  | frz e1 e2 => exact .inr (key _ rfl e)
  | ref hk =>
    rename_i k a
    have e' : (match seqD h (.ref k) with | some ys => if flatD d1 && ys.all flatD then some (inV (toV d1) (ys.map toV)) else none | none => none) = some b := e
    cases hy : seqD h (.ref k) with
    | none => rw [hy] at e'; cases e'
    | some ys => rw [hy] at e'; exact .inr (key ys hy e')
  | non => cases e
  | bl _ => cases e
  | int _ => cases e
theorem ltD_of {op : CO} {d1 d2 : D} {x y : V} {b : Bool} (r1 : Rel X.K ρ H d1 x) (r2 : Rel X.K ρ H d2 y) (e : ltD op d1 d2 = some b) : ∃ i j, d1 = .int i ∧ d2 = .int j ∧ x = .int i ∧ y = .int j := by
  cases r1 with
  | int i =>
    cases r2 with
    | int j => exact ⟨i, j, rfl, rfl, rfl, rfl⟩
    | _ => cases e
  | _ => cases e
theorem op_cmp (hu : X.A.units + 64 < cLine) (op : CO) : OpR X (compareOp op.op) (rCmp X.K T E cls op) := by
  intro pins s σ H x y v u Q I rx ry hh
  obtain ⟨ρ, h, d1, d2, r, r1, r2, p⟩ := hh
  cases op with
  | eq =>
    obtain ⟨b, hb, p⟩ := ofB_none p
    obtain ⟨a, e, h1, h2, h3, h4, h5⟩ := eqD_dp r r1 r2 hb
    exact op_eqD hu pins s σ H _ _ v u Q I rx ry ⟨a, e, h1, h2, h3, h4, by rw [h5]; exact Post.ok r p _ (.bl _)⟩
  | ne =>
    obtain ⟨b, hb, p⟩ := ofB_none p
    obtain ⟨c, hc, rfl⟩ := Option.map_eq_some_iff.mp hb
    obtain ⟨a, e, h1, h2, h3, h4, h5⟩ := eqD_dp r r1 r2 hc
    exact op_neD hu pins s σ H _ _ v u Q I rx ry ⟨a, e, h1, h2, h3, h4, by rw [h5]; exact Post.ok r p _ (.bl _)⟩
  | isN =>
    cases r2 with
    | non => exact op_isN pins s σ H _ _ v u Q I rx ry ⟨rfl, by rw [rel_non r1]; exact Post.ok r p _ (.bl _)⟩
    | _ => exact (p : False).elim
  | notN =>
    cases r2 with
    | non => exact op_notN pins s σ H _ _ v u Q I rx ry ⟨rfl, by rw [rel_non r1]; exact Post.ok r p _ (.bl _)⟩
    | _ => exact (p : False).elim
  | lt =>
    obtain ⟨b, hb, p⟩ := ofB_none p
    obtain ⟨i, j, rfl, rfl, rfl, rfl⟩ := ltD_of r1 r2 hb
    cases hb
    exact op_lt pins s σ H _ _ v u Q I rx ry ⟨_, _, rfl, rfl, Post.ok r p _ (.bl _)⟩
  | le =>
    obtain ⟨b, hb, p⟩ := ofB_none p
    obtain ⟨i, j, rfl, rfl, rfl, rfl⟩ := ltD_of r1 r2 hb
    cases hb
    exact op_le pins s σ H _ _ v u Q I rx ry ⟨_, _, rfl, rfl, Post.ok r p _ (.bl _)⟩
  | gt =>
    obtain ⟨b, hb, p⟩ := ofB_none p
    obtain ⟨i, j, rfl, rfl, rfl, rfl⟩ := ltD_of r1 r2 hb
    cases hb
    exact op_gt pins s σ H _ _ v u Q I rx ry ⟨_, _, rfl, rfl, Post.ok r p _ (.bl _)⟩
  | ge =>
    obtain ⟨b, hb, p⟩ := ofB_none p
    obtain ⟨i, j, rfl, rfl, rfl, rfl⟩ := ltD_of r1 r2 hb
    cases hb
    exact op_ge pins s σ H _ _ v u Q I rx ry ⟨_, _, rfl, rfl, Post.ok r p _ (.bl _)⟩
  | in_ =>
    obtain ⟨b, hb, p⟩ := ofB_none p
    rcases inD_of r r1 r2 hb with ⟨c, z, e1, e2, e3⟩ | ⟨a, vs, e1, hq, f1, f2, e3⟩
    · subst e1; subst e2
      exact op_in_sign pins s σ H _ _ v u Q I rx ry ⟨c, z, rfl, rfl, by rw [e3]; exact Post.ok r p _ (.bl _)⟩
    · subst e1
      exact op_in_seq pins s σ H _ _ v u Q I rx ry ⟨a, vs, rfl, hq, f1, f2, by rw [if_neg Bool.false_ne_true, e3]; exact Post.ok r p _ (.bl _)⟩
  | notIn =>
    obtain ⟨b, hb, p⟩ := ofB_none p
    obtain ⟨b', hb', rfl⟩ := Option.map_eq_some_iff.mp hb
    rcases inD_of r r1 r2 hb' with ⟨c, z, e1, e2, e3⟩ | ⟨a, vs, e1, hq, f1, f2, e3⟩
    · subst e1; subst e2
      exact op_notIn_sign pins s σ H _ _ v u Q I rx ry ⟨c, z, rfl, rfl, by rw [e3]; exact Post.ok r p _ (.bl _)⟩
    · subst e1
      exact op_notIn_seq pins s σ H _ _ v u Q I rx ry ⟨a, vs, rfl, hq, f1, f2, by rw [if_pos rfl, e3]; exact Post.ok r p _ (.bl _)⟩

/-! ### truth, subscripts, slices -/
theorem tru_d (r : HRel X.K T ρ h H) {d : D} {v : V} {b : Bool} (q : Rel X.K ρ H d v) (e : truD d h = some b) : TruV X.K v H b := by
  cases q with
  | non => cases e; rfl
  | bl c => cases e; rfl
  | int i => cases e; rfl
  | str z =>
    rw [truD] at e
    split at e
    case isTrue hl => cases e; exact ⟨by rw [← lim_eq]; exact hl, rfl⟩
    case isFalse => cases e
  | tup e1 e2 =>
    cases e
    refine .inr (.inl ⟨_, e1, ?_⟩)
    cases e2 <;> rfl
  | frz e1 e2 =>
    cases e
    refine .inl ⟨_, e1.sql, ?_⟩
    cases e2 <;> rfl
  | ref hk =>
    rw [truD] at e
    split at e
    case h_1 xs hx =>
      cases e
      obtain ⟨vs, q1, q2⟩ := r.lst hk hx
      refine .inl ⟨_, SqL.of q1, ?_⟩
      cases q2 <;> rfl
    case h_2 => cases e
theorem RelAll.atI {xs : List D} {vs : List V} (q : RelAll X.K ρ H xs vs) {i : Int} {d : D} (e : L2.atI xs i = some d) : ∃ v, L2.atI vs i = some v ∧ Rel X.K ρ H d v := by
  unfold L2.atI at e ⊢
  rw [q.length] at e
  cases hj : ixN vs.length i with
  | none => rw [hj] at e; cases e
  | some j =>
    rw [hj] at e
    exact q.get e
def rIxA (K : PySem.W.Frag) (T : List (Addr × Str)) (E : XK) (cls : Nat → Addr) : R2 := fun x y H Q => ∃ ρ h d1 d2, HRel K T ρ h H ∧ Rel K ρ H d1 x ∧ Rel K ρ H d2 y ∧ Post K T E cls ρ H (GD K Q) (ixD d1 d2 h)
theorem ix_any : IxR X (rIxA X.K T E cls) := by
  intro value slice pins s σ H x y v u Q I rx ry hh hs
  obtain ⟨ρ, h, d1, d2, r, r1, r2, p⟩ := hh
  cases r2 with
  | int i =>
    have key : Post X.K T E cls ρ H (GD X.K Q) (ixQ (seqD h d1) i h) → wpAny (model X.prog X.w) X.A (PyProof.Rows.subscriptTail value slice v u) (EP X pins σ Q) X.xe s := fun p => by
      cases hx : seqD h d1 with
      | none => rw [hx] at p; exact (p : False).elim
      | some xs =>
        rw [hx] at p
        have p' : Post X.K T E cls ρ H (GD X.K Q) (match atI xs i with | some d => .ok d h | none => .no) := p
        cases hd : atI xs i with
        | none => rw [hd] at p'; exact (p' : False).elim
        | some d =>
          rw [hd] at p'
          obtain ⟨a, vs, rfl, hq, q⟩ := r1.sq r hx
          obtain ⟨w, hw, rw_⟩ := q.atI hd
          rcases hq with hq | hq
          · exact ix_list value slice pins s σ H _ _ v u Q I rx ry ⟨a, vs, i, w, rfl, rfl, hq, hw, Post.ok r p' _ rw_⟩ hs
          · exact ix_tup value slice pins s σ H _ _ v u Q I rx ry ⟨a, vs, i, w, rfl, rfl, hq, hw, Post.ok r p' _ rw_⟩ hs
    cases r1 with
    | str z =>
      unfold ixD at p
      simp only at p
      split at p
      case isTrue hl =>
        split at p
        case h_1 c hc => exact ix_str value slice pins s σ H _ _ v u Q I rx ry ⟨z, i, c, rfl, rfl, by rw [← lim_eq]; exact hl, hc, Post.ok r p _ (.str _)⟩ hs
        case h_2 => exact (p : False).elim
      case isFalse => exact (p : False).elim
    | _ => exact key p
  | _ => exact (p : False).elim
theorem RelAll.cut {xs : List D} {vs : List V} (q : RelAll X.K ρ H xs vs) (lo hi : Option Int) : RelAll X.K ρ H (cutD xs lo hi) (cutV vs lo hi) := by
  unfold cutD cutV
  rw [q.length]
  exact (q.drop _).take _
def rSlX (K : PySem.W.Frag) (T : List (Addr × Str)) (E : XK) (cls : Nat → Addr) : V → Option Int → Option Int → Hp → VK → Prop := fun x lo hi H Q => ∃ ρ h d, HRel K T ρ h H ∧ Rel K ρ H d x ∧ Post K T E cls ρ H (GD K Q) (slD d lo hi h)
theorem cut_whole {xs : List D} {lo hi : Option Int} (e : HT.sIx xs.length 0 lo = 0 ∧ HT.sIx xs.length xs.length hi = xs.length) : cutD xs lo hi = xs := by
  unfold cutD
  rw [e.1, e.2]
  simp
theorem sl_any : SlR X (rSlX X.K T E cls) := by
  intro pins s σ H x v vl vu lo hi sl Q I rx hs pl pu hh
  obtain ⟨ρ, h, d, r, r1, p⟩ := hh
  unfold slD at p
  split at p
  case h_1 xs =>
    cases r1 with
    | tup e q =>
      refine sl_tupA pins s σ H _ v vl vu lo hi sl Q I rx hs pl pu ⟨_, _, rfl, e, fun w => ?_, fun w a ha => GD.tup r (q.cut lo hi) p ha⟩
      rw [← q.length] at w
      rw [cut_whole w] at p
      exact Post.ok r p _ (.tup e q)
  case h_2 k =>
    split at p
    case h_1 xs hx =>
      cases r1 with
      | ref hk =>
        obtain ⟨vs, q1, q2⟩ := r.lst hk hx
        exact sl_list pins s σ H _ v vl vu lo hi sl Q I rx hs pl pu ⟨_, vs, rfl, SqL.of q1, fun a ha => GD.push r (q2.cut lo hi) p ha⟩
    case h_2 => exact (p : False).elim
  case h_3 => exact (p : False).elim
end
end PI
namespace PI
open PySem L2
def GL (K : PySem.W.Frag) (Q : List V → Hp → Prop) : List Addr → Hs → Hp → List D → Prop := fun ρ _ H d => ∀ v, RelAll K ρ H d v → Q v H
section
variable {X : Cx} {T : List (Addr × Str)} {E : XK} {cls : Nat → Addr} {ρ : List Addr} {h : Hs} {H : Hp} {Q : VK}
def rBi (K : PySem.W.Frag) (T : List (Addr × Str)) (E : XK) (cls : Nat → Addr) (b : Bi) : List V → Hp → VK → Prop := fun xs H Q => ∃ ρ h ds, HRel K T ρ h H ∧ RelAll K ρ H ds xs ∧ Post K T E cls ρ H (GD K Q) (biD b ds h)
theorem relAll1 {d : D} {xs : List V} (q : RelAll X.K ρ H [d] xs) : ∃ v, xs = [v] ∧ Rel X.K ρ H d v := by
  cases q with
  | cons r q => cases q; exact ⟨_, rfl, r⟩
theorem relAll2 {d e : D} {xs : List V} (q : RelAll X.K ρ H [d, e] xs) : ∃ v w, xs = [v, w] ∧ Rel X.K ρ H d v ∧ Rel X.K ρ H e w := by
  cases q with
  | cons r q =>
    obtain ⟨w, rfl, r2⟩ := relAll1 q
    exact ⟨_, _, rfl, r, r2⟩
theorem bi_one {b : Bi} {ds : List D} {xs : List V} (r : HRel X.K T ρ h H) (q : RelAll X.K ρ H ds xs) (p : Post X.K T E cls ρ H (GD X.K Q) (biD b ds h)) :
    (∃ d v, xs = [v] ∧ Rel X.K ρ H d v ∧ Post X.K T E cls ρ H (GD X.K Q) (bi1 b d h)) ∨ (∃ d e v w, xs = [v, w] ∧ Rel X.K ρ H d v ∧ Rel X.K ρ H e w ∧ Post X.K T E cls ρ H (GD X.K Q) (bi2 b d e h)) := by
  match ds, q, p with
  | [], _, p => exact (p : False).elim
  | [d], q, p =>
    obtain ⟨v, e, q⟩ := relAll1 q
    exact .inl ⟨d, v, e, q, p⟩
  | [d, e], q, p =>
    obtain ⟨v, w, e1, q1, q2⟩ := relAll2 q
    exact .inr ⟨d, e, v, w, e1, q1, q2, p⟩
  | d :: e :: f :: g, _, p => exact (p : False).elim
theorem cr_len : CallR X (.builtin "len") (rBi X.K T E cls .len) := by
  intro pins s σ H xs us Q I rv hh
  obtain ⟨ρ, h, ds, r, q, p⟩ := hh
  rcases bi_one r q p with ⟨d, v, rfl, q, p⟩ | ⟨d, e, v, w, rfl, q, q2, p⟩
  · have p' : Post X.K T E cls ρ H (GD X.K Q) (match lenD h d with | some n => .ok (.int n) h | none => .no) := p
    cases hn : lenD h d with
    | none => rw [hn] at p'; exact (p' : False).elim
    | some n =>
      rw [hn] at p'
      have key : ∀ ys, seqD h d = some ys → n = ys.length → wpAny (model X.prog X.w) X.A (call (.builtin "len") us) (EP X pins σ Q) X.xe s := fun ys hx hn => by
        obtain ⟨a, vs, rfl, hq, q⟩ := q.sq r hx
        exact call_len_seq pins s σ H _ us Q I rv ⟨a, vs, rfl, hq, by rw [← q.length, ← hn]; exact Post.ok r p' _ (.int _)⟩
      cases q with
      | str z =>
        unfold lenD at hn
        simp only at hn
        split at hn
        case isTrue hl =>
          cases hn
          exact call_len pins s σ H _ us Q I rv ⟨_, z.length, rfl, ⟨by rw [← lim_eq]; exact hl, rfl⟩, Post.ok r p' _ (.int _)⟩
        case isFalse => cases hn
      | tup e1 e2 => exact key _ rfl (Option.some.inj hn).symm
      | frz e1 e2 => exact key _ rfl (Option.some.inj hn).symm
      | ref e1 =>
        obtain ⟨ys, h1, h2⟩ := Option.map_eq_some_iff.mp (show (seqD h (.ref _)).map List.length = some n from hn)
        exact key _ h1 h2.symm
      | non => cases hn
      | bl _ => cases hn
      | int _ => cases hn
  · exact (p : False).elim
theorem cr_tuple : CallR X (.type "tuple") (rBi X.K T E cls .tuple) := by
  intro pins s σ H xs us Q I rv hh
  obtain ⟨ρ, h, ds, r, q, p⟩ := hh
  rcases bi_one r q p with ⟨d, v, rfl, q, p⟩ | ⟨d, e, v, w, rfl, q, q2, p⟩
  · have p' : Post X.K T E cls ρ H (GD X.K Q) (match seqD h d with | some xs => .ok (.tup xs) h | none => .no) := p
    cases hx : seqD h d with
    | none => rw [hx] at p'; exact (p' : False).elim
    | some xs =>
      rw [hx] at p'
      obtain ⟨a, vs, rfl, hq, q⟩ := q.sq r hx
      rcases hq with hq | hq
      · exact call_tuple_of pins s σ H _ us Q I rv ⟨a, vs, rfl, .inl ⟨hq, fun l hl => GD.tup r q p' hl⟩⟩
      · exact call_tuple_of pins s σ H _ us Q I rv ⟨a, vs, rfl, .inr ⟨hq, Post.ok r p' _ (.tup hq q)⟩⟩
  · exact (p : False).elim
theorem cr_list : CallR X (.type "list") (rBi X.K T E cls .list) := by
  intro pins s σ H xs us Q I rv hh
  obtain ⟨ρ, h, ds, r, q, p⟩ := hh
  rcases bi_one r q p with ⟨d, v, rfl, q, p⟩ | ⟨d, e, v, w, rfl, q, q2, p⟩
  · have p' : Post X.K T E cls ρ H (GD X.K Q) (match seqD h d with | some xs => .ok (.ref h.length) (h ++ [.lst xs]) | none => .no) := p
    cases hx : seqD h d with
    | none => rw [hx] at p'; exact (p' : False).elim
    | some xs =>
      rw [hx] at p'
      obtain ⟨a, vs, rfl, hq, q⟩ := q.sq r hx
      exact call_list_of pins s σ H _ us Q I rv ⟨a, vs, rfl, hq, fun l hl => GD.push r q p' hl⟩
  · exact (p : False).elim
theorem cr_int : CallR X (.type "int") (rBi X.K T E cls .int_) := by
  intro pins s σ H xs us Q I rv hh
  obtain ⟨ρ, h, ds, r, q, p⟩ := hh
  rcases bi_one r q p with ⟨d, v, rfl, q, p⟩ | ⟨d, e, v, w, rfl, q, q2, p⟩
  · cases q with
    | int i => exact call_int1 pins s σ H _ us Q I rv (.inl ⟨i, rfl, Post.ok r p _ (.int _)⟩)
    | bl b => exact call_int1 pins s σ H _ us Q I rv (.inr ⟨b, rfl, Post.ok r p _ (.int _)⟩)
    | _ => exact (p : False).elim
  · exact (p : False).elim
theorem cr_str : CallR X (.type "str") (rBi X.K T E cls .str_) := by
  intro pins s σ H xs us Q I rv hh
  obtain ⟨ρ, h, ds, r, q, p⟩ := hh
  rcases bi_one r q p with ⟨d, v, rfl, q, p⟩ | ⟨d, e, v, w, rfl, q, q2, p⟩
  · cases q with
    | int i =>
      have p' : Post X.K T E cls ρ H (GD X.K Q) (if i.natAbs.log2 < 1920 then .ok (.str (Str.ofString (toString i))) h else .no) := p
      split at p'
      case isTrue hl => exact call_str_int pins s σ H _ us Q I rv ⟨i, rfl, hl, Post.ok r p' _ (.str _)⟩
      case isFalse => exact (p' : False).elim
    | _ => exact (p : False).elim
  · exact (p : False).elim
theorem cr_max2 (hc : X.calm = true) : CallR X (.builtin "max") (rBi X.K T E cls .max2) := by
  intro pins s σ H xs us Q I rv hh
  obtain ⟨ρ, h, ds, r, q, p⟩ := hh
  rcases bi_one r q p with ⟨d, v, rfl, q, p⟩ | ⟨d, e, v, w, rfl, q1, q2, p⟩
  · exact (p : False).elim
  · cases q1 with
    | int i =>
      cases q2 with
      | int j => exact call_max2 hc pins s σ H _ us Q I rv ⟨i, j, rfl, Post.ok r p _ (.int _)⟩
      | _ => exact (p : False).elim
    | _ => exact (p : False).elim
theorem cr_min2 (hc : X.calm = true) : CallR X (.builtin "min") (rBi X.K T E cls .min2) := by
  intro pins s σ H xs us Q I rv hh
  obtain ⟨ρ, h, ds, r, q, p⟩ := hh
  rcases bi_one r q p with ⟨d, v, rfl, q, p⟩ | ⟨d, e, v, w, rfl, q1, q2, p⟩
  · exact (p : False).elim
  · cases q1 with
    | int i =>
      cases q2 with
      | int j => exact call_min2 hc pins s σ H _ us Q I rv ⟨i, j, rfl, Post.ok r p _ (.int _)⟩
      | _ => exact (p : False).elim
    | _ => exact (p : False).elim

/-! ### isinstance -/
def Ty.nm : Ty → String
  | .non => "NoneType" | .bool => "bool" | .int => "int" | .str => "str" | .tuple => "tuple" | .list => "list"
theorem kit_sub (a b : Ty) : kitB a.nm b.nm = some (a.sub b) := by
  cases a <;> cases b <;> decide +kernel
theorem tyx_of (r : HRel X.K T ρ h H) {d : D} {v : V} (q : Rel X.K ρ H d v) : TyX X.K H v (.type (tyD h d).nm) := by
  cases q with
  | non => exact .base .non
  | bl b => exact .base (.bl b)
  | int i => exact .base (.int i)
  | str s => exact .base (.str s)
  | tup e q =>
    rcases e with (e | ⟨o, e⟩) | ⟨o, its, n, e1, e2, _⟩
    · exact .base (.tup e)
    · exact .fTuple e
    · exact .kTuple e1 e2
  | frz e q =>
    rcases e with ⟨o, e⟩ | ⟨o, its, n, e1, e2, _⟩
    · exact .base (.frz e)
    · exact .kList e1 e2
  | ref e =>
    obtain ⟨vs, q⟩ := r.at (List.mem_of_getElem? e)
    exact .base (.lst q)
theorem isi_of (r : HRel X.K T ρ h H) {d : D} {v : V} (q : Rel X.K ρ H d v) (t : Ty) {Q : VK} (k : Q (.bl ((tyD h d).sub t)) H) : rIsi X.K [v, .ty t.nm] H Q :=
  ⟨v, .ty t.nm, _, .type t.nm, _, rfl, .ty _, tyx_of r q, kit_ty (kit_sub _ _), k⟩

/-! ### built-in functions upon a list just made -/
def rBl (K : PySem.W.Frag) (T : List (Addr × Str)) (E : XK) (cls : Nat → Addr) (b : Bl) : List V → Hp → VK → Prop := fun xs H Q => ∃ ρ h ds a vs, xs = [.ref a] ∧ H a = some (.lst vs) ∧ HRel K T ρ h H ∧ RelAll K ρ H ds vs ∧ Post K T E cls ρ H (GD K Q) (blD b ds h)
theorem bools_of : ∀ {ds : List D} {vs : List V} {bs : List Bool}, RelAll X.K ρ H ds vs → bools? ds = some bs → vs = bs.map V.bl
  | _, _, _, .nil, e => by cases e; rfl
  | _, _, _, .cons (.bl b) q, e => by
    obtain ⟨r, h1, rfl⟩ := Option.map_eq_some_iff.mp (show (bools? _).map (b :: ·) = some _ from e)
    rw [bools_of q h1]; rfl
  | _, _, _, .cons .non q, e => by cases e
  | _, _, _, .cons (.int _) q, e => by cases e
  | _, _, _, .cons (.str _) q, e => by cases e
  | _, _, _, .cons (.tup _ _) q, e => by cases e
  | _, _, _, .cons (.frz _ _) q, e => by cases e
  | _, _, _, .cons (.ref _) q, e => by cases e
theorem ints_of : ∀ {ds : List D} {vs : List V} {bs : List Int}, RelAll X.K ρ H ds vs → ints? ds = some bs → vs = bs.map V.int
  | _, _, _, .nil, e => by cases e; rfl
  | _, _, _, .cons (.int b) q, e => by
    obtain ⟨r, h1, rfl⟩ := Option.map_eq_some_iff.mp (show (ints? _).map (b :: ·) = some _ from e)
    rw [ints_of q h1]; rfl
  | _, _, _, .cons .non q, e => by cases e
  | _, _, _, .cons (.bl _) q, e => by cases e
  | _, _, _, .cons (.str _) q, e => by cases e
  | _, _, _, .cons (.tup _ _) q, e => by cases e
  | _, _, _, .cons (.frz _ _) q, e => by cases e
  | _, _, _, .cons (.ref _) q, e => by cases e
theorem bl_tuple : CallR X (.type "tuple") (rBl X.K T E cls .tuple) := by
  intro pins s σ H xs us Q I rv hh
  obtain ⟨ρ, h, ds, a, vs, rfl, ha, r, q, p⟩ := hh
  exact call_tuple_of pins s σ H _ us Q I rv ⟨a, vs, rfl, .inl ⟨SqL.of ha, fun l hl => GD.tup r q p hl⟩⟩
theorem bl_len : CallR X (.builtin "len") (rBl X.K T E cls .len) := by
  intro pins s σ H xs us Q I rv hh
  obtain ⟨ρ, h, ds, a, vs, rfl, ha, r, q, p⟩ := hh
  exact call_len_seq pins s σ H _ us Q I rv ⟨a, vs, rfl, .inl (SqL.of ha), by rw [← q.length]; exact Post.ok r p _ (.int _)⟩
theorem bl_all (hc : X.calm = true) : CallR X (.builtin "all") (rBl X.K T E cls .all) := by
  intro pins s σ H xs us Q I rv hh
  obtain ⟨ρ, h, ds, a, vs, rfl, ha, r, q, p⟩ := hh
  have p' : Post X.K T E cls ρ H (GD X.K Q) (match bools? ds with | some bs => .ok (.bl (bs.all id)) h | none => .no) := p
  cases hb : bools? ds with
  | none => rw [hb] at p'; exact (p' : False).elim
  | some bs =>
    rw [hb] at p'
    have e := bools_of q hb
    subst e
    exact cr_all hc pins s σ H _ us Q I rv ⟨a, bs, rfl, SqL.of ha, Post.ok r p' _ (.bl _)⟩
theorem bl_any (hc : X.calm = true) : CallR X (.builtin "any") (rBl X.K T E cls .any) := by
  intro pins s σ H xs us Q I rv hh
  obtain ⟨ρ, h, ds, a, vs, rfl, ha, r, q, p⟩ := hh
  have p' : Post X.K T E cls ρ H (GD X.K Q) (match bools? ds with | some bs => .ok (.bl (bs.any id)) h | none => .no) := p
  cases hb : bools? ds with
  | none => rw [hb] at p'; exact (p' : False).elim
  | some bs =>
    rw [hb] at p'
    have e := bools_of q hb
    subst e
    exact cr_any hc pins s σ H _ us Q I rv ⟨a, bs, rfl, SqL.of ha, Post.ok r p' _ (.bl _)⟩
theorem bl_sum (hc : X.calm = true) : CallR X (.builtin "sum") (rBl X.K T E cls .sum) := by
  intro pins s σ H xs us Q I rv hh
  obtain ⟨ρ, h, ds, a, vs, rfl, ha, r, q, p⟩ := hh
  have p' : Post X.K T E cls ρ H (GD X.K Q) (match ints? ds with | some bs => .ok (.int bs.sum) h | none => .no) := p
  cases hb : ints? ds with
  | none => rw [hb] at p'; exact (p' : False).elim
  | some bs =>
    rw [hb] at p'
    have e := ints_of q hb
    subst e
    exact cr_sum hc pins s σ H _ us Q I rv ⟨a, bs, rfl, SqL.of ha, Post.ok r p' _ (.int _)⟩

/-! ### methods of lists -/
def rMe (K : PySem.W.Frag) (T : List (Addr × Str)) (E : XK) (cls : Nat → Addr) (m : Me) : V → List V → Hp → VK → Prop := fun x xs H Q => ∃ ρ h d ds, HRel K T ρ h H ∧ Rel K ρ H d x ∧ RelAll K ρ H ds xs ∧ Post K T E cls ρ H (GD K Q) (meD m d ds h)
theorem lstD_of (r : HRel X.K T ρ h H) {d : D} {v : V} {k : Nat} {xs : List D} (q : Rel X.K ρ H d v) (e : lstD h d = some (k, xs)) : ∃ a vs, v = .ref a ∧ ρ[k]? = some a ∧ H a = some (.lst vs) ∧ RelAll X.K ρ H xs vs := by
  cases q with
  | ref hk =>
    unfold lstD at e
    simp only at e
    split at e
    case h_1 ys hy =>
      cases e
      obtain ⟨vs, q1, q2⟩ := r.lst hk hy
      exact ⟨_, vs, rfl, hk, q1, q2⟩
    case h_2 => cases e
  | _ => cases e
theorem me_append : MtR X "list.append" (rMe X.K T E cls .append) := by
  intro pins s σ H x xs v us Q I rx rv hh
  obtain ⟨ρ, h, d, ds, r, q, qs, p⟩ := hh
  match ds, qs, p with
  | [], _, p => exact (p : False).elim
  | [e], qs, p =>
    obtain ⟨w, rfl, qw⟩ := relAll1 qs
    have p' : Post X.K T E cls ρ H (GD X.K Q) (match lstD h d with | some (k, xs) => if xs.length < LIM then .ok .non (h.set k (.lst (xs ++ [e]))) else .no | none => .no) := p
    cases hl : lstD h d with
    | none => rw [hl] at p'; exact (p' : False).elim
    | some kx =>
      obtain ⟨k, ys⟩ := kx
      rw [hl] at p'
      simp only at p'
      split at p'
      case isTrue hz =>
        obtain ⟨a, vs, rfl, hk, q1, q2⟩ := lstD_of r q hl
        exact mt_append pins s σ H _ _ v us Q I rx rv ⟨a, vs, w, rfl, rfl, q1, by rw [← q2.length, ← lim_eq]; exact hz, p' ρ _ (Ext.write r hk (q2.append (.cons qw .nil))) _ .non⟩
      case isFalse => exact (p' : False).elim
  | d1 :: e :: f, _, p => exact (p : False).elim
theorem me_pop : MtR X "list.pop" (rMe X.K T E cls .pop) := by
  intro pins s σ H x xs v us Q I rx rv hh
  obtain ⟨ρ, h, d, ds, r, q, qs, p⟩ := hh
  match ds, qs, p with
  | [], qs, p =>
    cases qs
    have p' : Post X.K T E cls ρ H (GD X.K Q) (match lstD h d with | some (k, xs) => (match xs.getLast? with | some x => .ok x (h.set k (.lst xs.dropLast)) | none => .no) | none => .no) := p
    cases hl : lstD h d with
    | none => rw [hl] at p'; exact (p' : False).elim
    | some kx =>
      obtain ⟨k, ys⟩ := kx
      rw [hl] at p'
      simp only at p'
      split at p'
      case h_1 z hz =>
        obtain ⟨a, vs, rfl, hk, q1, q2⟩ := lstD_of r q hl
        rw [List.getLast?_eq_getElem?] at hz
        obtain ⟨w, e1, e2⟩ := q2.get hz
        have E1 := Ext.write r hk q2.dropLast
        exact mt_pop pins s σ H _ _ v us Q I rx rv ⟨a, vs, w, rfl, rfl, q1, by rw [← q2.length]; exact e1, p' ρ _ E1 _ (e2.ext E1 r)⟩
      case h_2 => exact (p' : False).elim
  | [e], _, p => exact (p : False).elim
  | d1 :: e :: f, _, p => exact (p : False).elim
end
end PI
namespace PI
open PySem L2
theorem PE.weak {X : Cx} {e : Expr} {t t' : TE} (p : PE X e t) (k : ∀ σ H Q, t' σ H Q → t σ H Q) : PE X e t' := ⟨fun pins s σ H Q I h => p.run pins s σ H Q I (k σ H Q h)⟩
theorem PT.weak {X : Cx} {e : Expr} {t t' : TT} (p : PT X e t) (k : ∀ σ H Q, t' σ H Q → t σ H Q) : PT X e t' := ⟨fun pins s σ H Q I h => p.run pins s σ H Q I (k σ H Q h)⟩
theorem PW.weak {X : Cx} {e : Expr} {t t' : TT} (p : PW X e t) (k : ∀ σ H Q, t' σ H Q → t σ H Q) : PW X e t' := ⟨fun wh pins s σ H Q I h => p.run wh pins s σ H Q I (k σ H Q h)⟩
theorem PA.weak {X : Cx} {e : List Expr} {t t' : TA} (p : PA X e t) (k : ∀ σ H Q, t' σ H Q → t σ H Q) : PA X e t' := ⟨fun ps pins s σ H Q I h => p.run ps pins s σ H Q I (k σ H Q h)⟩
theorem PO.weak {X : Cx} {e : Option Expr} {t t' : TO} (p : PO X e t) (k : ∀ σ H Q, t' σ H Q → t σ H Q) : PO X e t' := ⟨fun pins s σ H Q I h => p.run pins s σ H Q I (k σ H Q h)⟩
theorem PI.weak {X : Cx} {tg e : Expr} {t t' : TI} (p : L2.PI X tg e t) (k : ∀ σ H Q, t' σ H Q → t σ H Q) : L2.PI X tg e t' := ⟨fun pins s σ H Q I h => p.run pins s σ H Q I (k σ H Q h)⟩
theorem PS.weak {X : Cx} {e : Stmt} {t t' : TS} (p : PS X e t) (k : ∀ D σ H, t' D σ H → t D σ H) : PS X e t' := ⟨fun pins s σ H D I h => p.run pins s σ H D I (k D σ H h)⟩
theorem PSs.weak {X : Cx} {e : List Stmt} {t t' : TS} (p : PSs X e t) (k : ∀ D σ H, t' D σ H → t D σ H) : PSs X e t' := ⟨fun pins s σ H D I h => p.run pins s σ H D I (k D σ H h)⟩

section
variable (K : PySem.W.Frag) (T : List (Addr × Str)) (E : XK) (cls : Nat → Addr) (c : Cal)
def tG {α : Type} (f : Fr → Hs → R α) (σ : L2.St) (H : Hp) (G : List Addr → Hs → Hp → α → Prop) : Prop := ∃ ρ h δ, HRel K T ρ h H ∧ FrRel K ρ H δ σ ∧ Post K T E cls ρ H G (f δ h)
def tE (e : PI.E) : TE := fun σ H Q => tG K T E cls (evE c e) σ H (GD K Q)
def tEs (e : Es) : TA := fun σ H Q => tG K T E cls (evEs c e) σ H (GL K Q)
def GB {α : Type} (Q : α → Hp → Prop) : List Addr → Hs → Hp → α → Prop := fun _ _ H d => Q d H
def tT (e : PI.T) : TT := fun σ H Q => tG K T E cls (evT c e) σ H (GB Q)
def tOE (e : OE) : TO := fun σ H Q => tG K T E cls (evOE c e) σ H (GB Q)
def GLst (H0 : Hp) (Q : VK) : List Addr → Hs → Hp → List D → Prop := fun ρ _ H ds => ∀ a vs, H0 a = none → a ∉ ρ → H a = some (.lst vs) → RelAll K ρ H ds vs → Q (.ref a) H
def tL (e : PI.L) : TE := fun σ H Q => tG K T E cls (evL c e) σ H (GLst K H Q)
/-- what is gone over: the items as they come -/
def WalkI (ρ0 : List Addr) (H0 : Hp) (it : IT) (J : It) : Prop := ∃ (G : Hp → Prop) (Y : Nat → Hp → V → Hp → Prop), Walk J it.items.length G Y ∧
  ∀ ρ h H, Ext K T ρ0 H0 ρ h H → gOk it.gs h = true → G H ∧ ∀ i x H', i < it.items.length → Y i H x H' → ∃ d, it.items[i]? = some d ∧ Ext K T ρ H ρ h H' ∧ Rel K ρ H' d x
def GI (R : It → Hp → Prop) : List Addr → Hs → Hp → IT → Prop := fun ρ _ H it => ∀ J, WalkI K T ρ H it J → R J H
def tI (e : PI.I) : TI := fun σ H R => tG K T E cls (evI c e) σ H (GI K T R)
end

section
variable {X : Cx} {T : List (Addr × Str)} {E : XK} {cls : Nat → Addr} {c : Cal} {ρ : List Addr} {h : Hs} {H : Hp} {Q : VK}
/-- one step, then the rest -/
theorem tG.bind {K : PySem.W.Frag} {α β : Type} {f : Fr → Hs → R α} {g : α → Fr → Hs → R β} {σ : L2.St} {H : Hp} {G : List Addr → Hs → Hp → β → Prop}
    (p : tG K T E cls (fun δ h => (f δ h).bind fun x h1 => g x δ h1) σ H G) :
    tG K T E cls f σ H (fun ρ h H1 x => ∃ δ, HRel K T ρ h H1 ∧ FrRel K ρ H1 δ σ ∧ Post K T E cls ρ H1 G (g x δ h)) := by
  obtain ⟨ρ, h, δ, r, f', p⟩ := p
  exact ⟨ρ, h, δ, r, f', (Post.bind p).mono fun ρ1 h1 H1 x e q => ⟨δ, e.rel, f'.ext e r, q⟩⟩
theorem tG.mono {K : PySem.W.Frag} {α : Type} {f : Fr → Hs → R α} {σ : L2.St} {H : Hp} {G G' : List Addr → Hs → Hp → α → Prop} (p : tG K T E cls f σ H G) (k : ∀ ρ h H1 x, HRel K T ρ h H1 → G ρ h H1 x → G' ρ h H1 x) : tG K T E cls f σ H G' := by
  obtain ⟨ρ, h, δ, r, f', p⟩ := p
  exact ⟨ρ, h, δ, r, f', p.mono fun ρ1 h1 H1 x e q => k _ _ _ _ e.rel q⟩
theorem tG.of {K : PySem.W.Frag} {α : Type} {f : Fr → Hs → R α} {σ : L2.St} {H : Hp} {G : List Addr → Hs → Hp → α → Prop} {δ : Fr} (r : HRel K T ρ h H) (q : FrRel K ρ H δ σ) (p : Post K T E cls ρ H G (f δ h)) : tG K T E cls f σ H G := ⟨ρ, h, δ, r, q, p⟩
/-- a step whose answer is worth nothing more: (r.bind f) with f pure upon the values -/
theorem sn_var {i : Nat} {x : Str} {pos : Pos} (hN : X.N[i]? = some x) (hv : Vis X.env.scope x) (hd : (x == ("__debug__" : Str)) = false) (hcd : (x == ("__classdict__" : Str)) = false) : PE X (.Name x pos) (tE X.K T E cls c (.var i)) := by
  refine PE.weak (pe_var (i := i) hN hv hd hcd) fun σ H Q p => ?_
  obtain ⟨ρ, h, δ, r, f, p⟩ := p
  have p' : Post X.K T E cls ρ H (GD X.K Q) (match δ[i]? with | some (some d) => .ok d h | _ => .no) := p
  split at p'
  case h_1 d hd =>
    obtain ⟨v, e1, e2⟩ := f.2 i d hd
    exact ⟨v, e1, Post.ok r p' _ e2⟩
  case h_2 => exact (p' : False).elim
theorem sn_con {d : D} {v : V} {x : Expr} (hx : PE X x (tC v)) (hr : ∀ ρ H, Rel X.K ρ H d v) : PE X x (tE X.K T E cls c (.con d)) := by
  refine PE.weak hx fun σ H Q p => ?_
  obtain ⟨ρ, h, δ, r, f, p⟩ := p
  exact Post.ok r p _ (hr _ _)
theorem sn_glob {i : Nat} {d : D} {v : V} {x : Expr} (hc : c.con[i]? = some d) (hx : PE X x (tC v)) (hr : ∀ ρ H, Rel X.K ρ H d v) : PE X x (tE X.K T E cls c (.glob i)) := by
  refine PE.weak hx fun σ H Q p => ?_
  obtain ⟨ρ, h, δ, r, f, p⟩ := p
  have p' : Post X.K T E cls ρ H (GD X.K Q) (match c.con[i]? with | some d => .ok d h | none => .no) := p
  rw [hc] at p'
  exact Post.ok r p' _ (hr _ _)
variable {a b e : PI.E} {x y z : Expr} {pos : Pos}
theorem sn_bin {op : BO} (ha : PE X x (tE X.K T E cls c a)) (hb : PE X y (tE X.K T E cls c b)) : PE X (.BinOp x op.op y pos) (tE X.K T E cls c (.bin op a b)) := by
  refine PE.weak (pe_op (op_bin (T := T) (E := E) (cls := cls) op) ha hb) fun σ H Q p => ?_
  refine (tG.bind (f := evE c a) (g := fun x δ h1 => (evE c b δ h1).bind fun y h2 => binD op x y h2) p).mono fun ρ1 h1 H1 d1 r1 q v1 l1 => ?_
  obtain ⟨δ, r, f, q⟩ := q
  exact tG.of r f ((Post.bind q).mono fun ρ2 h2 H2 d2 e2 q v2 l2 => ⟨ρ2, h2, d1, d2, e2.rel, l1.ext e2 r, l2, q⟩)
theorem sn_neg (ha : PE X x (tE X.K T E cls c a)) : PE X (.UnaryOp .USub x pos) (tE X.K T E cls c (.neg a)) := by
  refine PE.weak (pe_un un_neg ha) fun σ H Q p => ?_
  refine (tG.bind (f := evE c a) (g := fun x δ h1 => negR x h1) p).mono fun ρ1 h1 H1 d1 r1 q v1 l1 => ?_
  obtain ⟨δ, r, f, q⟩ := q
  cases l1 with
  | int i => exact ⟨i, rfl, Post.ok r q _ (.int _)⟩
  | _ => exact (q : False).elim
theorem sn_not (ha : PE X x (tE X.K T E cls c a)) : PE X (.UnaryOp .Not x pos) (tE X.K T E cls c (.notV a)) := by
  refine PE.weak (pe_not ha) fun σ H Q p => ?_
  refine (tG.bind (f := evE c a) (g := fun x δ h1 => notR x h1) p).mono fun ρ1 h1 H1 d1 r1 q v1 l1 => ?_
  obtain ⟨δ, r, f, q⟩ := q
  cases l1 with
  | bl i => exact ⟨i, rfl, Post.ok r q _ (.bl _)⟩
  | _ => exact (q : False).elim
theorem sn_cmp {op : CO} (hu : X.A.units + 64 < cLine) (hm : behindInMarks op.op y = false) (ha : PE X x (tE X.K T E cls c a)) (hb : PE X y (tE X.K T E cls c b)) : PE X (.Compare x [op.op] [y] pos) (tE X.K T E cls c (.cmp op a b)) := by
  refine PE.weak (pe_cmpR (op_cmp (T := T) (E := E) (cls := cls) hu op) ha hb hm) fun σ H Q p => ?_
  refine (tG.bind (f := evE c a) (g := fun x δ h1 => (evE c b δ h1).bind fun y h2 => cmpD op x y h2) p).mono fun ρ1 h1 H1 d1 r1 q v1 l1 => ?_
  obtain ⟨δ, r, f, q⟩ := q
  exact tG.of r f ((Post.bind q).mono fun ρ2 h2 H2 d2 e2 q v2 l2 => ⟨ρ2, h2, d1, d2, e2.rel, l1.ext e2 r, l2, q⟩)
theorem sn_chain {o1 o2 : CO} {d : PI.E} (hu : X.A.units + 64 < cLine) (hm : lastMarks [o1.op, o2.op] [y, z] = false) (ha : PE X x (tE X.K T E cls c a)) (hb : PE X y (tE X.K T E cls c b)) (hd : PE X z (tE X.K T E cls c d)) :
    PE X (.Compare x [o1.op, o2.op] [y, z] pos) (tE X.K T E cls c (.chain o1 o2 a b d)) := by
  refine PE.weak (pe_chain (op_cmp (T := T) (E := E) (cls := cls) hu o1) (op_cmp (T := T) (E := E) (cls := cls) hu o2) ha hb hd hm) fun σ H Q p => ?_
  refine (tG.bind (f := evE c a) (g := fun x δ h1 => (evE c b δ h1).bind fun y h2 => (cmpD o1 x y h2).bind fun z h3 => andK (fun h3 => (evE c d δ h3).bind fun u h4 => cmpD o2 y u h4) z h3) p).mono fun ρ1 h1 H1 d1 r1 q v1 l1 => ?_
  obtain ⟨δ, r, f, q⟩ := q
  refine tG.of r f ((Post.bind q).mono fun ρ2 h2 H2 d2 e2 q v2 l2 => ⟨ρ2, h2, d1, d2, e2.rel, l1.ext e2 r, l2, ?_⟩)
  refine (Post.bind q).mono fun ρ3 h3 H3 d3 e3 q v3 l3 => ?_
  cases l3 with
  | bl k =>
    refine ⟨k, rfl, ?_⟩
    cases k with
    | true =>
      refine iteT (tG.of e3.rel (f.ext (e2.trans e3) r) ((Post.bind q).mono fun ρ4 h4 H4 d4 e4 q v4 l4 => ⟨ρ4, h4, d2, d4, e4.rel, (l2.ext e3 e2.rel).ext e4 e3.rel, l4, q⟩))
    | false => exact iteF (Post.ok e3.rel q _ (.bl _))
  | _ => exact (q : False).elim
theorem sn_and {rest : List Expr} (ha : PE X x (tE X.K T E cls c a)) (hb : PE X (.BoolOp .And (y :: rest) pos) (tE X.K T E cls c b)) : PE X (.BoolOp .And (x :: y :: rest) pos) (tE X.K T E cls c (.andV a b)) := by
  refine PE.weak (pe_and ha hb) fun σ H Q p => ?_
  refine (tG.bind (f := evE c a) (g := fun x δ h1 => andK (fun h1 => evE c b δ h1) x h1) p).mono fun ρ1 h1 H1 d1 r1 q v1 l1 => ?_
  obtain ⟨δ, r, f, q⟩ := q
  cases l1 with
  | bl k =>
    refine ⟨k, rfl, ?_⟩
    cases k with
    | true => exact iteT (tG.of r f q)
    | false => exact iteF (Post.ok r q _ (.bl _))
  | _ => exact (q : False).elim
theorem sn_or {rest : List Expr} (ha : PE X x (tE X.K T E cls c a)) (hb : PE X (.BoolOp .Or (y :: rest) pos) (tE X.K T E cls c b)) : PE X (.BoolOp .Or (x :: y :: rest) pos) (tE X.K T E cls c (.orV a b)) := by
  refine PE.weak (pe_or ha hb) fun σ H Q p => ?_
  refine (tG.bind (f := evE c a) (g := fun x δ h1 => orK (fun h1 => evE c b δ h1) x h1) p).mono fun ρ1 h1 H1 d1 r1 q v1 l1 => ?_
  obtain ⟨δ, r, f, q⟩ := q
  cases l1 with
  | bl k =>
    refine ⟨k, rfl, ?_⟩
    cases k with
    | true => exact iteT (Post.ok r q _ (.bl _))
    | false => exact iteF (tG.of r f q)
  | _ => exact (q : False).elim
theorem sn_ite {t : PI.T} {k : Expr} (ht : PT X k (tT X.K T E cls c t)) (ha : PE X x (tE X.K T E cls c a)) (hb : PE X y (tE X.K T E cls c b)) : PE X (.IfExp k x y pos) (tE X.K T E cls c (.ite t a b)) := by
  refine PE.weak (pe_ifExp ht ha hb) fun σ H Q p => ?_
  refine (tG.bind (f := evT c t) (g := fun x δ h1 => iteK (fun h1 => evE c a δ h1) (fun h1 => evE c b δ h1) x h1) p).mono fun ρ1 h1 H1 d1 r1 q => ?_
  obtain ⟨δ, r, f, q⟩ := q
  cases d1 with
  | true => exact iteT (B := tE X.K T E cls c b σ H1 Q) (tG.of (f := evE c a) r f q)
  | false => exact iteF (A := tE X.K T E cls c a σ H1 Q) (tG.of (f := evE c b) r f q)
theorem sn_tup {es : Es} {xs : List Expr} {k : Nat} (h : PA X xs (tEs X.K T E cls c es)) : PE X (.Tuple xs k pos) (tE X.K T E cls c (.tup es)) := by
  refine PE.weak (pe_tup h) fun σ H Q p => ?_
  refine (tG.bind (f := evEs c es) (g := fun xs δ h1 => tupR xs h1) p).mono fun ρ1 h1 H1 ds r1 q vs l1 => ?_
  obtain ⟨δ, r, f, q⟩ := q
  unfold tupR at q
  split at q
  case isTrue hl => exact ⟨by rw [← l1.length, ← lim_eq]; exact hl, fun a ha => GD.tup r l1 q ha⟩
  case isFalse => exact (q : False).elim
theorem back_none {K : PySem.W.Frag} {ρ ρ' : List Addr} {h h' : Hs} {H H' : Hp} (r : HRel K T ρ h H) (e : Ext K T ρ H ρ' h' H') {a : Addr} (ha : H' a = none) : H a = none := by
  cases hH : H a with
  | none => rfl
  | some o =>
    by_cases ht : ∃ ps, o = .tbl ps
    · obtain ⟨ps, rfl⟩ := ht
      obtain ⟨ps', e'⟩ := e.tbl a ps hH
      rw [ha] at e'
      cases e'
    · by_cases hm : a ∈ ρ
      · obtain ⟨l, hl⟩ := e.pre
        obtain ⟨vs, q⟩ := e.rel.at (a := a) (by rw [hl]; exact List.mem_append_left _ hm)
        rw [ha] at q
        cases q
      · have := e.keep a o hH hm fun ps e => ht ⟨ps, e⟩
        rw [ha] at this
        cases this
theorem newL_read {l : PI.L} {σ : L2.St} (p : tE X.K T E cls c (.newL l) σ H Q) : tL X.K T E cls c l σ H Q := by
  obtain ⟨ρ, h, δ, r, f, p⟩ := p
  have p' : Post X.K T E cls ρ H (GD X.K Q) ((evL c l δ h).bind newR) := p
  refine ⟨ρ, h, δ, r, f, ?_⟩
  cases he : evL c l δ h with
  | ok ds h1 =>
    rw [he] at p'
    intro ρ1 H1 e a vs n0 np ha l1
    have E1 := Ext.adopt e.rel np ha l1
    have big : Ext X.K T ρ H (ρ1 ++ [a]) (h1 ++ [.lst ds]) H1 := by
      obtain ⟨l', hl'⟩ := e.pre
      refine ⟨⟨l' ++ [a], by rw [hl', List.append_assoc]⟩, fun b hb hn => ?_, e.keep, e.tbl, E1⟩
      rcases List.mem_append.mp hb with z | z
      · exact e.new b z hn
      · rw [List.mem_singleton.mp z]; exact n0
    exact p' _ _ big _ (.ref (by rw [← e.rel.len, List.getElem?_append_right (Nat.le_refl _)]; simp))
  | ex k h1 => rw [he] at p'; exact p'
  | no => rw [he] at p'; exact (p' : False).elim
theorem sn_newL {l : PI.L} (hl : PE X x (tL X.K T E cls c l)) : PE X x (tE X.K T E cls c (.newL l)) :=
  PE.weak hl fun σ H Q p => newL_read p
theorem sn_ix (hs : PlainIx y) (ha : PE X x (tE X.K T E cls c a)) (hb : PE X y (tE X.K T E cls c b)) : PE X (.Subscript x y pos) (tE X.K T E cls c (.ix a b)) := by
  refine PE.weak (pe_ix (ix_any (T := T) (E := E) (cls := cls)) ha hb hs) fun σ H Q p => ?_
  refine (tG.bind (f := evE c a) (g := fun x δ h1 => (evE c b δ h1).bind fun y h2 => ixD x y h2) p).mono fun ρ1 h1 H1 d1 r1 q v1 l1 => ?_
  obtain ⟨δ, r, f, q⟩ := q
  exact tG.of r f ((Post.bind q).mono fun ρ2 h2 H2 d2 e2 q v2 l2 => ⟨ρ2, h2, d1, d2, e2.rel, l1.ext e2 r, l2, q⟩)
theorem sn_none : PO X none (tOE X.K T E cls c .none) := by
  refine PO.weak po_none fun σ H Q p => ?_
  obtain ⟨ρ, h, δ, r, f, p⟩ := p
  exact Post.ok r p
theorem sn_some (ha : PE X x (tE X.K T E cls c a)) : PO X (some x) (tOE X.K T E cls c (.some a)) := by
  refine PO.weak (po_some ha) fun σ H Q p => ?_
  refine (tG.bind (f := evE c a) (g := fun x δ h1 => partR x h1) p).mono fun ρ1 h1 H1 d1 r1 q v1 l1 => ?_
  obtain ⟨δ, r, f, q⟩ := q
  cases l1 with
  | int i => exact ⟨i, rfl, Post.ok r q⟩
  | _ => exact (q : False).elim
theorem sn_sl {lo hi : OE} {xl xh : Option Expr} {p2 : Pos} (ha : PE X x (tE X.K T E cls c a)) (hl : PO X xl (tOE X.K T E cls c lo)) (hh : PO X xh (tOE X.K T E cls c hi)) : PE X (.Subscript x (.Slice xl xh none p2) pos) (tE X.K T E cls c (.sl a lo hi)) := by
  refine PE.weak (pe_slice (sl_any (T := T) (E := E) (cls := cls)) ha hl hh) fun σ H Q p => ?_
  refine (tG.bind (f := evE c a) (g := fun x δ h1 => (evOE c lo δ h1).bind fun l h2 => (evOE c hi δ h2).bind fun u h3 => slD x l u h3) p).mono fun ρ1 h1 H1 d1 r1 q v1 l1 => ?_
  obtain ⟨δ, r, f, q⟩ := q
  refine tG.of r f ((Post.bind q).mono fun ρ2 h2 H2 o1 e2 q => ?_)
  exact tG.of e2.rel (f.ext e2 r) ((Post.bind q).mono fun ρ3 h3 H3 o2 e3 q => ⟨ρ3, h3, d1, e3.rel, (l1.ext e2 r).ext e3 e2.rel, q⟩)
theorem sn_nil : PA X [] (tEs X.K T E cls c .nil) := by
  refine PA.weak pa_nil fun σ H Q p => ?_
  obtain ⟨ρ, h, δ, r, f, p⟩ := p
  exact Post.ok r p _ .nil
theorem sn_cons {es : Es} {xs : List Expr} (hs : starEach (x :: xs) X.env = (false, eval x X.env) :: starEach xs X.env) (ha : PE X x (tE X.K T E cls c a)) (hb : PA X xs (tEs X.K T E cls c es)) : PA X (x :: xs) (tEs X.K T E cls c (.cons a es)) := by
  refine PA.weak (pa_cons ha hb hs) fun σ H Q p => ?_
  refine (tG.bind (f := evE c a) (g := fun x δ h1 => (evEs c es δ h1).bind fun xs h2 => .ok (x :: xs) h2) p).mono fun ρ1 h1 H1 d1 r1 q v1 l1 => ?_
  obtain ⟨δ, r, f, q⟩ := q
  exact tG.of r f ((Post.bind q).mono fun ρ2 h2 H2 ds e2 q vs l2 => Post.ok e2.rel q _ (.cons (l1.ext e2 r) l2))

/-! ### tests -/
theorem tru_read (σ : L2.St) (H : Hp) (Q : Bool → Hp → Prop) (p : tT X.K T E cls c (.of a) σ H Q) : tE X.K T E cls c a σ H fun x H' => ∃ k, TruV X.K x H' k ∧ Q k H' := by
  refine (tG.bind (f := evE c a) (g := fun x δ h1 => truR x h1) p).mono fun ρ1 h1 H1 d1 r1 q v1 l1 => ?_
  obtain ⟨δ, r, f, q⟩ := q
  unfold truR at q
  cases ht : truD d1 h1 with
  | none => simp only [ht] at q; exact (q : False).elim
  | some b =>
    simp only [ht] at q
    exact ⟨b, tru_d r l1 ht, Post.ok r q⟩
theorem sn_of (hw : ∀ (whole : Sem Value), isTrue x X.env whole = do let v ← whole; standAt x.pos; holding [v] (truthy v)) (ha : PE X x (tE X.K T E cls c a)) : PT X x (tT X.K T E cls c (.of a)) :=
  PT.weak (pt_truth ha hw) fun σ H Q p => tru_read σ H Q p
variable {t u : PI.T}
theorem sn_tnot (ht : PT X x (tT X.K T E cls c t)) : PT X (.UnaryOp .Not x pos) (tT X.K T E cls c (.not t)) := by
  refine PT.weak (pt_not ht) fun σ H Q p => ?_
  refine (tG.bind (f := evT c t) (g := fun x δ h1 => .ok (!x) h1) p).mono fun ρ1 h1 H1 d1 r1 q => ?_
  obtain ⟨δ, r, f, q⟩ := q
  exact q ρ1 H1 (Ext.refl r)
theorem tand_read {σ : L2.St} {H : Hp} {Q : Bool → Hp → Prop} (p : tT X.K T E cls c (.and t u) σ H Q) : tAnd (tT X.K T E cls c t) (tT X.K T E cls c u) σ H Q := by
  refine (tG.bind (f := evT c t) (g := fun x δ h1 => iteK (fun h1 => evT c u δ h1) (fun h1 => .ok false h1) x h1) p).mono fun ρ1 h1 H1 d1 r1 q => ?_
  obtain ⟨δ, r, f, q⟩ := q
  cases d1 with
  | true => exact iteT (B := Q false H1) (tG.of (f := evT c u) r f q)
  | false => exact iteF (A := tT X.K T E cls c u σ H1 Q) (q ρ1 H1 (Ext.refl r))
theorem tor_read {σ : L2.St} {H : Hp} {Q : Bool → Hp → Prop} (p : tT X.K T E cls c (.or t u) σ H Q) : tOr (tT X.K T E cls c t) (tT X.K T E cls c u) σ H Q := by
  refine (tG.bind (f := evT c t) (g := fun x δ h1 => iteK (fun h1 => .ok true h1) (fun h1 => evT c u δ h1) x h1) p).mono fun ρ1 h1 H1 d1 r1 q => ?_
  obtain ⟨δ, r, f, q⟩ := q
  cases d1 with
  | true => exact iteT (B := tT X.K T E cls c u σ H1 Q) (q ρ1 H1 (Ext.refl r))
  | false => exact iteF (A := Q true H1) (tG.of (f := evT c u) r f q)
/-- of a BoolOp the whole is not asked -/
theorem pw_of_pt {op : PySem.BoolOp} {xs : List Expr} {tt : TT} (h : PT X (.BoolOp op xs pos) tt) : PW X (.BoolOp op xs pos) tt := ⟨fun whole pins s σ H Q I q => by
  have e : isTrue (.BoolOp op xs pos) X.env whole = isTrue (.BoolOp op xs pos) X.env (eval (.BoolOp op xs pos) X.env) := by
    cases op <;> rfl
  rw [e]
  exact h.run pins s σ H Q I q⟩
theorem sn_tand {rest : List Expr} (ha : PT X x (tT X.K T E cls c t)) (hb : PT X (.BoolOp .And (y :: rest) pos) (tT X.K T E cls c u)) : PT X (.BoolOp .And (x :: y :: rest) pos) (tT X.K T E cls c (.and t u)) :=
  (PW.weak (pw_and ha (pw_of_pt hb)) fun _ _ _ p => tand_read p).pt
theorem sn_tor {rest : List Expr} (ha : PT X x (tT X.K T E cls c t)) (hb : PT X (.BoolOp .Or (y :: rest) pos) (tT X.K T E cls c u)) : PT X (.BoolOp .Or (x :: y :: rest) pos) (tT X.K T E cls c (.or t u)) :=
  (PW.weak (pw_or ha (pw_of_pt hb)) fun _ _ _ p => tor_read p).pt
theorem sn_tand1 (ha : PT X x (tT X.K T E cls c t)) (hb : PT X y (tT X.K T E cls c u)) : PT X (.BoolOp .And [x, y] pos) (tT X.K T E cls c (.and t u)) :=
  (PW.weak (pw_and ha (pw_and1 hb)) fun _ _ _ p => tand_read p).pt
theorem sn_tor1 (ha : PT X x (tT X.K T E cls c t)) (hb : PT X y (tT X.K T E cls c u)) : PT X (.BoolOp .Or [x, y] pos) (tT X.K T E cls c (.or t u)) :=
  (PW.weak (pw_or ha (pw_or1 hb)) fun _ _ _ p => tor_read p).pt
end
end PI
namespace PI
open PySem L2
/-! ### syntax -/
def notStar : Expr → Bool
  | .Starred _ _ => false
  | _ => true
theorem star_cons {e : Expr} {es : List Expr} {env : Env} (h : notStar e = true) : starEach (e :: es) env = (false, eval e env) :: starEach es env := by
  cases e <;> first | rfl | cases h
theorem star_all {env : Env} : ∀ {es : List Expr}, es.all notStar = true → starEach es env = es.map fun e => (false, eval e env)
  | [], _ => rfl
  | e :: es, h => by
    rw [List.all_cons, Bool.and_eq_true] at h
    rw [star_cons h.1, star_all h.2]; rfl
theorem back_none_star {pos : Pos} {env : Env} {es : List Expr} (h : es.all notStar = true) : (backTo pos (starEach es env)).any (·.1) = false := by
  rw [star_all h]
  unfold backTo
  induction es with
  | nil => rfl
  | cons e r ih =>
    rw [List.all_cons, Bool.and_eq_true] at h
    simp only [List.map_cons, List.any_cons, Bool.false_or]
    exact ih h.2
theorem back_all_star {pos : Pos} {env : Env} {es : List Expr} (h : es.all notStar = true) : ((backTo pos (starEach es env)).all fun x => !x.1) = true := by
  rw [star_all h]
  unfold backTo
  induction es with
  | nil => rfl
  | cons e r ih =>
    rw [List.all_cons, Bool.and_eq_true] at h
    simp only [List.map_cons, List.all_cons, Bool.not_false, Bool.true_and]
    exact ih h.2

/-! ### what stands at the top -/
def bnames : List Str := ["len", "tuple", "list", "int", "str", "max", "min", "isinstance", "range", "enumerate", "zip", "all", "any", "sum", "sorted", "set", "bool", "dict"]
def spI (K : PySem.W.Frag) (T : List (Addr × Str)) (cls : Nat → Addr) (pg : Pg) (n i : Nat) : Sp := fun vs H Q E => ∃ ρ h ds, HRel K T ρ h H ∧ RelAll K ρ H ds vs ∧ Post K T E cls ρ H (GD K Q) (callI pg n i ds h)
/-- a global dict with texts as keys -/
structure DicAt (P : Program) (w : World) (K : PySem.W.Frag) (mg : Str → Option Value) (x : Str) (kvs : List (Str × D)) : Prop where
  ex : ∃ (a : Addr) (vs : List (Str × Value)), mg x = some (.ref a) ∧ (a == sysModules) = false ∧ (∀ h, K.In h → h.DictOf (PySem.strKind P w) a vs) ∧ Paired (fun p q => p.1 = q.1 ∧ ∃ v, RelV v q.2 ∧ ∀ ρ H, Rel K ρ H p.2 v) kvs vs
structure GF (P : Program) (w : World) (K : PySem.W.Frag) (mg : Str → Option Value) (base : Heap) (T : List (Addr × Str)) (cls : Nat → Addr) (pg : Pg) (n : Nat) : Prop where
  fn : ∀ (i : Nat) (f : Fn), pg.fns[i]? = some f → ∃ a fd, mg f.name = some (.ref a) ∧ PySem.W.keepIn K (.ref a) = true ∧ Binds K fd f.ps [] ∧ FnOk P w K mg base (L2N.CX P w) n a fd f.ps (spI K T cls pg n i)
  con : ∀ (i : Nat) (x : Str) (d : D), pg.con[i]? = some (x, d) → ∃ v u, mg x = some u ∧ RelV v u ∧ ∀ ρ H, Rel K ρ H d v
  bn : ∀ x ∈ bnames, mg x = none
  dic : ∀ (i : Nat) (x : Str) (kvs : List (Str × D)), pg.dic[i]? = some (x, kvs) → DicAt P w K mg x kvs
structure GX (X : Cx) (T : List (Addr × Str)) (E : XK) (cls : Nat → Addr) (pg : Pg) (n : Nat) : Prop where
  gf : GF X.prog X.w X.K X.mg X.base T cls pg n
  room : Room n X.A
  nd : X.N.Nodup
  calm : X.calm = true
  pass : Passes (L2N.CX X.prog X.w) X E
def cal (pg : Pg) (n : Nat) : Cal := ⟨callI pg n, pg.con.map (·.2), pg.dic.map (·.2)⟩
section
variable {X : Cx} {T : List (Addr × Str)} {E : XK} {cls : Nat → Addr} {pg : Pg} {n : Nat} {ρ : List Addr} {h : Hs} {H : Hp} {Q : VK} {x y : Expr} {pos p : Pos}
theorem GX.hu (g : GX X T E cls pg n) : X.A.units + 64 < cLine := g.room.units
theorem sn_call {i : Nat} {f : Fn} {es : Es} {xs : List Expr} (g : GX X T E cls pg n) (hf : pg.fns[i]? = some f) (hg : Gl X f.name) (hs : notStar x = true) (hss : xs.all notStar = true) (hd : (f.name == ("__debug__" : Str)) = false)
    (ha : PA X (x :: xs) (tEs X.K T E cls (cal pg n) es)) : PE X (.Call (.Name f.name p) (x :: xs) [] pos) (tE X.K T E cls (cal pg n) (.call i es)) := by
  obtain ⟨a, fd, hm, hk, hb, F⟩ := g.gf.fn i f hf
  refine PE.weak (pe_callS (E := fun _ => E) F g.room hg hm hk hb (fun σ pins H s e s' I k => g.pass pins σ H s e s' I k) ha hd (star_cons hs) (back_none_star hss)) fun σ H Q p => ?_
  refine (tG.bind (f := evEs (cal pg n) es) (g := fun xs δ h1 => callI pg n i xs h1) p).mono fun ρ1 h1 H1 ds r1 q vs l1 => ?_
  obtain ⟨δ, r, f', q⟩ := q
  exact ⟨ρ1, h1, ds, r, l1, q⟩
theorem sn_call0 {i : Nat} {f : Fn} (g : GX X T E cls pg n) (hf : pg.fns[i]? = some f) (hg : Gl X f.name) (hd : (f.name == ("__debug__" : Str)) = false) : PE X (.Call (.Name f.name p) [] [] pos) (tE X.K T E cls (cal pg n) (.call i .nil)) := by
  obtain ⟨a, fd, hm, hk, hb, F⟩ := g.gf.fn i f hf
  refine PE.weak (pe_call0 (E := E) (dvs := []) F g.room hg hm hk hb .nil g.pass hd) fun σ H Q p => ?_
  obtain ⟨ρ, h, δ, r, f', p⟩ := p
  exact ⟨ρ, h, [], r, .nil, p⟩

/-! ### built-in functions -/
def Bi.nm : Bi → Str
  | .len => "len" | .tuple => "tuple" | .list => "list" | .int_ => "int" | .str_ => "str" | .max2 => "max" | .min2 => "min"
theorem Bi.boot (b : Bi) (hc : X.calm = true) : (∃ id, bootBuiltins b.nm = some (.builtin id) ∧ CallR X (.builtin id) (rBi X.K T E cls b)) ∨ (∃ t, bootBuiltins b.nm = some (.type t) ∧ CallR X (.type t) (rBi X.K T E cls b)) := by
  cases b with
  | len => exact .inl ⟨"len", by decide +kernel, cr_len⟩
  | tuple => exact .inr ⟨"tuple", by decide +kernel, cr_tuple⟩
  | list => exact .inr ⟨"list", by decide +kernel, cr_list⟩
  | int_ => exact .inr ⟨"int", by decide +kernel, cr_int⟩
  | str_ => exact .inr ⟨"str", by decide +kernel, cr_str⟩
  | max2 => exact .inl ⟨"max", by decide +kernel, cr_max2 hc⟩
  | min2 => exact .inl ⟨"min", by decide +kernel, cr_min2 hc⟩
theorem Bi.mem (b : Bi) : b.nm ∈ bnames := by cases b <;> decide +kernel
theorem bn_ok {s : Str} (h : s ∈ bnames) : s ≠ "__name__" ∧ (s == ("__debug__" : Str)) = false := by
  have : (bnames.all fun s => decide (s ≠ "__name__") && !(s == ("__debug__" : Str))) = true := by decide +kernel
  have q := List.all_eq_true.mp this s h
  simpa using q
theorem sn_bi {b : Bi} {es : Es} {xs : List Expr} (g : GX X T E cls pg n) (hg : Gl X b.nm) (hs : notStar x = true) (hss : xs.all notStar = true)
    (ha : PA X (x :: xs) (tEs X.K T E cls (cal pg n) es)) : PE X (.Call (.Name b.nm p) (x :: xs) [] pos) (tE X.K T E cls (cal pg n) (.bi b es)) := by
  have hm := g.gf.bn _ b.mem
  obtain ⟨h1, h2⟩ := bn_ok b.mem
  have read : ∀ σ H Q, tE X.K T E cls (cal pg n) (.bi b es) σ H Q → tCB (rBi X.K T E cls b) (tEs X.K T E cls (cal pg n) es) σ H Q := fun σ H Q p => by
    refine (tG.bind (f := evEs (cal pg n) es) (g := fun xs δ h1 => biD b xs h1) p).mono fun ρ1 h1 H1 ds r1 q vs l1 => ?_
    obtain ⟨δ, r, f', q⟩ := q
    exact ⟨ρ1, h1, ds, r, l1, q⟩
  rcases b.boot (T := T) (E := E) (cls := cls) g.calm with ⟨id, hb, hr⟩ | ⟨t, hb, hr⟩
  · exact PE.weak (pe_callB hr hg hm hb ha h1 h2 (star_cons hs) (back_none_star hss)) read
  · exact PE.weak (pe_callTy hr hg hm hb ha h1 h2 (star_cons hs) (back_none_star hss)) read
def Ty.py : Ty → Option Str
  | .bool => some "bool" | .int => some "int" | .str => some "str" | .tuple => some "tuple" | .list => some "list" | .non => none
theorem Ty.boot {t : Ty} {s : Str} (e : t.py = some s) : bootBuiltins s = some (.type t.nm) ∧ s ∈ bnames := by
  cases t <;> cases e <;> exact ⟨by decide +kernel, by decide +kernel⟩
theorem sn_isT {t : Ty} {a : PI.E} {s : Str} {p2 : Pos} (g : GX X T E cls pg n) (et : t.py = some s) (hg : Gl X "isinstance") (hg2 : Gl X s) (hs : notStar x = true) (ha : PE X x (tE X.K T E cls (cal pg n) a)) :
    PE X (.Call (.Name "isinstance" p) [x, .Name s p2] [] pos) (tE X.K T E cls (cal pg n) (.isT t a)) := by
  have hm := g.gf.bn "isinstance" (by decide +kernel)
  obtain ⟨b1, b2⟩ := Ty.boot et
  obtain ⟨n1, n2⟩ := bn_ok b2
  have hy : PE X (.Name s p2) (tC (.ty t.nm)) := pe_bltn hg2 (g.gf.bn _ b2) b1 rfl n1 n2
  refine PE.weak (pe_callB call_isi hg hm (by decide +kernel) (pa_cons ha (pa_cons hy pa_nil) (star_cons hs)) (by decide) (by decide) (star_cons hs) rfl) fun σ H Q p => ?_
  refine (tG.bind (f := evE (cal pg n) a) (g := fun x δ h1 => R.ok (D.bl ((tyD h1 x).sub t)) h1) p).mono fun ρ1 h1 H1 d r1 q v l1 => ?_
  obtain ⟨δ, r, f', q⟩ := q
  exact isi_of r l1 t (Post.ok r q _ (.bl _))

/-! ### .. upon a list just made -/
def Bl.nm : Bl → Option Str
  | .tuple => some "tuple" | .all => some "all" | .any => some "any" | .sum => some "sum" | .len => some "len" | _ => none
theorem Bl.boot {b : Bl} {s : Str} (e : b.nm = some s) (hc : X.calm = true) : s ∈ bnames ∧ ((∃ id, bootBuiltins s = some (.builtin id) ∧ CallR X (.builtin id) (rBl X.K T E cls b)) ∨ (∃ t, bootBuiltins s = some (.type t) ∧ CallR X (.type t) (rBl X.K T E cls b))) := by
  cases b with
  | tuple => cases e; exact ⟨by decide +kernel, .inr ⟨"tuple", by decide +kernel, bl_tuple⟩⟩
  | all => cases e; exact ⟨by decide +kernel, .inl ⟨"all", by decide +kernel, bl_all hc⟩⟩
  | any => cases e; exact ⟨by decide +kernel, .inl ⟨"any", by decide +kernel, bl_any hc⟩⟩
  | sum => cases e; exact ⟨by decide +kernel, .inl ⟨"sum", by decide +kernel, bl_sum hc⟩⟩
  | len => cases e; exact ⟨by decide +kernel, .inl ⟨"len", by decide +kernel, bl_len⟩⟩
  | _ => cases e
theorem sn_bl {b : Bl} {s : Str} {l : PI.L} (g : GX X T E cls pg n) (e : b.nm = some s) (hg : Gl X s) (hs : notStar x = true) (ha : PE X x (tL X.K T E cls (cal pg n) l)) : PE X (.Call (.Name s p) [x] [] pos) (tE X.K T E cls (cal pg n) (.bl b l)) := by
  obtain ⟨hmem, hb⟩ := Bl.boot (X := X) (T := T) (E := E) (cls := cls) e g.calm
  have hm := g.gf.bn _ hmem
  obtain ⟨h1, h2⟩ := bn_ok hmem
  have read : ∀ σ H Q, tE X.K T E cls (cal pg n) (.bl b l) σ H Q → tCB (rBl X.K T E cls b) (tCons (tL X.K T E cls (cal pg n) l) tNil) σ H Q := fun σ H Q p => by
    refine (tG.bind (f := evL (cal pg n) l) (g := fun xs δ h1 => blD b xs h1) p).mono fun ρ1 h1 H1 ds r1 q a vs n0 np ha l1 => ?_
    obtain ⟨δ, r, f', q⟩ := q
    exact ⟨ρ1, h1, ds, a, vs, rfl, ha, r, l1, q⟩
  rcases hb with ⟨id, hb, hr⟩ | ⟨t, hb, hr⟩
  · exact PE.weak (pe_callB hr hg hm hb (pa_cons ha pa_nil (star_cons hs)) h1 h2 (star_cons hs) rfl) read
  · exact PE.weak (pe_callTy hr hg hm hb (pa_cons ha pa_nil (star_cons hs)) h1 h2 (star_cons hs) rfl) read

/-! ### methods of lists -/
def baseOk : Expr → Bool
  | .Name _ _ => true
  | .Subscript _ _ _ => true
  | _ => false
theorem base_ok {o : Expr} {a : Str} {env : Env} (h : baseOk o = true) : attributeBase o a env (eval o env) = eval o env := by
  cases o <;> first | rfl | cases h
def Me.nm : Me → Option Str
  | .append => some "append" | .pop => some "pop" | _ => none
theorem me_read {m : Me} {a : PI.E} {es : Es} {σ : L2.St} (p : tE X.K T E cls (cal pg n) (.me m a es) σ H Q) : tBM X.K "list" (rMe X.K T E cls m) (tE X.K T E cls (cal pg n) a) (tEs X.K T E cls (cal pg n) es) σ H Q := by
  refine (tG.bind (f := evE (cal pg n) a) (g := fun x δ h1 => refK (fun h1 => (evEs (cal pg n) es δ h1).bind fun xs h2 => meD m x xs h2) x h1) p).mono fun ρ1 h1 H1 d r1 q v l1 => ?_
  obtain ⟨δ, r, f', q⟩ := q
  cases l1 with
  | ref hk =>
    obtain ⟨vs, hv⟩ := r.at (List.mem_of_getElem? hk)
    refine ⟨.inl ⟨rfl, vs, SqL.of hv⟩, ?_⟩
    exact tG.of r f' ((Post.bind q).mono fun ρ2 h2 H2 ds e2 q vs l2 => ⟨ρ2, h2, _, ds, e2.rel, (Rel.ref hk).ext e2 r, l2, q⟩)
  | _ => exact (q : False).elim
theorem sn_append {o : Expr} {a : PI.E} {es : Es} {apos : Pos} (hb : baseOk o = true) (hl : (apos.endLine == pos.line) = true) (hs : notStar x = true)
    (ho : PE X o (tE X.K T E cls (cal pg n) a)) (ha : PA X [x] (tEs X.K T E cls (cal pg n) es)) : PE X (.Call (.Attribute o "append" apos) [x] [] pos) (tE X.K T E cls (cal pg n) (.me .append a es)) := by
  refine PE.weak (pe_bm PySem.F.plainAttrs_list PySem.F.slot_list_append PySem.F.type_list_append (me_append (T := T) (E := E) (cls := cls)) ho ha (base_ok hb) ?_ hl (star_cons hs) rfl) fun σ H Q p => ?_
  · have := back_all_star (pos := pos) (env := X.env) (es := [x]) (by simp [hs])
    rw [this]; rfl
  · exact me_read p
theorem sn_pop {o : Expr} {a : PI.E} {apos : Pos} (hb : baseOk o = true) (hl : (apos.endLine == pos.line) = true)
    (ho : PE X o (tE X.K T E cls (cal pg n) a)) : PE X (.Call (.Attribute o "pop" apos) [] [] pos) (tE X.K T E cls (cal pg n) (.me .pop a .nil)) := by
  refine PE.weak (pe_bm0 PySem.F.plainAttrs_list PySem.F.slot_list_pop PySem.F.type_list_pop (me_pop (T := T) (E := E) (cls := cls)) ho (base_ok hb) hl) fun σ H Q p => ?_
  refine (tG.bind (f := evE (cal pg n) a) (g := fun x δ h1 => refK (fun h1 => (evEs (cal pg n) .nil δ h1).bind fun xs h2 => meD .pop x xs h2) x h1) p).mono fun ρ1 h1 H1 d r1 q v l1 => ?_
  obtain ⟨δ, r, f', q⟩ := q
  cases l1 with
  | ref hk =>
    obtain ⟨vs, hv⟩ := r.at (List.mem_of_getElem? hk)
    exact ⟨.inl ⟨rfl, vs, SqL.of hv⟩, ρ1, h1, _, [], r, .ref hk, .nil, q⟩
  | _ => exact (q : False).elim
end
end PI
namespace PI
open PySem PySem.Spec PyProof.Rows
/-- one more text -/
def stS (acc : List Str) (k : Str) : List Str := if acc.any (· == k) then acc else acc ++ [k]
def metS (xs : List Str) : List Str := xs.foldl stS []
theorem stS_any (acc : List Str) (k j : Str) : (stS acc k).any (· == j) = (acc.any (· == j) || decide (j = k)) := by
  unfold stS
  by_cases c : acc.any (· == k) = true
  · rw [if_pos c]
    by_cases e : j = k
    · subst e; simp [c]
    · simp [e]
  · rw [if_neg c, List.any_append]
    by_cases e : j = k
    · subst e; simp
    · have : (k == j) = false := by simpa using fun z : k = j => e z.symm
      simp [e, this]
theorem stS_len (acc : List Str) (k : Str) : (if acc.any (· == k) = true then acc.length else acc.length + 1) = (stS acc k).length := by
  unfold stS
  split <;> simp
theorem metS_succ {xs : List Str} {i : Nat} (hi : i < xs.length) : metS (xs.take (i + 1)) = stS (metS (xs.take i)) (xs.getD i Str.empty) := by
  unfold metS
  rw [List.take_add_one, List.getElem?_eq_getElem hi, List.getD_eq_getElem?_getD, List.getElem?_eq_getElem hi, List.foldl_append]
  rfl
theorem stS_le (acc : List Str) (k : Str) : (stS acc k).length ≤ acc.length + 1 := by
  unfold stS
  split <;> simp
theorem fold_le : ∀ (xs acc : List Str), (xs.foldl stS acc).length ≤ acc.length + xs.length
  | [], acc => by simp
  | x :: r, acc => by
    have h1 := fold_le r (stS acc x)
    have h2 := stS_le acc x
    simp only [List.foldl_cons, List.length_cons]
    omega
theorem metS_le (xs : List Str) : (metS xs).length ≤ xs.length := by simpa [metS] using fold_le xs []
abbrev freshSet (led : Bool) : Obj := { cls := .type "set", dict := none, data := .set #[] 0 (.fresh 0 0 led) }
abbrev HasSet (P : Program) (w : World) (h : Heap) (a : Addr) (l : List Str) : Prop := h.SetOf (PySem.strKind P w) a (fun j => l.any (· == j)) l.length
section
variable {P : Program} {w : World} {A : Around} {R : Result → Shared → Prop} {it : Addr} {fp wr : List Addr} {G : Array GenState → Array GenState → Prop} {n : Nat} {Pv : Nat → Value → Prop} {St : Nat → Shared → Prop}
theorem fill_set (W : WalksS P w A.in1 it fp wr G n Pv St) (a : Addr) (ha : a ∉ fp) (xs : List Str) (hn : xs.length = n) (few : n + 1 < scanBound) (hv : ∀ i v, Pv i v → ∃ t, v = .str (xs.getD i Str.empty) t) :
    ∀ (m i : Nat) (s : Shared), i + m = n → St i s → HasSet P w s.heap a (metS (xs.take i)) → (∀ s', Moved (a :: wr) G s s' → HasSet P w s'.heap a (metS xs) → R (.ok (.ret .none)) s') →
      codeAny (model P w) A (.builtin "set.update.loop" ⟨[.ref a, .ref it], []⟩) R s := by
  have aw : a ∉ wr := fun z => ha (W.sub _ z)
  have sub : ∀ b ∈ wr, b ∈ a :: wr := fun b z => List.mem_cons_of_mem _ z
  have keep : ∀ {s s' : Shared} {l : List Str}, Moved wr G s s' → HasSet P w s.heap a l → HasSet P w s'.heap a l := fun mv z => by
    obtain ⟨o, es, ep, t, ho, more⟩ := z
    exact ⟨o, es, ep, t, mv.heap a _ aw ho, more⟩
  intro m
  induction m with
  | zero =>
    intro i s him st hs done
    have ei : i = n := by omega
    subst ei
    refine codeAny_builtin F.entry_set_update_loop (by
      rw [Around.under_plainId F.plain_set_update_loop _]
      show wpAny _ A.in1 (pyNext (.ref it) >>= _) _ _ s
      refine wpAny_bind (W.done s _ _ st fun s' mv => ?_)
      show wpAny _ A.in1 (ret Value.none) _ _ s'
      refine wpAny_pure (done s' (mv.mono sub) ?_)
      have q := keep mv hs
      rw [← hn, List.take_length] at q
      exact q)
  | succ m ih =>
    intro i s him st hs done
    have lt : i < n := by omega
    refine codeAny_builtin F.entry_set_update_loop (by
      rw [Around.under_plainId F.plain_set_update_loop _]
      show wpAny _ A.in1 (pyNext (.ref it) >>= _) _ _ s
      refine wpAny_bind (W.item i s _ _ lt st fun v s1 pv st1 mv => ?_)
      obtain ⟨t, rfl⟩ := hv i v pv
      have hs1 := keep mv hs
      show wpAny _ A.in1 (holding [Value.str (xs.getD i Str.empty) t] (setAdd a (.str (xs.getD i Str.empty) t)) >>= _) _ _ s1
      refine wpAny_bind (wpAny_holding ?_)
      unfold setAdd
      refine wpAny_holding (wpAny_bind ((PySem.strKind P w).pyHash (k := xs.getD i Str.empty) (strKind_is _ _ _ _) ?_))
      have room : (metS (xs.take i)).length + 1 < scanBound := by
        have := metS_le (xs.take i)
        rw [List.length_take] at this
        omega
      refine wpAny_setAddHashed_of (knd := PySem.strKind P w) (s := { s1 with toks := s1.toks + 1 }) (strKind_is _ _ _ _) rfl hs1 room fun h2 sb hs2 => ?_
      have hs3 : HasSet P w h2 a (metS (xs.take (i + 1))) := by
        rw [metS_succ (by omega)]
        exact SetOf_congr hs2 (fun j => (stS_any _ _ j).symm) (stS_len _ _)
      have stay : ∀ b o, b ≠ a → s1.heap.get? b = some o → h2.get? b = some o := fun b o nb e => by
        rw [sb.2 b nb]
        exact e
      refine wpAny_pure ⟨plainId_quiet F.plain_set_update_loop _, ih (i + 1) _ (by omega) (W.frame _ s1 _ _ st1 (Nat.le_succ _) fun b z o e => stay b o (fun q => ha (by rw [← q]; exact z)) e) hs3 fun s4 mv4 hs4 => ?_⟩
      exact done s4 (Moved.trans W.gtrans ((mv.mono sub).then_heap (Nat.le_succ _) fun b o z e => stay b o (fun q => z (by rw [q]; exact List.mem_cons_self)) e) mv4) hs4)
end
section
variable {P : Program} {w : World} {A : Around} {E : Value → Shared → Prop} {s : Shared}
theorem set_of_list {l : Addr} {its : Array Value} {xs : List Str} {Q : Value → Shared → Prop} (noH : A.handled = none) (hl : s.heap.IsList l its) (hi : StrsAre its.toList xs) (few : xs.length + 1 < scanBound)
    (k : ∀ (h2 : Heap) (tk : Nat), HasSet P w h2 s.heap.objs.size (metS xs) → (∀ b o, b < s.heap.objs.size → s.heap.get? b = some o → h2.get? b = some o) → Q (.ref s.heap.objs.size) { s with heap := h2, toks := tk }) :
    wpAny (model P w) A (call (.type "set") [.ref l]) Q E s := by
  have ⟨mc, mt, mro⟩ := F.called_set.mro
  have made := F.called_set.made
  have isub := F.called_set.sub
  have nT := F.called_set.notType
  have cC := F.called_set.canCreate
  have tC := F.typeCall_set_1 (.ref l)
  refine wpAny_call (codeAny_of_tree (by
    show wpAny _ _ (callAny (.type "set") _) _ _ _
    refine wpAny_pure ⟨Code.quiet_builtin _ (by decide +kernel), codeAny_builtin F.entry_type_call (by
      rw [Around.under_plain (weight_type_call_type "set" [.ref l] []) rfl]
      repeat (any_goals (first | assumption | wp_step))
      refine codeAny_mono (code_set_new_1 (.ref l) (E := E) (Q₁ := fun v s1 => ∃ led : Bool, v = .ref s.heap.objs.size ∧ s1 = { s with heap := s.heap.push (freshSet led) }) fun led => ⟨led, rfl, rfl⟩) fun r s1 hr => ?_
      cases r with
      | error e => exact hr
      | ok fl =>
        cases fl with
        | ret v =>
          have ⟨led, e1, e2⟩ := hr
          subst e1
          subst e2
          have gS : (s.heap.push (freshSet led)).get? s.heap.objs.size = some (freshSet led) := Heap.get?_push_size _ rfl
          have tS : Shared.TypeIs { s with heap := s.heap.push (freshSet led) } (.ref s.heap.objs.size) "set" := ⟨_, gS, rfl⟩
          have iL := F.called_set.init.lookup
          have iB := F.called_set.init.bind (.ref s.heap.objs.size)
          repeat (any_goals (first | assumption | wp_step))
          refine codeAny_mono (codeAny_call_builtin (R := wants (fun r s2 => r = .none ∧ ∃ h2 tk, s2 = { s with heap := h2, toks := tk } ∧ HasSet P w h2 s.heap.objs.size (metS xs) ∧ (∀ b o, b < s.heap.objs.size → s.heap.get? b = some o → h2.get? b = some o)) E)
            F.called_set.init.plain F.entry_set_init (check_set_init_1 tS ?_)) fun r2 s2 hr2 => ?_
          · obtain ⟨⟨oc, od, odt, osl⟩, hol, hcl, nl, hdl⟩ := hl
            have hcl' : oc = .type "list" := hcl
            have hdl' : odt = .seq its nl := hdl
            subst hcl'
            subst hdl'
            have g1 : (s.heap.push (freshSet led)).get? l = some { cls := .type "list", dict := od, data := .seq its nl, slots := osl } := Heap.get?_push_of_some _ hol
            have u1 := F.sub_list_set
            have u2 := F.sub_list_frozenset
            have u3 : (Value.type "list" == Value.type "dict") = false := by decide
            have at1 : (s.heap.push (freshSet led)).IsList l its := ⟨_, g1, rfl, nl, rfl⟩
            unfold Builtin.«set.__init__» noKeywords Builtin.Frozenset.updateFrom
            generalize hG : pyIter = G
            wp_walk
            subst hG
            refine wpAny_pyIter_list at1 (wpAny_bind (wpAny_runValue ?_))
            have lS : l < s.heap.objs.size := Heap.lt_size hol
            have z1 : (s.heap.push (freshSet led)).objs.size = s.heap.objs.size + 1 := Heap.size_push _ _
            have nL : l ≠ (s.heap.push (freshSet led)).objs.size := fun z => absurd (show l = s.heap.objs.size + 1 from z.trans z1) (Nat.ne_of_lt (Nat.lt_succ_of_lt lS))
            have nS : s.heap.objs.size ∉ [(s.heap.push (freshSet led)).objs.size, l] := by
              intro z
              rcases List.mem_cons.mp z with z | z
              · exact absurd (show s.heap.objs.size = s.heap.objs.size + 1 from z.trans z1) (Nat.ne_of_lt (Nat.lt_succ_self _))
              · exact absurd (List.mem_singleton.mp z) (Nat.ne_of_gt lS)
            have zx : xs.length = its.size := by rw [← StrsAre.len_eq hi, Array.length_toList]
            have vx : ∀ (i : Nat) (v : Value), its[i]? = some v → ∃ t, v = .str (xs.getD i Str.empty) t := fun i v z => SS.strs_at hi i v (by rw [Array.getElem?_toList]; exact z)
            refine fill_set ((Walks.list (by simp [noH]) _ l nL its).toS) s.heap.objs.size nS xs zx (by omega) vx its.size 0 _ (by omega) ⟨⟨_, Heap.get?_push_size _ rfl, rfl, rfl⟩, at1.push _⟩ ?first ?last
            case first =>
              have g2 : ((s.heap.push (freshSet led)).push { cls := .type "list_iterator", data := .fields #[.ref l, .int 0 0] }).get? s.heap.objs.size = some (freshSet led) := Heap.get?_push_of_some _ gS
              exact SetOf_congr ((setObjOf_fresh (knd := PySem.strKind P w) led).setOf g2 (by unfold scanBound; omega)) (fun _ => rfl) rfl
            case last =>
              intro s3 mv hs3
              obtain ⟨h3, g3, d3, tk3, os3⟩ := s3
              have eg : g3 = s.gens := mv.gens
              have ed : d3 = s.drawn := mv.drawn
              have eo : os3 = s.os := mv.os
              subst eg
              subst ed
              subst eo
              show wpAny _ _ _ _ _ _
              refine wpAny_pure (show wpAny _ _ (ret Value.none) _ _ _ from wpAny_pure ⟨rfl, h3, tk3, rfl, hs3, fun b o lb e => ?_⟩)
              refine mv.heap b o (fun z => ?_) (Heap.get?_push_of_some _ (Heap.get?_push_of_some _ e))
              rcases List.mem_cons.mp z with z | z
              · exact absurd z (Nat.ne_of_lt lb)
              · exact absurd (show b = s.heap.objs.size + 1 from (List.mem_singleton.mp z).trans z1) (Nat.ne_of_lt (Nat.lt_succ_of_lt lb))
          · cases r2 with
            | error e => exact hr2
            | ok f2 =>
              cases f2 with
              | ret r =>
                have ⟨e0, h2, tk, e1, hs, hk⟩ := hr2
                subst e0
                subst e1
                repeat (any_goals (first | assumption | wp_step))
                exact k _ _ hs hk
              | _ => exact hr2.elim
        | _ => exact hr.elim)⟩))
end
section
variable {P : Program} {w : World} {A : Around} {E : Value → Shared → Prop} {s : Shared}
theorem set_of_tuple {l : Addr} {its : Array Value} {xs : List Str} {Q : Value → Shared → Prop} (noH : A.handled = none) (hl : s.heap.IsTuple l its) (hi : StrsAre its.toList xs) (few : xs.length + 1 < scanBound)
    (k : ∀ (h2 : Heap) (tk : Nat), HasSet P w h2 s.heap.objs.size (metS xs) → (∀ b o, b < s.heap.objs.size → s.heap.get? b = some o → h2.get? b = some o) → Q (.ref s.heap.objs.size) { s with heap := h2, toks := tk }) :
    wpAny (model P w) A (call (.type "set") [.ref l]) Q E s := by
  have ⟨mc, mt, mro⟩ := F.called_set.mro
  have made := F.called_set.made
  have isub := F.called_set.sub
  have nT := F.called_set.notType
  have cC := F.called_set.canCreate
  have tC := F.typeCall_set_1 (.ref l)
  refine wpAny_call (codeAny_of_tree (by
    show wpAny _ _ (callAny (.type "set") _) _ _ _
    refine wpAny_pure ⟨Code.quiet_builtin _ (by decide +kernel), codeAny_builtin F.entry_type_call (by
      rw [Around.under_plain (weight_type_call_type "set" [.ref l] []) rfl]
      repeat (any_goals (first | assumption | wp_step))
      refine codeAny_mono (code_set_new_1 (.ref l) (E := E) (Q₁ := fun v s1 => ∃ led : Bool, v = .ref s.heap.objs.size ∧ s1 = { s with heap := s.heap.push (freshSet led) }) fun led => ⟨led, rfl, rfl⟩) fun r s1 hr => ?_
      cases r with
      | error e => exact hr
      | ok fl =>
        cases fl with
        | ret v =>
          have ⟨led, e1, e2⟩ := hr
          subst e1
          subst e2
          have gS : (s.heap.push (freshSet led)).get? s.heap.objs.size = some (freshSet led) := Heap.get?_push_size _ rfl
          have tS : Shared.TypeIs { s with heap := s.heap.push (freshSet led) } (.ref s.heap.objs.size) "set" := ⟨_, gS, rfl⟩
          have iL := F.called_set.init.lookup
          have iB := F.called_set.init.bind (.ref s.heap.objs.size)
          repeat (any_goals (first | assumption | wp_step))
          refine codeAny_mono (codeAny_call_builtin (R := wants (fun r s2 => r = .none ∧ ∃ h2 tk, s2 = { s with heap := h2, toks := tk } ∧ HasSet P w h2 s.heap.objs.size (metS xs) ∧ (∀ b o, b < s.heap.objs.size → s.heap.get? b = some o → h2.get? b = some o)) E)
            F.called_set.init.plain F.entry_set_init (check_set_init_1 tS ?_)) fun r2 s2 hr2 => ?_
          · obtain ⟨⟨oc, od, odt, osl⟩, hol, hcl, nl, hdl⟩ := hl
            have hcl' : oc = .type "tuple" := hcl
            have hdl' : odt = .seq its nl := hdl
            subst hcl'
            subst hdl'
            have g1 : (s.heap.push (freshSet led)).get? l = some { cls := .type "tuple", dict := od, data := .seq its nl, slots := osl } := Heap.get?_push_of_some _ hol
            have u1 := F.sub_tuple_set
            have u2 := F.sub_tuple_frozenset
            have u3 : (Value.type "tuple" == Value.type "dict") = false := by decide
            have at1 : (s.heap.push (freshSet led)).IsTuple l its := ⟨_, g1, rfl, nl, rfl⟩
            unfold Builtin.«set.__init__» noKeywords Builtin.Frozenset.updateFrom
            generalize hG : pyIter = G
            wp_walk
            subst hG
            refine wpAny_pyIter_tuple at1 (wpAny_bind (wpAny_runValue ?_))
            have lS : l < s.heap.objs.size := Heap.lt_size hol
            have z1 : (s.heap.push (freshSet led)).objs.size = s.heap.objs.size + 1 := Heap.size_push _ _
            have nL : l ≠ (s.heap.push (freshSet led)).objs.size := fun z => absurd (show l = s.heap.objs.size + 1 from z.trans z1) (Nat.ne_of_lt (Nat.lt_succ_of_lt lS))
            have nS : s.heap.objs.size ∉ [(s.heap.push (freshSet led)).objs.size, l] := by
              intro z
              rcases List.mem_cons.mp z with z | z
              · exact absurd (show s.heap.objs.size = s.heap.objs.size + 1 from z.trans z1) (Nat.ne_of_lt (Nat.lt_succ_self _))
              · exact absurd (List.mem_singleton.mp z) (Nat.ne_of_gt lS)
            have zx : xs.length = its.size := by rw [← StrsAre.len_eq hi, Array.length_toList]
            have vx : ∀ (i : Nat) (v : Value), its[i]? = some v → ∃ t, v = .str (xs.getD i Str.empty) t := fun i v z => SS.strs_at hi i v (by rw [Array.getElem?_toList]; exact z)
            refine fill_set ((Walks.tuple (by simp [noH]) _ l nL its).toS) s.heap.objs.size nS xs zx (by omega) vx its.size 0 _ (by omega) ⟨⟨_, Heap.get?_push_size _ rfl, rfl, rfl⟩, at1.push _⟩ ?first ?last
            case first =>
              have g2 : ((s.heap.push (freshSet led)).push { cls := .type "tuple_iterator", data := .fields #[.ref l, .int 0 0] }).get? s.heap.objs.size = some (freshSet led) := Heap.get?_push_of_some _ gS
              exact SetOf_congr ((setObjOf_fresh (knd := PySem.strKind P w) led).setOf g2 (by unfold scanBound; omega)) (fun _ => rfl) rfl
            case last =>
              intro s3 mv hs3
              obtain ⟨h3, g3, d3, tk3, os3⟩ := s3
              have eg : g3 = s.gens := mv.gens
              have ed : d3 = s.drawn := mv.drawn
              have eo : os3 = s.os := mv.os
              subst eg
              subst ed
              subst eo
              show wpAny _ _ _ _ _ _
              refine wpAny_pure (show wpAny _ _ (ret Value.none) _ _ _ from wpAny_pure ⟨rfl, h3, tk3, rfl, hs3, fun b o lb e => ?_⟩)
              refine mv.heap b o (fun z => ?_) (Heap.get?_push_of_some _ (Heap.get?_push_of_some _ e))
              rcases List.mem_cons.mp z with z | z
              · exact absurd z (Nat.ne_of_lt lb)
              · exact absurd (show b = s.heap.objs.size + 1 from (List.mem_singleton.mp z).trans z1) (Nat.ne_of_lt (Nat.lt_succ_of_lt lb))
          · cases r2 with
            | error e => exact hr2
            | ok f2 =>
              cases f2 with
              | ret r =>
                have ⟨e0, h2, tk, e1, hs, hk⟩ := hr2
                subst e0
                subst e1
                repeat (any_goals (first | assumption | wp_step))
                exact k _ _ hs hk
              | _ => exact hr2.elim
        | _ => exact hr.elim)⟩))
end
end PI
namespace PI
open PySem L2 PyProof.Rows
theorem kv_rel {K : PySem.W.Frag} : ∀ {kvs : List (Str × D)} {vs : List (Str × Value)} (s : Str), Paired (fun p q => p.1 = q.1 ∧ ∃ v, RelV v q.2 ∧ ∀ ρ H, Rel K ρ H p.2 v) kvs vs →
    ∃ v, RelV v ((valueAt vs s).getD .none) ∧ ∀ ρ H, Rel K ρ H (kvD kvs s) v
  | [], [], s, .nil => ⟨.non, rfl, fun _ _ => .non⟩
  | (k, d) :: r, (k2, u) :: q, s, .cons h t => by
    obtain ⟨e, v, rv, rr⟩ := h
    have e' : k = k2 := e
    subst e'
    by_cases c : k = s
    · refine ⟨v, ?_, fun ρ H => ?_⟩
      · have : valueAt ((k, u) :: q) s = some u := by simp [valueAt, List.find?_cons, c]
        rw [this]; exact rv
      · unfold kvD
        rw [if_pos c]
        exact rr ρ H
    · obtain ⟨v, rv, rr⟩ := kv_rel s t
      refine ⟨v, ?_, fun ρ H => ?_⟩
      · have : valueAt ((k, u) :: q) s = valueAt q s := by simp [valueAt, List.find?_cons, c]
        rw [this]; exact rv
      · unfold kvD
        rw [if_neg c]
        exact rr ρ H
section
variable {X : Cx} {T : List (Addr × Str)} {E : XK} {cls : Nat → Addr} {pg : Pg} {n : Nat} {ρ : List Addr} {h : Hs} {H : Hp} {Q : VK} {x y : Expr} {pos p : Pos}
theorem sn_gget {i : Nat} {s : Str} {kvs : List (Str × D)} {a : PI.E} {apos : Pos} (g : GX X T E cls pg n) (hd : pg.dic[i]? = some (s, kvs)) (hg : Gl X s) (hdb : (s == ("__debug__" : Str)) = false) (hb : baseOk (.Name s p) = true)
    (hl : (apos.endLine == pos.line) = true) (hs : notStar x = true) (ha : PE X x (tE X.K T E cls (cal pg n) a)) : PE X (.Call (.Attribute (.Name s p) "get" apos) [x] [] pos) (tE X.K T E cls (cal pg n) (.gget i a)) := by
  obtain ⟨ad, vs, hm, hsm, hD, hP⟩ := (g.gf.dic i s kvs hd).ex
  refine ⟨fun pins s0 σ H Q I hq => ?_⟩
  have q1 : tE X.K T E cls (cal pg n) a σ H (fun v H1 => ∃ k, [v] = [V.str k] ∧ ∀ w, (∀ ρ H, Rel X.K ρ H (kvD kvs k) w) → Q w H1) := by
    refine (tG.bind (f := evE (cal pg n) a) (g := fun x δ h1 => getD1 (cal pg n).dic[i]? x h1) hq).mono fun ρ1 h1 H1 d1 r1 q v1 l1 => ?_
    obtain ⟨δ, r, f, q⟩ := q
    have hk : (cal pg n).dic[i]? = some kvs := by
      show (pg.dic.map (·.2))[i]? = _
      rw [List.getElem?_map, hd]; rfl
    rw [hk] at q
    unfold getD1 at q
    cases l1 with
    | str k => exact ⟨k, rfl, fun w hw => Post.ok r q w (hw _ _)⟩
    | _ => exact (q : False).elim
  have few : ((backTo pos (starEach [x] X.env)).all (fun x => !x.1) && (backToKw pos (keywordEach [] X.env)).all (fun x => x.1.isSome) && decide ((x :: ([] : List Expr)).length + ([] : List Keyword).length + (if ([] : List Keyword).isEmpty then 0 else 1) < 30)) = true := by
    have := back_all_star (pos := pos) (env := X.env) (es := [x]) (by simp [hs])
    rw [this]; rfl
  refine wpAny_Call_method_late (base_ok hb) few hl rfl (ld_glob I hg hm ?_ hdb)
  refine ⟨"dict", "dict.get", PySem.F.plainAttrs_dict, PySem.F.slot_dict_get, PySem.F.type_dict_get, (hD _ I.kIn).typeIs, (hD _ I.kIn).mapOf.noDict, ?_⟩
  have hA := (pa_cons ha pa_nil (star_cons hs)).run pos pins s0 σ H (fun us H2 => ∃ k, us = [V.str k] ∧ ∀ w, (∀ ρ H, Rel X.K ρ H (kvD kvs k) w) → Q w H2) I q1
  rw [star_cons hs] at hA ⊢
  refine Calls.callWith_builtin rfl (Calls.evalArgs_plain ?_)
  refine thn hA fun us s2 ⟨ws, H2, I2, r2, k, e2, q2⟩ => ?_
  subst e2
  obtain ⟨u, rfl, t, rfl⟩ := vals1 r2
  have dd := hD _ I2.kIn
  obtain ⟨v, rv, rr⟩ := kv_rel k hP
  exact call_meetsIn PySem.F.slot_dict_get dd.typeIs PySem.F.entry_dict_get (PySem.F.args_dict_get_2 _ _) (PySem.meets_dict_get (PySem.strKind X.prog X.w) ad (strKind_is _ _ _ _) hsm) ⟨_, dd.mapOf, ⟨v, H2, I2.tok _, rv, q2 v rr⟩⟩
theorem strs_of {K : PySem.W.Frag} : ∀ {ds : List D} {vs : List V} {bs : List Str}, RelAll K ρ H ds vs → strs? ds = some bs → vs = bs.map V.str
  | [], _, _, .nil, e => by
    cases e; rfl
  | d :: ds, _, bs, .cons q r, e => by
    cases d with
    | str b =>
      obtain ⟨t, h1, rfl⟩ := Option.map_eq_some_iff.mp (show (strs? ds).map (b :: ·) = some bs from e)
      cases q
      rw [strs_of r h1]; rfl
    | _ => cases e
theorem stT_eq : stT = stS := rfl
theorem sn_lenSet {a : PI.E} {p2 q2 : Pos} (g : GX X T E cls pg n) (hg : Gl X "len") (hg2 : Gl X "set") (hs : notStar x = true) (ha : PE X x (tE X.K T E cls (cal pg n) a)) :
    PE X (.Call (.Name "len" p) [.Call (.Name "set" p2) [x] [] q2] [] pos) (tE X.K T E cls (cal pg n) (.lenSet a)) := by
  refine ⟨fun pins s σ H Q I hq => ?_⟩
  have hm := g.gf.bn "len" (by decide)
  have hm2 := g.gf.bn "set" (by decide)
  have q1 : tE X.K T E cls (cal pg n) a σ H (fun v H1 => ∃ (l : Addr) (ss : List Str), v = .ref l ∧ (SqL X.K H1 l (ss.map V.str) ∨ SqT X.K H1 l (ss.map V.str)) ∧ ss.length ≤ 4000 ∧ Q (.int (metS ss).length) H1) := by
    refine (tG.bind (f := evE (cal pg n) a) (g := fun x δ h1 => lenSetD x h1) hq).mono fun ρ1 h1 H1 d1 r1 q v1 l1 => ?_
    obtain ⟨δ, r, f, q⟩ := q
    unfold lenSetD at q
    cases hx : seqD h1 d1 with
    | none => rw [hx] at q; exact (q : False).elim
    | some xs =>
      rw [hx] at q
      have q : Post X.K T E cls ρ1 H1 (GD X.K Q) (match strs? xs with | some ss => if ss.length ≤ 4000 then .ok (.int (ss.foldl stT []).length) h1 else .no | none => .no) := q
      cases hy : strs? xs with
      | none => rw [hy] at q; exact (q : False).elim
      | some ss =>
        rw [hy] at q
        have q : Post X.K T E cls ρ1 H1 (GD X.K Q) (if ss.length ≤ 4000 then .ok (.int (ss.foldl stT []).length) h1 else .no) := q
        split at q
        case isFalse => exact (q : False).elim
        case isTrue hz =>
          obtain ⟨ad, vs, rfl, hq, q2⟩ := l1.sq r hx
          rw [strs_of q2 hy] at hq
          exact ⟨ad, ss, rfl, hq, hz, Post.ok r q _ (.int _)⟩
  refine Call_ (ld_blt I hg hm PySem.boot_len (PyProof.Rows.callWith_builtin1 (PyProof.Rows.args_cons ?_ rfl) rfl rfl))
  refine Call_ (ld_blt I hg2 hm2 PyProof.Rows.boot_set (PyProof.Rows.callWith_type1 (PyProof.Rows.args_cons (thn (ha.run pins s σ H _ I q1) fun v s1 hh => PyProof.Rows.args_nil ?_) (star_cons hs)) (star_cons hs) rfl))
  obtain ⟨v1, H1, I1, r1, l, ss, e1, hq, hz, q1⟩ := hh
  subst e1
  cases r1
  have fin : ∀ (h' : Heap) (tk : Nat), HasSet X.prog X.w h' s1.heap.objs.size (metS ss) → (∀ b o, b < s1.heap.objs.size → s1.heap.get? b = some o → h'.get? b = some o) →
      wpAny (model X.prog X.w) X.A (spliced (backTo pos (starEach [] X.env))) (fun vs s₂ => wpAny (model X.prog X.w) X.A (call (.builtin "len") (Value.ref s1.heap.objs.size :: vs)) (EP X pins σ Q) X.xe s₂) X.xe { s1 with heap := h', toks := tk } := fun h' tk hS hk => by
    refine PyProof.Rows.args_nil ?_
    obtain ⟨o, es, ep, t, ho, hex, hd, _, _, _, hf, hn⟩ := hS
    have I2 : Inv X pins σ H1 { s1 with heap := h', toks := tk } := I1.kept fun b o e => hk b o (Heap.lt_size e) e
    have le := metS_le ss
    refine call_len_set ho hex hd hf (by rw [hn] <;> omega) ⟨.int (metS ss).length, H1, I2.tok _, ⟨_, by rw [hn]⟩, q1⟩
  have few : ss.length + 1 < scanBound := Nat.lt_of_le_of_lt (Nat.succ_le_succ hz) (by decide)
  rcases hq with hq | hq
  · obtain ⟨its, r, pl, hzz⟩ := I1.list hq
    exact set_of_list (I1.ok.hd g.calm) pl.isList (by simpa using strsAre_of r) few fun h' tk hS hk => fin h' tk hS hk
  · obtain ⟨its, r, pl, hzz⟩ := I1.tuple hq
    exact set_of_tuple (I1.ok.hd g.calm) pl (by simpa using strsAre_of r) few fun h' tk hS hk => fin h' tk hS hk
/-! ### sorted(set(xs)), xs a tuple of ints -/
theorem insI_mem (x k : Int) : ∀ l : List Int, k ∈ insI x l ↔ k = x ∨ k ∈ l
  | [] => by simp [insI]
  | y :: r => by
    unfold insI
    split
    · simp
    · split
      · next e => subst e; simp
      · simp only [List.mem_cons, insI_mem x k r]
        constructor
        · rintro (h | h | h)
          · exact .inr (.inl h)
          · exact .inl h
          · exact .inr (.inr h)
        · rintro (h | h | h)
          · exact .inr (.inl h)
          · exact .inl h
          · exact .inr (.inr h)
theorem insI_lt (x : Int) : ∀ l : List Int, l.Pairwise (· < ·) → (insI x l).Pairwise (· < ·)
  | [], _ => by simp [insI]
  | y :: r, h => by
    have ⟨h1, h2⟩ := List.pairwise_cons.mp h
    unfold insI
    split
    · next c =>
      refine List.pairwise_cons.mpr ⟨fun z hz => ?_, h⟩
      rcases List.mem_cons.mp hz with e | e
      · rw [e]; exact c
      · exact Int.lt_trans c (h1 z e)
    · next c =>
      split
      · exact h
      · next c2 =>
        refine List.pairwise_cons.mpr ⟨fun z hz => ?_, insI_lt x r h2⟩
        rcases (insI_mem x z r).mp hz with e | e
        · rw [e]; omega
        · exact h1 z e
theorem srt_lt : ∀ ns : List Int, (ns.foldr insI []).Pairwise (· < ·)
  | [] => .nil
  | x :: r => insI_lt x _ (srt_lt r)
theorem srt_mem (k : Int) : ∀ ns : List Int, k ∈ ns.foldr insI [] ↔ k ∈ ns
  | [] => by simp
  | x :: r => by
    show k ∈ insI x (r.foldr insI []) ↔ _
    rw [insI_mem, srt_mem k r, List.mem_cons]
theorem lt_ext : ∀ {l m : List Int}, l.Pairwise (· < ·) → m.Pairwise (· < ·) → (∀ k, k ∈ l ↔ k ∈ m) → l = m
  | [], [], _, _, _ => rfl
  | [], y :: r, _, _, h => absurd ((h y).mpr List.mem_cons_self) (by simp)
  | x :: r, [], _, _, h => absurd ((h x).mp List.mem_cons_self) (by simp)
  | x :: r, y :: q, h1, h2, h => by
    have ⟨a1, a2⟩ := List.pairwise_cons.mp h1
    have ⟨b1, b2⟩ := List.pairwise_cons.mp h2
    have e : x = y := by
      rcases List.mem_cons.mp ((h x).mp List.mem_cons_self) with e | e
      · exact e
      · rcases List.mem_cons.mp ((h y).mpr List.mem_cons_self) with e2 | e2
        · exact e2.symm
        · have := a1 y e2
          have := b1 x e
          omega
    subst e
    congr 1
    refine lt_ext a2 b2 fun k => ⟨fun hk => ?_, fun hk => ?_⟩
    · rcases List.mem_cons.mp ((h k).mp (List.mem_cons_of_mem _ hk)) with e | e
      · have := a1 k hk
        omega
      · exact e
    · rcases List.mem_cons.mp ((h k).mpr (List.mem_cons_of_mem _ hk)) with e | e
      · have := b1 k hk
        omega
      · exact e
theorem rel_ints {K : PySem.W.Frag} : ∀ ns : List Int, RelAll K ρ H (ns.map D.int) (ns.map V.int)
  | [] => .nil
  | n :: r => .cons (.int n) (rel_ints r)
theorem intsAre_of : ∀ {ns : List Int} {us : List Value}, Vals (ns.map V.int) us → IntsAre us ns
  | [], _, .nil => .nil
  | n :: ns, _, .cons r t => by
    obtain ⟨k, rfl⟩ := r
    exact .cons n k (intsAre_of t)
def rSetT (w : World) (K : PySem.W.Frag) : List V → Hp → VK → Prop := fun vs H Q => ∃ (a : Addr) (ns : List Int), vs = [V.ref a] ∧ SqT K H a (ns.map V.int) ∧ ns.length < 63 ∧ ∀ p c, H p = none → c ≤ ns.length → Q (.ref p) (upd H p (SetO w p (fun j => decide (j ∈ ns)) c))
theorem cr_setT (hc : X.calm = true) : CallR X (.type "set") (rSetT X.w X.K) := by
  intro pins s σ H vs us Q I r hh
  obtain ⟨a, ns, rfl, hq, hz, q⟩ := hh
  rw [Vals.ref1 r]
  obtain ⟨its, rr, pl, hzz⟩ := I.tuple hq
  refine call_set_tupI ns (I.ok.hd hc) pl (by simpa using intsAre_of rr) (Nat.lt_trans (Nat.succ_lt_succ hz) (by decide)) fun h' tk c R hcn k => ?_
  exact ⟨.ref _, _, I.laid (t' := tk) k (Nat.le_refl _) (setO_new R), rfl, q _ c (I.hok.fresh (Nat.le_refl _)) hcn⟩
theorem sn_sortSet {a : PI.E} {p2 q2 : Pos} (g : GX X T E cls pg n) (hg : Gl X "sorted") (hg2 : Gl X "set") (hs : notStar x = true) (ha : PE X x (tE X.K T E cls (cal pg n) a)) :
    PE X (.Call (.Name "sorted" p) [.Call (.Name "set" p2) [x] [] q2] [] pos) (tE X.K T E cls (cal pg n) (.sortSet a)) := by
  have hm := g.gf.bn "sorted" (by decide)
  have hm2 := g.gf.bn "set" (by decide)
  refine PE.weak (pe_callB (cr_sortedSet g.calm) hg hm PyProof.Rows.boot_sorted (pa_cons (pe_callTy (cr_setT g.calm) hg2 hm2 PyProof.Rows.boot_set (pa_cons ha pa_nil (star_cons hs)) (he := star_cons hs)) pa_nil)) fun σ H Q hq => ?_
  refine (tG.bind (f := evE (cal pg n) a) (g := fun x δ h1 => sortSetD x h1) hq).mono fun ρ1 h1 H1 d1 r1 q v1 l1 => ?_
  obtain ⟨δ, r, f, q⟩ := q
  unfold sortSetD at q
  cases l1 with
  | tup hT l2 =>
    rename_i ad xs vs
    have q : Post X.K T E cls ρ1 H1 (GD X.K Q) (match ints? xs with | some ns => if ns.length < 63 then .ok (.ref h1.length) (h1 ++ [.lst ((ns.foldr insI []).map .int)]) else .no | none => .no) := q
    cases hy : ints? xs with
    | none => rw [hy] at q; exact (q : False).elim
    | some ns =>
      rw [hy] at q
      have q : Post X.K T E cls ρ1 H1 (GD X.K Q) (if ns.length < 63 then .ok (.ref h1.length) (h1 ++ [.lst ((ns.foldr insI []).map .int)]) else .no) := q
      split at q
      case isFalse => exact (q : False).elim
      case isTrue hz =>
        refine ⟨_, ns, rfl, by rw [← ints_of l2 hy]; exact hT, hz, fun p c hp hc => ?_⟩
        refine ⟨p, _, c, rfl, upd_same, by omega, fun ns2 p2 hlt hmem hlen hp2 => ?_⟩
        have e : ns2 = ns.foldr insI [] := lt_ext hlt (srt_lt ns) fun k => by
          rw [hmem, srt_mem]
          simp
        subst e
        have E1 := Ext.new_ r (o := SetO X.w p (fun j => decide (j ∈ ns)) c) hp
        exact GD.push E1.rel (rel_ints _) (Post.ext E1 q) hp2
  | _ => exact (q : False).elim
end
end PI
namespace PI
open PySem L2 PyProof.Rows

/-! ### enumerate over a tuple -/
def IteT (K : PySem.W.Frag) (a : Addr) : It :=
  ⟨fun i H => ∃ (xs : List V) (x : V), SqT K H a xs ∧ xs[i]? = some x, fun i H v H' => ∃ T x, v = .ref T ∧ H T = none ∧ H' = upd H T (.tup [.int (i : Nat), x]) ∧ ∀ xs, SqT K H a xs → xs[i]? = some x, fun i H => ∃ xs : List V, SqT K H a xs ∧ xs.length ≤ i⟩
theorem turn_enumT {P : Program} {w : World} {K : PySem.W.Frag} {elts : List Expr} {kk : Nat} {tpos : Pos} (a e it : Addr) :
    Turn P w K (.Tuple elts kk tpos) (IteT K a) [e, it] e (fun i h => (∃ old, IsEnum h e it ((i : Nat) : Int) old) ∧ h.IsTupleIter it a i ∧ e ≠ it ∧ a ≠ it ∧ e ≠ a) where
  mem := by simp
  obj := fun i h st b hb => by
    obtain ⟨⟨old, he⟩, ⟨o, ho, hc, hd⟩, _⟩ := st
    have e' : b = e ∨ b = it := by simpa using hb
    rcases e' with z | z
    · rw [z]; exact ⟨_, he, fun v q => nomatch q⟩
    · rw [z]; exact ⟨o, ho, fun v q => by rw [hd] at q; cases q⟩
  keep := fun i h h' st k => let ⟨⟨old, he⟩, hi, hne⟩ := st; ⟨⟨old, k e (by simp) _ he⟩, hi.at fun o q => k it (by simp) o q, hne⟩
  item := by
    intro X hP hw hK hc i pins s σ H E I hf st hg
    subst hP hw hK
    obtain ⟨⟨old, he⟩, hit, hne, hai, hea⟩ := st
    obtain ⟨xs, x, hq, hx⟩ := hg
    obtain ⟨its, rv, p, hz⟩ := I.tuple hq
    obtain ⟨u, hu, ru⟩ := rv.get hx
    have hel : e < s.heap.objs.size := Heap.lt_size he
    have hil : it < s.heap.objs.size := by obtain ⟨_, q, _⟩ := hit; exact Heap.lt_size q
    have hlt : i < its.toArray.size := by
      have := (List.getElem?_eq_some_iff.mp hu).1
      simpa using this
    refine wpAny_pyNext_enum_itemD (Draws.tuple (show X.A.in1.handled = none from I.ok.hd hc) it a hai its.toArray) he ⟨hit, show s.heap.IsTuple a its.toArray from p⟩ hlt hne (by simp only [List.mem_cons, List.not_mem_nil, or_false, not_or]; exact ⟨hne, hea⟩)
      fun y h' tk hP ho hst' hT hsz hk => ?_
    have ey : y = u := by
      have h2 : its.toArray[i]? = some u := by simpa using hu
      exact Option.some.inj (hP.symm.trans h2)
    subst ey
    refine ⟨_, rfl, wpAny_letOwnedTupleGo_enum (s := { s with heap := h', toks := tk + 1 }) ho fun h'' he' sb => ?_⟩
    have hT2 : h''.get? s.heap.objs.size = some { cls := .type "tuple", data := .seq #[.int i tk, y] } := (sb.2 _ (Nat.ne_of_gt hel)).trans hT
    have new : ObjOk X.prog X.w (upd H s.heap.objs.size (.tup [.int (i : Nat), x])) h'' s.heap.objs.size (.tup [.int (i : Nat), x]) :=
      ⟨by show 2 ≤ sizeLine; decide, [.int i tk, y], .cons ⟨_, rfl⟩ (.cons ru .nil), ⟨_, hT2, rfl, _, rfl⟩⟩
    have I1 : Inv X pins σ (upd H s.heap.objs.size (.tup [.int (i : Nat), x])) { s with heap := h'', toks := tk + 1 } :=
      I.turnedNew (ch := [e, it]) (fun b ob hb q => (sb.2 b (fun z => hb (by simp [z]))).trans (hk b ob (fun z => hb (by simp [z])) (fun z => hb (by simp [z])) q)) hf (Nat.le_refl _) new
    refine ⟨.ref s.heap.objs.size, _, I1, rfl, ⟨_, x, rfl, I.hok.fresh (Nat.le_refl _), rfl, fun ys hy => by rw [I.tuple_inj hy hq]; exact hx⟩, ⟨⟨y, ?_⟩, hst'.1.at fun o q => (sb.2 it (Ne.symm hne)).trans q, hne, hai, hea⟩, fun b hb => ?_⟩
    · have e1 : ((i + 1 : Nat) : Int) = (i : Int) + 1 := by omega
      rw [e1]; exact he'
    · have hb' : b < s.heap.objs.size := by
        have e' : b = e ∨ b = it := by simpa using hb
        rcases e' with z | z
        · rw [z]; exact hel
        · rw [z]; exact hil
      rw [upd_ne (Nat.ne_of_lt hb')]
      exact (hf b hb).1
  done := by
    intro X hP hw hK hc i pins s σ H E I hf st hg
    subst hP hw hK
    obtain ⟨⟨old, he⟩, hit, hne, hai, hea⟩ := st
    obtain ⟨xs, hq, hx⟩ := hg
    obtain ⟨its, rv, p, hz⟩ := I.tuple hq
    obtain ⟨f0, f1, f2, f3, f4, f5⟩ := hf it (by simp)
    have hl := rv.length
    have hx' : its.toArray[i]? = none := by simp; omega
    -- the draws that end at this very turn
    have D : Draws X.prog X.w X.A.in1 it [it, a] i (fun j v => False) (fun j h => j = i ∧ h.IsTupleIter it a i ∧ h.IsTuple a its.toArray) := {
      live := fun _ _ st => let ⟨_, ⟨o, ho, _⟩, _⟩ := st; ⟨o, ho⟩
      frame := fun _ _ _ st hk => ⟨st.1, st.2.1.at fun o e => hk it (by simp) o e, st.2.2.at fun o e => hk a (by simp) o e⟩
      item := fun j s Q E hj st hQ => absurd st.1 (Nat.ne_of_lt hj)
      done := fun s Q E st hE => wpAny_nextOf_tuple_end (show X.A.in1.handled = none from I.ok.hd hc) st.2.1 st.2.2 hx' hE }
    exact wpAny_pyNext_enum_endD D he ⟨rfl, hit, show s.heap.IsTuple a its.toArray from p⟩ fun h' eb => ⟨rfl, I.turned (t' := s.toks) (fun b o hb q => eb b o hb q) f0 f1 f3 f4 f5⟩
  self := fun A i s Q E st h => let ⟨⟨_, he⟩, _⟩ := st; wpAny_pyIter_enum he h
open Sem (wp) in
theorem meets_enumerate_new1 {v : Value} {o : Obj} {H : Heap → Prop} (B : PySem.Begins v o H) :
    Meets (Builtin.«enumerate.__new__» ⟨[.type "enumerate", v], []⟩) (fun _ R s => H s.heap ∧
      R (.ok (.ret (.ref (s.heap.push o).objs.size))) { s with heap := (s.heap.push o).push { cls := .type "enumerate", data := .fields #[.none, .bool false, .ref s.heap.objs.size, rawInt 0, .none, .none] } }) :=
  .of_wp fun prog w A R s h => by
    obtain ⟨hp, g, d, tk, os⟩ := s; obtain ⟨h1, h⟩ := h
    have hsub := sub_enumerate
    have q1 : ∀ {A' : Around} {E : Value → Shared → Prop} {Q : Value → Shared → Prop}, Q (.ref hp.objs.size) ⟨hp.push o, g, d, tk, os⟩ → wpAny (model prog w) A' (pyIter v) Q E ⟨hp, g, d, tk, os⟩ :=
      fun q => B.iter prog w _ _ ⟨hp, g, d, tk, os⟩ _ h1 q
    wp_walk using q1
    refine wpAny_stack_any fun st => wpAny_pure ?_
    split
    · rename_i c _ _ _ _ _
      cases (c == Value.type "enumerate")
      · wp_walk using q1
        exact ⟨_, rfl, h⟩
      · wp_walk using q1
        exact ⟨_, rfl, h⟩
    · wp_walk using q1
      exact ⟨_, rfl, h⟩
theorem call_enumerate_tuple {prog : Program} {w : World} {A : Around} {E : Value → Shared → Prop} {s : Shared} {l : Addr} {items : Array Value} {Q : Value → Shared → Prop} (hL : s.heap.IsTuple l items)
    (h : ∀ h', IsEnum h' (s.heap.objs.size + 1) s.heap.objs.size 0 .none → h'.IsTupleIter s.heap.objs.size l 0 → h'.objs.size = s.heap.objs.size + 2 →
      (∀ b o, s.heap.get? b = some o → h'.get? b = some o) → Q (.ref (s.heap.objs.size + 1)) { s with heap := h' }) :
    wpAny (model prog w) A (call (.type "enumerate") [.ref l]) Q E s := by
  refine callType_new F.called_enumerate (by decide) (F.typeCall_enumerate_1 _) (F.newCall_enumerate_1 _) (fun obj => F.args_object_init_2 obj _) F.entry_enumerate_new
    (meets_enumerate_new1 (PySem.begins_tuple l items)) ⟨hL, ?_⟩
  have hz : (s.heap.push { cls := .type "tuple_iterator", data := .fields #[.ref l, .int 0 0] }).objs.size = s.heap.objs.size + 1 := Heap.size_push ..
  show _ ∧ _
  rw [hz]
  have he : IsEnum ((s.heap.push { cls := .type "tuple_iterator", data := .fields #[.ref l, .int 0 0] }).push
      { cls := .type "enumerate", data := .fields #[.none, .bool false, .ref s.heap.objs.size, rawInt 0, .none, .none] }) (s.heap.objs.size + 1) s.heap.objs.size 0 .none := by
    have := Heap.get?_push_size (s.heap.push { cls := .type "tuple_iterator", data := .fields #[.ref l, .int 0 0] })
      (o := { cls := .type "enumerate", data := .fields #[.none, .bool false, .ref s.heap.objs.size, rawInt 0, .none, .none] }) rfl
    rw [hz] at this; exact this
  refine ⟨⟨_, he, rfl⟩, h _ he ⟨_, Heap.get?_push_of_some _ (Heap.get?_push_size _ rfl), rfl, rfl⟩ (by rw [Heap.size_push, hz]) fun b o x => Heap.get?_push_of_some _ (Heap.get?_push_of_some _ x)⟩

/-! ### what is gone over -/
section
variable {X : Cx} {T : List (Addr × Str)} {E : XK} {cls : Nat → Addr} {c : Cal} {pg : Pg} {n : Nat} {ρ : List Addr} {h : Hs} {H : Hp} {tg x y : Expr} {pos p : Pos} {a b : PI.E}
theorem gOk_one {k : Nat} {xs : List D} (g : gOk [(k, xs)] h = true) : ∃ ys, h[k]? = some (.lst ys) ∧ D.sameL ys xs = true := by
  unfold gOk at g
  simp only [List.all_cons, List.all_nil, Bool.and_true] at g
  split at g
  case h_1 ys hy => exact ⟨ys, hy, g⟩
  case h_2 => cases g
mutual
theorem same_eq : ∀ {x y : D}, D.same x y = true → x = y
  | .non, .non, _ => rfl
  | .bl a, .bl b, h => by simp only [D.same, beq_iff_eq] at h; rw [h]
  | .int a, .int b, h => by simp only [D.same, beq_iff_eq] at h; rw [h]
  | .str a, .str b, h => by simp only [D.same, decide_eq_true_eq] at h; rw [h]
  | .tup a, .tup b, h => by simp only [D.same] at h; rw [sameL_eq h]
  | .frz a, .frz b, h => by simp only [D.same] at h; rw [sameL_eq h]
  | .ref a, .ref b, h => by simp only [D.same, beq_iff_eq] at h; rw [h]
  | .non, .bl _, h | .non, .int _, h | .non, .str _, h | .non, .tup _, h | .non, .frz _, h | .non, .ref _, h => by cases h
  | .bl _, .non, h | .bl _, .int _, h | .bl _, .str _, h | .bl _, .tup _, h | .bl _, .frz _, h | .bl _, .ref _, h => by cases h
  | .int _, .non, h | .int _, .bl _, h | .int _, .str _, h | .int _, .tup _, h | .int _, .frz _, h | .int _, .ref _, h => by cases h
  | .str _, .non, h | .str _, .bl _, h | .str _, .int _, h | .str _, .tup _, h | .str _, .frz _, h | .str _, .ref _, h => by cases h
  | .tup _, .non, h | .tup _, .bl _, h | .tup _, .int _, h | .tup _, .str _, h | .tup _, .frz _, h | .tup _, .ref _, h => by cases h
  | .frz _, .non, h | .frz _, .bl _, h | .frz _, .int _, h | .frz _, .str _, h | .frz _, .tup _, h | .frz _, .ref _, h => by cases h
  | .ref _, .non, h | .ref _, .bl _, h | .ref _, .int _, h | .ref _, .str _, h | .ref _, .tup _, h | .ref _, .frz _, h => by cases h
theorem sameL_eq : ∀ {x y : List D}, D.sameL x y = true → x = y
  | [], [], _ => rfl
  | a :: r, b :: q, h => by
    simp only [D.sameL, Bool.and_eq_true] at h
    rw [same_eq h.1, sameL_eq h.2]
  | [], _ :: _, h => by cases h
  | _ :: _, [], h => by cases h
end
theorem gOk_at {k : Nat} {xs : List D} (g : gOk [(k, xs)] h = true) : h[k]? = some (.lst xs) := by
  obtain ⟨ys, h1, h2⟩ := gOk_one g
  rw [h1, sameL_eq h2]
theorem gOk_at2 {k m : Nat} {xs ys : List D} (g : gOk [(k, xs), (m, ys)] h = true) : h[k]? = some (.lst xs) ∧ h[m]? = some (.lst ys) := by
  have g1 : gOk [(k, xs)] h = true ∧ gOk [(m, ys)] h = true := by
    unfold gOk at g ⊢
    simp only [List.all_cons, List.all_nil, Bool.and_true, Bool.and_eq_true] at g ⊢
    exact g
  exact ⟨gOk_at g1.1, gOk_at g1.2⟩
/-- a tuple, a frozen list -/
theorem walkI_tup {a : Addr} {xs : List D} {vs : List V} (r0 : HRel X.K T ρ h H) (hq : SqT X.K H a vs) (q : RelAll X.K ρ H xs vs) : WalkI X.K T ρ H ⟨xs, []⟩ (Itt X.K a) := by
  refine ⟨_, _, by rw [show (IT.mk xs []).items.length = vs.length from q.length]; exact walk_tup, fun ρ' h' H' e _ => ⟨(e.mono r0).sqt hq, fun i x H2 hi y => ?_⟩⟩
  obtain ⟨rfl, hx⟩ := y
  obtain ⟨d, hd, rd⟩ := (q.ext e r0).of_get hx
  exact ⟨d, hd, Ext.refl e.rel, rd⟩
theorem walkI_frz {a : Addr} {xs : List D} {vs : List V} (r0 : HRel X.K T ρ h H) (hq : FrzL X.K H a vs) (q : RelAll X.K ρ H xs vs) : WalkI X.K T ρ H ⟨xs, []⟩ (Itl X.K a) := by
  refine ⟨_, _, by rw [show (IT.mk xs []).items.length = vs.length from q.length]; exact walk_list, fun ρ' h' H' e _ => ⟨((e.mono r0).frzl hq).sql, fun i x H2 hi y => ?_⟩⟩
  obtain ⟨rfl, hx⟩ := y
  obtain ⟨d, hd, rd⟩ := (q.ext e r0).of_get hx
  exact ⟨d, hd, Ext.refl e.rel, rd⟩
/-- a list of ours -/
theorem walkI_ref {k : Nat} {a : Addr} {xs : List D} (r0 : HRel X.K T ρ h H) (ha : ρ[k]? = some a) (hk : h[k]? = some (.lst xs)) : WalkI X.K T ρ H ⟨xs, [(k, xs)]⟩ (Itl X.K a) := by
  obtain ⟨vs0, h0, q0⟩ := r0.lst ha hk
  refine ⟨fun H' => ∃ vs, vs.length = xs.length ∧ SqL X.K H' a vs, fun i H' x H2 => H2 = H' ∧ ∀ vs, SqL X.K H' a vs → vs[i]? = some x, ?_, fun ρ' h' H' e g => ?_⟩
  · refine ⟨fun i H' hi ⟨vs, hl, q⟩ => ?_, fun H' ⟨vs, hl, q⟩ => ⟨vs, q, by rw [hl]; exact Nat.le_refl _⟩, fun i H' x H2 hi _ y => y⟩
    have hi' : i < vs.length := by rw [hl]; exact hi
    exact ⟨vs, vs[i], q, List.getElem?_eq_getElem hi'⟩
  · obtain ⟨vs, q1, q2⟩ := e.rel.lst (e.at ha) (gOk_at g)
    refine ⟨⟨vs, q2.length.symm, SqL.of q1⟩, fun i x H2 hi y => ?_⟩
    obtain ⟨rfl, hy⟩ := y
    obtain ⟨d, hd, rd⟩ := q2.of_get (hy vs (SqL.of q1))
    exact ⟨d, hd, Ext.refl e.rel, rd⟩
/-- a list just made, not ours -/
theorem walkI_new {a : Addr} {xs : List D} {vs : List V} (r0 : HRel X.K T ρ h H) (na : a ∉ ρ) (ha : H a = some (.lst vs)) (q : RelAll X.K ρ H xs vs) : WalkI X.K T ρ H ⟨xs, []⟩ (Itl X.K a) := by
  refine ⟨_, _, by rw [show (IT.mk xs []).items.length = vs.length from q.length]; exact walk_list, fun ρ' h' H' e _ => ⟨SqL.of (e.keep a _ ha na fun _ z => by cases z), fun i x H2 hi y => ?_⟩⟩
  obtain ⟨rfl, hx⟩ := y
  obtain ⟨d, hd, rd⟩ := (q.ext e r0).of_get hx
  exact ⟨d, hd, Ext.refl e.rel, rd⟩
theorem walkI_str {z : Str} (r0 : HRel X.K T ρ h H) : WalkI X.K T ρ H ⟨z.cps.toList.map fun c => .str ⟨#[c]⟩, []⟩ (Its z) := by
  have hn : (z.cps.toList.map fun c => D.str ⟨#[c]⟩).length = z.cps.size := by simp
  refine ⟨_, _, by rw [show (IT.mk (z.cps.toList.map fun c => D.str ⟨#[c]⟩) []).items.length = z.cps.size from hn]; exact walk_str, fun ρ' h' H' e _ => ⟨trivial, fun i x H2 hi y => ?_⟩⟩
  obtain ⟨rfl, ch, hc, rfl⟩ := y
  refine ⟨.str ⟨#[ch]⟩, ?_, Ext.refl e.rel, .str _⟩
  show (z.cps.toList.map fun c => D.str ⟨#[c]⟩)[i]? = _
  rw [List.getElem?_map, Array.getElem?_toList, hc]
  rfl
theorem walkI_range {lo : Int} {m : Nat} (r0 : HRel X.K T ρ h H) : WalkI X.K T ρ H ⟨(List.range m).map fun (i : Nat) => D.int (lo + (i : Int)), []⟩ (Itr lo m) := by
  have hn : ((List.range m).map fun (i : Nat) => D.int (lo + (i : Int))).length = m := by simp
  refine ⟨_, _, by rw [show (IT.mk ((List.range m).map fun (i : Nat) => D.int (lo + (i : Int))) []).items.length = m from hn]; exact walk_range, fun ρ' h' H' e _ => ⟨trivial, fun i x H2 hi y => ?_⟩⟩
  obtain ⟨rfl, rfl⟩ := y
  have hi' : i < m := by simpa using hi
  exact ⟨.int (lo + i), by simp [hi'], Ext.refl e.rel, .int _⟩
/-- a new pair of two known things -/
theorem pair_new {T' : Addr} {d1 d2 : D} {v1 v2 : V} (r : HRel X.K T ρ h H) (q1 : Rel X.K ρ H d1 v1) (q2 : Rel X.K ρ H d2 v2) (hT : H T' = none) :
    Ext X.K T ρ H ρ h (upd H T' (.tup [v1, v2])) ∧ Rel X.K ρ (upd H T' (.tup [v1, v2])) (.tup [d1, d2]) (.ref T') :=
  have e := Ext.new_ r (o := .tup [v1, v2]) hT
  ⟨e, .tup (SqT.of upd_same) (.cons (q1.ext e r) (.cons (q2.ext e r) .nil))⟩
theorem zipIdx_at {xs : List D} {i : Nat} {d : D} (h : xs[i]? = some d) : (xs.zipIdx.map fun p => D.tup [.int (p.2 : Nat), p.1])[i]? = some (.tup [.int (i : Nat), d]) := by
  rw [List.getElem?_map, List.getElem?_zipIdx, h]
  simp
theorem walkI_enumT {a : Addr} {xs : List D} {vs : List V} (r0 : HRel X.K T ρ h H) (hq : SqT X.K H a vs) (q : RelAll X.K ρ H xs vs) : WalkI X.K T ρ H ⟨xs.zipIdx.map fun p => .tup [.int (p.2 : Nat), p.1], []⟩ (IteT X.K a) := by
  refine ⟨fun H' => SqT X.K H' a vs, fun i H' v H2 => ∃ T' x, v = .ref T' ∧ H' T' = none ∧ H2 = upd H' T' (.tup [.int (i : Nat), x]) ∧ vs[i]? = some x, ?_, fun ρ' h' H' e _ => ⟨(e.mono r0).sqt hq, fun i x H2 hi y => ?_⟩⟩
  · have hn : (IT.mk (xs.zipIdx.map fun p => D.tup [.int (p.2 : Nat), p.1]) []).items.length = vs.length := by simp [q.length]
    rw [hn]
    refine ⟨fun i H' hi hs => ⟨vs, vs[i], hs, List.getElem?_eq_getElem hi⟩, fun H' hs => ⟨vs, hs, Nat.le_refl _⟩, fun i H' v H2 hi hs y => ?_⟩
    obtain ⟨T', x, e1, e2, e3, e4⟩ := y
    exact ⟨T', x, e1, e2, e3, e4 vs hs⟩
  · obtain ⟨T', w, rfl, hT, rfl, hw⟩ := y
    obtain ⟨d, hd, rd⟩ := (q.ext e r0).of_get hw
    obtain ⟨e2, r2⟩ := pair_new e.rel (.int (i : Nat)) rd hT
    exact ⟨_, zipIdx_at hd, e2, r2⟩
theorem walkI_enumL {a : Addr} {gs : List (Nat × List D)} {xs : List D} (hv : ∀ ρ' h' H', Ext X.K T ρ H ρ' h' H' → gOk gs h' = true → ∃ vs, SqL X.K H' a vs ∧ RelAll X.K ρ' H' xs vs) : WalkI X.K T ρ H ⟨xs.zipIdx.map fun p => .tup [.int (p.2 : Nat), p.1], gs⟩ (Ite X.K a) := by
  refine ⟨fun H' => ∃ vs, vs.length = xs.length ∧ SqL X.K H' a vs, fun i H' v H2 => ∃ T' x, v = .ref T' ∧ H' T' = none ∧ H2 = upd H' T' (.tup [.int (i : Nat), x]) ∧ ∀ vs, SqL X.K H' a vs → vs[i]? = some x, ?_, fun ρ' h' H' e g => ?_⟩
  · have hn : (IT.mk (xs.zipIdx.map fun p => D.tup [.int (p.2 : Nat), p.1]) gs).items.length = xs.length := by simp
    rw [hn]
    refine ⟨fun i H' hi ⟨vs, hl, hs⟩ => ⟨vs, vs[i], hs, List.getElem?_eq_getElem (by rw [hl]; exact hi)⟩, fun H' ⟨vs, hl, hs⟩ => ⟨vs, hs, by rw [hl]; exact Nat.le_refl _⟩, fun i H' v H2 hi hs y => y⟩
  · obtain ⟨vs, hs, q⟩ := hv ρ' h' H' e g
    refine ⟨⟨vs, q.length.symm, hs⟩, fun i x H2 hi y => ?_⟩
    obtain ⟨T', w, rfl, hT, rfl, hw⟩ := y
    obtain ⟨d, hd, rd⟩ := q.of_get (hw vs hs)
    obtain ⟨e2, r2⟩ := pair_new e.rel (.int (i : Nat)) rd hT
    exact ⟨_, zipIdx_at hd, e2, r2⟩
theorem zip_at {xs ys : List D} {i : Nat} {d e : D} (h1 : xs[i]? = some d) (h2 : ys[i]? = some e) : ((xs.zip ys).map fun p => D.tup [p.1, p.2])[i]? = some (.tup [d, e]) := by
  rw [List.getElem?_map, (List.getElem?_zip_eq_some (z := (d, e))).mpr ⟨h1, h2⟩]
  rfl
theorem walkI_zipT {a b : Addr} {xs ys : List D} {vs ws : List V} (r0 : HRel X.K T ρ h H) (hq : SqT X.K H a vs) (q : RelAll X.K ρ H xs vs) (hq2 : SqT X.K H b ws) (q2 : RelAll X.K ρ H ys ws) : WalkI X.K T ρ H ⟨(xs.zip ys).map fun p => .tup [p.1, p.2], []⟩ (RZ.ItzT X.K a b) := by
  refine ⟨fun H' => SqT X.K H' a vs ∧ SqT X.K H' b ws, fun i H' v H2 => ∃ T' x y, v = .ref T' ∧ H' T' = none ∧ H2 = upd H' T' (.tup [x, y]) ∧ vs[i]? = some x ∧ ws[i]? = some y, ?_, fun ρ' h' H' e _ => ⟨⟨(e.mono r0).sqt hq, (e.mono r0).sqt hq2⟩, fun i x H2 hi y => ?_⟩⟩
  · have hn : (IT.mk ((xs.zip ys).map fun p => D.tup [p.1, p.2]) []).items.length = min vs.length ws.length := by simp [q.length, q2.length]
    rw [hn]
    refine ⟨fun i H' hi hs => ⟨vs, ws, vs[i]'(by omega), ws[i]'(by omega), hs.1, hs.2, List.getElem?_eq_getElem _, List.getElem?_eq_getElem _⟩, fun H' hs => ⟨vs, ws, hs.1, hs.2, by omega⟩, fun i H' v H2 hi hs y => ?_⟩
    obtain ⟨T', x, y, e1, e2, e3, e4, e5⟩ := y
    exact ⟨T', x, y, e1, e2, e3, e4 vs hs.1, e5 ws hs.2⟩
  · obtain ⟨T', v, w, rfl, hT, rfl, hv, hw⟩ := y
    obtain ⟨d, hd, rd⟩ := (q.ext e r0).of_get hv
    obtain ⟨d2, hd2, rd2⟩ := (q2.ext e r0).of_get hw
    obtain ⟨e2, r2⟩ := pair_new e.rel rd rd2 hT
    exact ⟨_, zip_at hd hd2, e2, r2⟩
theorem walkI_zipL {a b : Addr} {k m : Nat} {xs ys : List D} (r0 : HRel X.K T ρ h H) (ha : ρ[k]? = some a) (hb : ρ[m]? = some b) : WalkI X.K T ρ H ⟨(xs.zip ys).map fun p => .tup [p.1, p.2], [(k, xs), (m, ys)]⟩ (Itz X.K a b) := by
  refine ⟨fun H' => ∃ vs ws, vs.length = xs.length ∧ ws.length = ys.length ∧ SqL X.K H' a vs ∧ SqL X.K H' b ws, fun i H' v H2 => ∃ T' x y, v = .ref T' ∧ H' T' = none ∧ H2 = upd H' T' (.tup [x, y]) ∧ (∀ vs, SqL X.K H' a vs → vs[i]? = some x) ∧ ∀ ws, SqL X.K H' b ws → ws[i]? = some y, ?_, fun ρ' h' H' e g => ?_⟩
  · have hn : (IT.mk ((xs.zip ys).map fun p => D.tup [p.1, p.2]) [(k, xs), (m, ys)]).items.length = min xs.length ys.length := by simp
    rw [hn]
    exact ⟨fun i H' hi ⟨vs, ws, l1, l2, s1, s2⟩ => ⟨vs, ws, vs[i]'(by omega), ws[i]'(by omega), s1, s2, List.getElem?_eq_getElem _, List.getElem?_eq_getElem _⟩, fun H' ⟨vs, ws, l1, l2, s1, s2⟩ => ⟨vs, ws, s1, s2, by omega⟩, fun i H' v H2 hi hs y => y⟩
  · obtain ⟨g1, g2⟩ := gOk_at2 g
    obtain ⟨vs, q1, q2⟩ := e.rel.lst (e.at ha) g1
    obtain ⟨ws, q3, q4⟩ := e.rel.lst (e.at hb) g2
    refine ⟨⟨vs, ws, q2.length.symm, q4.length.symm, SqL.of q1, SqL.of q3⟩, fun i x H2 hi y => ?_⟩
    obtain ⟨T', v, w, rfl, hT, rfl, hv, hw⟩ := y
    obtain ⟨d, hd, rd⟩ := q2.of_get (hv vs (SqL.of q1))
    obtain ⟨d2, hd2, rd2⟩ := q4.of_get (hw ws (SqL.of q3))
    obtain ⟨e2, r2⟩ := pair_new e.rel rd rd2 hT
    exact ⟨_, zip_at hd hd2, e2, r2⟩
/-! ### the rules -/
/-- a list, a tuple, a text: by its value -/
theorem pi_one' {o : Obj} {pins : List (Addr × Obj)} {σ : L2.St} {s : Shared} {R : It → Hp → Prop} {J : It} {tn : Nat → Heap → Prop} (I : Inv X pins σ H s) (hd : o.data ≠ .cell none)
    (Tn : Turn X.prog X.w X.K tg J [s.heap.objs.size] s.heap.objs.size tn) (h0 : tn 0 (s.heap.push o)) (q : R J H) : PIE X pins σ tg R (.ref s.heap.objs.size) { s with heap := s.heap.push o } :=
  ⟨s.heap.objs.size, [s.heap.objs.size], tn, J, H, rfl, I.kept (t' := s.toks) fun b o e => Heap.get?_push_of_some _ e, Tn, h0, fun b hb => by
    have e : b = s.heap.objs.size := by simpa using hb
    subst e
    exact I.fpOk (Nat.le_refl _) (I.hok.fresh (Nat.le_refl _)), q⟩
def iAny (K : PySem.W.Frag) (te : TE) : TI := fun σ H R => te σ H fun v H1 => (∃ a, v = .ref a ∧ (∃ xs, SqL K H1 a xs) ∧ R (Itl K a) H1) ∨ (∃ a, v = .ref a ∧ (∃ xs, SqT K H1 a xs) ∧ R (Itt K a) H1) ∨ (∃ z, v = .str z ∧ R (Its z) H1)
theorem pi_any {te : TE} (he : PE X x te) : L2.PI X tg x (iAny X.K te) := by
  refine ⟨fun pins s σ H R I h => ?_⟩
  refine thn (he.run pins s σ H _ I h) fun v s1 ⟨y, H1, I1, r1, q⟩ => ?_
  rcases q with ⟨a, e, ⟨xs, hq⟩, q⟩ | ⟨a, e, ⟨xs, hq⟩, q⟩ | ⟨z, e, q⟩
  · subst e
    cases r1
    obtain ⟨its, rv, p, hz⟩ := I1.list hq
    exact wpAny_pyIter_list p.isList (pi_one' I1 (fun z => by cases z) (turn_list a _) ⟨_, Heap.get?_push_size _ rfl, rfl, rfl⟩ q)
  · subst e
    cases r1
    obtain ⟨its, rv, p, hz⟩ := I1.tuple hq
    exact wpAny_pyIter_tuple (show s1.heap.IsTuple a its.toArray from p) (pi_one' I1 (fun z => by cases z) (turn_tuple a _) ⟨_, Heap.get?_push_size _ rfl, rfl, rfl⟩ q)
  · subst e
    obtain ⟨t, rfl⟩ := r1
    cases ha : z.cps.all (· < 128)
    · exact wpAny_pyIter_wide ha (pi_one' I1 (fun z => by cases z) (turn_str _ z t "str_iterator" (.inr rfl)) ⟨_, Heap.get?_push_size _ rfl, rfl, rfl⟩ q)
    · exact wpAny_pyIter_ascii ha (pi_one' I1 (fun z => by cases z) (turn_str _ z t "str_ascii_iterator" (.inl rfl)) ⟨_, Heap.get?_push_size _ rfl, rfl, rfl⟩ q)
theorem itOf_read {ρ1 : List Addr} {h1 : Hs} {H1 : Hp} {d : D} {v : V} {R : It → Hp → Prop} (r : HRel X.K T ρ1 h1 H1) (l : Rel X.K ρ1 H1 d v) (q : Post X.K T E cls ρ1 H1 (GI X.K T R) (itOf d h1)) :
    (∃ a, v = .ref a ∧ (∃ xs, SqL X.K H1 a xs) ∧ R (Itl X.K a) H1) ∨ (∃ a, v = .ref a ∧ (∃ xs, SqT X.K H1 a xs) ∧ R (Itt X.K a) H1) ∨ (∃ z, v = .str z ∧ R (Its z) H1) := by
  cases l with
  | tup e l => exact .inr (.inl ⟨_, rfl, ⟨_, e⟩, Post.ok r q _ (walkI_tup r e l)⟩)
  | frz e l => exact .inl ⟨_, rfl, ⟨_, e.sql⟩, Post.ok r q _ (walkI_frz r e l)⟩
  | str z => exact .inr (.inr ⟨z, rfl, Post.ok r q _ (walkI_str r)⟩)
  | ref hk =>
    unfold itOf at q
    simp only at q
    split at q
    case h_1 xs hx =>
      obtain ⟨vs, q1, q2⟩ := r.lst hk hx
      exact .inl ⟨_, rfl, ⟨_, SqL.of q1⟩, Post.ok r q _ (walkI_ref r hk hx)⟩
    case h_2 => exact (q : False).elim
  | _ => exact (q : False).elim
theorem sn_iof (ha : PE X x (tE X.K T E cls c a)) : L2.PI X tg x (tI X.K T E cls c (.of a)) := by
  refine PI.weak (pi_any ha) fun σ H R p => ?_
  refine (tG.bind (f := evE c a) (g := fun x δ h1 => itOf x h1) p).mono fun ρ1 h1 H1 d r1 q v l1 => ?_
  obtain ⟨δ, r, f, q⟩ := q
  exact itOf_read r l1 q
theorem sn_iofL {l : PI.L} (ha : PE X x (tL X.K T E cls c l)) : L2.PI X tg x (tI X.K T E cls c (.ofL l)) := by
  refine PI.weak (pi_list ha) fun σ H R p => ?_
  refine (tG.bind (f := evL c l) (g := fun xs δ h1 => PI.R.ok (IT.mk xs []) h1) p).mono fun ρ1 h1 H1 ds r1 q a vs n0 np ha l1 => ?_
  obtain ⟨δ, r, f, q⟩ := q
  exact ⟨a, rfl, ⟨vs, SqL.of ha⟩, Post.ok r q _ (walkI_new r np ha l1)⟩
theorem sn_range1 (g : GX X T E cls pg n) (hg : Gl X "range") (hs : notStar x = true) (ha : PE X x (tE X.K T E cls (cal pg n) a)) : L2.PI X tg (.Call (.Name "range" p) [x] [] pos) (tI X.K T E cls (cal pg n) (.range1 a)) := by
  refine PI.weak (pi_range1 hg (g.gf.bn _ (by decide +kernel)) (pa_cons ha pa_nil (star_cons hs)) (star_cons hs)) fun σ H R p => ?_
  refine (tG.bind (f := evE (cal pg n) a) (g := fun x δ h1 => rng1 x h1) p).mono fun ρ1 h1 H1 d r1 q v l1 => ?_
  obtain ⟨δ, r, f, q⟩ := q
  cases l1 with
  | int j =>
    unfold rng1 at q
    simp only at q
    split at q
    case isTrue hj =>
      unfold i62 at hj
      simp only [Bool.and_eq_true, decide_eq_true_eq] at hj
      refine ⟨j, rfl, hj.1, hj.2, Post.ok r q _ ?_⟩
      have := walkI_range (X := X) (lo := 0) (m := j.toNat) r
      unfold rangeD
      rw [Int.sub_zero]
      exact this
    case isFalse => exact (q : False).elim
  | _ => exact (q : False).elim
theorem sn_range2 (g : GX X T E cls pg n) (hg : Gl X "range") (hs : notStar x = true) (hs2 : notStar y = true) (ha : PE X x (tE X.K T E cls (cal pg n) a)) (hb : PE X y (tE X.K T E cls (cal pg n) b)) : L2.PI X tg (.Call (.Name "range" p) [x, y] [] pos) (tI X.K T E cls (cal pg n) (.range2 a b)) := by
  refine PI.weak (pi_range2 hg (g.gf.bn _ (by decide +kernel)) (pa_cons ha (pa_cons hb pa_nil (star_cons hs2)) (star_cons hs)) (by rw [star_cons hs, star_cons hs2]; rfl) (star_cons hs2)) fun σ H R p => ?_
  refine (tG.bind (f := evE (cal pg n) a) (g := fun x δ h1 => (evE (cal pg n) b δ h1).bind fun y h2 => rng2 x y h2) p).mono fun ρ1 h1 H1 d r1 q v l1 => ?_
  obtain ⟨δ, r, f, q⟩ := q
  refine tG.of r f ((Post.bind q).mono fun ρ2 h2 H2 d2 e2 q v2 l2 => ?_)
  cases l1 with
  | int i =>
    cases l2 with
    | int j =>
      unfold rng2 at q
      simp only at q
      split at q
      case isTrue hj =>
        unfold i62 at hj
        simp only [Bool.and_eq_true, decide_eq_true_eq] at hj
        exact ⟨i, j, rfl, ⟨hj.1.1, hj.1.2, hj.2.1, hj.2.2⟩, Post.ok e2.rel q _ (walkI_range e2.rel)⟩
      case isFalse => exact (q : False).elim
    | _ => exact (q : False).elim
  | _ => exact (q : False).elim
/-- enumerate(x) -/
def iEnumA (K : PySem.W.Frag) (te : TE) : TI := fun σ H R => te σ H fun v H1 => (∃ a xs, v = .ref a ∧ SqL K H1 a xs ∧ R (Ite K a) H1) ∨ (∃ a xs, v = .ref a ∧ SqT K H1 a xs ∧ R (IteT K a) H1)
theorem pi_enumA {te : TE} {elts : List Expr} {kk : Nat} {tpos : Pos} (hg : Gl X "enumerate") (hm : X.mg "enumerate" = none) (hs : notStar x = true) (he : PE X x te) : L2.PI X (.Tuple elts kk tpos) (.Call (.Name "enumerate" p) [x] [] pos) (iEnumA X.K te) := by
  refine ⟨fun pins s σ H R I h => ?_⟩
  have ha : PA X [x] (tCons te tNil) := pa_cons he pa_nil (star_cons hs)
  have h' : tCons te tNil σ H (fun vs H1 => ∃ v, vs = [v] ∧ ((∃ a xs, v = .ref a ∧ SqL X.K H1 a xs ∧ R (Ite X.K a) H1) ∨ (∃ a xs, v = .ref a ∧ SqT X.K H1 a xs ∧ R (IteT X.K a) H1))) := by
    show te σ H _
    have k : (fun v H1 => (∃ a xs, v = V.ref a ∧ SqL X.K H1 a xs ∧ R (Ite X.K a) H1) ∨ (∃ a xs, v = .ref a ∧ SqT X.K H1 a xs ∧ R (IteT X.K a) H1)) = fun v H1 => ∃ w, [v] = [w] ∧ ((∃ a xs, w = V.ref a ∧ SqL X.K H1 a xs ∧ R (Ite X.K a) H1) ∨ (∃ a xs, w = .ref a ∧ SqT X.K H1 a xs ∧ R (IteT X.K a) H1)) := by
      funext v H1
      apply propext
      constructor
      · exact fun q => ⟨v, rfl, q⟩
      · rintro ⟨w, e, q⟩
        cases e
        exact q
    exact k ▸ h
  refine Call_ (ld_blt I hg hm boot_enumerate (PyProof.Rows.callWith_type1 (thn (ha.run pos pins s σ H _ I h') fun us s1 ⟨vs, H1, I1, r1, q1⟩ => ?_) (star_cons hs) rfl))
  obtain ⟨v, ev, q1⟩ := q1
  subst ev
  cases r1 with
  | cons r rr =>
    cases rr
    have fr : ∀ b ∈ [s1.heap.objs.size + 1, s1.heap.objs.size], FpOk X pins H1 b := fun b hb => by
      have e' : b = s1.heap.objs.size + 1 ∨ b = s1.heap.objs.size := by simpa using hb
      have hle : s1.heap.objs.size ≤ b := by
        rcases e' with z | z
        · rw [z]; exact Nat.le_add_right _ _
        · rw [z]; exact Nat.le_refl _
      exact I1.fpOk hle (I1.hok.fresh hle)
    rcases q1 with ⟨a, xs, ex, hq, q⟩ | ⟨a, xs, ex, hq, q⟩
    · subst ex
      cases r
      obtain ⟨its, rv, p', hz⟩ := I1.list hq
      refine call_enumerate_list p'.isList fun h' he hit hsz hk => wpAny_pyIter_enum he ?_
      exact ⟨s1.heap.objs.size + 1, [s1.heap.objs.size + 1, s1.heap.objs.size], _, _, H1, rfl, I1.kept (t' := s1.toks) hk, turn_enum a (s1.heap.objs.size + 1) s1.heap.objs.size, ⟨⟨.none, he⟩, hit, Nat.succ_ne_self _⟩, fr, q⟩
    · subst ex
      cases r
      obtain ⟨its, rv, p', hz⟩ := I1.tuple hq
      have hlt : a < s1.heap.objs.size := by obtain ⟨o, e, _⟩ := id p'; exact Heap.lt_size e
      refine call_enumerate_tuple (show s1.heap.IsTuple a its.toArray from p') fun h' he hit hsz hk => wpAny_pyIter_enum he ?_
      exact ⟨s1.heap.objs.size + 1, [s1.heap.objs.size + 1, s1.heap.objs.size], _, _, H1, rfl, I1.kept (t' := s1.toks) hk, turn_enumT a (s1.heap.objs.size + 1) s1.heap.objs.size, ⟨⟨.none, he⟩, hit, Nat.succ_ne_self _, Nat.ne_of_lt hlt, Nat.ne_of_gt (Nat.lt_succ_of_lt hlt)⟩, fr, q⟩
theorem sn_enum {elts : List Expr} {kk : Nat} {tpos : Pos} (g : GX X T E cls pg n) (hg : Gl X "enumerate") (hs : notStar x = true) (ha : PE X x (tE X.K T E cls (cal pg n) a)) : L2.PI X (.Tuple elts kk tpos) (.Call (.Name "enumerate" p) [x] [] pos) (tI X.K T E cls (cal pg n) (.enum a)) := by
  refine PI.weak (pi_enumA hg (g.gf.bn _ (by decide +kernel)) hs ha) fun σ H R p => ?_
  refine (tG.bind (f := evE (cal pg n) a) (g := fun x δ h1 => itEnum x h1) p).mono fun ρ1 h1 H1 d r1 q v l1 => ?_
  obtain ⟨δ, r, f, q⟩ := q
  cases l1 with
  | tup e l => exact .inr ⟨_, _, rfl, e, Post.ok r q _ (walkI_enumT r e l)⟩
  | frz e l => exact .inl ⟨_, _, rfl, e.sql, Post.ok r q _ (walkI_enumL fun ρ' h' H' e' _ => ⟨_, ((e'.mono r).frzl e).sql, l.ext e' r⟩)⟩
  | ref hk =>
    unfold itEnum itOf at q
    simp only at q
    split at q
    case h_1 it h2 he =>
      split at he
      case h_1 xs hx =>
        cases he
        obtain ⟨vs, q1, q2⟩ := r.lst hk hx
        exact .inl ⟨_, _, rfl, SqL.of q1, Post.ok r q _ (walkI_enumL fun ρ' h' H' e' gg => by
          obtain ⟨ws, q3, q4⟩ := e'.rel.lst (e'.at hk) (gOk_at gg)
          exact ⟨ws, SqL.of q3, q4⟩)⟩
      case h_2 => cases he
    case h_2 => exact (q : False).elim
  | str z =>
    unfold itEnum at q
    exact (q : False).elim
  | _ => exact (q : False).elim
theorem sn_zip {elts : List Expr} {kk : Nat} {tpos : Pos} (g : GX X T E cls pg n) (hg : Gl X "zip") (hs : notStar x = true) (hs2 : notStar y = true) (ha : PE X x (tE X.K T E cls (cal pg n) a)) (hb : PE X y (tE X.K T E cls (cal pg n) b)) :
    L2.PI X (.Tuple elts kk tpos) (.Call (.Name "zip" p) [x, y] [] pos) (tI X.K T E cls (cal pg n) (.zip a b)) := by
  refine PI.weak (RZ.pi_zipA hg (g.gf.bn _ (by decide +kernel)) (pa_cons ha (pa_cons hb pa_nil (star_cons hs2)) (star_cons hs)) (star_cons hs) (back_none_star (by simp [hs2]))) fun σ H R p => ?_
  refine (tG.bind (f := evE (cal pg n) a) (g := fun x δ h1 => (evE (cal pg n) b δ h1).bind fun y h2 => itZip x y h2) p).mono fun ρ1 h1 H1 d r1 q v l1 => ?_
  obtain ⟨δ, r, f, q⟩ := q
  refine tG.of r f ((Post.bind q).mono fun ρ2 h2 H2 d2 e2 q v2 l2 => ?_)
  have l1' := l1.ext e2 r
  cases l1' with
  | tup e l =>
    cases l2 with
    | tup e' l' => exact ⟨_, _, _, _, rfl, .inr ⟨e, e', Post.ok e2.rel q _ (walkI_zipT e2.rel e l e' l')⟩⟩
    | _ => exact (q : False).elim
  | ref hk =>
    cases l2 with
    | ref hm =>
      unfold itZip at q
      simp only at q
      split at q
      case h_1 xs ys hx hy =>
        obtain ⟨vs, q1, q2⟩ := e2.rel.lst hk hx
        obtain ⟨ws, q3, q4⟩ := e2.rel.lst hm hy
        exact ⟨_, _, _, _, rfl, .inl ⟨SqL.of q1, SqL.of q3, Post.ok e2.rel q _ (walkI_zipL e2.rel hk hm)⟩⟩
      case h_2 => exact (q : False).elim
    | _ => exact (q : False).elim
  | _ => exact (q : False).elim
end
end PI
namespace PI
open PySem L2
/-! ### slots -/
theorem wipe_wipe (σ : L2.St) : ∀ vs : List Nat, wipe (wipe σ vs) vs = wipe σ vs := by
  suffices h : ∀ (vs us : List Nat), (∀ v ∈ us, v ∈ vs) → wipe (wipe σ vs) us = wipe σ vs from fun vs => h vs vs fun _ q => q
  intro vs us
  induction us with
  | nil => intro _; rfl
  | cons u us ih =>
    intro hu
    show (wipe (wipe σ vs) us).set u none = wipe σ vs
    rw [ih fun v q => hu v (List.mem_cons_of_mem _ q)]
    have key : ∀ (ws : List Nat), u ∈ ws → (wipe σ ws).set u none = wipe σ ws := by
      intro ws
      induction ws with
      | nil => intro h; cases h
      | cons w ws ih2 =>
        intro h
        unfold wipe
        by_cases e : u = w
        · rw [e, List.set_set]
        · rcases List.mem_cons.mp h with z | z
          · exact absurd z e
          · rw [List.set_comm _ _ (Ne.symm e), ih2 z]
    exact key vs (hu u List.mem_cons_self)
theorem wipe_set {σ : L2.St} {v : Option V} {i : Nat} : ∀ {vs : List Nat}, i ∈ vs → wipe (σ.set i v) vs = wipe σ vs
  | [], h => by cases h
  | w :: vs, h => by
    unfold wipe
    by_cases e : i ∈ vs
    · rw [wipe_set e]
    · have e1 : i = w := by rcases List.mem_cons.mp h with z | z; exact z; exact absurd z e
      subst e1
      have key : ∀ us : List Nat, i ∉ us → wipe (σ.set i v) us = (wipe σ us).set i v := by
        intro us
        induction us with
        | nil => intro _; rfl
        | cons u us ih =>
          intro hn
          unfold wipe
          rw [ih fun z => hn (List.mem_cons_of_mem _ z), List.set_comm _ _ (fun z => hn (by rw [z]; exact List.mem_cons_self))]
      rw [key vs e, List.set_set]
theorem wipeF_len (δ : Fr) : ∀ vs, (wipeF δ vs).length = δ.length
  | [] => rfl
  | v :: vs => by unfold wipeF; rw [List.length_set, wipeF_len δ vs]
section
variable {K : PySem.W.Frag} {ρ : List Addr} {H : Hp} {δ : Fr} {σ : L2.St}
theorem FrRel.set (f : FrRel K ρ H δ σ) {i : Nat} {d : D} {v : V} (r : Rel K ρ H d v) : FrRel K ρ H (δ.set i (some d)) (σ.set i (some v)) := by
  refine ⟨by simp [f.1], fun j e h => ?_⟩
  by_cases hj : j = i
  · subst hj
    have hlt : j < δ.length := by
      have := (List.getElem?_eq_some_iff.mp h).1
      simpa using this
    rw [List.getElem?_set_self hlt] at h
    cases h
    exact ⟨v, by rw [List.getElem?_set_self (by rw [← f.1]; exact hlt)], r⟩
  · rw [List.getElem?_set_ne (Ne.symm hj)] at h
    obtain ⟨w, e1, e2⟩ := f.2 j e h
    exact ⟨w, by rw [List.getElem?_set_ne (Ne.symm hj)]; exact e1, e2⟩
theorem FrRel.unset (f : FrRel K ρ H δ σ) {i : Nat} : FrRel K ρ H (δ.set i none) (σ.set i none) := by
  refine ⟨by simp [f.1], fun j e h => ?_⟩
  by_cases hj : j = i
  · subst hj
    have hlt : j < δ.length := by
      have := (List.getElem?_eq_some_iff.mp h).1
      simpa using this
    rw [List.getElem?_set_self hlt] at h
    cases h
  · rw [List.getElem?_set_ne (Ne.symm hj)] at h
    obtain ⟨w, e1, e2⟩ := f.2 j e h
    exact ⟨w, by rw [List.getElem?_set_ne (Ne.symm hj)]; exact e1, e2⟩
theorem FrRel.wipe (f : FrRel K ρ H δ σ) : ∀ vs, FrRel K ρ H (wipeF δ vs) (L2.wipe σ vs)
  | [] => f
  | v :: vs => (FrRel.wipe f vs).unset
end
/-! ### targets -/
def gTg (K : PySem.W.Frag) : Tg → TG
  | .one i => gName i
  | .two i j => gTup K 2 (gCons (gName i) (gCons (gName j) gNil))
def Tg.mem (tg : Tg) (own : List Nat) : Bool := match tg with
  | .one i => own.contains i
  | .two i j => own.contains i && own.contains j
theorem tg_read {K : PySem.W.Frag} {ρ : List Addr} {h : Hs} {H : Hp} {T : List (Addr × Str)} {tg : Tg} {d : D} {v : V} {δ δ' : Fr} {σ : L2.St} (f : FrRel K ρ H δ σ) (l : Rel K ρ H d v) (e : bindTg tg d δ = some δ') {Q : L2.St → Hp → Prop}
    (k : ∀ σ', FrRel K ρ H δ' σ' → (∀ own, tg.mem own = true → L2.wipe σ' own = L2.wipe σ own) → Q σ' H) : gTg K tg v σ H Q := by
  cases tg with
  | one i =>
    have e' : (if i < δ.length then some (δ.set i (some d)) else none) = some δ' := e
    split at e'
    case isTrue hi =>
      cases e'
      exact k _ (f.set l) fun own ho => wipe_set (by simpa [Tg.mem] using ho)
    case isFalse => cases e'
  | two i j =>
    cases l with
    | tup hq q =>
      rename_i a xs vs
      match xs, q, e with
      | [x, y], q, e =>
        have e' : (if i < δ.length ∧ j < δ.length then some ((δ.set i (some x)).set j (some y)) else none) = some δ' := e
        split at e'
        case isTrue hi =>
          cases e'
          cases q with
          | cons q1 q2 =>
            cases q2 with
            | cons q2 q3 =>
              cases q3
              refine ⟨a, _, rfl, hq, rfl, _, _, rfl, _, _, rfl, rfl, ?_⟩
              refine k _ ((f.set q1).set q2) fun own ho => ?_
              have ho' : i ∈ own ∧ j ∈ own := by simpa [Tg.mem] using ho
              rw [wipe_set ho'.2, wipe_set ho'.1]
        case isFalse => cases e'
      | [], _, e => cases e
      | [_], _, e => cases e
      | _ :: _ :: _ :: _, _, e => cases e
    | _ => cases e

/-! ### comprehensions -/
def E0' : XK := fun _ _ _ => False
theorem Ext.upd_out {K : PySem.W.Frag} {T : List (Addr × Str)} {ρ ρ' : List Addr} {h' : Hs} {H H' : Hp} (e : Ext K T ρ H ρ' h' H') {p : Addr} {vs ws : List V} (np : p ∉ ρ') (hp : H p = none) (hp' : H' p = some (.lst vs)) : Ext K T ρ H ρ' h' (upd H' p (.lst ws)) := by
  have M : Mono ρ' H' ρ' (upd H' p (.lst ws)) := ⟨fun _ _ q => q, fun b us q => by rw [upd_ne (ne_of q hp' (by intro z; cases z))]; exact q, fun b ob u q => by rw [upd_ne (ne_of q hp' (by intro z; cases z))]; exact q⟩
  refine ⟨e.pre, e.new, fun b o q hn ht => by rw [upd_ne (ne_of_none q hp)]; exact e.keep b o q hn ht, fun b ps q => by rw [upd_ne (ne_of_none q hp)]; exact e.tbl b ps q, e.rel.len, e.rel.nd, fun k o q => ?_, tabs_lst e.rel.tabs (.inl ⟨vs, hp'⟩)⟩
  obtain ⟨a, e1, e2⟩ := e.rel.obj k o q
  exact ⟨a, e1, e2.mono M (upd_ne fun z => np (z ▸ List.mem_of_getElem? e1))⟩
section
variable {X : Cx} {T : List (Addr × Str)} {E : XK} {cls : Nat → Addr} {c : Cal}
/-- one turn's test and element -/
def turnF (c : Cal) (t : PI.T) (el : PI.E) (δ : Fr) (h : Hs) : R (Option D) := (evT c t δ h).bind fun b h3 => iteK (fun h3 => (evE c el δ h3).bind someR) noneR b h3
def turnU (c : Cal) (el : PI.E) (δ : Fr) (h : Hs) : R (Option D) := (evE c el δ h).bind someR
theorem turnU_read {el : PI.E} {ρ : List Addr} {h h1 : Hs} {H : Hp} {δ : Fr} {σ : L2.St} {o : Option D} {QS : VK} (r : HRel X.K T ρ h H) (fr : FrRel X.K ρ H δ σ) (e : turnU c el δ h = .ok o h1)
    (kS : ∀ ρ4 H4 d y, o = some d → Ext X.K T ρ H ρ4 h1 H4 → Rel X.K ρ4 H4 d y → QS y H4) : tE X.K T E0' cls c el σ H QS := by
  refine ⟨ρ, h, δ, r, fr, ?_⟩
  unfold turnU at e
  cases he : evE c el δ h with
  | ok d h2 =>
    rw [he] at e
    have e' : (PI.R.ok (some d) h2 : R (Option D)) = .ok o h1 := e
    cases e'
    exact fun ρ4 H4 e4 v rv => kS ρ4 H4 d v rfl e4 rv
  | ex k h2 => rw [he] at e; cases e
  | no => rw [he] at e; cases e
theorem turnF_read {t : PI.T} {el : PI.E} {ρ : List Addr} {h h1 : Hs} {H : Hp} {δ : Fr} {σ : L2.St} {o : Option D} {QS : VK} {QN : Hp → Prop} (r : HRel X.K T ρ h H) (fr : FrRel X.K ρ H δ σ) (e : turnF c t el δ h = .ok o h1)
    (kS : ∀ ρ4 H4 d y, o = some d → Ext X.K T ρ H ρ4 h1 H4 → Rel X.K ρ4 H4 d y → QS y H4) (kN : ∀ ρ3 H3, o = none → Ext X.K T ρ H ρ3 h1 H3 → QN H3) :
    tT X.K T E0' cls c t σ H fun b H3 => if b = true then tE X.K T E0' cls c el σ H3 QS else QN H3 := by
  refine ⟨ρ, h, δ, r, fr, ?_⟩
  unfold turnF at e
  cases he : evT c t δ h with
  | ok b h2 =>
    rw [he] at e
    intro ρ3 H3 e3
    cases b with
    | true =>
      have e' : turnU c el δ h2 = .ok o h1 := e
      exact iteT (B := QN H3) (turnU_read (cls := cls) e3.rel (fr.ext e3 r) e' fun ρ4 H4 d y eo e4 ry => kS ρ4 H4 d y eo (e3.trans e4) ry)
    | false =>
      have e' : (PI.R.ok none h2 : R (Option D)) = .ok o h1 := e
      cases e'
      exact iteF (A := tE X.K T E0' cls c el σ H3 QS) (kN ρ3 H3 rfl e3)
  | ex k h2 => rw [he] at e; cases e
  | no => rw [he] at e; cases e
theorem compLoop_g {f : D → Hs → R (Option D)} {g : Hs → Bool} {xs : List D} {h h' : Hs} {r : List D} (e : compLoop f g xs h = .ok r h') : g h = true := by
  cases xs with
  | nil =>
    unfold compLoop at e
    split at e
    case isTrue hg => exact hg
    case isFalse => cases e
  | cons x xs =>
    unfold compLoop at e
    split at e
    case isTrue hg => exact hg
    case isFalse => cases e
def consO (o : Option D) (r : List D) : List D := match o with
  | some d => d :: r
  | none => r
theorem compLoop_cons {f : D → Hs → R (Option D)} {g : Hs → Bool} {x : D} {xs : List D} {h h' : Hs} {r : List D} (e : compLoop f g (x :: xs) h = .ok r h') : ∃ o h1 r', f x h = .ok o h1 ∧ compLoop f g xs h1 = .ok r' h' ∧ r = consO o r' := by
  unfold compLoop at e
  split at e
  case isTrue hg =>
    split at e
    case h_1 o h1 ho =>
      split at e
      case h_1 r' h2 hr =>
        cases e
        exact ⟨o, h1, r', ho, hr, by cases o <;> rfl⟩
      case h_2 => cases e
    case h_2 => cases e
  case isFalse => cases e
/-- the reading of a comprehension's loop; kk: one turn's reading -/
theorem comp_read {wi : TI} {tg : Tg} {own : List Nat} {tt : TT} {te : TE} {f : Fr → Hs → R (Option D)} {fi : Fr → Hs → R IT} {σ : L2.St} {H : Hp} {Q : VK} (hm : tg.mem own = true)
    (hi : ∀ R, tG X.K T E cls fi σ H (GI X.K T R) → wi σ H R)
    (kk : ∀ {ρ : List Addr} {h h1 : Hs} {H : Hp} {δ : Fr} {σ : L2.St} {o : Option D} {QS : VK} {QN : Hp → Prop}, HRel X.K T ρ h H → FrRel X.K ρ H δ σ → f δ h = .ok o h1 →
      (∀ ρ4 H4 d y, o = some d → Ext X.K T ρ H ρ4 h1 H4 → Rel X.K ρ4 H4 d y → QS y H4) → (∀ ρ3 H3, o = none → Ext X.K T ρ H ρ3 h1 H3 → QN H3) → tt σ H fun b H3 => if b = true then te σ H3 QS else QN H3)
    (p : tG X.K T E cls (fun δ h => (fi δ h).bind fun J h1 => loopR (fun x h2 => bindK f (bindTg tg x (wipeF δ own)) h2) J h1) σ H (GLst X.K H Q)) : tLc wi (gTg X.K tg) tt te own σ H Q := by
  refine hi _ ?_
  obtain ⟨ρ, h, δ, r, fr, p⟩ := p
  have p : Post X.K T E cls ρ H (GLst X.K H Q) ((fi δ h).bind fun J h1 => loopR (fun x h2 => bindK f (bindTg tg x (wipeF δ own)) h2) J h1) := p
  refine ⟨ρ, h, δ, r, fr, ?_⟩
  cases he : fi δ h with
  | ex k h2 => rw [he] at p; exact p
  | no => rw [he] at p; exact p
  | ok it h1 =>
    rw [he] at p
    have p : Post X.K T E cls ρ H (GLst X.K H Q) (loopR (fun x h2 => bindK f (bindTg tg x (wipeF δ own)) h2) it h1) := p
    intro ρ1 H1 e1 J wJ D hD
    obtain ⟨G, Y, Wk, st⟩ := wJ
    unfold loopR at p
    split at p
    case isFalse => exact (p : False).elim
    case isTrue hz =>
      cases hc : compLoop (fun x h2 => bindK f (bindTg tg x (wipeF δ own)) h2) (gOk it.gs) it.items h1 with
      | no => rw [hc] at p; exact (p : False).elim
      | ex k h2 =>
        -- a loop lets nothing out
        exfalso
        have key : ∀ (xs : List PI.D) (h : Hs), compLoop (fun x h2 => bindK f (bindTg tg x (wipeF δ own)) h2) (gOk it.gs) xs h ≠ .ex k h2 := by
          intro xs
          induction xs with
          | nil => intro h z; unfold compLoop at z; split at z <;> cases z
          | cons x xs ih =>
            intro h z
            unfold compLoop at z
            split at z
            · split at z
              · split at z
                · cases z
                · cases z
              · cases z
            · cases z
        exact key _ _ hc
      | ok ds hf =>
        rw [hc] at p
        refine lc_it Wk (D := D) (fun i Hc => ∃ ρ' h' done accV r', Ext X.K T ρ1 H1 ρ' h' Hc ∧ D ∉ ρ' ∧ Hc D = some (.lst accV) ∧ RelAll X.K ρ' Hc done accV ∧ done.length ≤ i ∧
          compLoop (fun x h2 => bindK f (bindTg tg x (wipeF δ own)) h2) (gOk it.gs) (it.items.drop i) h' = .ok r' hf ∧ ds = done ++ r') ?_ ?_ ?_ ?_
        · exact ⟨ρ1, h1, [], [], ds, Ext.new_ e1.rel hD, e1.rel.nmem_none hD, upd_same, .nil, Nat.le_refl _, by simpa using hc, rfl⟩
        · rintro i Hc hi' ⟨ρ', h', done, accV, r', e2, nD, hDc, rA, hl, hcl, _⟩
          exact (st ρ' h' Hc e2 (compLoop_g hcl)).1
        · rintro i x Hc H' hi' ⟨ρ', h', done, accV, r', e2, nD, hDc, rA, hl, hcl, hds⟩ hy
          obtain ⟨d, hd, e3, rd⟩ := (st ρ' h' Hc e2 (compLoop_g hcl)).2 i x H' hi' hy
          have hdr : it.items.drop i = d :: it.items.drop (i + 1) := by
            obtain ⟨hlt, hget⟩ := List.getElem?_eq_some_iff.mp hd
            rw [List.drop_eq_getElem_cons hlt, hget]
          rw [hdr] at hcl
          obtain ⟨o, h2, r'', hf1, hf2, hr'⟩ := compLoop_cons hcl
          have hb : ∃ δ', bindTg tg d (wipeF δ own) = some δ' ∧ f δ' h' = .ok o h2 := by
            cases hbt : bindTg tg d (wipeF δ own) with
            | none => rw [hbt] at hf1; cases hf1
            | some δ' => rw [hbt] at hf1; exact ⟨δ', rfl, hf1⟩
          obtain ⟨δ', hbt, hf1⟩ := hb
          have D' : H' D = some (.lst accV) := e3.keep D _ hDc nD fun _ z => by cases z
          have fr3 : FrRel X.K ρ' H' (wipeF δ own) (L2.wipe σ own) := (((fr.ext e1 r).ext e2 e1.rel).ext e3 e2.rel).wipe own
          refine tg_read (tg := tg) (h := h') (T := T) fr3 rd hbt fun σ2 fr2 hw => ⟨by rw [hw own hm, wipe_wipe], ?_⟩
          refine kk e3.rel fr2 hf1 (fun ρ4 H4 d4 y eo e4 ry => ?_) (fun ρ4 H4 eo e4 => ?_)
          · have D4 : H4 D = some (.lst accV) := e4.keep D _ D' nD fun _ z => by cases z
            have nD4 : D ∉ ρ4 := fun z => by
              have := e4.new D z nD
              rw [D'] at this
              cases this
            have big := (e2.trans (e3.trans e4)).upd_out (ws := accV ++ [y]) nD4 hD D4
            have M : Mono ρ4 H4 ρ4 (upd H4 D (.lst (accV ++ [y]))) := ⟨fun _ _ q => q, fun b us q => by rw [upd_ne (ne_of q D4 (by intro z; cases z))]; exact q, fun b ob u q => by rw [upd_ne (ne_of q D4 (by intro z; cases z))]; exact q⟩
            refine ⟨accV, D4, ?_, ρ4, h2, done ++ [d4], accV ++ [y], r'', big, nD4, upd_same, (((rA.ext e3 e2.rel).ext e4 e3.rel).append (.cons ry .nil)).mono M, by simpa using hl, hf2, ?_⟩
            · have hz' : it.items.length < LIM := hz
              rw [← rA.length, ← lim_eq]
              exact Nat.lt_of_le_of_lt hl (Nat.lt_trans hi' hz')
            · rw [hds, hr', eo]
              show done ++ (d4 :: r'') = done ++ [d4] ++ r''
              simp
          · have D4 : H4 D = some (.lst accV) := e4.keep D _ D' nD fun _ z => by cases z
            have nD4 : D ∉ ρ4 := fun z => by
              have := e4.new D z nD
              rw [D'] at this
              cases this
            exact ⟨ρ4, h2, done, accV, r'', e2.trans (e3.trans e4), nD4, D4, (rA.ext e3 e2.rel).ext e4 e3.rel, Nat.le_succ_of_le hl, hf2, by rw [hds, hr', eo]; rfl⟩
        · rintro Hc ⟨ρ', h', done, accV, r', e2, nD, hDc, rA, hl, hcl, hds⟩
          rw [List.drop_length] at hcl
          have hfin : r' = [] ∧ h' = hf := by
            unfold compLoop at hcl
            split at hcl
            · cases hcl; exact ⟨rfl, rfl⟩
            · cases hcl
          obtain ⟨rfl, rfl⟩ := hfin
          rw [List.append_nil] at hds
          subst hds
          exact p ρ' Hc (e1.trans e2) D accV (back_none r e1 hD) nD hDc rA
end
end PI
namespace PI
open PySem L2
/-! ### does the text say this? -/
def visB (sc : Scope) (x : Str) : Bool := match sc.names.lookup x with
  | some .local => true
  | some .cell => true
  | some .free => true
  | _ => false
def locB (sc : Scope) (x : Str) : Bool := match sc.names.lookup x with
  | some .local => true
  | _ => false
def glB (sc : Scope) (x : Str) : Bool := decide (sc.names.lookup x = some .globalImplicit)
def okN (x : Str) : Bool := !(x == ("__debug__" : Str)) && !(x == ("__classdict__" : Str))
def conB (d : D) (x : Expr) : Bool := match x with
  | .Constant (.int i) _ _ => match d with
    | .int j => decide (i = j)
    | _ => false
  | .Constant (.bool i) _ _ => match d with
    | .bl j => decide (i = j)
    | _ => false
  | .Constant (.str i) _ _ => match d with
    | .str j => decide (i = j)
    | _ => false
  | .Constant .none _ _ => match d with
    | .non => true
    | _ => false
  | _ => false
def plainIxB : Expr → Bool
  | .Slice _ _ _ _ => false
  | _ => true
def notSetB : Expr → Bool
  | .Set _ _ _ => false
  | _ => true
def truthB : Expr → Bool
  | .Name _ _ => true
  | .Constant _ _ _ => true
  | .Call _ _ _ _ => true
  | .Subscript _ _ _ => true
  | .BinOp _ _ _ _ => true
  | .Attribute _ _ _ => true
  | _ => false
def cmpB : PI.E → Bool
  | .cmp _ _ _ => true
  | .chain _ _ _ _ _ => true
  | _ => false
def tgB (N : List Str) (ok : Str → Bool) : Tg → Expr → Bool
  | .one i, x => match x with
    | .Name s _ => decide (N[i]? = some s) && ok s
    | _ => false
  | .two i j, x => match x with
    | .Tuple [.Name s _, .Name t _] _ _ => decide (N[i]? = some s) && ok s && (decide (N[j]? = some t) && ok t)
    | _ => false
def isTupB : Expr → Bool
  | .Tuple _ _ _ => true
  | _ => false
def ownOf (N : List Str) (own : List Nat) : List (Str × Nat) := own.map fun i => (N.getD i Str.empty, i)
section
variable (N : List Str) (pg : Pg)
mutual
def chkE : PI.E → Scope → Expr → Bool
  | .var i, sc, x => match x with
    | .Name s _ => decide (N[i]? = some s) && visB sc s && okN s
    | _ => false
  | .con d, sc, x => conB d x
  | .glob i, sc, x => match x with
    | .Name s _ => (match pg.con[i]? with | some p => decide (p.1 = s) | none => false) && glB sc s && okN s
    | _ => false
  | .bin op a b, sc, x => match x with
    | .BinOp l o r _ => decide (o = op.op) && chkE a sc l && chkE b sc r
    | _ => false
  | .neg a, sc, x => match x with
    | .UnaryOp .USub l _ => chkE a sc l
    | _ => false
  | .notV a, sc, x => match x with
    | .UnaryOp .Not l _ => chkE a sc l
    | _ => false
  | .cmp op a b, sc, x => match x with
    | .Compare l [o] [r] _ => decide (o = op.op) && !behindInMarks op.op r && chkE a sc l && chkE b sc r
    | _ => false
  | .chain o1 o2 a b d, sc, x => match x with
    | .Compare l [p, q] [m, r] _ => decide (p = o1.op) && decide (q = o2.op) && !lastMarks [o1.op, o2.op] [m, r] && chkE a sc l && chkE b sc m && chkE d sc r
    | _ => false
  | .andV a b, sc, x => match x with
    | .BoolOp .And (l :: r :: rest) pos => chkE a sc l && (match rest with | [] => chkE b sc r | _ :: _ => chkE b sc (.BoolOp .And (r :: rest) pos))
    | _ => false
  | .orV a b, sc, x => match x with
    | .BoolOp .Or (l :: r :: rest) pos => chkE a sc l && (match rest with | [] => chkE b sc r | _ :: _ => chkE b sc (.BoolOp .Or (r :: rest) pos))
    | _ => false
  | .ite t a b, sc, x => match x with
    | .IfExp k l r _ => chkT t sc k && chkE a sc l && chkE b sc r
    | _ => false
  | .tup es, sc, x => match x with
    | .Tuple xs _ _ => chkEs es sc xs
    | _ => false
  | .newL l, sc, x => chkL l sc x
  | .ix a b, sc, x => match x with
    | .Subscript o i _ => plainIxB i && chkE a sc o && chkE b sc i
    | _ => false
  | .sl a lo hi, sc, x => match x with
    | .Subscript o (.Slice l h none _) _ => chkE a sc o && chkOE lo sc l && chkOE hi sc h
    | _ => false
  | .call f es, sc, x => match x with
    | .Call (.Name s _) args [] _ => (match pg.fns[f]? with | some fn => decide (fn.name = s) | none => false) && glB sc s && okN s && args.all notStar && chkEs es sc args
    | _ => false
  | .bi b es, sc, x => match x with
    | .Call (.Name s _) args [] _ => decide (s = b.nm) && glB sc s && !args.isEmpty && args.all notStar && chkEs es sc args
    | _ => false
  | .isT t e, sc, x => match x with
    | .Call (.Name s _) [o, .Name ty _] [] _ => decide (s = ("isinstance" : Str)) && decide (t.py = some ty) && glB sc s && glB sc ty && notStar o && chkE e sc o
    | _ => false
  | .bl b l, sc, x => match x with
    | .Call (.Name s _) [o] [] _ => decide (b.nm = some s) && glB sc s && notStar o && chkL l sc o
    | _ => false
  | .me m o es, sc, x => match x with
    | .Call (.Attribute ob a apos) args [] cpos => baseOk ob && (apos.endLine == cpos.line) && chkE o sc ob && (match m with
      | .append => decide (a = ("append" : Str)) && decide (args.length = 1) && args.all notStar && chkEs es sc args
      | .pop => decide (a = ("pop" : Str)) && args.isEmpty && chkEs es sc args
      | _ => false)
    | _ => false
  | .gget i e, sc, x => match x with
    | .Call (.Attribute (.Name s p) a apos) [o] [] cpos => (match pg.dic[i]? with | some q => decide (q.1 = s) | none => false) && glB sc s && okN s && decide (a = ("get" : Str)) && baseOk (.Name s p) && (apos.endLine == cpos.line) && notStar o && chkE e sc o
    | _ => false
  | .lenSet e, sc, x => match x with
    | .Call (.Name s _) [.Call (.Name t _) [o] [] _] [] _ => decide (s = ("len" : Str)) && decide (t = ("set" : Str)) && glB sc s && glB sc t && notStar o && chkE e sc o
    | _ => false
  | .sortSet e, sc, x => match x with
    | .Call (.Name s _) [.Call (.Name t _) [o] [] _] [] _ => decide (s = ("sorted" : Str)) && decide (t = ("set" : Str)) && glB sc s && glB sc t && notStar o && chkE e sc o
    | _ => false
def chkOE : OE → Scope → Option Expr → Bool
  | .none, _, x => x.isNone
  | .some e, sc, x => match x with
    | some y => chkE e sc y
    | none => false
def chkEs : Es → Scope → List Expr → Bool
  | .nil, _, xs => xs.isEmpty
  | .cons e r, sc, xs => match xs with
    | x :: ys => notStar x && chkE e sc x && chkEs r sc ys
    | [] => false
def chkT : PI.T → Scope → Expr → Bool
  | .of e, sc, x => (truthB x || cmpB e) && chkE e sc x
  | .and a b, sc, x => match x with
    | .BoolOp .And (l :: r :: rest) pos => chkT a sc l && (match rest with | [] => chkT b sc r | _ :: _ => chkT b sc (.BoolOp .And (r :: rest) pos))
    | _ => false
  | .or a b, sc, x => match x with
    | .BoolOp .Or (l :: r :: rest) pos => chkT a sc l && (match rest with | [] => chkT b sc r | _ :: _ => chkT b sc (.BoolOp .Or (r :: rest) pos))
    | _ => false
  | .not a, sc, x => match x with
    | .UnaryOp .Not l _ => chkT a sc l
    | _ => false
def chkL : PI.L → Scope → Expr → Bool
  | .lit es, sc, x => match x with
    | .List xs _ => chkEs es sc xs
    | _ => false
  | .comp tg it own t el, sc, x => match x with
    | .ListComp elt [⟨tgt, iter, [k], 0⟩] scope _ => tg.mem own && notSetB iter && tgB N (locB (relS scope sc)) tg tgt && blkC N sc scope (ownOf N own) && chkI it sc tgt iter && chkT t (relS scope sc) k && chkE el (relS scope sc) elt
    | _ => false
  | .compU tg it own el, sc, x => match x with
    | .ListComp elt [⟨tgt, iter, [], 0⟩] scope _ => tg.mem own && notSetB iter && tgB N (locB (relS scope sc)) tg tgt && blkC N sc scope (ownOf N own) && chkI it sc tgt iter && chkE el (relS scope sc) elt
    | _ => false
def chkI : PI.I → Scope → Expr → Expr → Bool
  | .of e, sc, _, x => chkE e sc x
  | .ofL l, sc, _, x => chkL l sc x
  | .range1 a, sc, _, x => match x with
    | .Call (.Name s _) [o] [] _ => decide (s = ("range" : Str)) && glB sc s && notStar o && chkE a sc o
    | _ => false
  | .range2 a b, sc, _, x => match x with
    | .Call (.Name s _) [o, q] [] _ => decide (s = ("range" : Str)) && glB sc s && notStar o && notStar q && chkE a sc o && chkE b sc q
    | _ => false
  | .enum a, sc, tg, x => match x with
    | .Call (.Name s _) [o] [] _ => decide (s = ("enumerate" : Str)) && isTupB tg && glB sc s && notStar o && chkE a sc o
    | _ => false
  | .zip a b, sc, tg, x => match x with
    | .Call (.Name s _) [o, q] [] _ => decide (s = ("zip" : Str)) && isTupB tg && glB sc s && notStar o && notStar q && chkE a sc o && chkE b sc q
    | _ => false
end
end
/-! ### what the checks say -/
theorem visB_ok {sc : Scope} {x : Str} (h : visB sc x = true) : Vis sc x := by
  unfold visB at h
  split at h
  case h_1 e => exact .inl e
  case h_2 e => exact .inr (.inl e)
  case h_3 e => exact .inr (.inr e)
  case h_4 => cases h
theorem locB_ok {sc : Scope} {x : Str} (h : locB sc x = true) : sc.names.lookup x = some .local := by
  unfold locB at h
  split at h
  case h_1 e => exact e
  case h_2 => cases h
theorem okN_ok {x : Str} (h : okN x = true) : (x == ("__debug__" : Str)) = false ∧ (x == ("__classdict__" : Str)) = false := by
  unfold okN at h
  simpa using h
theorem glB_ok {X : Cx} {x : Str} (h : glB X.env.scope x = true) : Gl X x := by
  show X.env.kindOf x = some .globalImplicit
  exact of_decide_eq_true h
theorem notSet_ok {e : Expr} {env : Env} (h : notSetB e = true) : ∀ x, foldedSetIterable e env x = pure x := by
  intro x
  cases e <;> first | rfl | cases h
theorem plainIx_ok {e : Expr} (h : plainIxB e = true) : PlainIx e := by
  intro o i
  cases e <;> first | rfl | cases h
theorem truth_ok {e : Expr} {env : Env} (h : truthB e = true) : ∀ (whole : Sem Value), isTrue e env whole = (do let v ← whole; standAt e.pos; holding [v] (truthy v)) := by
  intro w
  cases e <;> first | rfl | cases h
section
variable {X : Cx} {T : List (Addr × Str)} {E : XK} {cls : Nat → Addr} {pg : Pg} {n : Nat}
theorem con_ok {c : Cal} {d : D} {x : Expr} (h : conB d x = true) : PE X x (tE X.K T E cls c (.con d)) := by
  unfold conB at h
  split at h
  case h_1 i _ _ =>
    cases d with
    | int j =>
      have e : i = j := of_decide_eq_true h
      subst e
      exact sn_con pe_int fun _ _ => .int _
    | _ => cases h
  case h_2 i _ _ =>
    cases d with
    | bl j =>
      have e : i = j := of_decide_eq_true h
      subst e
      exact sn_con pe_bl fun _ _ => .bl _
    | _ => cases h
  case h_3 i _ _ =>
    cases d with
    | str j =>
      have e : i = j := of_decide_eq_true h
      subst e
      exact sn_con pe_str fun _ _ => .str _
    | _ => cases h
  case h_4 =>
    cases d with
    | non => exact sn_con pe_non fun _ _ => .non
    | _ => cases h
  case h_5 => cases h
theorem tg_one {N : List Str} {ok : Str → Bool} {i : Nat} {x : Expr} (h : tgB N ok (.one i) x = true) : ∃ s p, x = .Name s p ∧ N[i]? = some s ∧ ok s = true := by
  cases x with
  | Name s p =>
    have h' : (decide (N[i]? = some s) && ok s) = true := h
    rw [Bool.and_eq_true] at h'
    exact ⟨s, p, rfl, of_decide_eq_true h'.1, h'.2⟩
  | _ => cases h
theorem tg_two {N : List Str} {ok : Str → Bool} {i j : Nat} {x : Expr} (h : tgB N ok (.two i j) x = true) : ∃ s p t q k r, x = .Tuple [.Name s p, .Name t q] k r ∧ N[i]? = some s ∧ ok s = true ∧ N[j]? = some t ∧ ok t = true := by
  unfold tgB at h
  simp only at h
  split at h
  next s p t q k r =>
    simp only [Bool.and_eq_true, decide_eq_true_eq] at h
    exact ⟨s, p, t, q, k, r, rfl, h.1.1, h.1.2, h.2.1, h.2.2⟩
  next => cases h
/-- a target by its names; every name is the block's own -/
theorem pg_of {tg : Tg} {x : Expr} {ok : Str → Bool} (nd : X.N.Nodup) (hc : X.calm = true) (hok : ∀ s, ok s = true → X.env.scope.names.lookup s = some .local) (h : tgB X.N ok tg x = true) : PG X x (gTg X.K tg) := by
  cases tg with
  | one i =>
    obtain ⟨s, p, rfl, h1, h2⟩ := tg_one h
    exact pg_name nd h1 (.inl (hok s h2)) (.inr (hok s h2))
  | two i j =>
    obtain ⟨s, p, t, q, k, r, rfl, h1, h2, h3, h4⟩ := tg_two h
    exact pg_tup hc (pgs_cons (pg_name nd h1 (.inl (hok s h2)) (.inr (hok s h2))) (pgs_cons (pg_name nd h3 (.inl (hok t h4)) (.inr (hok t h4))) pgs_nil))
theorem ownOf_snd (N : List Str) (own : List Nat) : (ownOf N own).map (·.2) = own := by
  unfold ownOf
  rw [List.map_map]
  exact List.map_id _
theorem passL' {X : Cx} : Passes (L2N.CX X.prog X.w) X E0' := fun _ _ _ _ _ _ _ h => by
  obtain ⟨_, _, _, _, _, _, _, _, _, _, _, _, z⟩ := h
  exact z.elim
/-- within a comprehension nothing is let out -/
theorem GX.blk (g : GX X T E cls pg n) (s : Shared) (H : Hp) (scope : Scope) (cenv : Env) (fp : List Addr) : GX (X.blk s H scope cenv fp) T E0' cls pg n :=
  ⟨g.gf, g.room, g.nd, g.calm, passL'⟩

/-! ### a comparison as a test -/
theorem ofB_bl {o : Option Bool} {h h' : Hs} {d : D} (e : R.ofB o h = .ok d h') : ∃ b, d = .bl b := by
  cases o with
  | none => cases e
  | some b => cases e; exact ⟨b, rfl⟩
theorem cmpD_bl {op : CO} {x y d : D} {h h' : Hs} (e : cmpD op x y h = .ok d h') : ∃ b, d = .bl b := by
  cases op with
  | isN =>
    cases y with
    | non => cases e; exact ⟨_, rfl⟩
    | _ => cases e
  | notN =>
    cases y with
    | non => cases e; exact ⟨_, rfl⟩
    | _ => cases e
  | _ => exact ofB_bl e
theorem rCmp_bl {op : CO} {x y : V} {H : Hp} {Q : Bool → Hp → Prop} (p : rCmp X.K T E cls op x y H fun z H' => ∃ k, TruV X.K z H' k ∧ Q k H') : rCmp X.K T E cls op x y H fun z H' => ∃ k, z = .bl k ∧ Q k H' := by
  obtain ⟨ρ, h, d1, d2, r, l1, l2, p⟩ := p
  refine ⟨ρ, h, d1, d2, r, l1, l2, ?_⟩
  cases he : cmpD op d1 d2 h with
  | ok d h' =>
    rw [he] at p
    obtain ⟨b, rfl⟩ := cmpD_bl he
    intro ρ' H' e v lv
    obtain ⟨k, hk, q⟩ := p ρ' H' e v lv
    cases lv
    obtain rfl : k = b := hk
    exact ⟨k, rfl, q⟩
  | ex k h' => rw [he] at p; exact p
  | no => rw [he] at p; exact p
variable {c : Cal} {a b d : PI.E} {x y z : Expr} {pos : Pos}
theorem sn_of_cmp {op : CO} (hu : X.A.units + 64 < cLine) (hm : behindInMarks op.op y = false) (ha : PE X x (tE X.K T E cls c a)) (hb : PE X y (tE X.K T E cls c b)) : PT X (.Compare x [op.op] [y] pos) (tT X.K T E cls c (.of (.cmp op a b))) := by
  refine PT.weak (pt_cmpR (op_cmp (T := T) (E := E) (cls := cls) hu op) ha hb hm) fun σ H Q p => ?_
  have p' := tru_read σ H Q p
  refine (tG.bind (f := evE c a) (g := fun x δ h1 => (evE c b δ h1).bind fun y h2 => cmpD op x y h2) p').mono fun ρ1 h1 H1 d1 r1 q v1 l1 => ?_
  obtain ⟨δ, r, f, q⟩ := q
  exact tG.of r f ((Post.bind q).mono fun ρ2 h2 H2 d2 e2 q v2 l2 => rCmp_bl ⟨ρ2, h2, d1, d2, e2.rel, l1.ext e2 r, l2, q⟩)
theorem sn_of_chain {o1 o2 : CO} (hu : X.A.units + 64 < cLine) (hm : lastMarks [o1.op, o2.op] [y, z] = false) (ha : PE X x (tE X.K T E cls c a)) (hb : PE X y (tE X.K T E cls c b)) (hd : PE X z (tE X.K T E cls c d)) :
    PT X (.Compare x [o1.op, o2.op] [y, z] pos) (tT X.K T E cls c (.of (.chain o1 o2 a b d))) := by
  refine PT.weak (pt_chain (op_cmp (T := T) (E := E) (cls := cls) hu o1) (op_cmp (T := T) (E := E) (cls := cls) hu o2) ha hb hd hm) fun σ H Q p => ?_
  have p' := tru_read σ H Q p
  refine (tG.bind (f := evE c a) (g := fun x δ h1 => (evE c b δ h1).bind fun y h2 => (cmpD o1 x y h2).bind fun z h3 => andK (fun h3 => (evE c d δ h3).bind fun u h4 => cmpD o2 y u h4) z h3) p').mono fun ρ1 h1 H1 d1 r1 q v1 l1 => ?_
  obtain ⟨δ, r, f, q⟩ := q
  refine tG.of r f ((Post.bind q).mono fun ρ2 h2 H2 d2 e2 q v2 l2 => ⟨ρ2, h2, d1, d2, e2.rel, l1.ext e2 r, l2, ?_⟩)
  refine (Post.bind q).mono fun ρ3 h3 H3 d3 e3 q v3 l3 => ?_
  cases l3 with
  | bl k =>
    refine ⟨k, rfl, ?_⟩
    cases k with
    | true =>
      refine iteT (tG.of e3.rel (f.ext (e2.trans e3) r) ((Post.bind q).mono fun ρ4 h4 H4 d4 e4 q v4 l4 => rCmp_bl ⟨ρ4, h4, d2, d4, e4.rel, (l2.ext e3 e2.rel).ext e4 e3.rel, l4, q⟩))
    | false =>
      obtain ⟨k, hk, qk⟩ := q ρ3 H3 (Ext.refl e3.rel) _ (.bl false)
      obtain rfl : k = false := hk
      exact iteF ⟨false, rfl, qk⟩
  | _ => exact (q : False).elim
end
end PI
namespace PI
open PySem L2
section
variable {T : List (Addr × Str)} {cls : Nat → Addr} {pg : Pg} {n : Nat}
theorem con_at {i : Nat} {p : Str × D} (h : pg.con[i]? = some p) : (cal pg n).con[i]? = some p.2 := by
  show (pg.con.map (·.2))[i]? = _
  rw [List.getElem?_map, h]; rfl
mutual
theorem snE : ∀ (e : PI.E) {X : Cx} {E : XK} (g : GX X T E cls pg n) (x : Expr), chkE X.N pg e X.env.scope x = true → PE X x (tE X.K T E cls (cal pg n) e)
  | .var i, X, E, g, x, h => by
    unfold chkE at h
    split at h
    next s p =>
      simp only [Bool.and_eq_true, decide_eq_true_eq] at h
      obtain ⟨h1, h2⟩ := okN_ok h.2
      exact sn_var h.1.1 (visB_ok h.1.2) h1 h2
    next => cases h
  | .con d, X, E, g, x, h => con_ok h
  | .glob i, X, E, g, x, h => by
    unfold chkE at h
    split at h
    next s p =>
      simp only [Bool.and_eq_true] at h
      obtain ⟨⟨h1, h2⟩, h3⟩ := h
      split at h1
      next q hq =>
        have e : q.1 = s := of_decide_eq_true h1
        obtain ⟨v, u, hm, rv, rr⟩ := g.gf.con i q.1 q.2 hq
        rw [e] at hm
        exact sn_glob (con_at hq) (pe_glob (glB_ok h2) hm rv (okN_ok h3).1) rr
      next => cases h1
    next => cases h
  | .bin op a b, X, E, g, x, h => by
    unfold chkE at h
    split at h
    next l o r p =>
      simp only [Bool.and_eq_true, decide_eq_true_eq] at h
      obtain ⟨⟨rfl, h2⟩, h3⟩ := h
      exact sn_bin (snE a g l h2) (snE b g r h3)
    next => cases h
  | .neg a, X, E, g, x, h => by
    unfold chkE at h
    split at h
    next l p => exact sn_neg (snE a g l h)
    next => cases h
  | .notV a, X, E, g, x, h => by
    unfold chkE at h
    split at h
    next l p => exact sn_not (snE a g l h)
    next => cases h
  | .cmp op a b, X, E, g, x, h => by
    unfold chkE at h
    split at h
    next l o r p =>
      simp only [Bool.and_eq_true, decide_eq_true_eq, Bool.not_eq_true'] at h
      obtain ⟨⟨⟨rfl, hm⟩, h2⟩, h3⟩ := h
      exact sn_cmp g.hu hm (snE a g l h2) (snE b g r h3)
    next => cases h
  | .chain o1 o2 a b d, X, E, g, x, h => by
    unfold chkE at h
    split at h
    next l p q m r pos =>
      simp only [Bool.and_eq_true, decide_eq_true_eq, Bool.not_eq_true'] at h
      obtain ⟨⟨⟨⟨⟨rfl, rfl⟩, hm⟩, h2⟩, h3⟩, h4⟩ := h
      exact sn_chain g.hu hm (snE a g l h2) (snE b g m h3) (snE d g r h4)
    next => cases h
  | .andV a b, X, E, g, x, h => by
    unfold chkE at h
    split at h
    next l r rest pos =>
      simp only [Bool.and_eq_true] at h
      obtain ⟨h1, h2⟩ := h
      cases rest with
      | nil => exact sn_and (snE a g l h1) (pe_one (snE b g r h2))
      | cons y ys => exact sn_and (snE a g l h1) (snE b g _ h2)
    next => cases h
  | .orV a b, X, E, g, x, h => by
    unfold chkE at h
    split at h
    next l r rest pos =>
      simp only [Bool.and_eq_true] at h
      obtain ⟨h1, h2⟩ := h
      cases rest with
      | nil => exact sn_or (snE a g l h1) (pe_one (snE b g r h2))
      | cons y ys => exact sn_or (snE a g l h1) (snE b g _ h2)
    next => cases h
  | .ite t a b, X, E, g, x, h => by
    unfold chkE at h
    split at h
    next k l r p =>
      simp only [Bool.and_eq_true] at h
      exact sn_ite (snT t g k h.1.1) (snE a g l h.1.2) (snE b g r h.2)
    next => cases h
  | .tup es, X, E, g, x, h => by
    unfold chkE at h
    split at h
    next xs k p => exact sn_tup (snEs es g xs h)
    next => cases h
  | .newL l, X, E, g, x, h => by
    unfold chkE at h
    exact sn_newL (snL l g x h)
  | .ix a b, X, E, g, x, h => by
    unfold chkE at h
    split at h
    next o i p =>
      simp only [Bool.and_eq_true] at h
      exact sn_ix (plainIx_ok h.1.1) (snE a g o h.1.2) (snE b g i h.2)
    next => cases h
  | .sl a lo hi, X, E, g, x, h => by
    unfold chkE at h
    split at h
    next o l u p2 p =>
      simp only [Bool.and_eq_true] at h
      exact sn_sl (snE a g o h.1.1) (snOE lo g l h.1.2) (snOE hi g u h.2)
    next => cases h
  | .call f es, X, E, g, x, h => by
    unfold chkE at h
    split at h
    next s p args pos =>
      simp only [Bool.and_eq_true] at h
      obtain ⟨⟨⟨⟨h1, h2⟩, h3⟩, h4⟩, h5⟩ := h
      split at h1
      next fn hf =>
        have e : fn.name = s := of_decide_eq_true h1
        subst e
        cases args with
        | nil =>
          cases es with
          | nil => exact sn_call0 g hf (glB_ok h2) (okN_ok h3).1
          | cons a r => unfold chkEs at h5; cases h5
        | cons y ys =>
          rw [List.all_cons, Bool.and_eq_true] at h4
          exact sn_call g hf (glB_ok h2) h4.1 h4.2 (okN_ok h3).1 (snEs es g _ h5)
      next => cases h1
    next => cases h
  | .bi b es, X, E, g, x, h => by
    unfold chkE at h
    split at h
    next s p args pos =>
      simp only [Bool.and_eq_true, decide_eq_true_eq, Bool.not_eq_true'] at h
      obtain ⟨⟨⟨⟨rfl, h2⟩, h3⟩, h4⟩, h5⟩ := h
      cases args with
      | nil => cases h3
      | cons y ys =>
        rw [List.all_cons, Bool.and_eq_true] at h4
        exact sn_bi g (glB_ok h2) h4.1 h4.2 (snEs es g _ h5)
    next => cases h
  | .isT t e, X, E, g, x, h => by
    unfold chkE at h
    split at h
    next s p o ty p2 pos =>
      simp only [Bool.and_eq_true, decide_eq_true_eq] at h
      obtain ⟨⟨⟨⟨⟨rfl, h1⟩, h2⟩, h3⟩, h4⟩, h5⟩ := h
      exact sn_isT g h1 (glB_ok h2) (glB_ok h3) h4 (snE e g o h5)
    next => cases h
  | .bl b l, X, E, g, x, h => by
    unfold chkE at h
    split at h
    next s p o pos =>
      simp only [Bool.and_eq_true, decide_eq_true_eq] at h
      obtain ⟨⟨⟨h1, h2⟩, h3⟩, h4⟩ := h
      exact sn_bl g h1 (glB_ok h2) h3 (snL l g o h4)
    next => cases h
  | .me m o es, X, E, g, x, h => by
    unfold chkE at h
    split at h
    next ob a apos args cpos =>
      simp only [Bool.and_eq_true] at h
      obtain ⟨⟨⟨h1, h2⟩, h3⟩, h4⟩ := h
      cases m with
      | append =>
        simp only [Bool.and_eq_true, decide_eq_true_eq] at h4
        obtain ⟨⟨⟨rfl, h5⟩, h6⟩, h7⟩ := h4
        match args, h5, h6, h7 with
        | [y], _, h6, h7 =>
          have h6' : notStar y = true := by simpa using h6
          exact sn_append h1 h2 h6' (snE o g ob h3) (snEs es g _ h7)
      | pop =>
        simp only [Bool.and_eq_true, decide_eq_true_eq] at h4
        obtain ⟨⟨rfl, h5⟩, h6⟩ := h4
        cases args with
        | nil =>
          cases es with
          | nil => exact sn_pop h1 h2 (snE o g ob h3)
          | cons a r => unfold chkEs at h6; cases h6
        | cons y ys => cases h5
      | _ => cases h4
    next => cases h
  | .gget i e, X, E, g, x, h => by
    unfold chkE at h
    split at h
    next s p a apos o cpos =>
      simp only [Bool.and_eq_true, decide_eq_true_eq] at h
      obtain ⟨⟨⟨⟨⟨⟨⟨h1, h2⟩, h3⟩, rfl⟩, h5⟩, h6⟩, h7⟩, h8⟩ := h
      split at h1
      next q hq =>
        obtain ⟨y, kvs⟩ := q
        have e1 : y = s := of_decide_eq_true h1
        subst e1
        exact sn_gget g hq (glB_ok h2) (okN_ok h3).1 h5 h6 h7 (snE e g o h8)
      next => cases h1
    next => cases h
  | .lenSet e, X, E, g, x, h => by
    unfold chkE at h
    split at h
    next s p t q o q2 pos =>
      simp only [Bool.and_eq_true, decide_eq_true_eq] at h
      obtain ⟨⟨⟨⟨⟨rfl, rfl⟩, h3⟩, h4⟩, h5⟩, h6⟩ := h
      exact sn_lenSet g (glB_ok h3) (glB_ok h4) h5 (snE e g o h6)
    next => cases h
  | .sortSet e, X, E, g, x, h => by
    unfold chkE at h
    split at h
    next s p t q o q2 pos =>
      simp only [Bool.and_eq_true, decide_eq_true_eq] at h
      obtain ⟨⟨⟨⟨⟨rfl, rfl⟩, h3⟩, h4⟩, h5⟩, h6⟩ := h
      exact sn_sortSet g (glB_ok h3) (glB_ok h4) h5 (snE e g o h6)
    next => cases h
theorem snOE : ∀ (e : OE) {X : Cx} {E : XK} (g : GX X T E cls pg n) (x : Option Expr), chkOE X.N pg e X.env.scope x = true → PO X x (tOE X.K T E cls (cal pg n) e)
  | .none, X, E, g, x, h => by
    unfold chkOE at h
    cases x with
    | none => exact sn_none
    | some y => cases h
  | .some e, X, E, g, x, h => by
    unfold chkOE at h
    split at h
    next y => exact sn_some (snE e g y h)
    next => cases h
theorem snEs : ∀ (e : Es) {X : Cx} {E : XK} (g : GX X T E cls pg n) (x : List Expr), chkEs X.N pg e X.env.scope x = true → PA X x (tEs X.K T E cls (cal pg n) e)
  | .nil, X, E, g, x, h => by
    unfold chkEs at h
    cases x with
    | nil => exact sn_nil
    | cons y ys => cases h
  | .cons e r, X, E, g, x, h => by
    unfold chkEs at h
    split at h
    next y ys =>
      simp only [Bool.and_eq_true] at h
      exact sn_cons (star_cons h.1.1) (snE e g y h.1.2) (snEs r g ys h.2)
    next => cases h
theorem snT : ∀ (e : PI.T) {X : Cx} {E : XK} (g : GX X T E cls pg n) (x : Expr), chkT X.N pg e X.env.scope x = true → PT X x (tT X.K T E cls (cal pg n) e)
  | .of e, X, E, g, x, h => by
    unfold chkT at h
    simp only [Bool.and_eq_true, Bool.or_eq_true] at h
    obtain ⟨h1, h2⟩ := h
    rcases h1 with h1 | h1
    · exact sn_of (truth_ok h1) (snE e g x h2)
    · cases e with
      | cmp op a b =>
        unfold chkE at h2
        split at h2
        next l o r p =>
          simp only [Bool.and_eq_true, decide_eq_true_eq, Bool.not_eq_true'] at h2
          obtain ⟨⟨⟨rfl, hm⟩, h3⟩, h4⟩ := h2
          exact sn_of_cmp g.hu hm (snE a g l h3) (snE b g r h4)
        next => cases h2
      | chain o1 o2 a b d =>
        unfold chkE at h2
        split at h2
        next l p q m r pos =>
          simp only [Bool.and_eq_true, decide_eq_true_eq, Bool.not_eq_true'] at h2
          obtain ⟨⟨⟨⟨⟨rfl, rfl⟩, hm⟩, h3⟩, h4⟩, h5⟩ := h2
          exact sn_of_chain g.hu hm (snE a g l h3) (snE b g m h4) (snE d g r h5)
        next => cases h2
      | _ => cases h1
  | .and a b, X, E, g, x, h => by
    unfold chkT at h
    split at h
    next l r rest pos =>
      simp only [Bool.and_eq_true] at h
      obtain ⟨h1, h2⟩ := h
      cases rest with
      | nil => exact sn_tand1 (snT a g l h1) (snT b g r h2)
      | cons y ys => exact sn_tand (snT a g l h1) (snT b g _ h2)
    next => cases h
  | .or a b, X, E, g, x, h => by
    unfold chkT at h
    split at h
    next l r rest pos =>
      simp only [Bool.and_eq_true] at h
      obtain ⟨h1, h2⟩ := h
      cases rest with
      | nil => exact sn_tor1 (snT a g l h1) (snT b g r h2)
      | cons y ys => exact sn_tor (snT a g l h1) (snT b g _ h2)
    next => cases h
  | .not a, X, E, g, x, h => by
    unfold chkT at h
    split at h
    next l p => exact sn_tnot (snT a g l h)
    next => cases h
theorem snL : ∀ (e : PI.L) {X : Cx} {E : XK} (g : GX X T E cls pg n) (x : Expr), chkL X.N pg e X.env.scope x = true → PE X x (tL X.K T E cls (cal pg n) e)
  | .lit es, X, E, g, x, h => by
    unfold chkL at h
    split at h
    next xs p =>
      refine PE.weak (pe_lst (snEs es g xs h)) fun σ H Q q => ?_
      obtain ⟨ρ, h, δ, r, f, q⟩ := q
      have q' : Post X.K T E cls ρ H (GLst X.K H Q) ((evEs (cal pg n) es δ h).bind litR) := q
      refine ⟨ρ, h, δ, r, f, ?_⟩
      cases he : evEs (cal pg n) es δ h with
      | ok ds h1 =>
        rw [he] at q'
        have q2 : Post X.K T E cls ρ H (GLst X.K H Q) (litR ds h1) := q'
        unfold litR at q2
        split at q2
        case isTrue hl =>
          intro ρ1 H1 e vs l1
          refine ⟨by rw [← l1.length, ← lim_eq]; exact hl, fun a ha => ?_⟩
          have e2 := Ext.new_ e.rel (o := .lst vs) ha
          exact q2 ρ1 _ (e.trans e2) a vs (back_none r e ha) (e.rel.nmem_none ha) upd_same (l1.ext e2 e.rel)
        case isFalse => exact (q2 : False).elim
      | ex k h1 => rw [he] at q'; exact q'
      | no => rw [he] at q'; exact (q' : False).elim
    next => cases h
  | .comp tg it own t el, X, E, g, x, h => by
    unfold chkL at h
    split at h
    next elt tgt iter k scope p =>
      simp only [Bool.and_eq_true] at h
      obtain ⟨⟨⟨⟨⟨⟨h1, h2⟩, h3⟩, h4⟩, h5⟩, h6⟩, h7⟩ := h
      have base := pe_lc (own := ownOf X.N own) (g := gTg X.K tg) (tt := tT X.K T E0' cls (cal pg n) t) (te := tE X.K T E0' cls (cal pg n) el) g.calm g.nd (snI it g tgt iter h5) (blkOk_by h4) (pos := p)
        (fun s H C cl fp => pg_of (X := X.blk s H scope (compEnvC scope cl C X.env) fp) (ok := locB (relS scope X.env.scope)) g.nd g.calm (fun s hs => locB_ok hs) h3)
        (fun s H C cl fp => pts_one (snT t (g.blk s H scope (compEnvC scope cl C X.env) fp) k h6))
        (fun s H C cl fp => snE el (g.blk s H scope (compEnvC scope cl C X.env) fp) elt h7)
        (notSet_ok h2)
      rw [ownOf_snd] at base
      exact PE.weak base fun σ H Q q => comp_read (f := turnF (cal pg n) t el) (fi := evI (cal pg n) it) h1 (fun R q => q) (fun r f e kS kN => turnF_read r f e kS kN) q
    next => cases h
  | .compU tg it own el, X, E, g, x, h => by
    unfold chkL at h
    split at h
    next elt tgt iter scope p =>
      simp only [Bool.and_eq_true] at h
      obtain ⟨⟨⟨⟨⟨h1, h2⟩, h3⟩, h4⟩, h5⟩, h7⟩ := h
      have base := pe_lc (own := ownOf X.N own) (g := gTg X.K tg) (tt := tYes) (te := tE X.K T E0' cls (cal pg n) el) g.calm g.nd (snI it g tgt iter h5) (blkOk_by h4) (pos := p)
        (fun s H C cl fp => pg_of (X := X.blk s H scope (compEnvC scope cl C X.env) fp) (ok := locB (relS scope X.env.scope)) g.nd g.calm (fun s hs => locB_ok hs) h3)
        (fun s H C cl fp => pts_nil)
        (fun s H C cl fp => snE el (g.blk s H scope (compEnvC scope cl C X.env) fp) elt h7)
        (notSet_ok h2)
      rw [ownOf_snd] at base
      exact PE.weak base fun σ H Q q => comp_read (f := turnU (cal pg n) el) (fi := evI (cal pg n) it) h1 (fun R q => q) (fun {ρ h h1 H δ σ o QS QN} r f e kS kN => iteT (B := QN H) (turnU_read r f e kS)) q
    next => cases h
theorem snI : ∀ (e : PI.I) {X : Cx} {E : XK} (g : GX X T E cls pg n) (tg x : Expr), chkI X.N pg e X.env.scope tg x = true → L2.PI X tg x (tI X.K T E cls (cal pg n) e)
  | .of e, X, E, g, tg, x, h => by
    unfold chkI at h
    exact sn_iof (snE e g x h)
  | .ofL l, X, E, g, tg, x, h => by
    unfold chkI at h
    exact sn_iofL (snL l g x h)
  | .range1 a, X, E, g, tg, x, h => by
    unfold chkI at h
    split at h
    next s p o pos =>
      simp only [Bool.and_eq_true, decide_eq_true_eq] at h
      obtain ⟨⟨⟨rfl, h1⟩, h2⟩, h3⟩ := h
      exact sn_range1 g (glB_ok h1) h2 (snE a g o h3)
    next => cases h
  | .range2 a b, X, E, g, tg, x, h => by
    unfold chkI at h
    split at h
    next s p o q pos =>
      simp only [Bool.and_eq_true, decide_eq_true_eq] at h
      obtain ⟨⟨⟨⟨⟨rfl, h1⟩, h2⟩, h3⟩, h4⟩, h5⟩ := h
      exact sn_range2 g (glB_ok h1) h2 h3 (snE a g o h4) (snE b g q h5)
    next => cases h
  | .enum a, X, E, g, tg, x, h => by
    unfold chkI at h
    split at h
    next s p o pos =>
      simp only [Bool.and_eq_true, decide_eq_true_eq] at h
      obtain ⟨⟨⟨⟨rfl, h1⟩, h2⟩, h3⟩, h4⟩ := h
      cases tg with
      | Tuple es k q => exact sn_enum g (glB_ok h2) h3 (snE a g o h4)
      | _ => cases h1
    next => cases h
  | .zip a b, X, E, g, tg, x, h => by
    unfold chkI at h
    split at h
    next s p o q pos =>
      simp only [Bool.and_eq_true, decide_eq_true_eq] at h
      obtain ⟨⟨⟨⟨⟨⟨rfl, h1⟩, h2⟩, h3⟩, h4⟩, h5⟩, h6⟩ := h
      cases tg with
      | Tuple es k tpos => exact sn_zip g (glB_ok h2) h3 h4 (snE a g o h5) (snE b g q h6)
      | _ => cases h1
    next => cases h
end
end
end PI
namespace PI
open PySem L2
def locLB (sc : Scope) (x : Str) : Bool := match sc.names.lookup x with
  | some .local => true
  | some .cell => true
  | _ => false
def notCompB : Expr → Bool
  | .ListComp _ _ _ _ => false
  | .SetComp _ _ _ _ => false
  | .DictComp _ _ _ _ _ => false
  | _ => true
def swB (sc scope : Scope) (y : Str) (py p : Pos) : Bool := locB sc y && (py.line == p.line) && !(scope.names.any fun (n, k) => n == y && (k == .local || k == .cell))
def notTupB : Expr → Bool
  | .Tuple _ _ _ => false
  | _ => true
def foldB : Expr → Bool
  | .Tuple [a, b] _ _ => foldedForSure 8 a && foldedForSure 8 b
  | _ => false
section
variable (N : List Str) (pg : Pg)
mutual
def chkS : Sx → Scope → Stmt → Bool
  | .set i e, sc, x => match x with
    | .Assign [.Name y py] v _ => decide (N[i]? = some y) && (match v with
      | .ListComp elt cs scope p => swB sc scope y py p && (match e with | .newL l => chkL N pg l sc (.ListComp elt cs scope p) | _ => false)
      | v => locLB sc y && notCompB v && chkE N pg e sc v)
    | _ => false
  | .two i j e, sc, x => match x with
    | .Assign [.Tuple ts k p] v _ => tgB N (locLB sc) (.two i j) (.Tuple ts k p) && notCompB v && (notTupB v || foldB v) && chkE N pg e sc v
    | _ => false
  | .par i j a b, sc, x => match x with
    | .Assign [.Tuple [.Name s ps, .Name t pt] _ _] (.Tuple [u, v] _ _) _ => decide (N[i]? = some s) && decide (N[j]? = some t) && decide (i ≠ j) && locB sc s && locB sc t && (ps.line == pt.line) && !(foldedForSure 8 u && foldedForSure 8 v) && !(constantsAlone 8 u && constantsAlone 8 v) && notStar u && notStar v && chkE N pg a sc u && chkE N pg b sc v
    | _ => false
  | .setix o i e, sc, x => match x with
    | .Assign [.Subscript ob ix _] v _ => plainIxB ix && notCompB v && chkE N pg e sc v && chkE N pg o sc ob && chkE N pg i sc ix
    | _ => false
  | .aug i e, sc, x => match x with
    | .AugAssign (.Name y _) .Add v _ => decide (N[i]? = some y) && locLB sc y && chkE N pg e sc v
    | _ => false
  | .expr e, sc, x => match x with
    | .Expr v _ => notCompB v && chkE N pg e sc v
    | _ => false
  | .ret e, sc, x => match x with
    | .Return (some v) _ => chkE N pg e sc v
    | _ => false
  | .retN, _, x => match x with
    | .Return none _ => true
    | _ => false
  | .ifS t a b, sc, x => match x with
    | .If k u v _ => chkT N pg t sc k && chkSs a sc u && chkSs b sc v
    | _ => false
  | .whileS t b, sc, x => match x with
    | .While k u [] _ => chkT N pg t sc k && chkSs b sc u
    | _ => false
  | .forS tg it b, sc, x => match x with
    | .For t v u [] _ => tgB N (locLB sc) tg t && notSetB v && chkI N pg it sc t v && chkSs b sc u
    | _ => false
  | .raiseS k, sc, x => match x with
    | .Raise (some (.Call (.Name s _) [.Constant (.str _) _ _] [] _)) none _ => decide (pg.cls[k]? = some s) && glB sc s
    | _ => false
  | .pass, _, x => match x with
    | .Pass _ => true
    | _ => false
  | .brk, _, x => match x with
    | .Break _ => true
    | _ => false
  | .cnt, _, x => match x with
    | .Continue _ => true
    | _ => false
  | .never, _, _ => true
def chkSs : Ss → Scope → List Stmt → Bool
  | .nil, _, xs => xs.isEmpty
  | .cons s r, sc, xs => match xs with
    | x :: ys => chkS s sc x && chkSs r sc ys
    | [] => false
end
end
section
variable (K : PySem.W.Frag) (T : List (Addr × Str)) (E : XK) (cls : Nat → Addr) (c : Cal) (wl : Nat)
def GO (D : Ends) : List Addr → Hs → Hp → Out → Prop := fun ρ _ H o => match o with
  | .nx δ => ∀ σ', FrRel K ρ H δ σ' → D.nx σ' H
  | .rt d => ∀ v, Rel K ρ H d v → D.rt v H
  | .bk δ => ∀ σ', FrRel K ρ H δ σ' → D.bk σ' H
  | .ct δ => ∀ σ', FrRel K ρ H δ σ' → D.ct σ' H
def tS (s : Sx) : TS := fun D σ H => tG K T E cls (evS c wl s) σ H (GO K D)
def tSs (s : Ss) : TS := fun D σ H => tG K T E cls (evSs c wl s) σ H (GO K D)
end
/-- where statements run -/
structure GS (X : Cx) (T : List (Addr × Str)) (E : XK) (cls : Nat → Addr) (pg : Pg) (n : Nat) : Prop extends GX X T E cls pg n where
  own : PassesOwn (model X.prog X.w) X.A X.env X.xe
  fnc : ∀ x, X.fn x = true
  kind : X.env.scope.kind = .function
  rs : ∀ (k : Nat) (s m : Str) (p p2 pos pos2 : Pos) (j : Nat), pg.cls[k]? = some s → Gl X s → PS X (.Raise (some (.Call (.Name s p) [.Constant (.str m) j p2] [] pos)) none pos2) (fun _ σ H => E (.ref (cls k)) none H)
theorem locLB_ok {sc : Scope} {x : Str} (h : locLB sc x = true) : Loc sc x := by
  unfold locLB at h
  split at h
  case h_1 e => exact .inl e
  case h_2 e => exact .inr e
  case h_3 => cases h
theorem notComp_sw {e : Expr} {t : Option Expr} {l : Nat} {env : Env} (h : notCompB e = true) : swapsWith e t l env = pure false := by
  cases e <;> first | rfl | cases h
theorem notTup_sw {e : Expr} {ts : List Expr} {env : Env} (h : notTupB e = true) : swappedStores ts e env = pure none := by
  unfold swappedStores
  split
  next h1 =>
    split at h1
    · cases h
    · cases h
    · cases h1
  next => rfl
theorem fold_sw {e t : Expr} {env : Env} (h : foldB e = true) : swappedStores [t] e env = pure none := by
  unfold foldB at h
  split at h
  next a b k p =>
    rw [Bool.and_eq_true] at h
    have hall : [a, b].all (foldedForSure 8) = true := by simp [h.1, h.2]
    unfold swappedStores
    split
    · rename_i ts vs heq
      have hv : vs = [a, b] := by
        split at heq
        · rename_i h1 h2
          cases h1
          cases h2
          cases heq
          rfl
        · rename_i h1 h2
          cases h1
          cases h2
          cases heq
          rfl
        · cases heq
      subst hv
      split
      · rfl
      · split
        · rfl
        · dsimp only
          split
          · rfl
          · first | rfl | (rw [if_pos hall]; rfl) | rw [if_pos hall]
    · rfl
  next => cases h
theorem two_sw {e t : Expr} {ts : List Expr} {k : Nat} {p : Pos} {env : Env} (h : (notTupB e || foldB e) = true) : swappedStores [.Tuple ts k p] e env = pure none := by
  rcases Bool.or_eq_true_iff.mp h with h | h
  · exact notTup_sw h
  · exact fold_sw h
section
variable {X : Cx} {T : List (Addr × Str)} {E : XK} {cls : Nat → Addr} {pg : Pg} {n : Nat} {c : Cal} {wl : Nat}
theorem pg_ofL {tg : Tg} {x : Expr} (g : GS X T E cls pg n) (h : tgB X.N (locLB X.env.scope) tg x = true) : PG X x (gTg X.K tg) := by
  cases tg with
  | one i =>
    obtain ⟨s, p, rfl, h1, h2⟩ := tg_one h
    exact pg_name g.nd h1 (locLB_ok h2) (.inl (g.fnc s))
  | two i j =>
    obtain ⟨s, p, t, q, k, r, rfl, h1, h2, h3, h4⟩ := tg_two h
    exact pg_tup g.calm (pgs_cons (pg_name g.nd h1 (locLB_ok h2) (.inl (g.fnc s))) (pgs_cons (pg_name g.nd h3 (locLB_ok h4) (.inl (g.fnc t))) pgs_nil))
variable {D : Ends} {σ : L2.St} {H : Hp} {ρ : List Addr} {h : Hs} {δ : Fr}
theorem setF_read {i : Nat} {d : PI.D} {v : V} {D : Ends} (r : HRel X.K T ρ h H) (f : FrRel X.K ρ H δ σ) (l : Rel X.K ρ H d v) (q : Post X.K T E cls ρ H (GO X.K D) (setF δ i d h)) : D.nx (σ.set i (some v)) H := by
  unfold setF at q
  split at q
  case isTrue hi => exact Post.ok r q _ (f.set l)
  case isFalse => exact (q : False).elim
theorem set_read {i : Nat} {e : PI.E} (p : tS X.K T E cls c wl (.set i e) D σ H) : tE X.K T E cls c e σ H fun x H1 => D.nx (σ.set i (some x)) H1 := by
  refine (tG.bind (f := evE c e) (g := fun x δ h1 => setF δ i x h1) p).mono fun ρ1 h1 H1 d r1 q v l1 => ?_
  obtain ⟨δ, r, f, q⟩ := q
  exact setF_read r f l1 q
theorem while_read {t : PI.T} {b : Ss} : ∀ m, ∀ D σ H, tG X.K T E cls (whileLoop (evT c t) (evSs c wl b) m) σ H (GO X.K D) → tWhile (tT X.K T E cls c t) (tSs X.K T E cls c wl b) D σ H := fun m0 D σ H p => by
  refine ⟨fun m σ H => tG X.K T E cls (whileLoop (evT c t) (evSs c wl b) m) σ H (GO X.K D), ⟨m0, p⟩, fun m σ H w => ?_⟩
  cases m with
  | zero =>
    obtain ⟨_, _, _, _, _, p⟩ := w
    exact (p : False).elim
  | succ k =>
    refine (tG.bind (f := evT c t) (g := fun c' δ h1 => iteK (fun h1 => (evSs c wl b δ h1).bind (afterB (whileLoop (evT c t) (evSs c wl b) k))) (nxR δ) c' h1) w).mono fun ρ1 h1 H1 d r1 q => ?_
    obtain ⟨δ, r, f, q⟩ := q
    cases d with
    | true =>
      refine iteT (B := D.nx σ H1) ⟨fun σ H => tG X.K T E cls (whileLoop (evT c t) (evSs c wl b) k) σ H (GO X.K D), fun σ' H' w' => ⟨k, Nat.lt_succ_self k, w'⟩, ?_⟩
      have q' : Post X.K T E cls ρ1 H1 (GO X.K D) ((evSs c wl b δ h1).bind (afterB (whileLoop (evT c t) (evSs c wl b) k))) := q
      refine ⟨ρ1, h1, δ, r, f, (Post.bind q').mono fun ρ2 h2 H2 o e2 q => ?_⟩
      cases o with
      | nx δ' => exact fun σ' f' => tG.of e2.rel f' q
      | ct δ' => exact fun σ' f' => tG.of e2.rel f' q
      | bk δ' => exact fun σ' f' => Post.ok e2.rel q _ f'
      | rt d => exact fun v l => Post.ok e2.rel q _ l
    | false =>
      refine iteF (A := False) ?_
      exact Post.ok r q _ f
theorem forLoop_g {f : PI.D → Fr → Hs → R Out} {g : Hs → Bool} {xs : List PI.D} {G : List Addr → Hs → Hp → Out → Prop} (p : Post X.K T E cls ρ H G (forLoop f g xs δ h)) : g h = true := by
  cases xs with
  | nil =>
    unfold forLoop at p
    split at p
    case isTrue hg => exact hg
    case isFalse => exact (p : False).elim
  | cons x xs =>
    unfold forLoop at p
    split at p
    case isTrue hg => exact hg
    case isFalse => exact (p : False).elim
theorem for_read {tg : Tg} {it : PI.I} {b : Ss} (p : tS X.K T E cls c wl (.forS tg it b) D σ H) : tFor (tI X.K T E cls c it) (gTg X.K tg) (tSs X.K T E cls c wl b) D σ H := by
  obtain ⟨ρ, h, δ, r, fr, p⟩ := p
  refine ⟨ρ, h, δ, r, fr, ?_⟩
  have p : Post X.K T E cls ρ H (GO X.K D) ((evI c it δ h).bind fun J h1 => forLoop (fun x δ' h2 => bindK (fun δ2 h2 => evSs c wl b δ2 h2) (bindTg tg x δ') h2) (gOk J.gs) J.items δ h1) := p
  cases he : evI c it δ h with
  | ex k h2 => rw [he] at p; exact p
  | no => rw [he] at p; exact p
  | ok J h1 =>
    rw [he] at p
    have p : Post X.K T E cls ρ H (GO X.K D) (forLoop (fun x δ' h2 => bindK (fun δ2 h2 => evSs c wl b δ2 h2) (bindTg tg x δ') h2) (gOk J.gs) J.items δ h1) := p
    intro ρ1 H1 e1 Jt wJ
    obtain ⟨G, Y, Wk, st⟩ := wJ
    refine for_it Wk (fun i σ Hc => ∃ ρ' h' δ', Ext X.K T ρ1 H1 ρ' h' Hc ∧ FrRel X.K ρ' Hc δ' σ ∧ Post X.K T E cls ρ' Hc (GO X.K D) (forLoop (fun x δ' h2 => bindK (fun δ2 h2 => evSs c wl b δ2 h2) (bindTg tg x δ') h2) (gOk J.gs) (J.items.drop i) δ' h')) ?_ ?_ ?_ ?_
    · exact ⟨ρ1, h1, δ, Ext.refl e1.rel, fr.ext e1 r, by simpa using Post.ext e1 p⟩
    · rintro i σ' Hc hi ⟨ρ', h', δ', e2, f2, p2⟩
      exact (st ρ' h' Hc e2 (forLoop_g p2)).1
    · rintro i x σ' Hc H' hi ⟨ρ', h', δ', e2, f2, p2⟩ hy
      have hg := forLoop_g p2
      obtain ⟨d, hd, e3, rd⟩ := (st ρ' h' Hc e2 hg).2 i x H' hi hy
      have hdr : J.items.drop i = d :: J.items.drop (i + 1) := by
        obtain ⟨hlt, hget⟩ := List.getElem?_eq_some_iff.mp hd
        rw [List.drop_eq_getElem_cons hlt, hget]
      rw [hdr] at p2
      unfold forLoop at p2
      rw [if_pos hg] at p2
      cases hbt : bindTg tg d δ' with
      | none =>
        have p2' : Post X.K T E cls ρ' Hc (GO X.K D) ((bindK (fun δ2 h2 => evSs c wl b δ2 h2) (bindTg tg d δ') h').bind (afterB (forLoop (fun x δ' h2 => bindK (fun δ2 h2 => evSs c wl b δ2 h2) (bindTg tg x δ') h2) (gOk J.gs) (J.items.drop (i + 1))))) := p2
        rw [hbt] at p2'
        exact (p2' : False).elim
      | some δ2 =>
        have p2' : Post X.K T E cls ρ' Hc (GO X.K D) ((bindK (fun δ2 h2 => evSs c wl b δ2 h2) (bindTg tg d δ') h').bind (afterB (forLoop (fun x δ' h2 => bindK (fun δ2 h2 => evSs c wl b δ2 h2) (bindTg tg x δ') h2) (gOk J.gs) (J.items.drop (i + 1))))) := p2
        rw [hbt] at p2'
        have p3 := Post.bind p2'
        refine tg_read (tg := tg) (h := h') (T := T) (f2.ext e3 e2.rel) rd hbt fun σ2 fr2 _ => ?_
        refine ⟨ρ', h', δ2, e3.rel, fr2, (Post.ext e3 p3).mono fun ρ4 h4 H4 o e4 q => ?_⟩
        cases o with
        | nx δ4 => exact fun σ4 f4 => ⟨ρ4, h4, δ4, e2.trans (e3.trans e4), f4, q⟩
        | ct δ4 => exact fun σ4 f4 => ⟨ρ4, h4, δ4, e2.trans (e3.trans e4), f4, q⟩
        | bk δ4 => exact fun σ4 f4 => Post.ok e4.rel q _ f4
        | rt d4 => exact fun v l => Post.ok e4.rel q _ l
    · rintro σ' Hc ⟨ρ', h', δ', e2, f2, p2⟩
      rw [List.drop_length] at p2
      have hg := forLoop_g p2
      unfold forLoop at p2
      rw [if_pos hg] at p2
      exact Post.ok e2.rel p2 _ f2
theorem par_sw {s t : Str} {ps pt p0 p2 : Pos} {k k2 : Nat} {u v : Expr} {env : Env} (hk : env.scope.kind = .function) (hs : env.scope.names.lookup s = some .local) (ht : env.scope.names.lookup t = some .local) (hl : (ps.line == pt.line) = true) (hne : s ≠ t)
    (hf : (foldedForSure 8 u && foldedForSure 8 v) = false) (hc : (constantsAlone 8 u && constantsAlone 8 v) = false) (hu : notStar u = true) (hv : notStar v = true) :
    swappedStores [.Tuple [.Name s ps, .Name t pt] k p0] (.Tuple [u, v] k2 p2) env = pure (some [s, t]) := by
  have ks : env.kindOf s = some .local := hs
  have kt : env.kindOf t = some .local := ht
  have hb : env.blockKind = .function := by unfold Env.blockKind; rw [hk]; rfl
  have hl' : ps.line = pt.line := by simpa using hl
  have hne' : ¬ s = t := hne
  have hts : (t == s) = false := by simpa using Ne.symm hne
  unfold swappedStores
  simp only [hb]
  simp [ks, kt, Expr.pos, hl', List.eraseDups, List.eraseDupsBy, List.eraseDupsBy.loop, hf, hc]
  rw [if_neg ?_]
  · simp only [hts]
    simp
  · intro h
    rcases h with h | h
    · split at h
      · cases hu
      · cases h
    · split at h
      · cases hv
      · cases h
end
end PI
namespace PI
open PySem L2
theorem plainIx_store {o i : Expr} {pos : Pos} {env : Env} (h : plainIxB i = true) : ∀ v, assign (.Subscript o i pos) env v = (do
      let ov ← holding [v] (eval o env)
      let iv ← holding [v, ov] (eval i env)
      standAt pos
      holding [v, ov, iv] (setItem ov iv v)
      release [v, ov, iv] []) := by
  intro v
  cases i <;> first | rfl | cases h
theorem sws_ok {e t : Expr} {l : Nat} {env : Env} (h : notCompB e = true) : swapsWithSole [t] e l env = pure false := notComp_sw h
section
variable {X : Cx} {T : List (Addr × Str)} {E : XK} {cls : Nat → Addr} {pg : Pg} {n : Nat} {c : Cal} {wl : Nat}
variable {D : Ends} {σ : L2.St} {H : Hp}
theorem two_read {i j : Nat} {e : PI.E} (p : tS X.K T E cls c wl (.two i j e) D σ H) : tAsg (tE X.K T E cls c e) (gTg X.K (.two i j)) D σ H := by
  refine (tG.bind (f := evE c e) (g := fun x δ h1 => twoR i j δ x h1) p).mono fun ρ1 h1 H1 d r1 q v l1 => ?_
  obtain ⟨δ, r, f, q⟩ := q
  have q' : Post X.K T E cls ρ1 H1 (GO X.K D) (bindK nxR (bindTg (.two i j) d δ) h1) := q
  cases hb : bindTg (.two i j) d δ with
  | none => rw [hb] at q'; exact (q' : False).elim
  | some δ2 =>
    rw [hb] at q'
    exact tg_read (tg := .two i j) (h := h1) (T := T) f l1 hb fun σ2 fr2 _ => Post.ok r q' _ fr2
theorem par_read {i j : Nat} {a b : PI.E} (p : tS X.K T E cls c wl (.par i j a b) D σ H) : tPar i j (tEs X.K T E cls c (.cons a (.cons b .nil))) D σ H := by
  obtain ⟨ρ, h, δ, r, f, p⟩ := p
  refine ⟨ρ, h, δ, r, f, ?_⟩
  have p' : Post X.K T E cls ρ H (GO X.K D) ((evE c a δ h).bind fun x h1 => (evE c b δ h1).bind fun y h2 => parR i j δ x y h2) := p
  show Post X.K T E cls ρ H _ ((evE c a δ h).bind fun x h1 => ((evE c b δ h1).bind fun x h1 => R.bind (.ok [] h1) fun xs h2 => .ok (x :: xs) h2).bind fun xs h2 => .ok (x :: xs) h2)
  cases ha : evE c a δ h with
  | no => rw [ha] at p'; exact p'
  | ex k h1 => rw [ha] at p'; exact p'
  | ok x h1 =>
    rw [ha] at p'
    have p' : Post X.K T E cls ρ H (GO X.K D) ((evE c b δ h1).bind fun y h2 => parR i j δ x y h2) := p'
    show Post X.K T E cls ρ H _ (((evE c b δ h1).bind fun x h1 => R.bind (.ok [] h1) fun xs h2 => .ok (x :: xs) h2).bind fun xs h2 => .ok (x :: xs) h2)
    cases hb : evE c b δ h1 with
    | no => rw [hb] at p'; exact p'
    | ex k h2 => rw [hb] at p'; exact p'
    | ok y h2 =>
      rw [hb] at p'
      have p' : Post X.K T E cls ρ H (GO X.K D) (parR i j δ x y h2) := p'
      unfold parR at p'
      split at p'
      case isTrue hij =>
        intro ρ1 H1 e vs l
        cases l with
        | cons l1 l =>
          cases l with
          | cons l2 l =>
            cases l
            refine ⟨_, _, rfl, ?_⟩
            exact p' ρ1 H1 e _ (((f.ext e r).set l1).set l2)
      case isFalse => exact (p' : False).elim
theorem setix_read {o i e : PI.E} (p : tS X.K T E cls c wl (.setix o i e) D σ H) : tAsg (tE X.K T E cls c e) (gSub (tE X.K T E cls c o) (tE X.K T E cls c i) rSetL) D σ H := by
  refine (tG.bind (f := evE c e) (g := fun v δ h1 => (evE c o δ h1).bind fun x h2 => (evE c i δ h2).bind fun y h3 => setixR δ v x y h3) p).mono fun ρ1 h1 H1 d r1 q v l1 => ?_
  obtain ⟨δ, r, f, q⟩ := q
  refine tG.of r f ((Post.bind q).mono fun ρ2 h2 H2 d2 e2 q v2 l2 => ?_)
  refine tG.of e2.rel (f.ext e2 r) ((Post.bind q).mono fun ρ3 h3 H3 d3 e3 q v3 l3 => ?_)
  have q' : Post X.K T E cls ρ3 H3 (GO X.K D) (setixR δ d d2 d3 h3) := q
  unfold setixR at q'
  split at q'
  case h_2 => exact (q' : False).elim
  case h_1 k xs hl =>
    split at q'
    case h_2 => exact (q' : False).elim
    case h_1 m =>
      split at q'
      case h_2 => exact (q' : False).elim
      case h_1 j hj =>
        obtain ⟨a, vs, rfl, hk, ha, q2⟩ := lstD_of e3.rel (l2.ext e3 e2.rel) hl
        cases l3
        refine ⟨a, vs, m, j, rfl, rfl, ha, by rw [← q2.length]; exact hj, ?_⟩
        have w := Ext.write (T := T) e3.rel hk (RelAll.set ((l1.ext e2 r).ext e3 e2.rel) j q2)
        exact q' _ _ w _ (((f.ext e2 r).ext e3 e2.rel).ext w e3.rel)
theorem aug_read {i : Nat} {e : PI.E} (p : tS X.K T E cls c wl (.aug i e) D σ H) : tAug i (tE X.K T E cls c e) (ipI fun i j => i + j) D σ H := by
  obtain ⟨ρ, h, δ, r, f, p⟩ := p
  have p' : Post X.K T E cls ρ H (GO X.K D) (match δ[i]? with
    | some (some (.int x)) => (evE c e δ h).bind fun y h1 => augR i δ x y h1
    | _ => .no) := p
  split at p'
  case h_2 => exact (p' : False).elim
  case h_1 x hx =>
    obtain ⟨v, e1, rv⟩ := f.2 i _ hx
    cases rv
    refine ⟨_, e1, tG.of r f ((Post.bind p').mono fun ρ2 h2 H2 d2 e2 q v2 l2 => ?_)⟩
    have q' : Post X.K T E cls ρ2 H2 (GO X.K D) (augR i δ x d2 h2) := q
    unfold augR at q'
    split at q'
    case h_2 => exact (q' : False).elim
    case h_1 j =>
      cases l2
      exact ⟨x, j, rfl, rfl, setF_read e2.rel (f.ext e2 r) (.int _) q'⟩
theorem expr_read {e : PI.E} (p : tS X.K T E cls c wl (.expr e) D σ H) : tDrop (tE X.K T E cls c e) D σ H := by
  refine (tG.bind (f := evE c e) (g := fun x δ h1 => nxR δ h1) p).mono fun ρ1 h1 H1 d r1 q v l1 => ?_
  obtain ⟨δ, r, f, q⟩ := q
  exact Post.ok r q _ f
theorem ret_read {e : PI.E} (p : tS X.K T E cls c wl (.ret e) D σ H) : tRet (tE X.K T E cls c e) D σ H := by
  refine (tG.bind (f := evE c e) (g := fun x δ h1 => retR x h1) p).mono fun ρ1 h1 H1 d r1 q v l1 => ?_
  obtain ⟨δ, r, f, q⟩ := q
  exact Post.ok r q _ l1
theorem retN_read (p : tS X.K T E cls c wl .retN D σ H) : tRetN D σ H := by
  obtain ⟨ρ, h, δ, r, f, p⟩ := p
  exact Post.ok r p _ .non
theorem if_read {t : PI.T} {a b : Ss} (p : tS X.K T E cls c wl (.ifS t a b) D σ H) : tIfS (tT X.K T E cls c t) (tSs X.K T E cls c wl a) (tSs X.K T E cls c wl b) D σ H := by
  refine (tG.bind (f := evT c t) (g := fun x δ h1 => iteK (fun h1 => evSs c wl a δ h1) (fun h1 => evSs c wl b δ h1) x h1) p).mono fun ρ1 h1 H1 d r1 q => ?_
  obtain ⟨δ, r, f, q⟩ := q
  cases d with
  | true => exact iteT (B := tSs X.K T E cls c wl b D σ H1) (tG.of (f := evSs c wl a) r f q)
  | false => exact iteF (A := tSs X.K T E cls c wl a D σ H1) (tG.of (f := evSs c wl b) r f q)
theorem raise_read {k : Nat} (p : tS X.K T E cls c wl (.raiseS k) D σ H) : E (.ref (cls k)) none H := by
  obtain ⟨ρ, h, δ, r, f, p⟩ := p
  exact p ρ H (Ext.refl r)
theorem nx_read {s : Sx} (hs : ∀ δ h, evS c wl s δ h = nxR δ h) (p : tS X.K T E cls c wl s D σ H) : tNext D σ H := by
  obtain ⟨ρ, h, δ, r, f, p⟩ := p
  have p : Post X.K T E cls ρ H (GO X.K D) (evS c wl s δ h) := p
  rw [hs] at p
  exact Post.ok r p _ f
theorem brk_read (p : tS X.K T E cls c wl .brk D σ H) : tBreak D σ H := by
  obtain ⟨ρ, h, δ, r, f, p⟩ := p
  exact Post.ok r p _ f
theorem cnt_read (p : tS X.K T E cls c wl .cnt D σ H) : tCont D σ H := by
  obtain ⟨ρ, h, δ, r, f, p⟩ := p
  exact Post.ok r p _ f
theorem never_read (p : tS X.K T E cls c wl .never D σ H) : tNever D σ H := by
  obtain ⟨ρ, h, δ, r, f, p⟩ := p
  exact p
theorem seq_read {s : Sx} {b : Ss} (p : tSs X.K T E cls c wl (.cons s b) D σ H) : tSeq (tS X.K T E cls c wl s) (tSs X.K T E cls c wl b) D σ H := by
  obtain ⟨ρ, h, δ, r, f, p⟩ := p
  have p' : Post X.K T E cls ρ H (GO X.K D) ((evS c wl s δ h).bind (thenR fun δ h => evSs c wl b δ h)) := p
  refine ⟨ρ, h, δ, r, f, (Post.bind p').mono fun ρ1 h1 H1 o e1 q => ?_⟩
  cases o with
  | nx δ' => exact fun σ' f' => tG.of (f := evSs c wl b) e1.rel f' q
  | rt d =>
    have q' : Post X.K T E cls ρ1 H1 (GO X.K D) (.ok (.rt d) h1) := q
    exact Post.ok (G := GO X.K D) e1.rel q'
  | bk δ' =>
    have q' : Post X.K T E cls ρ1 H1 (GO X.K D) (.ok (.bk δ') h1) := q
    exact Post.ok (G := GO X.K D) e1.rel q'
  | ct δ' =>
    have q' : Post X.K T E cls ρ1 H1 (GO X.K D) (.ok (.ct δ') h1) := q
    exact Post.ok (G := GO X.K D) e1.rel q'
theorem nil_read (p : tSs X.K T E cls c wl .nil D σ H) : tNext D σ H := by
  obtain ⟨ρ, h, δ, r, f, p⟩ := p
  exact Post.ok r p _ f
end
section
variable {T : List (Addr × Str)} {cls : Nat → Addr} {pg : Pg} {n : Nat} {wl : Nat}
mutual
theorem snS : ∀ (s : Sx) {X : Cx} {E : XK} (g : GS X T E cls pg n) (x : Stmt), chkS X.N pg s X.env.scope x = true → PS X x (tS X.K T E cls (cal pg n) wl s)
  | .set i e, X, E, g, x, h => by
    unfold chkS at h
    split at h
    next y py v spos =>
      simp only [Bool.and_eq_true, decide_eq_true_eq] at h
      obtain ⟨h0, h⟩ := h
      split at h
      next elt cs scope p =>
        simp only [Bool.and_eq_true] at h
        obtain ⟨hsw, h⟩ := h
        unfold swB at hsw
        simp only [Bool.and_eq_true, Bool.not_eq_true'] at hsw
        obtain ⟨⟨hl, hline⟩, hany⟩ := hsw
        split at h
        next l =>
          have hsw : swapsWith (.ListComp elt cs scope p) (some (.Name y py)) spos.line X.env = pure true := sw_true g.kind (locB_ok hl) hline hany
          cases l with
          | lit es => unfold chkL at h; cases h
          | comp tg it own t el =>
            unfold chkL at h
            split at h
            next elt2 tgt iter k scope2 p2 heq =>
              cases heq
              simp only [Bool.and_eq_true] at h
              obtain ⟨⟨⟨⟨⟨⟨h1, h2⟩, h3⟩, h4⟩, h5⟩, h6⟩, h7⟩ := h
              have base := ps_setLc (i := i) (spos := spos) (own := ownOf X.N own) (g := gTg X.K tg) (tt := tT X.K T E0' cls (cal pg n) t) (te := tE X.K T E0' cls (cal pg n) el) g.calm g.nd h0 (locB_ok hl) hsw (snI it g.toGX tgt iter h5) (blkOk_by h4)
                (fun s H C cl fp => pg_of (X := X.blk s H scope (compEnvC scope cl C X.env) fp) (ok := locB (relS scope X.env.scope)) g.nd g.calm (fun s hs => locB_ok hs) h3)
                (fun s H C cl fp => pts_one (snT t (g.toGX.blk s H scope (compEnvC scope cl C X.env) fp) k h6))
                (fun s H C cl fp => snE el (g.toGX.blk s H scope (compEnvC scope cl C X.env) fp) elt h7)
                (notSet_ok h2)
              rw [ownOf_snd] at base
              exact PS.weak base fun D σ H q => comp_read (f := turnF (cal pg n) t el) (fi := evI (cal pg n) it) h1 (fun R q => q) (fun r f e kS kN => turnF_read r f e kS kN) (newL_read (set_read q))
            next => cases h
          | compU tg it own el =>
            unfold chkL at h
            split at h
            next elt2 tgt iter scope2 p2 heq =>
              cases heq
              simp only [Bool.and_eq_true] at h
              obtain ⟨⟨⟨⟨⟨h1, h2⟩, h3⟩, h4⟩, h5⟩, h7⟩ := h
              have base := ps_setLc (i := i) (spos := spos) (own := ownOf X.N own) (g := gTg X.K tg) (tt := tYes) (te := tE X.K T E0' cls (cal pg n) el) g.calm g.nd h0 (locB_ok hl) hsw (snI it g.toGX tgt iter h5) (blkOk_by h4)
                (fun s H C cl fp => pg_of (X := X.blk s H scope (compEnvC scope cl C X.env) fp) (ok := locB (relS scope X.env.scope)) g.nd g.calm (fun s hs => locB_ok hs) h3)
                (fun s H C cl fp => pts_nil)
                (fun s H C cl fp => snE el (g.toGX.blk s H scope (compEnvC scope cl C X.env) fp) elt h7)
                (notSet_ok h2)
              rw [ownOf_snd] at base
              exact PS.weak base fun D σ H q => comp_read (f := turnU (cal pg n) el) (fi := evI (cal pg n) it) h1 (fun R q => q) (fun {ρ h h1 H δ σ o QS QN} r f e kS kN => iteT (B := QN H) (turnU_read r f e kS)) (newL_read (set_read q))
            next => cases h
        next => cases h
      next v' hv =>
        simp only [Bool.and_eq_true] at h
        obtain ⟨⟨h1, h2⟩, h3⟩ := h
        exact PS.weak (ps_set g.nd h0 (locLB_ok h1) (snE e g.toGX _ h3) (notComp_sw h2) (.inl (g.fnc y))) fun D σ H q => set_read q
    next => cases h
  | .two i j e, X, E, g, x, h => by
    unfold chkS at h
    split at h
    next ts k p v spos =>
      simp only [Bool.and_eq_true] at h
      obtain ⟨⟨⟨h1, h2⟩, h3⟩, h4⟩ := h
      exact PS.weak (ps_asg (snE e g.toGX v h4) (pg_ofL g h1) (sws_ok h2) (two_sw (t := v) h3)) fun D σ H q => two_read q
    next => cases h
  | .par i j a b, X, E, g, x, h => by
    unfold chkS at h
    split at h
    next s ps t pt k p u v k2 p2 spos =>
      simp only [Bool.and_eq_true, decide_eq_true_eq, Bool.not_eq_true'] at h
      obtain ⟨⟨⟨⟨⟨⟨⟨⟨⟨⟨⟨h1, h2⟩, h3⟩, h4⟩, h5⟩, h6⟩, h7⟩, h8⟩, h9⟩, h10⟩, h11⟩, h12⟩ := h
      have hne : s ≠ t := fun e => h3 ((List.getElem?_inj (List.getElem?_eq_some_iff.mp h1).1 g.nd).mp (by rw [h1, h2, e]))
      refine PS.weak (ps_par g.calm g.nd h1 h2 h3 (locB_ok h4) (locB_ok h5) ?_ (par_sw g.kind (locB_ok h4) (locB_ok h5) h6 hne h7 h8 h9 h10) rfl) fun D σ H q => par_read q
      exact sn_cons (star_cons h9) (snE a g.toGX u h11) (sn_cons (star_cons h10) (snE b g.toGX v h12) sn_nil)
    next => cases h
  | .setix o i e, X, E, g, x, h => by
    unfold chkS at h
    split at h
    next ob ix p v spos =>
      simp only [Bool.and_eq_true] at h
      obtain ⟨⟨⟨⟨h1, h2⟩, h3⟩, h4⟩, h5⟩ := h
      exact PS.weak (ps_asg (snE e g.toGX v h3) (pg_sub (snE o g.toGX ob h4) (snE i g.toGX ix h5) set_list (plainIx_store h1)) (sws_ok h2) (by unfold swappedStores; rfl)) fun D σ H q => setix_read q
    next => cases h
  | .aug i e, X, E, g, x, h => by
    unfold chkS at h
    split at h
    next y py v spos =>
      simp only [Bool.and_eq_true, decide_eq_true_eq] at h
      obtain ⟨⟨h1, h2⟩, h3⟩ := h
      exact PS.weak (ps_aug g.nd h1 (locLB_ok h2) (snE e g.toGX v h3) ip_add (.inl (g.fnc y))) fun D σ H q => aug_read q
    next => cases h
  | .expr e, X, E, g, x, h => by
    unfold chkS at h
    split at h
    next v spos =>
      simp only [Bool.and_eq_true] at h
      exact PS.weak (ps_expr (snE e g.toGX v h.2) (notComp_sw h.1)) fun D σ H q => expr_read q
    next => cases h
  | .ret e, X, E, g, x, h => by
    unfold chkS at h
    split at h
    next v spos => exact PS.weak (ps_ret (snE e g.toGX v h)) fun D σ H q => ret_read q
    next => cases h
  | .retN, X, E, g, x, h => by
    unfold chkS at h
    split at h
    next spos => exact PS.weak ps_retN fun D σ H q => retN_read q
    next => cases h
  | .ifS t a b, X, E, g, x, h => by
    unfold chkS at h
    split at h
    next k u v spos =>
      simp only [Bool.and_eq_true] at h
      exact PS.weak (ps_if (snT t g.toGX k h.1.1) (snSs a g u h.1.2) (snSs b g v h.2)) fun D σ H q => if_read q
    next => cases h
  | .whileS t b, X, E, g, x, h => by
    unfold chkS at h
    split at h
    next k u spos =>
      simp only [Bool.and_eq_true] at h
      exact PS.weak (ps_while g.own (snT t g.toGX k h.1) (snSs b g u h.2)) fun D σ H q => while_read wl D σ H q
    next => cases h
  | .forS tg it b, X, E, g, x, h => by
    unfold chkS at h
    split at h
    next t v u spos =>
      simp only [Bool.and_eq_true] at h
      obtain ⟨⟨⟨h1, h2⟩, h3⟩, h4⟩ := h
      exact PS.weak (ps_for g.own g.calm (snI it g.toGX t v h3) (pg_ofL g h1) (snSs b g u h4) (notSet_ok h2)) fun D σ H q => for_read q
    next => cases h
  | .raiseS k, X, E, g, x, h => by
    unfold chkS at h
    split at h
    next s p m j p2 pos pos2 =>
      simp only [Bool.and_eq_true, decide_eq_true_eq] at h
      exact PS.weak (g.rs k s m p p2 pos pos2 j h.1 (glB_ok h.2)) fun D σ H q => raise_read q
    next => cases h
  | .pass, X, E, g, x, h => by
    unfold chkS at h
    split at h
    next spos => exact PS.weak ps_pass fun D σ H q => nx_read (fun _ _ => rfl) q
    next => cases h
  | .brk, X, E, g, x, h => by
    unfold chkS at h
    split at h
    next spos => exact PS.weak ps_break fun D σ H q => brk_read q
    next => cases h
  | .cnt, X, E, g, x, h => by
    unfold chkS at h
    split at h
    next spos => exact PS.weak ps_continue fun D σ H q => cnt_read q
    next => cases h
  | .never, X, E, g, x, h => PS.weak ps_never fun D σ H q => never_read q
theorem snSs : ∀ (s : Ss) {X : Cx} {E : XK} (g : GS X T E cls pg n) (xs : List Stmt), chkSs X.N pg s X.env.scope xs = true → PSs X xs (tSs X.K T E cls (cal pg n) wl s)
  | .nil, X, E, g, xs, h => by
    unfold chkSs at h
    cases xs with
    | nil => exact PSs.weak pss_nil fun D σ H q => nil_read q
    | cons y ys => cases h
  | .cons s r, X, E, g, xs, h => by
    unfold chkSs at h
    cases xs with
    | nil => cases h
    | cons y ys =>
      simp only [Bool.and_eq_true] at h
      exact PSs.weak (pss_cons (snS s g y h.1) (snSs r g ys h.2)) fun D σ H q => seq_read q
end
end
end PI
namespace PI
open PySem L2
/-- what the top says of one def -/
structure FFact (K : PySem.W.Frag) (mg : Str → Option Value) (pg : Pg) (f : Fn) : Prop where
  ex : ∃ (a : Addr) (fd : FuncData) (st : Stmt), mg f.name = some (.ref a) ∧ Fun K f.name f.name st a fd ∧ (∀ us : List Value, us.length = f.ps.length → bindArgs fd ⟨us, []⟩ = pure (f.ps.zip us)) ∧ FnScope f.N f.ps (defScope st) ∧ chkSs f.N pg f.body (defScope st) (defBody st) = true
/-- what the top says of all -/
structure Top (P : Program) (w : World) (K : PySem.W.Frag) (mg : Str → Option Value) (T : List (Addr × Str)) (cls : Nat → Addr) (pg : Pg) : Prop where
  fn : ∀ f ∈ pg.fns, FFact K mg pg f
  con : ∀ (i : Nat) (x : Str) (d : D), pg.con[i]? = some (x, d) → ∃ v u, mg x = some u ∧ RelV v u ∧ ∀ ρ H, Rel K ρ H d v
  bn : ∀ x ∈ bnames, mg x = none
  cls : pg.cls = []
  dic : ∀ (i : Nat) (x : Str) (kvs : List (Str × D)), pg.dic[i]? = some (x, kvs) → DicAt P w K mg x kvs
theorem rel_start {K : PySem.W.Frag} {ρ : List Addr} {H : Hp} : ∀ {ds : List D} {vs : List V}, RelAll K ρ H ds vs → ∀ (n i : Nat) (d : D), (ds.map some ++ List.replicate n none)[i]? = some (some d) → ∃ v, (vs.map some ++ List.replicate n none)[i]? = some (some v) ∧ Rel K ρ H d v
  | [], [], .nil, n, i, d, h => by
    simp only [List.map_nil, List.nil_append, List.getElem?_replicate] at h
    split at h <;> cases h
  | x :: ds, v :: vs, .cons r q, n, i, d, h => by
    cases i with
    | zero =>
      have e : some (some x) = some (some d) := h
      cases e
      exact ⟨v, rfl, r⟩
    | succ i =>
      have e : (ds.map some ++ List.replicate n none)[i]? = some (some d) := h
      exact rel_start q n i d e
theorem fr_start {K : PySem.W.Frag} {ρ : List Addr} {H : Hp} {f : Fn} {ds : List D} {vs : List V} (l : RelAll K ρ H ds vs) : FrRel K ρ H (start0 f ds) (L2.start f.N vs) := by
  have hl := l.length
  refine ⟨by unfold start0 L2.start; simp [hl], fun i d h => ?_⟩
  unfold start0 at h
  unfold L2.start
  rw [← hl]
  exact rel_start l _ i d h
section
variable {P : Program} {w : World} {K : PySem.W.Frag} {mg : Str → Option Value} {base : Heap} {T : List (Addr × Str)} {cls : Nat → Addr} {pg : Pg}
theorem gf_all (t : Top P w K mg T cls pg) : ∀ n, GF P w K mg base T cls pg n
  | 0 => ⟨fun i f hf => by
      obtain ⟨a, fd, st, hm, F, hb, S, hc⟩ := (t.fn f (List.mem_of_getElem? hf)).ex
      refine ⟨a, fd, hm, F.kp, .all hb, ⟨fun vs H Q E h => ?_, fun A outer s H args us vs Q E hr he hb hv h => ?_⟩⟩
      · obtain ⟨ρ, h, ds, r, l, p⟩ := h
        exact (p : False).elim
      · obtain ⟨ρ, h, ds, r, l, p⟩ := h
        exact (p : False).elim, t.con, t.bn, t.dic⟩
  | n + 1 => ⟨fun i f hf => by
      obtain ⟨a, fd, st, hm, F, hb, S, hc⟩ := (t.fn f (List.mem_of_getElem? hf)).ex
      refine ⟨a, fd, hm, F.kp, .all hb, ?_⟩
      have key : ∀ {ds : List D} {h : Hs}, callI pg (n + 1) i ds h = if ds.length = f.ps.length then outR (evSs (cal pg n) pg.wl f.body (start0 f ds) h) else .no := fun {ds h} => by
        unfold callI
        rw [hf]
        rfl
      obtain ⟨oc, od, kV, doc, pm, an, cdv, ct, osl, rfl, lk, hcd⟩ := F.ex
      refine fn_of lk hcd S (fun vs H Q E h => ?_) fun A outer s H vs Q E hr h => ?_
      · obtain ⟨ρ, h, ds, r, l, p⟩ := h
        rw [key] at p
        split at p
        case isTrue hl => rw [← l.length, hl]
        case isFalse => exact (p : False).elim
      · refine ⟨tSs K T E cls (cal pg n) pg.wl f.body, ?_, ?_⟩
        · have g : GS (cxOf (L2N.CX P w) P w K mg base f.N f.name (defScope st) a cdv A outer s H E) T E cls pg n :=
            { gf := gf_all t n, room := hr, nd := S.nd, calm := rfl, pass := L2N.passes_call (L2N.takes_of rfl rfl rfl rfl) (fun _ _ _ _ h => h), own := L2.passes_of rfl, fnc := fun _ => rfl, kind := S.kind, rs := fun k s m p p2 pos pos2 j hk => by rw [t.cls] at hk; cases hk }
          exact snSs f.body g (defBody st) hc
        · obtain ⟨ρ, h, ds, r, l, p⟩ := h
          rw [key] at p
          split at p
          case isTrue hl =>
            refine ⟨ρ, h, start0 f ds, r, fr_start l, ?_⟩
            cases he : evSs (cal pg n) pg.wl f.body (start0 f ds) h with
            | no => rw [he] at p; exact (p : False).elim
            | ex k h1 => rw [he] at p; exact p
            | ok o h1 =>
              rw [he] at p
              intro ρ1 H1 e1
              cases o with
              | nx δ => exact fun σ' f' => p ρ1 H1 e1 _ .non
              | rt d => exact fun v q => p ρ1 H1 e1 v q
              | bk δ => exact (p : False).elim
              | ct δ => exact (p : False).elim
          case isFalse => exact (p : False).elim, t.con, t.bn, t.dic⟩
end
def spLaw (K : PySem.W.Frag) : Sp := fun vs H Q _ => ∃ (a : Addr) (ns : List Int), vs = [.ref a] ∧ ns.length ≤ 63 ∧ SqL K H a (ns.map V.int) ∧ ∀ H', Q (.bl true) H'
end PI
namespace PI
open PySem L2
/-! ### the laws' own helpers -/
def fDrawn : Fn := ⟨"_law_drawn", ["_law_cell_here", "_law_k"], ["_law_cell_here", "_law_k", "_law_more"], (.cons (.set 2 (.bin .mod (.bin .add (.bin .mul (.var 0) (.con (.int 6364136223846793005))) (.bin .mul (.bin .add (.var 1) (.con (.int 1))) (.con (.int 1442695040888963407)))) (.con (.int 340282366920938463463374607431768211507)))) (.cons (.set 2 (.bin .mod (.bin .mul (.var 2) (.var 2)) (.con (.int 340282366920938463463374607431768211297)))) (.cons (.set 2 (.bin .mul (.bin .mul (.bin .add (.bin .mod (.var 2) (.con (.int 18446744073709551557))) (.con (.int 1))) (.bin .add (.bin .div (.var 2) (.con (.int 18446744073709551557))) (.con (.int 1)))) (.var 2))) (.cons (.ret (.bin .mod (.var 2) (.con (.int 340282366920938463463374607431768211507)))) .nil))))⟩
def fRoll (iD : Nat) : Fn := ⟨"_law_roll", ["_law_dice", "_law_many"], ["_law_dice", "_law_many", "_law_told"], (.cons (.ifS (.of (.cmp .ge (.ix (.var 0) (.con (.int 0))) (.bin .pow (.con (.int 10)) (.con (.int 18))))) (.cons (.set 2 (.bin .mod (.ix (.var 0) (.con (.int 0))) (.var 1))) (.cons (.setix (.var 0) (.con (.int 0)) (.bin .div (.ix (.var 0) (.con (.int 0))) (.var 1))) (.cons (.ret (.var 2)) .nil))) .nil) (.cons (.setix (.var 0) (.con (.int 1)) (.bin .add (.ix (.var 0) (.con (.int 1))) (.con (.int 1)))) (.cons (.ret (.bin .mod (.bin .div (.call iD (.cons (.ix (.var 0) (.con (.int 0))) (.cons (.ix (.var 0) (.con (.int 1))) .nil))) (.con (.int 8))) (.var 1))) .nil)))⟩
def fCell : Fn := ⟨"_law_cell", ["_law_script", "_law_k"], ["_law_script", "_law_k"], (.cons (.ifS (.of (.cmp .eq (.var 0) (.newL (.lit .nil)))) (.cons (.ret (.bin .mul (.var 1) (.con (.int 7919)))) .nil) .nil) (.cons (.ret (.bin .add (.ix (.var 0) (.bin .mod (.var 1) (.bi .len (.cons (.var 0) .nil)))) (.bin .mul (.bin .div (.var 1) (.bi .len (.cons (.var 0) .nil))) (.con (.int 104729))))) .nil))⟩
def fRounds (iC : Nat) : Fn := ⟨"_law_rounds", ["_law_script", "_law_most"], ["_law_script", "_law_most", "_law_k"], (.cons (.ret (.newL (.compU (.one 2) (.range1 (.bi .max2 (.cons (.con (.int 1)) (.cons (.bi .min2 (.cons (.var 1) (.cons (.bi .len (.cons (.var 0) .nil)) .nil))) .nil)))) [2] (.newL (.lit (.cons (.call iC (.cons (.var 0) (.cons (.var 2) .nil))) (.cons (.con (.int 0)) .nil))))))) .nil)⟩
/-! ### step by step -/
section
variable {c : Cal} {wl : Nat} {δ : Fr} {h h1 h2 : Hs}
theorem ev_var {i : Nat} {d : D} (e : δ[i]? = some (some d)) : evE c (.var i) δ h = .ok d h := by
  unfold evE
  rw [e]
theorem ev_con {d : D} : evE c (.con d) δ h = .ok d h := rfl
theorem ev_bin {op : BO} {a b : PI.E} {x y : D} {r : R D} (ea : evE c a δ h = .ok x h1) (eb : evE c b δ h1 = .ok y h2) (e : binD op x y h2 = r) : evE c (.bin op a b) δ h = r := by
  show (evE c a δ h).bind (fun x h1 => (evE c b δ h1).bind fun y h2 => binD op x y h2) = r
  rw [ea]
  show (evE c b δ h1).bind (fun y h2 => binD op x y h2) = r
  rw [eb]
  exact e
theorem ev_cmp {op : CO} {a b : PI.E} {x y : D} {r : R D} (ea : evE c a δ h = .ok x h1) (eb : evE c b δ h1 = .ok y h2) (e : cmpD op x y h2 = r) : evE c (.cmp op a b) δ h = r := by
  show (evE c a δ h).bind (fun x h1 => (evE c b δ h1).bind fun y h2 => cmpD op x y h2) = r
  rw [ea]
  show (evE c b δ h1).bind (fun y h2 => cmpD op x y h2) = r
  rw [eb]
  exact e
theorem ev_ix {a b : PI.E} {x y : D} {r : R D} (ea : evE c a δ h = .ok x h1) (eb : evE c b δ h1 = .ok y h2) (e : ixD x y h2 = r) : evE c (.ix a b) δ h = r := by
  show (evE c a δ h).bind (fun x h1 => (evE c b δ h1).bind fun y h2 => ixD x y h2) = r
  rw [ea]
  show (evE c b δ h1).bind (fun y h2 => ixD x y h2) = r
  rw [eb]
  exact e
theorem ev_nil : evEs c .nil δ h = .ok [] h := rfl
theorem ev_cons {a : PI.E} {es : Es} {x : D} {xs : List D} (ea : evE c a δ h = .ok x h1) (eb : evEs c es δ h1 = .ok xs h2) : evEs c (.cons a es) δ h = .ok (x :: xs) h2 := by
  show (evE c a δ h).bind (fun x h1 => (evEs c es δ h1).bind fun xs h2 => .ok (x :: xs) h2) = _
  rw [ea]
  show (evEs c es δ h1).bind (fun xs h2 => .ok (x :: xs) h2) = _
  rw [eb]
  rfl
theorem ev_call {i : Nat} {es : Es} {xs : List D} {r : R D} (ea : evEs c es δ h = .ok xs h1) (e : c.fn i xs h1 = r) : evE c (.call i es) δ h = r := by
  show (evEs c es δ h).bind (fun xs h1 => c.fn i xs h1) = r
  rw [ea]
  exact e
theorem ev_bi {b : Bi} {es : Es} {xs : List D} {r : R D} (ea : evEs c es δ h = .ok xs h1) (e : biD b xs h1 = r) : evE c (.bi b es) δ h = r := by
  show (evEs c es δ h).bind (fun xs h1 => biD b xs h1) = r
  rw [ea]
  exact e
theorem ev_lit {es : Es} {xs : List D} (ea : evEs c es δ h = .ok xs h1) (hl : xs.length ≤ LIM) : evE c (.newL (.lit es)) δ h = .ok (.ref h1.length) (h1 ++ [.lst xs]) := by
  show ((evEs c es δ h).bind litR).bind newR = _
  rw [ea]
  show (litR xs h1).bind newR = _
  unfold litR
  rw [if_pos hl]
  rfl
theorem ev_newL {l : PI.L} {xs : List D} (ea : evL c l δ h = .ok xs h1) : evE c (.newL l) δ h = .ok (.ref h1.length) (h1 ++ [.lst xs]) := by
  show (evL c l δ h).bind newR = _
  rw [ea]
  rfl
theorem ei_range1 {a : PI.E} {x : D} (ea : evE c a δ h = .ok x h1) : evI c (.range1 a) δ h = rng1 x h1 := by
  show (evE c a δ h).bind rng1 = _
  rw [ea]
  rfl
theorem el_compU {tg : Tg} {it : PI.I} {own : List Nat} {el : PI.E} {J : IT} (ea : evI c it δ h = .ok J h1) : evL c (.compU tg it own el) δ h = loopR (fun x h2 => bindK (fun δ' h2 => (evE c el δ' h2).bind someR) (bindTg tg x (wipeF δ own)) h2) J h1 := by
  show (evI c it δ h).bind (fun J h1 => loopR _ J h1) = _
  rw [ea]
  rfl
theorem et_of {a : PI.E} {x : D} {b : Bool} (ea : evE c a δ h = .ok x h1) (e : truD x h1 = some b) : evT c (.of a) δ h = .ok b h1 := by
  show (evE c a δ h).bind truR = _
  rw [ea]
  show truR x h1 = _
  unfold truR
  rw [e]
theorem es_set {i : Nat} {e : PI.E} {x : D} (ea : evE c e δ h = .ok x h1) (hi : i < δ.length) : evS c wl (.set i e) δ h = .ok (.nx (δ.set i (some x))) h1 := by
  show (evE c e δ h).bind (fun x h1 => setF δ i x h1) = _
  rw [ea]
  exact if_pos hi
theorem es_if {t : PI.T} {a b : Ss} {k : Bool} {r : R Out} (ea : evT c t δ h = .ok k h1) (e : (if k = true then evSs c wl a δ h1 else evSs c wl b δ h1) = r) : evS c wl (.ifS t a b) δ h = r := by
  show (evT c t δ h).bind (fun x h1 => iteK (fun h1 => evSs c wl a δ h1) (fun h1 => evSs c wl b δ h1) x h1) = r
  rw [ea]
  cases k with
  | true => exact e
  | false => exact e
theorem ess_cons {s : Sx} {r : Ss} {δ1 : Fr} {q : R Out} (ea : evS c wl s δ h = .ok (.nx δ1) h1) (e : evSs c wl r δ1 h1 = q) : evSs c wl (.cons s r) δ h = q := by
  show (evS c wl s δ h).bind (thenR fun δ h => evSs c wl r δ h) = q
  rw [ea]
  exact e
theorem ess_out {s : Sx} {r : Ss} {d : D} (ea : evS c wl s δ h = .ok (.rt d) h1) : evSs c wl (.cons s r) δ h = .ok (.rt d) h1 := by
  show (evS c wl s δ h).bind (thenR fun δ h => evSs c wl r δ h) = _
  rw [ea]
  rfl
theorem es_ret {e : PI.E} {d : D} (ea : evE c e δ h = .ok d h1) : evS c wl (.ret e) δ h = .ok (.rt d) h1 := by
  show (evE c e δ h).bind retR = _
  rw [ea]
  rfl
theorem es_setix {o i e : PI.E} {v x y : D} {h3 : Hs} {r : R Out} (ea : evE c e δ h = .ok v h1) (eb : evE c o δ h1 = .ok x h2) (ec : evE c i δ h2 = .ok y h3) (er : setixR δ v x y h3 = r) : evS c wl (.setix o i e) δ h = r := by
  show (evE c e δ h).bind (fun v h1 => (evE c o δ h1).bind fun x h2 => (evE c i δ h2).bind fun y h3 => setixR δ v x y h3) = r
  rw [ea]
  show (evE c o δ h1).bind (fun x h2 => (evE c i δ h2).bind fun y h3 => setixR δ v x y h3) = r
  rw [eb]
  show (evE c i δ h2).bind (fun y h3 => setixR δ v x y h3) = r
  rw [ec]
  exact er
theorem bin_add {i j : Int} : binD .add (.int i) (.int j) h = .ok (.int (i + j)) h := rfl
theorem bin_sub {i j : Int} : binD .sub (.int i) (.int j) h = .ok (.int (i - j)) h := rfl
theorem bin_mul {i j : Int} (m : mulOk i j = true) : binD .mul (.int i) (.int j) h = .ok (.int (i * j)) h := if_pos m
theorem bin_mod {i j : Int} (m : 0 < j) : binD .mod (.int i) (.int j) h = .ok (.int (i % j)) h := if_pos m
theorem bin_div {i j : Int} (m : 0 < j) (k : j.natAbs.log2 < 9000) : binD .div (.int i) (.int j) h = .ok (.int (i / j)) h := if_pos ⟨m, k⟩
end
theorem log2_lt {n k : Nat} (h : n < 2 ^ k) (hk : 0 < k) : n.log2 < k := by
  by_cases e : n = 0
  · subst e
    rw [Nat.log2_zero]
    exact hk
  · exact (Nat.log2_lt e).mpr h
theorem mulOk_of {i j : Int} (hi : 0 ≤ i) (hi2 : i < 2 ^ 300) (hj : 0 ≤ j) (hj2 : j < 2 ^ 300) : mulOk i j = true := by
  unfold mulOk
  have a : i.natAbs.log2 < 300 := log2_lt (by omega) (by decide)
  have b : j.natAbs.log2 < 300 := log2_lt (by omega) (by decide)
  have c : i.natAbs.log2 + j.natAbs.log2 < 1000000 := by omega
  simp [c]
theorem mulOk_r {i j : Int} (hj : -(2 ^ 64) < j) (hj2 : j < 2 ^ 64) : mulOk i j = true := by
  unfold mulOk
  rw [show decide (-(2 ^ 64) < j) = true from decide_eq_true hj, show decide (j < 2 ^ 64) = true from decide_eq_true hj2]
  simp
section
variable {pg : Pg}
theorem callI_of {i n : Nat} {f : Fn} {ds : List D} {h : Hs} (hf : pg.fns[i]? = some f) (hl : ds.length = f.ps.length) : callI pg (n + 1) i ds h = outR (evSs (cal pg n) pg.wl f.body (start0 f ds) h) := by
  show (match pg.fns[i]? with | none => R.no | some f => if ds.length = f.ps.length then outR (evSs (cal pg n) pg.wl f.body (start0 f ds) h) else .no) = _
  rw [hf]
  exact if_pos hl
theorem drawn_ok {iD n : Nat} (hD : pg.fns[iD]? = some fDrawn) (a b : Int) (h : Hs) : ∃ r, callI pg (n + 1) iD [.int a, .int b] h = .ok (.int r) h := by
  rw [callI_of hD rfl]
  have e : start0 fDrawn [.int a, .int b] = [some (.int a), some (.int b), none] := rfl
  rw [e]
  obtain ⟨x, hx⟩ : ∃ x : Int, x = (a * 6364136223846793005 + (b + 1) * 1442695040888963407) % 340282366920938463463374607431768211507 := ⟨_, rfl⟩
  have x0 : 0 ≤ x := by rw [hx]; exact Int.emod_nonneg _ (by decide)
  have x1 : x < 340282366920938463463374607431768211507 := by rw [hx]; exact Int.emod_lt_of_pos _ (by decide)
  obtain ⟨y, hy⟩ : ∃ y : Int, y = x * x % 340282366920938463463374607431768211297 := ⟨_, rfl⟩
  have y0 : 0 ≤ y := by rw [hy]; exact Int.emod_nonneg _ (by decide)
  have y1 : y < 340282366920938463463374607431768211297 := by rw [hy]; exact Int.emod_lt_of_pos _ (by decide)
  have m1 : mulOk a 6364136223846793005 = true := mulOk_r (by decide) (by decide)
  have m2 : mulOk (b + 1) 1442695040888963407 = true := mulOk_r (by decide) (by decide)
  have m3 : mulOk x x = true := mulOk_of x0 (by omega) x0 (by omega)
  have p0 : 0 ≤ y % 18446744073709551557 := Int.emod_nonneg _ (by decide)
  have p1 : y % 18446744073709551557 < 18446744073709551557 := Int.emod_lt_of_pos _ (by decide)
  have q0 : 0 ≤ y / 18446744073709551557 := Int.ediv_nonneg y0 (by decide)
  have q1 : y / 18446744073709551557 ≤ y := Int.ediv_le_self _ y0
  have m4 : mulOk (y % 18446744073709551557 + 1) (y / 18446744073709551557 + 1) = true := mulOk_of (by omega) (by omega) (by omega) (by omega)
  have d1 : (18446744073709551557 : Int).natAbs.log2 < 9000 := by decide +kernel
  have m5 : mulOk ((y % 18446744073709551557 + 1) * (y / 18446744073709551557 + 1)) y = true := by
    refine mulOk_of (Int.mul_nonneg (by omega) (by omega)) ?_ y0 (by omega)
    have h1 : (y % 18446744073709551557 + 1) * (y / 18446744073709551557 + 1) ≤ 18446744073709551557 * (y / 18446744073709551557 + 1) := Int.mul_le_mul_of_nonneg_right (by omega) (by omega)
    omega
  refine ⟨((y % 18446744073709551557 + 1) * (y / 18446744073709551557 + 1)) * y % 340282366920938463463374607431768211507, ?_⟩
  have s1 := es_set (c := cal pg n) (wl := pg.wl) (h := h) (i := 2) (δ := [some (.int a), some (.int b), none]) (ev_bin (op := .mod) (ev_bin (op := .add) (ev_bin (op := .mul) (ev_var (i := 0) rfl) ev_con (bin_mul m1)) (ev_bin (op := .mul) (ev_bin (op := .add) (ev_var (i := 1) rfl) ev_con bin_add) ev_con (bin_mul m2)) bin_add) ev_con (bin_mod (j := 340282366920938463463374607431768211507) (by decide))) (by simp)
  rw [← hx] at s1
  have s2 := es_set (c := cal pg n) (wl := pg.wl) (h := h) (i := 2) (δ := [some (.int a), some (.int b), some (.int x)]) (ev_bin (op := .mod) (ev_bin (op := .mul) (ev_var (i := 2) rfl) (ev_var (i := 2) rfl) (bin_mul m3)) ev_con (bin_mod (j := 340282366920938463463374607431768211297) (by decide))) (by simp)
  rw [← hy] at s2
  have s3 := es_set (c := cal pg n) (wl := pg.wl) (h := h) (i := 2) (δ := [some (.int a), some (.int b), some (.int y)]) (ev_bin (op := .mul) (ev_bin (op := .mul) (ev_bin (op := .add) (ev_bin (op := .mod) (ev_var (i := 2) rfl) ev_con (bin_mod (j := 18446744073709551557) (by decide))) (ev_con (d := .int 1)) bin_add) (ev_bin (op := .add) (ev_bin (op := .div) (ev_var (i := 2) rfl) ev_con (bin_div (j := 18446744073709551557) (by decide) d1)) (ev_con (d := .int 1)) bin_add) (bin_mul m4)) (ev_var (i := 2) rfl) (bin_mul m5)) (by simp)
  have s4 := es_ret (c := cal pg n) (wl := pg.wl) (h := h) (δ := [some (.int a), some (.int b), some (.int ((y % 18446744073709551557 + 1) * (y / 18446744073709551557 + 1) * y))]) (ev_bin (op := .mod) (ev_var (i := 2) rfl) ev_con (bin_mod (j := 340282366920938463463374607431768211507) (by decide)))
  show outR (evSs (cal pg n) pg.wl (.cons _ (.cons _ (.cons _ (.cons _ .nil)))) _ h) = _
  rw [ess_cons s1 (ess_cons s2 (ess_cons s3 (ess_out s4)))]
  rfl
theorem ix_ref {h : Hs} {k : Nat} {xs : List D} {i : Int} {d : D} (hk : h[k]? = some (.lst xs)) (e : atI xs i = some d) : ixD (.ref k) (.int i) h = .ok d h := by
  show ixQ (match h[k]? with | some (.lst xs) => some xs | _ => none) i h = _
  rw [hk]
  show (match atI xs i with | some d => R.ok d h | none => .no) = _
  rw [e]
theorem setix_ref {h : Hs} {k : Nat} {xs : List D} {i : Int} {j : Nat} {v : D} {δ : Fr} (hk : h[k]? = some (.lst xs)) (e : ixN xs.length i = some j) : setixR δ v (.ref k) (.int i) h = .ok (.nx δ) (h.set k (.lst (xs.set j v))) := by
  have q : lstD h (.ref k) = some (k, xs) := by
    show (match h[k]? with | some (.lst xs) => some (k, xs) | _ => none) = _
    rw [hk]
  unfold setixR
  rw [q]
  show (match ixN xs.length i with | some j => nxR δ (h.set k (.lst (xs.set j v))) | none => .no) = _
  rw [e]
  rfl
theorem set_at {h : Hs} {k : Nat} {o p : O} (hk : h[k]? = some o) : (h.set k p)[k]? = some p := by
  have : k < h.length := (List.getElem?_eq_some_iff.mp hk).1
  simp [this]
theorem roll_ok {iD iR n : Nat} (hD : pg.fns[iD]? = some fDrawn) (hR : pg.fns[iR]? = some (fRoll iD)) (a b m : Int) (h : Hs) (k : Nat) (hk : h[k]? = some (.lst [.int a, .int b])) (hm : 0 < m) (hl : m.natAbs.log2 < 9000) :
    ∃ r a' b', 0 ≤ r ∧ r < m ∧ callI pg (n + 2) iR [.ref k, .int m] h = .ok (.int r) (h.set k (.lst [.int a', .int b'])) := by
  rw [callI_of hR rfl]
  have e0 : start0 (fRoll iD) [.ref k, .int m] = [some (.ref k), some (.int m), none] := rfl
  rw [e0]
  have at0 : ∀ (δ : Fr) (u : Int), δ[0]? = some (some (.ref k)) → ∀ {c : Cal} {g : Hs} {v : Int}, g[k]? = some (.lst [.int u, .int v]) → evE c (.ix (.var 0) (.con (.int 0))) δ g = .ok (.int u) g := fun δ u hδ {c g v} hg => ev_ix (ev_var hδ) ev_con (ix_ref hg rfl)
  have at1 : ∀ (δ : Fr) (u : Int), δ[0]? = some (some (.ref k)) → ∀ {c : Cal} {g : Hs} {v : Int}, g[k]? = some (.lst [.int u, .int v]) → evE c (.ix (.var 0) (.con (.int 1))) δ g = .ok (.int v) g := fun δ u hδ {c g v} hg => ev_ix (ev_var hδ) ev_con (ix_ref hg rfl)
  have test : ∀ {c : Cal}, evT c (.of (.cmp .ge (.ix (.var 0) (.con (.int 0))) (.bin .pow (.con (.int 10)) (.con (.int 18))))) [some (.ref k), some (.int m), none] h = .ok (decide ((1000000000000000000 : Int) ≤ a)) h := fun {c} =>
    et_of (x := .bl (decide ((1000000000000000000 : Int) ≤ a))) (ev_cmp (at0 _ a rfl hk) (ev_bin (r := .ok (.int 1000000000000000000) h) ev_con ev_con rfl) rfl) rfl
  by_cases ca : (1000000000000000000 : Int) ≤ a
  · refine ⟨a % m, a / m, b, Int.emod_nonneg _ (by omega), Int.emod_lt_of_pos _ hm, ?_⟩
    have s1 := es_set (c := cal pg (n + 1)) (wl := pg.wl) (h := h) (i := 2) (δ := [some (.ref k), some (.int m), none]) (ev_bin (op := .mod) (at0 _ a rfl hk) (ev_var (i := 1) rfl) (bin_mod hm)) (by simp)
    have s2 := es_setix (c := cal pg (n + 1)) (wl := pg.wl) (h := h) (δ := [some (.ref k), some (.int m), some (.int (a % m))]) (o := .var 0) (i := .con (.int 0)) (ev_bin (op := .div) (at0 _ a rfl hk) (ev_var (i := 1) rfl) (bin_div hm hl)) (ev_var rfl) ev_con (setix_ref hk (j := 0) rfl)
    have s3 := es_ret (c := cal pg (n + 1)) (wl := pg.wl) (h := h.set k (.lst [.int (a / m), .int b])) (δ := [some (.ref k), some (.int m), some (.int (a % m))]) (ev_var (i := 2) rfl)
    have body := ess_cons s1 (ess_cons s2 (ess_out (r := .nil) s3))
    have full := ess_out (r := .cons (.setix (.var 0) (.con (.int 1)) (.bin .add (.ix (.var 0) (.con (.int 1))) (.con (.int 1)))) (.cons (.ret (.bin .mod (.bin .div (.call iD (.cons (.ix (.var 0) (.con (.int 0))) (.cons (.ix (.var 0) (.con (.int 1))) .nil))) (.con (.int 8))) (.var 1))) .nil)) (es_if (b := .nil) (test (c := cal pg (n + 1))) (by rw [decide_eq_true ca, if_pos rfl]; exact body))
    exact (congrArg outR full).trans rfl
  · obtain ⟨r, hr⟩ := drawn_ok (n := n) hD a (b + 1) (h.set k (.lst [.int a, .int (b + 1)]))
    refine ⟨r / 8 % m, a, b + 1, Int.emod_nonneg _ (by omega), Int.emod_lt_of_pos _ hm, ?_⟩
    have hk2 : (h.set k (.lst [.int a, .int (b + 1)]))[k]? = some (.lst [.int a, .int (b + 1)]) := set_at hk
    have s0 := es_if (wl := pg.wl) (a := .cons (.set 2 (.bin .mod (.ix (.var 0) (.con (.int 0))) (.var 1))) (.cons (.setix (.var 0) (.con (.int 0)) (.bin .div (.ix (.var 0) (.con (.int 0))) (.var 1))) (.cons (.ret (.var 2)) .nil))) (b := .nil) (r := .ok (.nx [some (.ref k), some (.int m), none]) h) (test (c := cal pg (n + 1))) (by rw [decide_eq_false ca, if_neg Bool.false_ne_true]; rfl)
    have s1 := es_setix (c := cal pg (n + 1)) (wl := pg.wl) (h := h) (δ := [some (.ref k), some (.int m), none]) (o := .var 0) (i := .con (.int 1)) (ev_bin (op := .add) (at1 _ a rfl hk) (ev_con (d := .int 1)) bin_add) (ev_var rfl) ev_con (setix_ref hk (j := 1) rfl)
    have s2 := es_ret (c := cal pg (n + 1)) (wl := pg.wl) (h := h.set k (.lst [.int a, .int (b + 1)])) (δ := [some (.ref k), some (.int m), none]) (ev_bin (op := .mod) (ev_bin (op := .div) (ev_call (ev_cons (at0 _ a rfl hk2) (ev_cons (at1 _ a rfl hk2) ev_nil)) hr) (ev_con (d := .int 8)) (bin_div (by decide) (by decide))) (ev_var (i := 1) rfl) (bin_mod hm))
    exact (congrArg outR (ess_cons s0 (ess_cons s1 (ess_out (r := .nil) s2)))).trans rfl
theorem pyL_ints (h : Hs) (k : Nat) : ∀ ns : List Int, D.pyL h k (ns.map D.int) = some (ns.map PyData.int)
  | [] => rfl
  | n :: r => by
    show (match D.py h k (.int n) with | some a => (D.pyL h k (r.map D.int)).map (a :: ·) | none => none) = _
    rw [pyL_ints h k r]
    rfl
theorem can_ints : ∀ ns : List Int, PyData.canLayAll0 (ns.map PyData.int) = true
  | [] => rfl
  | n :: r => by
    show (PyData.canLay0 (.int n) && PyData.canLayAll0 (r.map PyData.int)) = true
    rw [can_ints r]
    rfl
theorem depth_ints : ∀ ns : List Int, PyData.depthAll (ns.map PyData.int) ≤ 1
  | [] => by simp [PyData.depthAll]
  | n :: r => by
    have := depth_ints r
    simp only [List.map_cons, PyData.depthAll, PyData.depth]
    omega
theorem shaped_ints (ns : List Int) : SeqAt.shaped (.list (ns.map PyData.int)) = true := by
  have := depth_ints ns
  have a : (PyData.list (ns.map PyData.int)).canLay0 = true := can_ints ns
  have b : (PyData.list (ns.map PyData.int)).depth ≤ 64 := by
    show PyData.depthAll (ns.map PyData.int) + 1 ≤ 64
    omega
  show ((PyData.list (ns.map PyData.int)).canLay0 && decide ((PyData.list (ns.map PyData.int)).depth ≤ 64)) = true
  rw [a, decide_eq_true b]
  rfl
theorem eq_empty (ns : List Int) (h : Hs) : eqD (.frz (ns.map D.int)) (.ref h.length) (h ++ [.lst []]) = some ns.isEmpty := by
  have a : D.py1 (h ++ [.lst []]) (.frz (ns.map D.int)) = some (.list (ns.map PyData.int)) := by
    show (D.pyL (h ++ [O.lst []]) 0 (ns.map D.int)).map PyData.list = _
    rw [pyL_ints]
    rfl
  have b : D.py1 (h ++ [.lst []]) (.ref h.length) = some (.list []) := by
    show (match (h ++ [O.lst []])[h.length]? with | some (.lst xs) => (D.pyL (h ++ [O.lst []]) 0 xs).map PyData.list | _ => none) = _
    rw [show (h ++ [O.lst []])[h.length]? = some (.lst []) by simp]
    rfl
  unfold eqD
  rw [a, b]
  show (if (SeqAt.shaped (.list (ns.map PyData.int)) && SeqAt.shaped (.list [])) = true then some (PyData.eqv (.list (ns.map PyData.int)) (.list [])) else none) = _
  rw [shaped_ints, show SeqAt.shaped (.list []) = true from shaped_ints []]
  cases ns with
  | nil => rfl
  | cons x r => rfl
theorem ix_frz {h : Hs} {xs : List D} {i : Int} {d : D} (e : atI xs i = some d) : ixD (.frz xs) (.int i) h = .ok d h := by
  show (match atI xs i with | some d => R.ok d h | none => .no) = _
  rw [e]
theorem cell_ok {iC n : Nat} (hC : pg.fns[iC]? = some fCell) (ns : List Int) (hn : ns.length ≤ 63) (k : Nat) (h : Hs) : ∃ c, callI pg (n + 1) iC [.frz (ns.map D.int), .int k] h = .ok (.int c) (h ++ [.lst []]) := by
  rw [callI_of hC rfl]
  have e0 : start0 fCell [.frz (ns.map D.int), .int k] = [some (.frz (ns.map D.int)), some (.int k)] := rfl
  rw [e0]
  have test : evT (cal pg n) (.of (.cmp .eq (.var 0) (.newL (.lit .nil)))) [some (.frz (ns.map D.int)), some (.int k)] h = .ok ns.isEmpty (h ++ [.lst []]) :=
    et_of (x := .bl ns.isEmpty) (ev_cmp (ev_var rfl) (ev_lit ev_nil (Nat.zero_le _)) (by show R.ofB (eqD _ _ _) _ = _; rw [eq_empty]; rfl)) rfl
  cases ns with
  | nil =>
    refine ⟨k * 7919, ?_⟩
    have s1 := es_ret (c := cal pg n) (wl := pg.wl) (h := h ++ [.lst []]) (δ := [some (.frz (([] : List Int).map D.int)), some (.int k)]) (ev_bin (op := .mul) (ev_var (i := 1) rfl) (ev_con (d := .int 7919)) (bin_mul (mulOk_r (by decide) (by decide))))
    have s2 := es_if (b := .nil) (r := .ok (.rt (.int (k * 7919))) (h ++ [.lst []])) test (by rw [show (([] : List Int).isEmpty) = true from rfl, if_pos rfl]; exact ess_out (r := .nil) s1)
    exact (congrArg outR (ess_out s2)).trans rfl
  | cons x r =>
    obtain ⟨z, hz⟩ : ∃ z : List Int, z = x :: r := ⟨_, rfl⟩
    rw [← hz] at hn test ⊢
    have z0 : 0 < z.length := by rw [hz]; simp
    have ln : ∀ {c : Cal} {g : Hs}, evE c (.bi .len (.cons (.var 0) .nil)) [some (.frz (z.map D.int)), some (.int k)] g = .ok (.int z.length) g := fun {c g} => ev_bi (ev_cons (ev_var rfl) ev_nil) (by
      show (match (some (z.map D.int)).map List.length with | some n => R.ok (D.int n) g | none => R.no) = _
      simp)
    have lp : (0 : Int) < (z.length : Int) := by omega
    have md0 := Int.emod_nonneg (k : Int) (show (z.length : Int) ≠ 0 by omega)
    have md1 := Int.emod_lt_of_pos (k : Int) lp
    obtain ⟨j, hj⟩ : ∃ j : Nat, (j : Int) = (k : Int) % (z.length : Int) := ⟨((k : Int) % (z.length : Int)).toNat, by omega⟩
    have jl : j < z.length := by omega
    have at' : atI (z.map D.int) ((k : Int) % (z.length : Int)) = some (.int z[j]) := by
      unfold atI ixN
      rw [← hj, if_pos (by omega), if_pos (by simpa using jl)]
      simp [jl]
    have dv : (z.length : Int).natAbs.log2 < 9000 := Nat.lt_of_lt_of_le (log2_lt (k := 6) (by omega) (by decide)) (by decide)
    refine ⟨z[j] + k / z.length * 104729, ?_⟩
    have s1 := es_ret (c := cal pg n) (wl := pg.wl) (h := h ++ [.lst []]) (δ := [some (.frz (z.map D.int)), some (.int k)]) (ev_bin (op := .add) (ev_ix (ev_var (i := 0) rfl) (ev_bin (op := .mod) (ev_var (i := 1) rfl) ln (bin_mod lp)) (ix_frz at'))
      (ev_bin (op := .mul) (ev_bin (op := .div) (ev_var (i := 1) rfl) ln (bin_div lp dv)) (ev_con (d := .int 104729)) (bin_mul (mulOk_r (by decide) (by decide)))) bin_add)
    have s2 := es_if (wl := pg.wl) (a := .cons (.ret (.bin .mul (.var 1) (.con (.int 7919)))) .nil) (b := .nil) (r := .ok (.nx [some (.frz (z.map D.int)), some (.int k)]) (h ++ [.lst []])) test (by rw [show z.isEmpty = false by rw [hz]; rfl, if_neg Bool.false_ne_true]; rfl)
    exact (congrArg outR (ess_cons s2 (ess_out (r := .nil) s1))).trans rfl
/-- the dice that the laws make: new lists of two ints -/
theorem comp_dice {iC n : Nat} (hC : pg.fns[iC]? = some fCell) (ns : List Int) (hn : ns.length ≤ 63) (most : Int) (f : D → Hs → R (Option D))
    (hf : ∀ x h, f x h = bindK (fun δ' h2 => (evE (cal pg (n + 1)) (.newL (.lit (.cons (.call iC (.cons (.var 0) (.cons (.var 2) .nil))) (.cons (.con (.int 0)) .nil)))) δ' h2).bind someR) (bindTg (.one 2) x (wipeF [some (.frz (ns.map D.int)), some (.int most), none] [2])) h) :
    ∀ (xs : List Nat) (h : Hs), ∃ (ks : List Nat) (t : Hs), compLoop f (gOk []) (xs.map fun (k : Nat) => D.int k) h = .ok (ks.map D.ref) (h ++ t) ∧ ks.length = xs.length ∧ ks.Pairwise (· < ·) ∧ ∀ k ∈ ks, h.length ≤ k ∧ ∃ c, (h ++ t)[k]? = some (.lst [.int c, .int 0])
  | [], h => ⟨[], [], by simp [compLoop, gOk], rfl, .nil, by simp⟩
  | x :: xs, h => by
    obtain ⟨c, hc⟩ := cell_ok (n := n) hC ns hn x h
    have el : evE (cal pg (n + 1)) (.newL (.lit (.cons (.call iC (.cons (.var 0) (.cons (.var 2) .nil))) (.cons (.con (.int 0)) .nil)))) [some (.frz (ns.map D.int)), some (.int most), some (.int x)] h = .ok (.ref (h ++ [O.lst []]).length) ((h ++ [O.lst []]) ++ [.lst [.int c, .int 0]]) :=
      ev_lit (ev_cons (ev_call (ev_cons (ev_var rfl) (ev_cons (ev_var rfl) ev_nil)) hc) (ev_cons ev_con ev_nil)) (by show 2 ≤ LIM; decide)
    have hx : f (.int x) h = .ok (some (.ref (h ++ [O.lst []]).length)) ((h ++ [O.lst []]) ++ [.lst [.int c, .int 0]]) := by
      rw [hf]
      show (evE (cal pg (n + 1)) _ [some (.frz (ns.map D.int)), some (.int most), some (.int x)] h).bind someR = _
      rw [el]
      rfl
    obtain ⟨ks, t, h1, h2, h3, h4⟩ := comp_dice hC ns hn most f hf xs ((h ++ [O.lst []]) ++ [.lst [.int c, .int 0]])
    refine ⟨(h ++ [O.lst []]).length :: ks, [O.lst []] ++ ([O.lst [.int c, .int 0]] ++ t), ?_, by simp [h2], List.pairwise_cons.mpr ⟨fun k hk => ?_, h3⟩, fun k hk => ?_⟩
    · show (if gOk [] h = true then (match f (.int x) h with | .ok o h1 => (match compLoop f (gOk []) (xs.map fun (k : Nat) => D.int k) h1 with | .ok r h2 => R.ok (match o with | some d => d :: r | none => r) h2 | _ => .no) | _ => .no) else .no) = _
      rw [if_pos (by rfl), hx]
      show (match compLoop f (gOk []) (xs.map fun (k : Nat) => D.int k) ((h ++ [O.lst []]) ++ [.lst [.int c, .int 0]]) with | .ok r h2 => R.ok (D.ref (h ++ [O.lst []]).length :: r) h2 | _ => .no) = _
      rw [h1]
      simp
    · have := (h4 k hk).1
      simp at this ⊢
      omega
    · rcases List.mem_cons.mp hk with e | e
      · subst e
        refine ⟨by simp, c, ?_⟩
        simp
      · obtain ⟨a, c2, b⟩ := h4 k e
        refine ⟨?_, c2, ?_⟩
        · simp at a
          omega
        · rw [← b]
          simp
theorem rounds_ok {iC iR n : Nat} (hC : pg.fns[iC]? = some fCell) (hR : pg.fns[iR]? = some (fRounds iC)) (ns : List Int) (hn : ns.length ≤ 63) (most : Int) (hm : 1 ≤ most) (hm2 : most ≤ 63) (h : Hs) :
    ∃ (ks : List Nat) (t : Hs), callI pg (n + 2) iR [.frz (ns.map D.int), .int most] h = .ok (.ref (h ++ t).length) ((h ++ t) ++ [.lst (ks.map D.ref)]) ∧ ks.Pairwise (· < ·) ∧ ∀ k ∈ ks, h.length ≤ k ∧ ∃ c, (h ++ t)[k]? = some (.lst [.int c, .int 0]) := by
  rw [callI_of hR rfl]
  have e0 : start0 (fRounds iC) [.frz (ns.map D.int), .int most] = [some (.frz (ns.map D.int)), some (.int most), none] := rfl
  rw [e0]
  obtain ⟨v, hv⟩ : ∃ v : Int, v = (if (if (ns.length : Int) < most then (ns.length : Int) else most) > 1 then (if (ns.length : Int) < most then (ns.length : Int) else most) else 1) := ⟨_, rfl⟩
  have bd : 0 ≤ v ∧ v ≤ 63 := by
    by_cases c1 : (ns.length : Int) < most
    · rw [if_pos c1] at hv
      by_cases c2 : (ns.length : Int) > 1
      · rw [if_pos c2] at hv; omega
      · rw [if_neg c2] at hv; omega
    · rw [if_neg c1] at hv
      by_cases c2 : most > 1
      · rw [if_pos c2] at hv; omega
      · rw [if_neg c2] at hv; omega
  obtain ⟨j, hj⟩ : ∃ j : Nat, v = (j : Int) := ⟨v.toNat, by omega⟩
  have jl : j ≤ 63 := by omega
  rw [hj] at hv
  have ln : ∀ {c : Cal} {δ : Fr} {g : Hs}, δ[0]? = some (some (.frz (ns.map D.int))) → evE c (.bi .len (.cons (.var 0) .nil)) δ g = .ok (.int ns.length) g := fun {c δ g} e => ev_bi (ev_cons (ev_var e) ev_nil) (by
    show (match (some (ns.map D.int)).map List.length with | some n => R.ok (D.int n) g | none => R.no) = _
    simp)
  have it : evI (cal pg (n + 1)) (.range1 (.bi .max2 (.cons (.con (.int 1)) (.cons (.bi .min2 (.cons (.var 1) (.cons (.bi .len (.cons (.var 0) .nil)) .nil))) .nil)))) [some (.frz (ns.map D.int)), some (.int most), none] h = .ok ⟨(List.range j).map fun (k : Nat) => D.int k, []⟩ h := by
    have q := ev_bi (c := cal pg (n + 1)) (b := .max2) (h := h) (δ := [some (.frz (ns.map D.int)), some (.int most), none]) (r := .ok (.int j) h) (ev_cons (ev_con (d := .int 1)) (ev_cons (ev_bi (b := .min2) (ev_cons (ev_var (i := 1) rfl) (ev_cons (ln rfl) ev_nil)) rfl) ev_nil)) (by
      show R.ok (D.int (if (if (ns.length : Int) < most then (ns.length : Int) else most) > 1 then (if (ns.length : Int) < most then (ns.length : Int) else most) else 1)) h = _
      rw [← hv])
    rw [ei_range1 q]
    show (if i62 (j : Int) = true then R.ok (IT.mk (rangeD 0 j) []) h else .no) = _
    rw [if_pos (by unfold i62; simp; omega)]
    have : rangeD 0 (j : Int) = (List.range j).map fun (k : Nat) => D.int k := by
      unfold rangeD
      simp
    rw [this]
  obtain ⟨ks, t, h1, h2, h3, h4⟩ := comp_dice (n := n) hC ns hn most (fun x h2 => bindK (fun δ' h2 => (evE (cal pg (n + 1)) (.newL (.lit (.cons (.call iC (.cons (.var 0) (.cons (.var 2) .nil))) (.cons (.con (.int 0)) .nil)))) δ' h2).bind someR) (bindTg (.one 2) x (wipeF [some (.frz (ns.map D.int)), some (.int most), none] [2])) h2) (fun _ _ => rfl) (List.range j) h
  refine ⟨ks, t, ?_, h3, h4⟩
  have el : evL (cal pg (n + 1)) (.compU (.one 2) (.range1 (.bi .max2 (.cons (.con (.int 1)) (.cons (.bi .min2 (.cons (.var 1) (.cons (.bi .len (.cons (.var 0) .nil)) .nil))) .nil)))) [2] (.newL (.lit (.cons (.call iC (.cons (.var 0) (.cons (.var 2) .nil))) (.cons (.con (.int 0)) .nil))))) [some (.frz (ns.map D.int)), some (.int most), none] h = .ok (ks.map D.ref) (h ++ t) := by
    rw [el_compU it]
    show (if ((List.range j).map fun (k : Nat) => D.int k).length < LIM then compLoop _ (gOk []) ((List.range j).map fun (k : Nat) => D.int k) h else .no) = _
    rw [if_pos (by rw [List.length_map, List.length_range]; exact Nat.lt_of_le_of_lt jl (by decide))]
    exact h1
  have s1 := ev_newL el
  exact (congrArg outR (ess_out (r := .nil) (es_ret s1))).trans rfl
end
end PI
namespace PI
open PySem L2
theorem hrel_nil {K : PySem.W.Frag} {H : Hp} : HRel K [] [] [] H := ⟨rfl, List.nodup_nil, fun k o e => by simp at e, fun q hq => by cases hq⟩
/-- all that stood but p stands -/
def KeepB (p : Addr) (H H' : Hp) : Prop := ∀ a o, H a = some o → a ≠ p → (∀ ps, o ≠ .tbl ps) → H' a = some o
def spLawF (K : PySem.W.Frag) : Sp := fun vs H Q _ => ∃ (a : Addr) (ns : List Int), vs = [.ref a] ∧ ns.length ≤ 63 ∧ FrzL K H a (ns.map V.int) ∧ ∀ H', Q (.bl true) H'
theorem frz_only {K : PySem.W.Frag} {H : Hp} {a : Addr} {vs : List V} (o : Only H) (h : SqL K H a vs) : FrzL K H a vs := by
  rcases h with (h | h) | h
  · rcases o a with e | ⟨o, xs, e⟩
    · rw [e] at h; cases h
    · rw [e] at h; cases h
  · exact .inl h
  · exact .inr h
theorem rel_ints' {K : PySem.W.Frag} {ρ : List Addr} {H : Hp} : ∀ ns : List Int, RelAll K ρ H (ns.map D.int) (ns.map V.int)
  | [] => .nil
  | n :: r => .cons (.int n) (rel_ints' r)
theorem rel_refs {K : PySem.W.Frag} {ρ : List Addr} {H : Hp} : ∀ {ks : List Nat} {vs : List V}, RelAll K ρ H (ks.map D.ref) vs → ∀ (i : Nat) (v : V), vs[i]? = some v → ∃ k p, ks[i]? = some k ∧ v = .ref p ∧ ρ[k]? = some p
  | [], [], .nil, i, v, h => by simp at h
  | k :: ks, w :: vs, .cons q r, i, v, h => by
    cases i with
    | zero =>
      have e : w = v := Option.some.inj h
      subst e
      cases q with
      | ref e => exact ⟨k, _, rfl, rfl, e⟩
    | succ i => exact rel_refs r i v h
/-- a law's loop body, its dice at d -/
def BodyOk (X : Cx) (d : Nat) (u : List Stmt) : Prop := ∃ tb : TS, PSs X u tb ∧ ∀ (D : Ends) (σ : L2.St) (H : Hp) (p : Addr) (c : Int), σ.length = X.N.length → σ[d]? = some (some (.ref p)) → H p = some (.lst [.int c, .int 0]) →
  (∀ σ' H', σ'.length = σ.length → KeepB p H H' → D.nx σ' H' ∧ D.ct σ' H') → tb D σ H
section
variable {P : Program} {w : World} {K : PySem.W.Frag} {mg : Str → Option Value} {cls : Nat → Addr} {pg : Pg}
theorem law_fn (t : Top P w K mg [] cls pg) {iC iR n d : Nat} {most : Int} {b : Ss} {N : List Str} (hC : pg.fns[iC]? = some fCell) (hR : pg.fns[iR]? = some (fRounds iC)) (hm : 1 ≤ most) (hm2 : most ≤ 63)
    (F : FFact K mg pg ⟨"law", ["_law_script"], N, .cons (.forS (.one d) (.of (.call iR (.cons (.var 0) (.cons (.con (.int most)) .nil)))) b) (.cons (.ret (.con (.bl true))) .nil)⟩)
    (hb : ∀ (X : Cx) (E : XK), GS X [] E cls pg (n + 2) → X.N = N → ∀ u, chkSs N pg b X.env.scope u = true → BodyOk X d u) :
    ∃ a fd, mg ("law" : Str) = some (.ref a) ∧ (∀ (s : Shared) (u : Value), BindsTo s fd ⟨[u], []⟩ [("_law_script", u)]) ∧ ∀ base : Heap, FnOk P w K mg base (L2N.CX P w) (n + 3) a fd ["_law_script"] (spLawF K) := by
  obtain ⟨a, fd, st, hmg, F, hbd, S, hc⟩ := F.ex
  refine ⟨a, fd, hmg, fun s u => .of_eq (hbd [u] rfl), fun base => ?_⟩
  obtain ⟨oc, od, kV, doc, pm, an, cdv, ct, osl, rfl, lk, hcd⟩ := F.ex
  refine fn_of lk hcd S (fun vs H Q E h => ?_) fun A outer s H vs Q E hr h => ?_
  · obtain ⟨a, ns, rfl, _⟩ := h
    rfl
  · obtain ⟨la, ns, rfl, hl, hS, hQ⟩ := h
    have g : GS (cxOf (L2N.CX P w) P w K mg base N "law" (defScope st) a cdv A outer s H E) [] E cls pg (n + 2) :=
      { gf := gf_all t (n + 2), room := hr, nd := S.nd, calm := rfl, pass := L2N.passes_call (L2N.takes_of rfl rfl rfl rfl) (fun _ _ _ _ h => h), own := L2.passes_of rfl, fnc := fun _ => rfl, kind := S.kind, rs := fun k s m p p2 pos pos2 j hk => by rw [t.cls] at hk; cases hk }
    unfold chkSs at hc
    split at hc
    case h_2 => cases hc
    case h_1 x ys hxs =>
      simp only [Bool.and_eq_true] at hc
      obtain ⟨h1, h2⟩ := hc
      unfold chkS at h1
      split at h1
      case h_2 => cases h1
      case h_1 tg v u spos =>
        simp only [Bool.and_eq_true] at h1
        obtain ⟨⟨⟨a1, a2⟩, a3⟩, a4⟩ := h1
        unfold chkI at a3
        obtain ⟨tb, hP, hT⟩ := hb _ E g rfl u a4
        have dN : d < N.length := by
          obtain ⟨s, p, _, e, _⟩ := tg_one a1
          exact (List.getElem?_eq_some_iff.mp e).1
        have P1 := ps_for (pos := spos) g.own g.calm (pi_list (tg := tg) (snE _ g.toGX v a3)) (pg_ofL g a1) hP (notSet_ok a2)
        have P2 := snSs (wl := pg.wl) _ g ys h2
        refine ⟨_, by rw [hxs]; exact pss_cons P1 P2, ?_⟩
        obtain ⟨ks, tt, r1, r2, r3⟩ := rounds_ok (n := n) hC hR ns hl most hm hm2 []
        have ev : evE (cal pg (n + 2)) (.call iR (.cons (.var 0) (.cons (.con (.int most)) .nil))) (start0 ⟨"law", ["_law_script"], N, .nil⟩ [.frz (ns.map D.int)]) [] = .ok (.ref ([] ++ tt).length) (([] ++ tt) ++ [.lst (ks.map D.ref)]) :=
          ev_call (ev_cons (ev_var rfl) (ev_cons ev_con ev_nil)) r1
        refine ⟨[], [], start0 ⟨"law", ["_law_script"], N, .nil⟩ [.frz (ns.map D.int)], hrel_nil, fr_start (f := ⟨"law", ["_law_script"], N, .nil⟩) (.cons (.frz hS (rel_ints' ns)) .nil), ?_⟩
        rw [ev]
        intro ρ H1 e v hv
        obtain ⟨h', eh⟩ : ∃ h' : Hs, h' = ([] ++ tt) ++ [O.lst (ks.map D.ref)] := ⟨_, rfl⟩
        rw [← eh] at e
        cases hv with
        | ref hL =>
          rename_i L
          have at1 : h'[([] ++ tt).length]? = some (.lst (ks.map D.ref)) := by rw [eh]; simp
          obtain ⟨LL, hL2, vs, hv1, hv2⟩ := e.rel.obj _ _ at1
          have eL : LL = L := by rw [hL] at hL2; exact (Option.some.inj hL2).symm
          subst eL
          have dice : ∀ k ∈ ks, ∃ p c, ρ[k]? = some p ∧ H1 p = some (.lst [V.int c, V.int 0]) := fun k hk => by
            obtain ⟨_, c, hc⟩ := r3 k hk
            have kt : k < ([] ++ tt).length := (List.getElem?_eq_some_iff.mp hc).1
            have at2 : h'[k]? = some (.lst [.int c, .int 0]) := by
              rw [eh, List.getElem?_append_left kt]
              exact hc
            obtain ⟨p, hp, ws, q1, q2⟩ := e.rel.obj _ _ at2
            cases q2 with
            | cons q q2 =>
              cases q
              cases q2 with
              | cons q q2 =>
                cases q
                cases q2
                exact ⟨p, c, hp, q1⟩
          have inj : ∀ {i j : Nat} {p : Addr}, ρ[i]? = some p → ρ[j]? = some p → i = j := fun {i j p} e1 e2 => (List.getElem?_inj (List.getElem?_eq_some_iff.mp e1).1 e.rel.nd).mp (by rw [e1, e2])
          refine ⟨LL, rfl, ⟨vs, SqL.of hv1⟩, ?_⟩
          refine for_list (K := K) (a := LL) (xs := vs) (fun i σ H2 => σ.length = N.length ∧ H2 LL = some (.lst vs) ∧ ∀ j k p, i ≤ j → ks[j]? = some k → ρ[k]? = some p → ∃ c, H2 p = some (.lst [V.int c, V.int 0]))
            ⟨by
              have := S.pre
              have hl := congrArg List.length this
              simp at hl
              unfold L2.start
              simp
              omega, hv1, fun j k p _ hk hp => by
              obtain ⟨p2, c, e2, e3⟩ := dice k (List.mem_of_getElem? hk)
              rw [hp] at e2
              cases e2
              exact ⟨c, e3⟩⟩ (fun i σ H2 _ q => SqL.of q.2.1) ?_ ?_
          · rintro i x σ H2 hi ⟨q1, q2, q3⟩
            obtain ⟨k, p, hk, rfl, hp⟩ := rel_refs hv2 i x hi
            obtain ⟨c, hc⟩ := q3 i k p (Nat.le_refl _) hk hp
            refine hT _ _ _ p c (by rw [List.length_set, q1]; rfl) (by simp [q1, dN]) hc fun σ' H' hl hK => ?_
            have nL : LL ≠ p := fun z => by
              subst z
              have z1 := inj hL hp
              obtain ⟨_, c2, hc2⟩ := r3 k (List.mem_of_getElem? hk)
              have kt : k < ([] ++ tt).length := (List.getElem?_eq_some_iff.mp hc2).1
              omega
            have nx : σ'.length = N.length ∧ H' LL = some (.lst vs) ∧ ∀ j k p, i + 1 ≤ j → ks[j]? = some k → ρ[k]? = some p → ∃ c, H' p = some (.lst [V.int c, V.int 0]) := by
              refine ⟨by rw [hl, List.length_set, q1], hK _ _ q2 nL (fun _ z => by cases z), fun j k2 p2 hj hk2 hp2 => ?_⟩
              obtain ⟨c2, hc2⟩ := q3 j k2 p2 (by omega) hk2 hp2
              refine ⟨c2, hK _ _ hc2 (fun z => ?_) (fun _ z => by cases z)⟩
              subst z
              have z1 := inj hp2 hp
              subst z1
              have i1 := (List.getElem?_eq_some_iff.mp hk)
              have i2 := (List.getElem?_eq_some_iff.mp hk2)
              have := List.pairwise_iff_getElem.mp r2 i j i1.1 i2.1 (by omega)
              rw [i1.2, i2.2] at this
              omega
            exact ⟨nx, nx⟩
          · rintro σ H2 ⟨q1, q2, q3⟩
            refine ⟨[], [], List.replicate N.length none, hrel_nil, ⟨by simp [q1], fun i d z => by simp [List.getElem?_replicate] at z⟩, ?_⟩
            intro ρ2 H3 e2 v hv
            cases hv
            exact hQ _
end
end PI
namespace PI
open PySem L2
theorem tup_at {K : PySem.W.Frag} {a : Addr} {its : Array Value} {n : Nat} {od : Option Addr} {sl : Array (Option Value)} {vs : List V} {ds : List D} (l : K.lookup a = some ⟨.type "tuple", od, .seq its n, sl⟩) (v : Vals vs its.toList) (hz : vs.length ≤ sizeLine)
    (r : ∀ ρ H, RelAll K ρ H ds vs) : ∀ ρ H, Rel K ρ H (.tup ds) (.ref a) := fun ρ H => .tup (.inr ⟨_, its, n, l, rfl, rfl, by rw [← Array.length_toList, ← v.length]; exact hz, v⟩) (r ρ H)
def ent (w : World) (k : Str) (t : Tok) (v : Value) : DictEntry := ⟨PyData.keyHash w.params k, .str k t, v⟩
theorem dic_at {P : Program} {w : World} {K : PySem.W.Frag} {mg : Str → Option Value} {x : Str} {kvs : List (Str × D)} {b : Addr} {es : Array DictEntry} {ep : Nat} (ks : List (Str × Tok × Value)) (hm : mg x = some (.ref b)) (hs : (b == sysModules) = false)
    (l : K.lookup b = some ⟨.type "dict", none, .dict es ep, #[]⟩) (he : es.toList = ks.map fun p => ent w p.1 p.2.1 p.2.2) (hn : (ks.map (·.1)).Nodup)
    (hp : Paired (fun p q => p.1 = q.1 ∧ ∃ v, RelV v q.2 ∧ ∀ ρ H, Rel K ρ H p.2 v) kvs (ks.map fun p => (p.1, p.2.2))) : DicAt P w K mg x kvs := by
  refine ⟨b, ks.map fun p => (p.1, p.2.2), hm, hs, fun h X => ?_, hp⟩
  refine ⟨_, es, ep, X _ _ l, ⟨rfl, rfl, rfl⟩, rfl, fun e hm => ?_, ?_, by simpa [List.map_map, Function.comp_def] using hn⟩
  · have hm : e ∈ es.toList := by simpa using hm
    rw [he] at hm
    obtain ⟨p, _, rfl⟩ := List.mem_map.mp hm
    exact ⟨p.1, strKind_is _ _ _ _, rfl⟩
  · rw [he]
    clear he hn hp
    induction ks with
    | nil => exact .nil
    | cons p r ih => exact .cons (strKind_is _ _ _ _) rfl ih
theorem cx_no {P : Program} {w : World} {H : Hp} {s : Shared} {e : Value} {s' : Shared} (h : L2N.CX P w [] H s (fun _ _ _ => False) e s') : False := by
  obtain ⟨_, _, _, _, _, _, _, _, _, _, _, _, h⟩ := h
  exact h
/-- the plain values of a list -/
def plainV : V → Tok → Value
  | .non, _ => .none
  | .bl b, _ => .bool b
  | .int i, t => .int i t
  | .str s, t => .str s t
  | _, _ => .none
theorem plain_rel {v : V} {t : Tok} (h : (match v with | .non | .bl _ | .int _ | .str _ => true | _ => false) = true) : RelV v (plainV v t) := by
  cases v <;> first | exact rfl | exact ⟨t, rfl⟩ | cases h
theorem law_end {P : Program} {w : World} {K : PySem.W.Frag} {mg : Str → Option Value} {h : Heap} {fa : Addr} {pg : Pg} {k : Nat} (X : K.In h) (hm : mg ("law" : Str) = some (.ref fa)) (t : Top P w K mg [] (fun _ => 0) pg)
    (L : Top P w K mg [] (fun _ => 0) pg → ∃ a fd, mg ("law" : Str) = some (.ref a) ∧ (∀ (s : Shared) (u : Value), BindsTo s fd ⟨[u], []⟩ [("_law_script", u)]) ∧ ∀ base : Heap, FnOk P w K mg base (L2N.CX P w) k a fd ["_law_script"] (spLawF K)) :
    ∃ fd : FuncData, (∀ (s : Shared) (u : Value), BindsTo s fd ⟨[u], []⟩ [("_law_script", u)]) ∧ ∀ base : Heap, K.In base → base.Ns mainGlobals mg → FnOk P w K mg base (L2N.CX P w) k fa fd ["_law_script"] (spLawF K) := by
  obtain ⟨a, fd, e1, e2, e3⟩ := L t
  have e : some (Value.ref a) = some (Value.ref fa) := e1.symm.trans hm
  cases e
  exact ⟨fd, e2, fun base _ _ => e3 base⟩
end PI
namespace PI
open PySem L2
/-- goes on, the names as many -/
def goesOn (n : Nat) : R Out → Bool
  | .ok (.nx δ) _ => decide (δ.length = n)
  | .ok (.ct δ) _ => decide (δ.length = n)
  | _ => false
def noRef : D → Bool
  | .non | .bl _ | .int _ | .str _ => true
  | _ => false
theorem rel_flat {K : PySem.W.Frag} {ρ ρ' : List Addr} {H : Hp} {d : D} {v : V} (h : noRef d = true) (r : Rel K ρ H d v) : Rel K ρ' H d v := by
  cases r with
  | non => exact .non
  | bl b => exact .bl b
  | int i => exact .int i
  | str s => exact .str s
  | _ => cases h
/-- fewer names, none of them an object's -/
def subB : Fr → Fr → Bool
  | [], [] => true
  | none :: r, _ :: q => subB r q
  | some d :: r, some e :: q => noRef d && noRef e && D.same d e && subB r q
  | _, _ => false
theorem same_flat {d e : D} (h : D.same d e = true) (hd : noRef d = true) : d = e := by
  cases d <;> cases e <;> first | rfl | (cases hd; done) | (cases h; done) | skip
  · simp only [D.same, beq_iff_eq] at h; rw [h]
  · simp only [D.same, beq_iff_eq] at h; rw [h]
  · simp only [D.same, decide_eq_true_eq] at h; rw [h]
theorem sub_len : ∀ {a b : Fr}, subB a b = true → a.length = b.length
  | [], [], _ => rfl
  | none :: r, _ :: q, h => by
    have h : subB r q = true := by cases ‹Option D› <;> exact h
    simp [sub_len h]
  | some d :: r, some e :: q, h => by
    have h : (noRef d && noRef e && D.same d e && subB r q) = true := h
    simp only [Bool.and_eq_true] at h
    simp [sub_len h.2]
  | some d :: r, none :: q, h => by cases h
  | some d :: r, [], h => by cases h
  | [], _ :: _, h => by cases h
  | none :: _, [], h => by cases h
theorem sub_at : ∀ {a b : Fr}, subB a b = true → ∀ (i : Nat) (d : D), a[i]? = some (some d) → b[i]? = some (some d) ∧ noRef d = true
  | none :: r, x :: q, h, i, d, e => by
    have h : subB r q = true := by cases x <;> exact h
    cases i with
    | zero => cases e
    | succ i => exact sub_at h i d e
  | some c :: r, some y :: q, h, i, d, e => by
    have h : (noRef c && noRef y && D.same c y && subB r q) = true := h
    simp only [Bool.and_eq_true] at h
    cases i with
    | zero =>
      have e : some (some c) = some (some d) := e
      cases e
      exact ⟨by rw [same_flat h.1.2 h.1.1.1]; rfl, h.1.1.1⟩
    | succ i => exact sub_at h.2 i d e
  | some d :: r, none :: q, h, _, _, _ => by cases h
  | some d :: r, [], h, _, _, _ => by cases h
  | [], _, _, i, d, e => by simp at e
  | none :: _, [], h, _, _, _ => by cases h
theorem fr_sub {K : PySem.W.Frag} {ρ : List Addr} {H : Hp} {a b : Fr} {σ : L2.St} (h : subB a b = true) (f : FrRel K ρ H b σ) : FrRel K [] H a σ := by
  refine ⟨by rw [sub_len h]; exact f.1, fun i d e => ?_⟩
  obtain ⟨e2, hn⟩ := sub_at h i d e
  obtain ⟨v, e3, r⟩ := f.2 i d e2
  exact ⟨v, e3, rel_flat hn r⟩
section
variable {K : PySem.W.Frag} {E : XK} {cls : Nat → Addr} {c : Cal} {wl : Nat} {D : Ends} {σ : L2.St} {H : Hp} {δ : Fr}
theorem tss_closed {b : Ss} (ok : goesOn δ.length (evSs c wl b δ []) = true) (f : FrRel K [] H δ σ) (k : ∀ σ' H', σ'.length = σ.length → (∀ a o, H a = some o → (∀ ps, o ≠ .tbl ps) → H' a = some o) → D.nx σ' H' ∧ D.ct σ' H') : tSs K [] E cls c wl b D σ H := by
  refine ⟨[], [], δ, hrel_nil, f, ?_⟩
  cases he : evSs c wl b δ [] with
  | no => rw [he] at ok; cases ok
  | ex j h => rw [he] at ok; cases ok
  | ok o h =>
    rw [he] at ok
    intro ρ1 H1 e
    have kp : ∀ a o, H a = some o → (∀ ps, o ≠ .tbl ps) → H1 a = some o := fun a o ha hn => e.keep a o ha (by simp) hn
    cases o with
    | nx δ' =>
      have hl : δ'.length = δ.length := of_decide_eq_true ok
      exact fun σ' f' => (k σ' H1 (by rw [← f'.1, hl, f.1]) kp).1
    | ct δ' =>
      have hl : δ'.length = δ.length := of_decide_eq_true ok
      exact fun σ' f' => (k σ' H1 (by rw [← f'.1, hl, f.1]) kp).2
    | rt d => cases ok
    | bk d => cases ok
end
/-- the frame in which a law's body begins: the dice alone -/
def frD (N : List Str) (d : Nat) : Fr := (List.replicate N.length none).set d (some (.ref 0))
theorem fr_dice {K : PySem.W.Frag} {H : Hp} {σ : L2.St} {N : List Str} {d : Nat} {p : Addr} (hl : σ.length = N.length) (hs : σ[d]? = some (some (.ref p))) : FrRel K [p] H (frD N d) σ := by
  refine ⟨by simp [frD, hl], fun i e h => ?_⟩
  unfold frD at h
  rw [List.getElem?_set] at h
  split at h
  · next hi =>
    subst hi
    split at h
    · cases h
      exact ⟨_, hs, .ref rfl⟩
    · cases h
  · simp [List.getElem?_replicate] at h
theorem hrel_dice {K : PySem.W.Frag} {H : Hp} {p : Addr} {a b : Int} (hp : H p = some (.lst [.int a, .int b])) : HRel K [] [p] [.lst [.int a, .int b]] H := by
  refine ⟨rfl, by simp, fun k o e => ?_, fun q hq => by cases hq⟩
  cases k with
  | zero =>
    have e : some (O.lst [D.int a, D.int b]) = some o := e
    cases e
    exact ⟨p, rfl, _, hp, .cons (.int a) (.cons (.int b) .nil)⟩
  | succ k => simp at e
section
variable {X : Cx} {E : XK} {cls : Nat → Addr} {pg : Pg} {n : Nat}
/-- a body whose first statement leaves flat values alone -/
theorem body_closed (g : GS X [] E cls pg n) {s : Sx} {r : Ss} {d : Nat} {u : List Stmt} (hc : chkSs X.N pg (.cons s r) X.env.scope u = true)
    (hev : ∀ c : Int, ∃ δ1 h1 δ2, evS (cal pg n) pg.wl s (frD X.N d) [.lst [.int c, .int 0]] = .ok (.nx δ1) h1 ∧ δ1.length = X.N.length ∧ subB δ2 δ1 = true ∧ goesOn δ2.length (evSs (cal pg n) pg.wl r δ2 []) = true) : BodyOk X d u := by
  unfold chkSs at hc
  split at hc
  case h_2 => cases hc
  case h_1 x ys =>
    simp only [Bool.and_eq_true] at hc
    refine ⟨_, pss_cons (snS (wl := pg.wl) s g x hc.1) (snSs (wl := pg.wl) r g ys hc.2), fun D σ H p c hl hs hp hk => ?_⟩
    obtain ⟨δ1, h1, δ2, e1, l1, e2, e3⟩ := hev c
    refine ⟨[p], [.lst [.int c, .int 0]], frD X.N d, hrel_dice hp, fr_dice hl hs, ?_⟩
    rw [e1]
    intro ρ1 H1 ex σ1 f1
    refine tss_closed e3 (fr_sub e2 f1) fun σ2 H2 hl2 kp => hk σ2 H2 (by rw [hl2, ← f1.1, l1, hl]) fun a o ha hn ht => kp a o (ex.keep a o ha (by simpa using hn) ht) ht
end
theorem es_par {c : Cal} {wl : Nat} {δ : Fr} {h h1 h2 : Hs} {i j : Nat} {a b : PI.E} {x y : D} (ea : evE c a δ h = .ok x h1) (eb : evE c b δ h1 = .ok y h2) (hi : i < δ.length) (hj : j < δ.length) : evS c wl (.par i j a b) δ h = .ok (.nx ((δ.set i (some x)).set j (some y))) h2 := by
  show (evE c a δ h).bind (fun x h1 => (evE c b δ h1).bind fun y h2 => parR i j δ x y h2) = _
  rw [ea]
  show (evE c b δ h1).bind (fun y h2 => parR i j δ x y h2) = _
  rw [eb]
  exact if_pos ⟨hi, hj⟩
end PI
set_option maxHeartbeats 0
namespace Q65
open PySem L2 PI
def f0 : Fn := ⟨"is_integer", ["value"], ["value"], (.cons (.ret (.andV (.isT .int (.var 0)) (.notV (.isT .bool (.var 0))))) .nil)⟩
abbrev s0 : Stmt := PySem.Challenge.pw_flowkeep_k65_whole_odd_graphs.main.body.getD 2 (.Pass ⟨0, 0, 0, 0⟩)
def f1 : Fn := ⟨"is_word", ["value"], ["value"], (.cons (.ret (.andV (.call 0 (.cons (.var 0) .nil)) (.chain .le .lt (.con (.int 0)) (.var 0) (.glob 0)))) .nil)⟩
abbrev s1 : Stmt := PySem.Challenge.pw_flowkeep_k65_whole_odd_graphs.main.body.getD 3 (.Pass ⟨0, 0, 0, 0⟩)
def f2 : Fn := ⟨"is_name", ["value"], ["value", "sign"], (.cons (.ifS (.or (.not (.of (.isT .str (.var 0)))) (.or (.not (.of (.chain .le .le (.con (.int 1)) (.bi .len (.cons (.var 0) .nil)) (.glob 5)))) (.of (.cmp .in_ (.var 0) (.glob 8))))) (.cons (.ret (.con (.bl false))) .nil) .nil) (.cons (.ret (.andV (.cmp .in_ (.ix (.var 0) (.con (.int 0))) (.glob 6)) (.bl .all (.compU (.one 1) (.of (.var 0)) [1] (.orV (.cmp .in_ (.var 1) (.glob 6)) (.cmp .in_ (.var 1) (.glob 7))))))) .nil))⟩
abbrev s2 : Stmt := PySem.Challenge.pw_flowkeep_k65_whole_odd_graphs.main.body.getD 15 (.Pass ⟨0, 0, 0, 0⟩)
def f3 : Fn := ⟨"_is_below", ["value", "bound"], ["value", "bound"], (.cons (.ret (.andV (.call 0 (.cons (.var 0) .nil)) (.chain .le .lt (.con (.int 0)) (.var 0) (.var 1)))) .nil)⟩
abbrev s3 : Stmt := PySem.Challenge.pw_flowkeep_k65_whole_odd_graphs.main.body.getD 16 (.Pass ⟨0, 0, 0, 0⟩)
def f4 : Fn := ⟨"_is_part", ["value", "part", "blocks"], ["value", "part", "blocks"], (.cons (.ifS (.of (.cmp .eq (.var 1) (.con (.str "name")))) (.cons (.ret (.call 2 (.cons (.var 0) .nil))) .nil) .nil) (.cons (.ifS (.of (.cmp .eq (.var 1) (.con (.str "word")))) (.cons (.ret (.call 1 (.cons (.var 0) .nil))) .nil) .nil) (.cons (.ret (.call 3 (.cons (.var 0) (.cons (.ite (.of (.cmp .eq (.var 1) (.con (.str "cell")))) (.glob 4) (.var 2)) .nil)))) .nil)))⟩
abbrev s4 : Stmt := PySem.Challenge.pw_flowkeep_k65_whole_odd_graphs.main.body.getD 17 (.Pass ⟨0, 0, 0, 0⟩)
def f5 : Fn := ⟨"_has_kind", ["value"], ["value"], (.cons (.ret (.andV (.isT .tuple (.var 0)) (.andV (.cmp .gt (.bi .len (.cons (.var 0) .nil)) (.con (.int 0))) (.isT .str (.ix (.var 0) (.con (.int 0))))))) .nil)⟩
abbrev s5 : Stmt := PySem.Challenge.pw_flowkeep_k65_whole_odd_graphs.main.body.getD 18 (.Pass ⟨0, 0, 0, 0⟩)
def f6 : Fn := ⟨"_has_parts", ["value", "parts", "blocks"], ["value", "parts", "blocks", "one", "part"], (.cons (.ifS (.or (.of (.cmp .isN (.var 1) (.con (.non)))) (.of (.cmp .ne (.bi .len (.cons (.var 0) .nil)) (.bin .add (.bi .len (.cons (.var 1) .nil)) (.con (.int 1)))))) (.cons (.ret (.con (.bl false))) .nil) .nil) (.cons (.ret (.bl .all (.compU (.two 3 4) (.zip (.sl (.var 0) (.some (.con (.int 1))) .none) (.var 1)) [3, 4] (.call 4 (.cons (.var 3) (.cons (.var 4) (.cons (.var 2) .nil))))))) .nil))⟩
abbrev s6 : Stmt := PySem.Challenge.pw_flowkeep_k65_whole_odd_graphs.main.body.getD 19 (.Pass ⟨0, 0, 0, 0⟩)
def f7 : Fn := ⟨"_is_end", ["value", "blocks"], ["value", "blocks"], (.cons (.ret (.andV (.call 5 (.cons (.var 0) .nil)) (.call 6 (.cons (.var 0) (.cons (.gget 1 (.ix (.var 0) (.con (.int 0)))) (.cons (.var 1) .nil)))))) .nil)⟩
abbrev s7 : Stmt := PySem.Challenge.pw_flowkeep_k65_whole_odd_graphs.main.body.getD 20 (.Pass ⟨0, 0, 0, 0⟩)
def f8 : Fn := ⟨"chooses", ["step"], ["step"], (.cons (.ret (.cmp .eq (.ix (.var 0) (.con (.int 0))) (.con (.str "choose")))) .nil)⟩
abbrev s8 : Stmt := PySem.Challenge.pw_flowkeep_k65_whole_odd_graphs.main.body.getD 21 (.Pass ⟨0, 0, 0, 0⟩)
def f9 : Fn := ⟨"_is_full_choice", ["value", "comers"], ["value", "comers", "pairs", "pair", "block", "name", "_"], (.cons (.ifS (.or (.of (.cmp .ne (.bi .len (.cons (.var 0) .nil)) (.con (.int 3)))) (.or (.not (.of (.call 2 (.cons (.ix (.var 0) (.con (.int 1))) .nil)))) (.not (.of (.isT .tuple (.ix (.var 0) (.con (.int 2)))))))) (.cons (.ret (.con (.bl false))) .nil) .nil) (.cons (.set 2 (.ix (.var 0) (.con (.int 2)))) (.cons (.ifS (.not (.of (.bl .all (.compU (.one 3) (.of (.var 2)) [3] (.andV (.isT .tuple (.var 3)) (.cmp .eq (.bi .len (.cons (.var 3) .nil)) (.con (.int 2)))))))) (.cons (.ret (.con (.bl false))) .nil) .nil) (.cons (.ifS (.not (.of (.bl .all (.compU (.two 4 5) (.of (.var 2)) [4, 5] (.andV (.call 0 (.cons (.var 4) .nil)) (.call 2 (.cons (.var 5) .nil))))))) (.cons (.ret (.con (.bl false))) .nil) .nil) (.cons (.ret (.cmp .eq (.bl .tuple (.compU (.two 4 6) (.of (.var 2)) [4, 6] (.var 4))) (.var 1))) .nil)))))⟩
abbrev s9 : Stmt := PySem.Challenge.pw_flowkeep_k65_whole_odd_graphs.main.body.getD 22 (.Pass ⟨0, 0, 0, 0⟩)
def f10 : Fn := ⟨"_are_steps", ["steps", "comers", "blocks"], ["steps", "comers", "blocks", "many", "step"], (.cons (.ifS (.not (.of (.bl .all (.compU (.one 4) (.of (.var 0)) [4] (.call 5 (.cons (.var 4) .nil)))))) (.cons (.ret (.con (.bl false))) .nil) .nil) (.cons (.set 3 (.bl .len (.comp (.one 4) (.of (.var 0)) [4] (.of (.call 8 (.cons (.var 4) .nil))) (.var 4)))) (.cons (.ifS (.not (.of (.bl .all (.compU (.one 4) (.of (.sl (.var 0) .none (.some (.var 3)))) [4] (.call 9 (.cons (.var 4) (.cons (.var 1) .nil))))))) (.cons (.ret (.con (.bl false))) .nil) .nil) (.cons (.ifS (.not (.of (.bl .all (.compU (.one 4) (.of (.sl (.var 0) (.some (.var 3)) .none)) [4] (.call 6 (.cons (.var 4) (.cons (.gget 0 (.ix (.var 4) (.con (.int 0)))) (.cons (.var 2) .nil)))))))) (.cons (.ret (.con (.bl false))) .nil) .nil) (.cons (.ret (.cmp .eq (.lenSet (.newL (.compU (.one 4) (.of (.sl (.var 0) .none (.some (.var 3)))) [4] (.ix (.var 4) (.con (.int 1)))))) (.var 3))) .nil)))))⟩
abbrev s10 : Stmt := PySem.Challenge.pw_flowkeep_k65_whole_odd_graphs.main.body.getD 23 (.Pass ⟨0, 0, 0, 0⟩)
def f11 : Fn := ⟨"_are_inputs", ["value"], ["value", "name"], (.cons (.ifS (.or (.not (.of (.isT .tuple (.var 0)))) (.or (.of (.cmp .gt (.bi .len (.cons (.var 0) .nil)) (.glob 1))) (.not (.of (.bl .all (.compU (.one 1) (.of (.var 0)) [1] (.call 2 (.cons (.var 1) .nil)))))))) (.cons (.ret (.con (.bl false))) .nil) .nil) (.cons (.ret (.cmp .eq (.lenSet (.var 0)) (.bi .len (.cons (.var 0) .nil)))) .nil))⟩
abbrev s11 : Stmt := PySem.Challenge.pw_flowkeep_k65_whole_odd_graphs.main.body.getD 24 (.Pass ⟨0, 0, 0, 0⟩)
def f12 : Fn := ⟨"_is_frame", ["value", "blocks"], ["value", "blocks"], (.cons (.ifS (.or (.not (.of (.isT .tuple (.var 0)))) (.or (.of (.cmp .ne (.bi .len (.cons (.var 0) .nil)) (.con (.int 2)))) (.not (.of (.isT .tuple (.ix (.var 0) (.con (.int 0)))))))) (.cons (.ret (.con (.bl false))) .nil) .nil) (.cons (.ret (.andV (.cmp .le (.bi .len (.cons (.ix (.var 0) (.con (.int 0))) .nil)) (.glob 3)) (.call 7 (.cons (.ix (.var 0) (.con (.int 1))) (.cons (.var 1) .nil))))) .nil))⟩
abbrev s12 : Stmt := PySem.Challenge.pw_flowkeep_k65_whole_odd_graphs.main.body.getD 25 (.Pass ⟨0, 0, 0, 0⟩)
def f13 : Fn := ⟨"goals", ["end"], ["end"], (.cons (.ifS (.of (.cmp .eq (.ix (.var 0) (.con (.int 0))) (.con (.str "go")))) (.cons (.ret (.tup (.cons (.ix (.var 0) (.con (.int 1))) .nil))) .nil) .nil) (.cons (.ret (.bi .tuple (.cons (.sortSet (.sl (.var 0) (.some (.con (.int 2))) .none)) .nil))) .nil))⟩
abbrev s13 : Stmt := PySem.Challenge.pw_flowkeep_k65_whole_odd_graphs.main.body.getD 26 (.Pass ⟨0, 0, 0, 0⟩)
def f14 : Fn := ⟨"comers_of", ["blocks"], ["blocks", "found", "at", "block", "goal", "_", "comers"], (.cons (.set 1 (.newL (.compU (.one 5) (.of (.var 0)) [5] (.newL (.lit .nil))))) (.cons (.forS (.two 2 3) (.enum (.var 0)) (.cons (.forS (.one 4) (.of (.call 13 (.cons (.ix (.var 3) (.con (.int 1))) .nil))) (.cons (.expr (.me .append (.ix (.var 1) (.var 4)) (.cons (.var 2) .nil))) .nil)) .nil)) (.cons (.ret (.newL (.compU (.one 6) (.of (.var 1)) [6] (.bi .tuple (.cons (.var 6) .nil))))) .nil)))⟩
abbrev s14 : Stmt := PySem.Challenge.pw_flowkeep_k65_whole_odd_graphs.main.body.getD 27 (.Pass ⟨0, 0, 0, 0⟩)
def f15 : Fn := ⟨"is_graph", ["value"], ["value", "blocks", "comers", "at", "block"], (.cons (.ifS (.or (.not (.of (.isT .tuple (.var 0)))) (.or (.of (.cmp .ne (.bi .len (.cons (.var 0) .nil)) (.con (.int 2)))) (.not (.of (.call 11 (.cons (.ix (.var 0) (.con (.int 0))) .nil)))))) (.cons (.ret (.con (.bl false))) .nil) .nil) (.cons (.set 1 (.ix (.var 0) (.con (.int 1)))) (.cons (.ifS (.or (.not (.of (.isT .tuple (.var 1)))) (.not (.of (.chain .le .le (.con (.int 1)) (.bi .len (.cons (.var 1) .nil)) (.glob 2))))) (.cons (.ret (.con (.bl false))) .nil) .nil) (.cons (.ifS (.not (.of (.bl .all (.compU (.one 4) (.of (.var 1)) [4] (.call 12 (.cons (.var 4) (.cons (.bi .len (.cons (.var 1) .nil)) .nil))))))) (.cons (.ret (.con (.bl false))) .nil) .nil) (.cons (.set 2 (.bin .add (.newL (.lit (.cons (.con (.non)) .nil))) (.sl (.call 14 (.cons (.var 1) .nil)) (.some (.con (.int 1))) .none))) (.cons (.ret (.bl .all (.compU (.two 3 4) (.enum (.var 1)) [3, 4] (.call 10 (.cons (.ix (.var 4) (.con (.int 0))) (.cons (.ix (.var 2) (.var 3)) (.cons (.bi .len (.cons (.var 1) .nil)) .nil))))))) .nil))))))⟩
abbrev s15 : Stmt := PySem.Challenge.pw_flowkeep_k65_whole_odd_graphs.main.body.getD 28 (.Pass ⟨0, 0, 0, 0⟩)
def f16 : Fn := ⟨"_law_cell", ["_law_script", "_law_k"], ["_law_script", "_law_k"], (.cons (.ifS (.of (.cmp .eq (.var 0) (.newL (.lit .nil)))) (.cons (.ret (.bin .mul (.var 1) (.con (.int 7919)))) .nil) .nil) (.cons (.ret (.bin .add (.ix (.var 0) (.bin .mod (.var 1) (.bi .len (.cons (.var 0) .nil)))) (.bin .mul (.bin .div (.var 1) (.bi .len (.cons (.var 0) .nil))) (.con (.int 104729))))) .nil))⟩
abbrev s16 : Stmt := PySem.Challenge.pw_flowkeep_k65_whole_odd_graphs.main.body.getD 30 (.Pass ⟨0, 0, 0, 0⟩)
def f17 : Fn := ⟨"_law_drawn", ["_law_cell_here", "_law_k"], ["_law_cell_here", "_law_k", "_law_more"], (.cons (.set 2 (.bin .mod (.bin .add (.bin .mul (.var 0) (.con (.int 6364136223846793005))) (.bin .mul (.bin .add (.var 1) (.con (.int 1))) (.con (.int 1442695040888963407)))) (.con (.int 340282366920938463463374607431768211507)))) (.cons (.set 2 (.bin .mod (.bin .mul (.var 2) (.var 2)) (.con (.int 340282366920938463463374607431768211297)))) (.cons (.set 2 (.bin .mul (.bin .mul (.bin .add (.bin .mod (.var 2) (.con (.int 18446744073709551557))) (.con (.int 1))) (.bin .add (.bin .div (.var 2) (.con (.int 18446744073709551557))) (.con (.int 1)))) (.var 2))) (.cons (.ret (.bin .mod (.var 2) (.con (.int 340282366920938463463374607431768211507)))) .nil))))⟩
abbrev s17 : Stmt := PySem.Challenge.pw_flowkeep_k65_whole_odd_graphs.main.body.getD 31 (.Pass ⟨0, 0, 0, 0⟩)
def f18 : Fn := ⟨"_law_roll", ["_law_dice", "_law_many"], ["_law_dice", "_law_many", "_law_told"], (.cons (.ifS (.of (.cmp .ge (.ix (.var 0) (.con (.int 0))) (.bin .pow (.con (.int 10)) (.con (.int 18))))) (.cons (.set 2 (.bin .mod (.ix (.var 0) (.con (.int 0))) (.var 1))) (.cons (.setix (.var 0) (.con (.int 0)) (.bin .div (.ix (.var 0) (.con (.int 0))) (.var 1))) (.cons (.ret (.var 2)) .nil))) .nil) (.cons (.setix (.var 0) (.con (.int 1)) (.bin .add (.ix (.var 0) (.con (.int 1))) (.con (.int 1)))) (.cons (.ret (.bin .mod (.bin .div (.call 17 (.cons (.ix (.var 0) (.con (.int 0))) (.cons (.ix (.var 0) (.con (.int 1))) .nil))) (.con (.int 8))) (.var 1))) .nil)))⟩
abbrev s18 : Stmt := PySem.Challenge.pw_flowkeep_k65_whole_odd_graphs.main.body.getD 32 (.Pass ⟨0, 0, 0, 0⟩)
def f19 : Fn := ⟨"_law_rounds", ["_law_script", "_law_most"], ["_law_script", "_law_most", "_law_k"], (.cons (.ret (.newL (.compU (.one 2) (.range1 (.bi .max2 (.cons (.con (.int 1)) (.cons (.bi .min2 (.cons (.var 1) (.cons (.bi .len (.cons (.var 0) .nil)) .nil))) .nil)))) [2] (.newL (.lit (.cons (.call 16 (.cons (.var 0) (.cons (.var 2) .nil))) (.cons (.con (.int 0)) .nil))))))) .nil)⟩
abbrev s19 : Stmt := PySem.Challenge.pw_flowkeep_k65_whole_odd_graphs.main.body.getD 33 (.Pass ⟨0, 0, 0, 0⟩)
def f20 : Fn := ⟨"_law_choosing", ["_law_choices", "_law_first"], ["_law_choices", "_law_first"], (.cons (.ret (.tup (.cons (.tup (.cons (.con (.str "y")) .nil)) (.cons (.tup (.cons (.tup (.cons (.var 1) (.cons (.tup (.cons (.con (.str "go")) (.cons (.con (.int 1)) .nil))) .nil))) (.cons (.tup (.cons (.var 0) (.cons (.tup (.cons (.con (.str "pick")) (.cons (.con (.str "y")) (.cons (.con (.int 1)) (.cons (.con (.int 2)) .nil))))) .nil))) (.cons (.tup (.cons (.tup .nil) (.cons (.tup (.cons (.con (.str "give")) (.cons (.con (.str "y")) .nil))) .nil))) .nil)))) .nil)))) .nil)⟩
abbrev s20 : Stmt := PySem.Challenge.pw_flowkeep_k65_whole_odd_graphs.main.body.getD 34 (.Pass ⟨0, 0, 0, 0⟩)
def f21 : Fn := ⟨"_law_right_bounds", [], ["_law_end", "_law_step", "_law_four", "_law_rows", "_law_inputs", "_law_right", "_law_blocks", "_law_steps", "_law_thing"], (.cons (.two 0 1 (.tup (.cons (.tup (.cons (.tup .nil) (.cons (.tup (.cons (.con (.str "give")) (.cons (.con (.str "a")) .nil))) .nil))) (.cons (.tup (.cons (.con (.str "show")) (.cons (.con (.str "a")) .nil))) .nil)))) (.cons (.set 2 (.tup (.cons (.con (.str "a")) (.cons (.con (.str "b")) (.cons (.con (.str "c")) (.cons (.con (.str "d")) .nil)))))) (.cons (.set 3 (.newL (.lit (.cons (.tup (.cons (.tup .nil) (.cons (.con (.bl true)) .nil))) (.cons (.tup (.cons (.var 2) (.cons (.con (.bl true)) .nil))) (.cons (.tup (.cons (.bin .add (.var 2) (.tup (.cons (.con (.str "e")) .nil))) (.cons (.con (.bl false)) .nil))) (.cons (.tup (.cons (.tup (.cons (.con (.str "a")) (.cons (.con (.str "a")) .nil))) (.cons (.con (.bl false)) .nil))) (.cons (.tup (.cons (.newL (.lit (.cons (.con (.str "a")) .nil))) (.cons (.con (.bl false)) .nil))) .nil)))))))) (.cons (.set 3 (.bin .add (.var 3) (.newL (.lit (.cons (.tup (.cons (.tup (.cons (.con (.str "A")) .nil)) (.cons (.con (.bl false)) .nil))) .nil))))) (.cons (.forS (.two 4 5) (.of (.var 3)) (.cons (.ifS (.of (.cmp .ne (.call 15 (.cons (.tup (.cons (.var 4) (.cons (.tup (.cons (.var 0) .nil)) .nil))) .nil)) (.var 5))) (.cons (.ret (.con (.bl false))) .nil) .nil) .nil)) (.cons (.set 3 (.newL (.lit (.cons (.tup (.cons (.bin .mul (.tup (.cons (.var 0) .nil)) (.con (.int 40))) (.cons (.con (.bl true)) .nil))) (.cons (.tup (.cons (.bin .mul (.tup (.cons (.var 0) .nil)) (.con (.int 41))) (.cons (.con (.bl false)) .nil))) (.cons (.tup (.cons (.tup .nil) (.cons (.con (.bl false)) .nil))) (.cons (.tup (.cons (.newL (.lit (.cons (.var 0) .nil))) (.cons (.con (.bl false)) .nil))) (.cons (.tup (.cons (.tup (.cons (.bi .list (.cons (.var 0) .nil)) .nil)) (.cons (.con (.bl false)) .nil))) .nil)))))))) (.cons (.forS (.two 6 5) (.of (.var 3)) (.cons (.ifS (.of (.cmp .ne (.call 15 (.cons (.tup (.cons (.tup (.cons (.con (.str "a")) .nil)) (.cons (.var 6) .nil))) .nil)) (.var 5))) (.cons (.ret (.con (.bl false))) .nil) .nil) .nil)) (.cons (.forS (.two 7 5) (.ofL (.lit (.cons (.tup (.cons (.bin .mul (.tup (.cons (.var 1) .nil)) (.con (.int 60))) (.cons (.con (.bl true)) .nil))) (.cons (.tup (.cons (.bin .mul (.tup (.cons (.var 1) .nil)) (.con (.int 61))) (.cons (.con (.bl false)) .nil))) (.cons (.tup (.cons (.newL (.lit (.cons (.var 1) .nil))) (.cons (.con (.bl false)) .nil))) (.cons (.tup (.cons (.con (.non)) (.cons (.con (.bl false)) .nil))) .nil)))))) (.cons (.ifS (.of (.cmp .ne (.call 15 (.cons (.tup (.cons (.tup (.cons (.con (.str "a")) .nil)) (.cons (.tup (.cons (.tup (.cons (.var 7) (.cons (.tup (.cons (.con (.str "give")) (.cons (.con (.str "a")) .nil))) .nil))) .nil)) .nil))) .nil)) (.var 5))) (.cons (.ret (.con (.bl false))) .nil) .nil) .nil)) (.cons (.forS (.one 8) (.ofL (.lit (.cons (.con (.non)) (.cons (.tup .nil) (.cons (.tup (.cons (.tup (.cons (.con (.str "a")) .nil)) .nil)) (.cons (.tup (.cons (.tup (.cons (.con (.str "a")) .nil)) (.cons (.tup (.cons (.var 0) .nil)) (.cons (.con (.int 0)) .nil)))) (.cons (.tup (.cons (.tup (.cons (.con (.str "a")) .nil)) (.cons (.tup (.cons (.tup (.cons (.ix (.var 0) (.con (.int 0))) .nil)) .nil)) .nil))) (.cons (.con (.int 7)) .nil)))))))) (.cons (.ifS (.of (.call 15 (.cons (.var 8) .nil))) (.cons (.ret (.con (.bl false))) .nil) .nil) .nil)) (.cons (.ret (.con (.bl true))) .nil))))))))))⟩
abbrev s21 : Stmt := PySem.Challenge.pw_flowkeep_k65_whole_odd_graphs.main.body.getD 35 (.Pass ⟨0, 0, 0, 0⟩)
def f22 : Fn := ⟨"law", ["_law_script"], ["_law_script", "_law_dice", "_law_a", "_law_b", "_law_good", "_law_other", "_law_choices", "_law_bad", "_law_pairs", "_law_cases"], (.cons (.forS (.one 1) (.of (.call 19 (.cons (.var 0) (.cons (.con (.int 3)) .nil)))) (.cons (.par 2 3 (.bin .add (.con (.str "a")) (.bi .str_ (.cons (.call 18 (.cons (.var 1) (.cons (.con (.int 9)) .nil))) .nil))) (.con (.str "y"))) (.cons (.set 4 (.tup (.cons (.con (.str "choose")) (.cons (.con (.str "x")) (.cons (.tup (.cons (.tup (.cons (.con (.int 0)) (.cons (.var 2) .nil))) (.cons (.tup (.cons (.con (.int 1)) (.cons (.var 3) .nil))) .nil))) .nil))))) (.cons (.set 5 (.tup (.cons (.con (.str "choose")) (.cons (.con (.str "z")) (.cons (.tup (.cons (.tup (.cons (.con (.int 0)) (.cons (.con (.str "x")) .nil))) (.cons (.tup (.cons (.con (.int 1)) (.cons (.con (.str "x")) .nil))) .nil))) .nil))))) (.cons (.forS (.one 6) (.ofL (.lit (.cons (.tup (.cons (.var 4) .nil)) (.cons (.tup (.cons (.var 4) (.cons (.var 5) .nil))) (.cons (.tup (.cons (.var 5) (.cons (.var 4) (.cons (.tup (.cons (.con (.str "show")) (.cons (.con (.str "x")) .nil))) .nil)))) (.cons (.tup .nil) .nil)))))) (.cons (.ifS (.not (.of (.call 15 (.cons (.call 20 (.cons (.var 6) (.cons (.tup .nil) .nil))) .nil)))) (.cons (.ret (.con (.bl false))) .nil) .nil) .nil)) (.cons (.set 7 (.newL (.lit (.cons (.tup (.cons (.tup (.cons (.con (.int 0)) (.cons (.var 2) .nil))) .nil)) (.cons (.tup (.cons (.tup (.cons (.con (.int 1)) (.cons (.var 3) .nil))) .nil)) (.cons (.tup .nil) (.cons (.tup (.cons (.tup (.cons (.con (.int 1)) (.cons (.var 3) .nil))) (.cons (.tup (.cons (.con (.int 0)) (.cons (.var 2) .nil))) .nil))) (.cons (.tup (.cons (.tup (.cons (.con (.int 0)) (.cons (.var 2) .nil))) (.cons (.tup (.cons (.con (.int 0)) (.cons (.var 3) .nil))) .nil))) .nil)))))))) (.cons (.set 7 (.bin .add (.var 7) (.newL (.lit (.cons (.tup (.cons (.tup (.cons (.con (.int 0)) (.cons (.var 2) .nil))) (.cons (.tup (.cons (.con (.int 1)) (.cons (.var 3) .nil))) (.cons (.tup (.cons (.con (.int 2)) (.cons (.var 2) .nil))) .nil)))) (.cons (.tup (.cons (.tup (.cons (.con (.int 0)) (.cons (.var 2) .nil))) (.cons (.tup (.cons (.con (.int 1)) (.cons (.var 3) .nil))) (.cons (.tup (.cons (.con (.int 1)) (.cons (.var 3) .nil))) .nil)))) .nil)))))) (.cons (.set 7 (.bin .add (.var 7) (.newL (.lit (.cons (.newL (.lit (.cons (.tup (.cons (.con (.int 0)) (.cons (.var 2) .nil))) (.cons (.tup (.cons (.con (.int 1)) (.cons (.var 3) .nil))) .nil)))) (.cons (.tup (.cons (.tup (.cons (.con (.int 0)) (.cons (.var 2) .nil))) (.cons (.newL (.lit (.cons (.con (.int 1)) (.cons (.var 3) .nil)))) .nil))) (.cons (.tup (.cons (.tup (.cons (.con (.int 0)) (.cons (.var 2) .nil))) (.cons (.tup (.cons (.con (.int 1)) (.cons (.var 3) (.cons (.var 2) .nil)))) .nil))) (.cons (.tup (.cons (.tup (.cons (.con (.int 0)) (.cons (.var 2) .nil))) (.cons (.tup (.cons (.con (.int 1)) .nil)) .nil))) .nil)))))))) (.cons (.set 7 (.bin .add (.var 7) (.newL (.lit (.cons (.tup (.cons (.tup (.cons (.con (.int 0)) (.cons (.var 2) .nil))) (.cons (.tup (.cons (.con (.bl true)) (.cons (.var 3) .nil))) .nil))) (.cons (.tup (.cons (.tup (.cons (.con (.int 0)) (.cons (.var 2) .nil))) (.cons (.tup (.cons (.con (.int 1)) (.cons (.con (.str "A")) .nil))) .nil))) .nil)))))) (.cons (.set 7 (.bin .add (.var 7) (.newL (.lit (.cons (.tup (.cons (.tup (.cons (.con (.int 0)) (.cons (.var 2) .nil))) (.cons (.tup (.cons (.con (.int 1)) (.cons (.con (.non)) .nil))) .nil))) (.cons (.tup (.cons (.tup (.cons (.con (.int 0)) (.cons (.var 2) .nil))) (.cons (.tup (.cons (.con (.int 3)) (.cons (.var 3) .nil))) .nil))) (.cons (.tup (.cons (.tup (.cons (.neg (.con (.int 1))) (.cons (.var 2) .nil))) (.cons (.tup (.cons (.con (.int 1)) (.cons (.var 3) .nil))) .nil))) (.cons (.tup (.cons (.tup (.cons (.con (.int 0)) (.cons (.var 2) .nil))) (.cons (.con (.int 1)) .nil))) (.cons (.con (.non)) (.cons (.con (.int 5)) (.cons (.con (.str "x")) .nil))))))))))) (.cons (.forS (.one 8) (.of (.var 7)) (.cons (.ifS (.of (.call 15 (.cons (.call 20 (.cons (.tup (.cons (.tup (.cons (.con (.str "choose")) (.cons (.con (.str "x")) (.cons (.var 8) .nil)))) .nil)) (.cons (.tup .nil) .nil))) .nil))) (.cons (.ret (.con (.bl false))) .nil) .nil) .nil)) (.cons (.set 9 (.newL (.lit (.cons (.tup (.cons (.var 4) (.cons (.var 4) .nil))) (.cons (.tup (.cons (.tup (.cons (.con (.str "show")) (.cons (.con (.str "y")) .nil))) (.cons (.var 4) .nil))) (.cons (.tup (.cons (.var 4) (.cons (.tup (.cons (.con (.str "show")) (.cons (.con (.str "y")) .nil))) (.cons (.var 5) .nil)))) (.cons (.tup (.cons (.sl (.var 4) .none (.some (.con (.int 2)))) .nil)) .nil))))))) (.cons (.set 9 (.bin .add (.var 9) (.newL (.lit (.cons (.tup (.cons (.bin .add (.var 4) (.tup (.cons (.con (.int 0)) .nil))) .nil)) .nil))))) (.cons (.forS (.one 6) (.of (.var 9)) (.cons (.ifS (.of (.call 15 (.cons (.call 20 (.cons (.var 6) (.cons (.tup .nil) .nil))) .nil))) (.cons (.ret (.con (.bl false))) .nil) .nil) .nil)) (.cons (.ifS (.of (.call 15 (.cons (.call 20 (.cons (.tup (.cons (.var 4) .nil)) (.cons (.tup (.cons (.var 4) .nil)) .nil))) .nil))) (.cons (.ret (.con (.bl false))) .nil) .nil) (.cons (.ifS (.of (.call 15 (.cons (.call 20 (.cons (.tup .nil) (.cons (.tup (.cons (.tup (.cons (.con (.str "choose")) (.cons (.con (.str "x")) (.cons (.tup .nil) .nil)))) .nil)) .nil))) .nil))) (.cons (.ret (.con (.bl false))) .nil) .nil) (.cons (.ifS (.not (.of (.call 21 .nil))) (.cons (.ret (.con (.bl false))) .nil) .nil) .nil))))))))))))))))) (.cons (.ret (.con (.bl true))) .nil))⟩
abbrev s22 : Stmt := PySem.Challenge.pw_flowkeep_k65_whole_odd_graphs.main.body.getD 36 (.Pass ⟨0, 0, 0, 0⟩)
def fns : List Fn := [f0, f1, f2, f3, f4, f5, f6, f7, f8, f9, f10, f11, f12, f13, f14, f15, f16, f17, f18, f19, f20, f21, f22]
def con : List (Str × D) := [("SIZE", .int 65536), ("MOST_INPUTS", .int 4), ("MOST_BLOCKS", .int 40), ("MOST_STEPS", .int 60), ("CELLS", .int 4), ("LONGEST_NAME", .int 6), ("LETTERS", .str "abcdefghijklmnopqrstuvwxyz"), ("FIGURES", .str "0123456789"), ("BARRED", .tup [.str "given", .str "block", .str "ask", .str "cell", .str "show", .str "choose", .str "go", .str "pick", .str "give"])]
def dic : List (Str × List (Str × D)) := [("STEP_PARTS", [("set", .tup [.str "name", .str "word"]), ("copy", .tup [.str "name", .str "name"]), ("add", .tup [.str "name", .str "name", .str "name"]), ("sub", .tup [.str "name", .str "name", .str "name"]), ("mul", .tup [.str "name", .str "name", .str "name"]), ("times", .tup [.str "name", .str "name", .str "word"]), ("div", .tup [.str "name", .str "name", .str "name"]), ("less", .tup [.str "name", .str "name", .str "name"]), ("ask", .tup [.str "name"]), ("read", .tup [.str "name", .str "cell"]), ("write", .tup [.str "cell", .str "name"]), ("show", .tup [.str "name"])]), ("END_PARTS", [("go", .tup [.str "block"]), ("pick", .tup [.str "name", .str "block", .str "block"]), ("give", .tup [.str "name"])])]
def pg : Pg := ⟨fns, con, dic, [], 20000⟩
theorem c0 : chkSs f0.N pg f0.body (defScope s0) (defBody s0) = true := by decide +kernel
theorem d0 : FnScope f0.N f0.ps (defScope s0) := ⟨rfl, rfl, rfl, by decide +kernel, rfl, by decide +kernel, by decide +kernel⟩
theorem c1 : chkSs f1.N pg f1.body (defScope s1) (defBody s1) = true := by decide +kernel
theorem d1 : FnScope f1.N f1.ps (defScope s1) := ⟨rfl, rfl, rfl, by decide +kernel, rfl, by decide +kernel, by decide +kernel⟩
theorem c2 : chkSs f2.N pg f2.body (defScope s2) (defBody s2) = true := by decide +kernel
theorem d2 : FnScope f2.N f2.ps (defScope s2) := ⟨rfl, rfl, rfl, by decide +kernel, rfl, by decide +kernel, by decide +kernel⟩
theorem c3 : chkSs f3.N pg f3.body (defScope s3) (defBody s3) = true := by decide +kernel
theorem d3 : FnScope f3.N f3.ps (defScope s3) := ⟨rfl, rfl, rfl, by decide +kernel, rfl, by decide +kernel, by decide +kernel⟩
theorem c4 : chkSs f4.N pg f4.body (defScope s4) (defBody s4) = true := by decide +kernel
theorem d4 : FnScope f4.N f4.ps (defScope s4) := ⟨rfl, rfl, rfl, by decide +kernel, rfl, by decide +kernel, by decide +kernel⟩
theorem c5 : chkSs f5.N pg f5.body (defScope s5) (defBody s5) = true := by decide +kernel
theorem d5 : FnScope f5.N f5.ps (defScope s5) := ⟨rfl, rfl, rfl, by decide +kernel, rfl, by decide +kernel, by decide +kernel⟩
theorem c6 : chkSs f6.N pg f6.body (defScope s6) (defBody s6) = true := by decide +kernel
theorem d6 : FnScope f6.N f6.ps (defScope s6) := ⟨rfl, rfl, rfl, by decide +kernel, rfl, by decide +kernel, by decide +kernel⟩
theorem c7 : chkSs f7.N pg f7.body (defScope s7) (defBody s7) = true := by decide +kernel
theorem d7 : FnScope f7.N f7.ps (defScope s7) := ⟨rfl, rfl, rfl, by decide +kernel, rfl, by decide +kernel, by decide +kernel⟩
theorem c8 : chkSs f8.N pg f8.body (defScope s8) (defBody s8) = true := by decide +kernel
theorem d8 : FnScope f8.N f8.ps (defScope s8) := ⟨rfl, rfl, rfl, by decide +kernel, rfl, by decide +kernel, by decide +kernel⟩
theorem c9 : chkSs f9.N pg f9.body (defScope s9) (defBody s9) = true := by decide +kernel
theorem d9 : FnScope f9.N f9.ps (defScope s9) := ⟨rfl, rfl, rfl, by decide +kernel, rfl, by decide +kernel, by decide +kernel⟩
theorem c10 : chkSs f10.N pg f10.body (defScope s10) (defBody s10) = true := by decide +kernel
theorem d10 : FnScope f10.N f10.ps (defScope s10) := ⟨rfl, rfl, rfl, by decide +kernel, rfl, by decide +kernel, by decide +kernel⟩
theorem c11 : chkSs f11.N pg f11.body (defScope s11) (defBody s11) = true := by decide +kernel
theorem d11 : FnScope f11.N f11.ps (defScope s11) := ⟨rfl, rfl, rfl, by decide +kernel, rfl, by decide +kernel, by decide +kernel⟩
theorem c12 : chkSs f12.N pg f12.body (defScope s12) (defBody s12) = true := by decide +kernel
theorem d12 : FnScope f12.N f12.ps (defScope s12) := ⟨rfl, rfl, rfl, by decide +kernel, rfl, by decide +kernel, by decide +kernel⟩
theorem c13 : chkSs f13.N pg f13.body (defScope s13) (defBody s13) = true := by decide +kernel
theorem d13 : FnScope f13.N f13.ps (defScope s13) := ⟨rfl, rfl, rfl, by decide +kernel, rfl, by decide +kernel, by decide +kernel⟩
theorem c14 : chkSs f14.N pg f14.body (defScope s14) (defBody s14) = true := by decide +kernel
theorem d14 : FnScope f14.N f14.ps (defScope s14) := ⟨rfl, rfl, rfl, by decide +kernel, rfl, by decide +kernel, by decide +kernel⟩
theorem c15 : chkSs f15.N pg f15.body (defScope s15) (defBody s15) = true := by decide +kernel
theorem d15 : FnScope f15.N f15.ps (defScope s15) := ⟨rfl, rfl, rfl, by decide +kernel, rfl, by decide +kernel, by decide +kernel⟩
theorem c16 : chkSs f16.N pg f16.body (defScope s16) (defBody s16) = true := by decide +kernel
theorem d16 : FnScope f16.N f16.ps (defScope s16) := ⟨rfl, rfl, rfl, by decide +kernel, rfl, by decide +kernel, by decide +kernel⟩
theorem c17 : chkSs f17.N pg f17.body (defScope s17) (defBody s17) = true := by decide +kernel
theorem d17 : FnScope f17.N f17.ps (defScope s17) := ⟨rfl, rfl, rfl, by decide +kernel, rfl, by decide +kernel, by decide +kernel⟩
theorem c18 : chkSs f18.N pg f18.body (defScope s18) (defBody s18) = true := by decide +kernel
theorem d18 : FnScope f18.N f18.ps (defScope s18) := ⟨rfl, rfl, rfl, by decide +kernel, rfl, by decide +kernel, by decide +kernel⟩
theorem c19 : chkSs f19.N pg f19.body (defScope s19) (defBody s19) = true := by decide +kernel
theorem d19 : FnScope f19.N f19.ps (defScope s19) := ⟨rfl, rfl, rfl, by decide +kernel, rfl, by decide +kernel, by decide +kernel⟩
theorem c20 : chkSs f20.N pg f20.body (defScope s20) (defBody s20) = true := by decide +kernel
theorem d20 : FnScope f20.N f20.ps (defScope s20) := ⟨rfl, rfl, rfl, by decide +kernel, rfl, by decide +kernel, by decide +kernel⟩
theorem c21 : chkSs f21.N pg f21.body (defScope s21) (defBody s21) = true := by decide +kernel
theorem d21 : FnScope f21.N f21.ps (defScope s21) := ⟨rfl, rfl, rfl, by decide +kernel, rfl, by decide +kernel, by decide +kernel⟩
theorem c22 : chkSs f22.N pg f22.body (defScope s22) (defBody s22) = true := by decide +kernel
theorem d22 : FnScope f22.N f22.ps (defScope s22) := ⟨rfl, rfl, rfl, by decide +kernel, rfl, by decide +kernel, by decide +kernel⟩
theorem top_mk {P : Program} {w : World} {K : PySem.W.Frag} {h : Heap} {mg : Str → Option Value} (X : K.In h) (G : h.Ns mainGlobals mg)
    {g0 : Addr} {od0 an0 : Option Addr} {sl0 : Array (Option Value)} {oc0 kV0 dc0 pm0 cd0 ct0 : Value}
    {g1 : Addr} {od1 an1 : Option Addr} {sl1 : Array (Option Value)} {oc1 kV1 dc1 pm1 cd1 ct1 : Value}
    {g2 : Addr} {od2 an2 : Option Addr} {sl2 : Array (Option Value)} {oc2 kV2 dc2 pm2 cd2 ct2 : Value}
    {g3 : Addr} {od3 an3 : Option Addr} {sl3 : Array (Option Value)} {oc3 kV3 dc3 pm3 cd3 ct3 : Value}
    {g4 : Addr} {od4 an4 : Option Addr} {sl4 : Array (Option Value)} {oc4 kV4 dc4 pm4 cd4 ct4 : Value}
    {g5 : Addr} {od5 an5 : Option Addr} {sl5 : Array (Option Value)} {oc5 kV5 dc5 pm5 cd5 ct5 : Value}
    {g6 : Addr} {od6 an6 : Option Addr} {sl6 : Array (Option Value)} {oc6 kV6 dc6 pm6 cd6 ct6 : Value}
    {g7 : Addr} {od7 an7 : Option Addr} {sl7 : Array (Option Value)} {oc7 kV7 dc7 pm7 cd7 ct7 : Value}
    {g8 : Addr} {od8 an8 : Option Addr} {sl8 : Array (Option Value)} {oc8 kV8 dc8 pm8 cd8 ct8 : Value}
    {g9 : Addr} {od9 an9 : Option Addr} {sl9 : Array (Option Value)} {oc9 kV9 dc9 pm9 cd9 ct9 : Value}
    {g10 : Addr} {od10 an10 : Option Addr} {sl10 : Array (Option Value)} {oc10 kV10 dc10 pm10 cd10 ct10 : Value}
    {g11 : Addr} {od11 an11 : Option Addr} {sl11 : Array (Option Value)} {oc11 kV11 dc11 pm11 cd11 ct11 : Value}
    {g12 : Addr} {od12 an12 : Option Addr} {sl12 : Array (Option Value)} {oc12 kV12 dc12 pm12 cd12 ct12 : Value}
    {g13 : Addr} {od13 an13 : Option Addr} {sl13 : Array (Option Value)} {oc13 kV13 dc13 pm13 cd13 ct13 : Value}
    {g14 : Addr} {od14 an14 : Option Addr} {sl14 : Array (Option Value)} {oc14 kV14 dc14 pm14 cd14 ct14 : Value}
    {g15 : Addr} {od15 an15 : Option Addr} {sl15 : Array (Option Value)} {oc15 kV15 dc15 pm15 cd15 ct15 : Value}
    {g16 : Addr} {od16 an16 : Option Addr} {sl16 : Array (Option Value)} {oc16 kV16 dc16 pm16 cd16 ct16 : Value}
    {g17 : Addr} {od17 an17 : Option Addr} {sl17 : Array (Option Value)} {oc17 kV17 dc17 pm17 cd17 ct17 : Value}
    {g18 : Addr} {od18 an18 : Option Addr} {sl18 : Array (Option Value)} {oc18 kV18 dc18 pm18 cd18 ct18 : Value}
    {g19 : Addr} {od19 an19 : Option Addr} {sl19 : Array (Option Value)} {oc19 kV19 dc19 pm19 cd19 ct19 : Value}
    {g20 : Addr} {od20 an20 : Option Addr} {sl20 : Array (Option Value)} {oc20 kV20 dc20 pm20 cd20 ct20 : Value}
    {g21 : Addr} {od21 an21 : Option Addr} {sl21 : Array (Option Value)} {oc21 kV21 dc21 pm21 cd21 ct21 : Value}
    {g22 : Addr} {od22 an22 : Option Addr} {sl22 : Array (Option Value)} {oc22 kV22 dc22 pm22 cd22 ct22 : Value}
    {w0 : Tok}
    {w1 : Tok}
    {w2 : Tok}
    {w3 : Tok}
    {w4 : Tok}
    {w5 : Tok}
    {w6 : Tok}
    {w7 : Tok}
    {w8 : Addr}
    {ti0 : Array Value} {tn0 : Nat} {td0 : Option Addr} {ts0 : Array (Option Value)}
    {y0 : Addr} {ye0 : Array DictEntry} {yp0 : Nat} {yt0_0 : Tok} {yr0_0 : Addr} {yt0_1 : Tok} {yr0_1 : Addr} {yt0_2 : Tok} {yr0_2 : Addr} {yt0_3 : Tok} {yr0_3 : Addr} {yt0_4 : Tok} {yr0_4 : Addr} {yt0_5 : Tok} {yr0_5 : Addr} {yt0_6 : Tok} {yr0_6 : Addr} {yt0_7 : Tok} {yr0_7 : Addr} {yt0_8 : Tok} {yr0_8 : Addr} {yt0_9 : Tok} {yr0_9 : Addr} {yt0_10 : Tok} {yr0_10 : Addr} {yt0_11 : Tok} {yr0_11 : Addr}
    {ti1 : Array Value} {tn1 : Nat} {td1 : Option Addr} {ts1 : Array (Option Value)}
    {ti2 : Array Value} {tn2 : Nat} {td2 : Option Addr} {ts2 : Array (Option Value)}
    {ti3 : Array Value} {tn3 : Nat} {td3 : Option Addr} {ts3 : Array (Option Value)}
    {ti4 : Array Value} {tn4 : Nat} {td4 : Option Addr} {ts4 : Array (Option Value)}
    {ti5 : Array Value} {tn5 : Nat} {td5 : Option Addr} {ts5 : Array (Option Value)}
    {ti6 : Array Value} {tn6 : Nat} {td6 : Option Addr} {ts6 : Array (Option Value)}
    {ti7 : Array Value} {tn7 : Nat} {td7 : Option Addr} {ts7 : Array (Option Value)}
    {ti8 : Array Value} {tn8 : Nat} {td8 : Option Addr} {ts8 : Array (Option Value)}
    {ti9 : Array Value} {tn9 : Nat} {td9 : Option Addr} {ts9 : Array (Option Value)}
    {ti10 : Array Value} {tn10 : Nat} {td10 : Option Addr} {ts10 : Array (Option Value)}
    {ti11 : Array Value} {tn11 : Nat} {td11 : Option Addr} {ts11 : Array (Option Value)}
    {ti12 : Array Value} {tn12 : Nat} {td12 : Option Addr} {ts12 : Array (Option Value)}
    {y1 : Addr} {ye1 : Array DictEntry} {yp1 : Nat} {yt1_0 : Tok} {yr1_0 : Addr} {yt1_1 : Tok} {yr1_1 : Addr} {yt1_2 : Tok} {yr1_2 : Addr}
    {ti13 : Array Value} {tn13 : Nat} {td13 : Option Addr} {ts13 : Array (Option Value)}
    {ti14 : Array Value} {tn14 : Nat} {td14 : Option Addr} {ts14 : Array (Option Value)}
    {ti15 : Array Value} {tn15 : Nat} {td15 : Option Addr} {ts15 : Array (Option Value)}
    (a0 : PySem.W.nsIn K mainGlobals "is_integer" = some (some (.ref g0)))
    (l0 : K.lookup g0 = some ⟨oc0, od0, .func (PySem.W.fnOf "is_integer" "is_integer" (defArgs s0) (defBody s0) (defScope s0) .none kV0 dc0 pm0 an0 cd0 ct0), sl0⟩)
    (e0 : PySem.W.codeIn K cd0 "is_integer" = true)
    (k0 : PySem.W.keepIn K (.ref g0) = true)
    (a1 : PySem.W.nsIn K mainGlobals "is_word" = some (some (.ref g1)))
    (l1 : K.lookup g1 = some ⟨oc1, od1, .func (PySem.W.fnOf "is_word" "is_word" (defArgs s1) (defBody s1) (defScope s1) .none kV1 dc1 pm1 an1 cd1 ct1), sl1⟩)
    (e1 : PySem.W.codeIn K cd1 "is_word" = true)
    (k1 : PySem.W.keepIn K (.ref g1) = true)
    (a2 : PySem.W.nsIn K mainGlobals "is_name" = some (some (.ref g2)))
    (l2 : K.lookup g2 = some ⟨oc2, od2, .func (PySem.W.fnOf "is_name" "is_name" (defArgs s2) (defBody s2) (defScope s2) .none kV2 dc2 pm2 an2 cd2 ct2), sl2⟩)
    (e2 : PySem.W.codeIn K cd2 "is_name" = true)
    (k2 : PySem.W.keepIn K (.ref g2) = true)
    (a3 : PySem.W.nsIn K mainGlobals "_is_below" = some (some (.ref g3)))
    (l3 : K.lookup g3 = some ⟨oc3, od3, .func (PySem.W.fnOf "_is_below" "_is_below" (defArgs s3) (defBody s3) (defScope s3) .none kV3 dc3 pm3 an3 cd3 ct3), sl3⟩)
    (e3 : PySem.W.codeIn K cd3 "_is_below" = true)
    (k3 : PySem.W.keepIn K (.ref g3) = true)
    (a4 : PySem.W.nsIn K mainGlobals "_is_part" = some (some (.ref g4)))
    (l4 : K.lookup g4 = some ⟨oc4, od4, .func (PySem.W.fnOf "_is_part" "_is_part" (defArgs s4) (defBody s4) (defScope s4) .none kV4 dc4 pm4 an4 cd4 ct4), sl4⟩)
    (e4 : PySem.W.codeIn K cd4 "_is_part" = true)
    (k4 : PySem.W.keepIn K (.ref g4) = true)
    (a5 : PySem.W.nsIn K mainGlobals "_has_kind" = some (some (.ref g5)))
    (l5 : K.lookup g5 = some ⟨oc5, od5, .func (PySem.W.fnOf "_has_kind" "_has_kind" (defArgs s5) (defBody s5) (defScope s5) .none kV5 dc5 pm5 an5 cd5 ct5), sl5⟩)
    (e5 : PySem.W.codeIn K cd5 "_has_kind" = true)
    (k5 : PySem.W.keepIn K (.ref g5) = true)
    (a6 : PySem.W.nsIn K mainGlobals "_has_parts" = some (some (.ref g6)))
    (l6 : K.lookup g6 = some ⟨oc6, od6, .func (PySem.W.fnOf "_has_parts" "_has_parts" (defArgs s6) (defBody s6) (defScope s6) .none kV6 dc6 pm6 an6 cd6 ct6), sl6⟩)
    (e6 : PySem.W.codeIn K cd6 "_has_parts" = true)
    (k6 : PySem.W.keepIn K (.ref g6) = true)
    (a7 : PySem.W.nsIn K mainGlobals "_is_end" = some (some (.ref g7)))
    (l7 : K.lookup g7 = some ⟨oc7, od7, .func (PySem.W.fnOf "_is_end" "_is_end" (defArgs s7) (defBody s7) (defScope s7) .none kV7 dc7 pm7 an7 cd7 ct7), sl7⟩)
    (e7 : PySem.W.codeIn K cd7 "_is_end" = true)
    (k7 : PySem.W.keepIn K (.ref g7) = true)
    (a8 : PySem.W.nsIn K mainGlobals "chooses" = some (some (.ref g8)))
    (l8 : K.lookup g8 = some ⟨oc8, od8, .func (PySem.W.fnOf "chooses" "chooses" (defArgs s8) (defBody s8) (defScope s8) .none kV8 dc8 pm8 an8 cd8 ct8), sl8⟩)
    (e8 : PySem.W.codeIn K cd8 "chooses" = true)
    (k8 : PySem.W.keepIn K (.ref g8) = true)
    (a9 : PySem.W.nsIn K mainGlobals "_is_full_choice" = some (some (.ref g9)))
    (l9 : K.lookup g9 = some ⟨oc9, od9, .func (PySem.W.fnOf "_is_full_choice" "_is_full_choice" (defArgs s9) (defBody s9) (defScope s9) .none kV9 dc9 pm9 an9 cd9 ct9), sl9⟩)
    (e9 : PySem.W.codeIn K cd9 "_is_full_choice" = true)
    (k9 : PySem.W.keepIn K (.ref g9) = true)
    (a10 : PySem.W.nsIn K mainGlobals "_are_steps" = some (some (.ref g10)))
    (l10 : K.lookup g10 = some ⟨oc10, od10, .func (PySem.W.fnOf "_are_steps" "_are_steps" (defArgs s10) (defBody s10) (defScope s10) .none kV10 dc10 pm10 an10 cd10 ct10), sl10⟩)
    (e10 : PySem.W.codeIn K cd10 "_are_steps" = true)
    (k10 : PySem.W.keepIn K (.ref g10) = true)
    (a11 : PySem.W.nsIn K mainGlobals "_are_inputs" = some (some (.ref g11)))
    (l11 : K.lookup g11 = some ⟨oc11, od11, .func (PySem.W.fnOf "_are_inputs" "_are_inputs" (defArgs s11) (defBody s11) (defScope s11) .none kV11 dc11 pm11 an11 cd11 ct11), sl11⟩)
    (e11 : PySem.W.codeIn K cd11 "_are_inputs" = true)
    (k11 : PySem.W.keepIn K (.ref g11) = true)
    (a12 : PySem.W.nsIn K mainGlobals "_is_frame" = some (some (.ref g12)))
    (l12 : K.lookup g12 = some ⟨oc12, od12, .func (PySem.W.fnOf "_is_frame" "_is_frame" (defArgs s12) (defBody s12) (defScope s12) .none kV12 dc12 pm12 an12 cd12 ct12), sl12⟩)
    (e12 : PySem.W.codeIn K cd12 "_is_frame" = true)
    (k12 : PySem.W.keepIn K (.ref g12) = true)
    (a13 : PySem.W.nsIn K mainGlobals "goals" = some (some (.ref g13)))
    (l13 : K.lookup g13 = some ⟨oc13, od13, .func (PySem.W.fnOf "goals" "goals" (defArgs s13) (defBody s13) (defScope s13) .none kV13 dc13 pm13 an13 cd13 ct13), sl13⟩)
    (e13 : PySem.W.codeIn K cd13 "goals" = true)
    (k13 : PySem.W.keepIn K (.ref g13) = true)
    (a14 : PySem.W.nsIn K mainGlobals "comers_of" = some (some (.ref g14)))
    (l14 : K.lookup g14 = some ⟨oc14, od14, .func (PySem.W.fnOf "comers_of" "comers_of" (defArgs s14) (defBody s14) (defScope s14) .none kV14 dc14 pm14 an14 cd14 ct14), sl14⟩)
    (e14 : PySem.W.codeIn K cd14 "comers_of" = true)
    (k14 : PySem.W.keepIn K (.ref g14) = true)
    (a15 : PySem.W.nsIn K mainGlobals "is_graph" = some (some (.ref g15)))
    (l15 : K.lookup g15 = some ⟨oc15, od15, .func (PySem.W.fnOf "is_graph" "is_graph" (defArgs s15) (defBody s15) (defScope s15) .none kV15 dc15 pm15 an15 cd15 ct15), sl15⟩)
    (e15 : PySem.W.codeIn K cd15 "is_graph" = true)
    (k15 : PySem.W.keepIn K (.ref g15) = true)
    (a16 : PySem.W.nsIn K mainGlobals "_law_cell" = some (some (.ref g16)))
    (l16 : K.lookup g16 = some ⟨oc16, od16, .func (PySem.W.fnOf "_law_cell" "_law_cell" (defArgs s16) (defBody s16) (defScope s16) .none kV16 dc16 pm16 an16 cd16 ct16), sl16⟩)
    (e16 : PySem.W.codeIn K cd16 "_law_cell" = true)
    (k16 : PySem.W.keepIn K (.ref g16) = true)
    (a17 : PySem.W.nsIn K mainGlobals "_law_drawn" = some (some (.ref g17)))
    (l17 : K.lookup g17 = some ⟨oc17, od17, .func (PySem.W.fnOf "_law_drawn" "_law_drawn" (defArgs s17) (defBody s17) (defScope s17) .none kV17 dc17 pm17 an17 cd17 ct17), sl17⟩)
    (e17 : PySem.W.codeIn K cd17 "_law_drawn" = true)
    (k17 : PySem.W.keepIn K (.ref g17) = true)
    (a18 : PySem.W.nsIn K mainGlobals "_law_roll" = some (some (.ref g18)))
    (l18 : K.lookup g18 = some ⟨oc18, od18, .func (PySem.W.fnOf "_law_roll" "_law_roll" (defArgs s18) (defBody s18) (defScope s18) .none kV18 dc18 pm18 an18 cd18 ct18), sl18⟩)
    (e18 : PySem.W.codeIn K cd18 "_law_roll" = true)
    (k18 : PySem.W.keepIn K (.ref g18) = true)
    (a19 : PySem.W.nsIn K mainGlobals "_law_rounds" = some (some (.ref g19)))
    (l19 : K.lookup g19 = some ⟨oc19, od19, .func (PySem.W.fnOf "_law_rounds" "_law_rounds" (defArgs s19) (defBody s19) (defScope s19) .none kV19 dc19 pm19 an19 cd19 ct19), sl19⟩)
    (e19 : PySem.W.codeIn K cd19 "_law_rounds" = true)
    (k19 : PySem.W.keepIn K (.ref g19) = true)
    (a20 : PySem.W.nsIn K mainGlobals "_law_choosing" = some (some (.ref g20)))
    (l20 : K.lookup g20 = some ⟨oc20, od20, .func (PySem.W.fnOf "_law_choosing" "_law_choosing" (defArgs s20) (defBody s20) (defScope s20) .none kV20 dc20 pm20 an20 cd20 ct20), sl20⟩)
    (e20 : PySem.W.codeIn K cd20 "_law_choosing" = true)
    (k20 : PySem.W.keepIn K (.ref g20) = true)
    (a21 : PySem.W.nsIn K mainGlobals "_law_right_bounds" = some (some (.ref g21)))
    (l21 : K.lookup g21 = some ⟨oc21, od21, .func (PySem.W.fnOf "_law_right_bounds" "_law_right_bounds" (defArgs s21) (defBody s21) (defScope s21) .none kV21 dc21 pm21 an21 cd21 ct21), sl21⟩)
    (e21 : PySem.W.codeIn K cd21 "_law_right_bounds" = true)
    (k21 : PySem.W.keepIn K (.ref g21) = true)
    (a22 : PySem.W.nsIn K mainGlobals "law" = some (some (.ref g22)))
    (l22 : K.lookup g22 = some ⟨oc22, od22, .func (PySem.W.fnOf "law" "law" (defArgs s22) (defBody s22) (defScope s22) .none kV22 dc22 pm22 an22 cd22 ct22), sl22⟩)
    (e22 : PySem.W.codeIn K cd22 "law" = true)
    (k22 : PySem.W.keepIn K (.ref g22) = true)
    (n0 : PySem.W.nsIn K mainGlobals "SIZE" = some (some (.int 65536 w0)))
    (n1 : PySem.W.nsIn K mainGlobals "MOST_INPUTS" = some (some (.int 4 w1)))
    (n2 : PySem.W.nsIn K mainGlobals "MOST_BLOCKS" = some (some (.int 40 w2)))
    (n3 : PySem.W.nsIn K mainGlobals "MOST_STEPS" = some (some (.int 60 w3)))
    (n4 : PySem.W.nsIn K mainGlobals "CELLS" = some (some (.int 4 w4)))
    (n5 : PySem.W.nsIn K mainGlobals "LONGEST_NAME" = some (some (.int 6 w5)))
    (n6 : PySem.W.nsIn K mainGlobals "LETTERS" = some (some (.str "abcdefghijklmnopqrstuvwxyz" w6)))
    (n7 : PySem.W.nsIn K mainGlobals "FIGURES" = some (some (.str "0123456789" w7)))
    (n8 : PySem.W.nsIn K mainGlobals "BARRED" = some (some (.ref w8)))
    (tl0 : K.lookup w8 = some ⟨.type "tuple", td0, .seq ti0 tn0, ts0⟩)
    (tv0 : Vals [V.str "given", V.str "block", V.str "ask", V.str "cell", V.str "show", V.str "choose", V.str "go", V.str "pick", V.str "give"] ti0.toList)
    (yn0 : PySem.W.nsIn K mainGlobals "STEP_PARTS" = some (some (.ref y0)))
    (ys0 : (y0 == sysModules) = false)
    (yl0 : K.lookup y0 = some ⟨.type "dict", none, .dict ye0 yp0, #[]⟩)
    (yx0 : ye0.toList = [ent w "set" yt0_0 (.ref yr0_0), ent w "copy" yt0_1 (.ref yr0_1), ent w "add" yt0_2 (.ref yr0_2), ent w "sub" yt0_3 (.ref yr0_3), ent w "mul" yt0_4 (.ref yr0_4), ent w "times" yt0_5 (.ref yr0_5), ent w "div" yt0_6 (.ref yr0_6), ent w "less" yt0_7 (.ref yr0_7), ent w "ask" yt0_8 (.ref yr0_8), ent w "read" yt0_9 (.ref yr0_9), ent w "write" yt0_10 (.ref yr0_10), ent w "show" yt0_11 (.ref yr0_11)])
    (tl1 : K.lookup yr0_0 = some ⟨.type "tuple", td1, .seq ti1 tn1, ts1⟩)
    (tv1 : Vals [V.str "name", V.str "word"] ti1.toList)
    (tl2 : K.lookup yr0_1 = some ⟨.type "tuple", td2, .seq ti2 tn2, ts2⟩)
    (tv2 : Vals [V.str "name", V.str "name"] ti2.toList)
    (tl3 : K.lookup yr0_2 = some ⟨.type "tuple", td3, .seq ti3 tn3, ts3⟩)
    (tv3 : Vals [V.str "name", V.str "name", V.str "name"] ti3.toList)
    (tl4 : K.lookup yr0_3 = some ⟨.type "tuple", td4, .seq ti4 tn4, ts4⟩)
    (tv4 : Vals [V.str "name", V.str "name", V.str "name"] ti4.toList)
    (tl5 : K.lookup yr0_4 = some ⟨.type "tuple", td5, .seq ti5 tn5, ts5⟩)
    (tv5 : Vals [V.str "name", V.str "name", V.str "name"] ti5.toList)
    (tl6 : K.lookup yr0_5 = some ⟨.type "tuple", td6, .seq ti6 tn6, ts6⟩)
    (tv6 : Vals [V.str "name", V.str "name", V.str "word"] ti6.toList)
    (tl7 : K.lookup yr0_6 = some ⟨.type "tuple", td7, .seq ti7 tn7, ts7⟩)
    (tv7 : Vals [V.str "name", V.str "name", V.str "name"] ti7.toList)
    (tl8 : K.lookup yr0_7 = some ⟨.type "tuple", td8, .seq ti8 tn8, ts8⟩)
    (tv8 : Vals [V.str "name", V.str "name", V.str "name"] ti8.toList)
    (tl9 : K.lookup yr0_8 = some ⟨.type "tuple", td9, .seq ti9 tn9, ts9⟩)
    (tv9 : Vals [V.str "name"] ti9.toList)
    (tl10 : K.lookup yr0_9 = some ⟨.type "tuple", td10, .seq ti10 tn10, ts10⟩)
    (tv10 : Vals [V.str "name", V.str "cell"] ti10.toList)
    (tl11 : K.lookup yr0_10 = some ⟨.type "tuple", td11, .seq ti11 tn11, ts11⟩)
    (tv11 : Vals [V.str "cell", V.str "name"] ti11.toList)
    (tl12 : K.lookup yr0_11 = some ⟨.type "tuple", td12, .seq ti12 tn12, ts12⟩)
    (tv12 : Vals [V.str "name"] ti12.toList)
    (yn1 : PySem.W.nsIn K mainGlobals "END_PARTS" = some (some (.ref y1)))
    (ys1 : (y1 == sysModules) = false)
    (yl1 : K.lookup y1 = some ⟨.type "dict", none, .dict ye1 yp1, #[]⟩)
    (yx1 : ye1.toList = [ent w "go" yt1_0 (.ref yr1_0), ent w "pick" yt1_1 (.ref yr1_1), ent w "give" yt1_2 (.ref yr1_2)])
    (tl13 : K.lookup yr1_0 = some ⟨.type "tuple", td13, .seq ti13 tn13, ts13⟩)
    (tv13 : Vals [V.str "block"] ti13.toList)
    (tl14 : K.lookup yr1_1 = some ⟨.type "tuple", td14, .seq ti14 tn14, ts14⟩)
    (tv14 : Vals [V.str "name", V.str "block", V.str "block"] ti14.toList)
    (tl15 : K.lookup yr1_2 = some ⟨.type "tuple", td15, .seq ti15 tn15, ts15⟩)
    (tv15 : Vals [V.str "name"] ti15.toList)
    (z0 : PySem.W.nsIn K mainGlobals "len" = some none)
    (z1 : PySem.W.nsIn K mainGlobals "tuple" = some none)
    (z2 : PySem.W.nsIn K mainGlobals "list" = some none)
    (z3 : PySem.W.nsIn K mainGlobals "int" = some none)
    (z4 : PySem.W.nsIn K mainGlobals "str" = some none)
    (z5 : PySem.W.nsIn K mainGlobals "max" = some none)
    (z6 : PySem.W.nsIn K mainGlobals "min" = some none)
    (z7 : PySem.W.nsIn K mainGlobals "isinstance" = some none)
    (z8 : PySem.W.nsIn K mainGlobals "range" = some none)
    (z9 : PySem.W.nsIn K mainGlobals "enumerate" = some none)
    (z10 : PySem.W.nsIn K mainGlobals "zip" = some none)
    (z11 : PySem.W.nsIn K mainGlobals "all" = some none)
    (z12 : PySem.W.nsIn K mainGlobals "any" = some none)
    (z13 : PySem.W.nsIn K mainGlobals "sum" = some none)
    (z14 : PySem.W.nsIn K mainGlobals "sorted" = some none)
    (z15 : PySem.W.nsIn K mainGlobals "set" = some none)
    (z16 : PySem.W.nsIn K mainGlobals "bool" = some none)
    (z17 : PySem.W.nsIn K mainGlobals "dict" = some none)
    : Top P w K mg [] (fun _ => 0) pg := by
  have F0 := fun_mk (st := s0) l0 e0 k0
  have F1 := fun_mk (st := s1) l1 e1 k1
  have F2 := fun_mk (st := s2) l2 e2 k2
  have F3 := fun_mk (st := s3) l3 e3 k3
  have F4 := fun_mk (st := s4) l4 e4 k4
  have F5 := fun_mk (st := s5) l5 e5 k5
  have F6 := fun_mk (st := s6) l6 e6 k6
  have F7 := fun_mk (st := s7) l7 e7 k7
  have F8 := fun_mk (st := s8) l8 e8 k8
  have F9 := fun_mk (st := s9) l9 e9 k9
  have F10 := fun_mk (st := s10) l10 e10 k10
  have F11 := fun_mk (st := s11) l11 e11 k11
  have F12 := fun_mk (st := s12) l12 e12 k12
  have F13 := fun_mk (st := s13) l13 e13 k13
  have F14 := fun_mk (st := s14) l14 e14 k14
  have F15 := fun_mk (st := s15) l15 e15 k15
  have F16 := fun_mk (st := s16) l16 e16 k16
  have F17 := fun_mk (st := s17) l17 e17 k17
  have F18 := fun_mk (st := s18) l18 e18 k18
  have F19 := fun_mk (st := s19) l19 e19 k19
  have F20 := fun_mk (st := s20) l20 e20 k20
  have F21 := fun_mk (st := s21) l21 e21 k21
  have F22 := fun_mk (st := s22) l22 e22 k22
  refine ⟨fun f hf => ?_, fun i x d hc => ?_, fun x hx => ?_, rfl, fun i x kvs hc => ?_⟩
  · have hf : f ∈ fns := hf
    simp only [fns, List.mem_cons, List.not_mem_nil, or_false] at hf
    rcases hf with rfl | rfl | rfl | rfl | rfl | rfl | rfl | rfl | rfl | rfl | rfl | rfl | rfl | rfl | rfl | rfl | rfl | rfl | rfl | rfl | rfl | rfl | rfl
    · exact ⟨g0, _, s0, PySem.W.mg_of X G a0, F0, fun us hl => match us, hl with | [_], _ => rfl, d0, c0⟩
    · exact ⟨g1, _, s1, PySem.W.mg_of X G a1, F1, fun us hl => match us, hl with | [_], _ => rfl, d1, c1⟩
    · exact ⟨g2, _, s2, PySem.W.mg_of X G a2, F2, fun us hl => match us, hl with | [_], _ => rfl, d2, c2⟩
    · exact ⟨g3, _, s3, PySem.W.mg_of X G a3, F3, fun us hl => match us, hl with | [_, _], _ => rfl, d3, c3⟩
    · exact ⟨g4, _, s4, PySem.W.mg_of X G a4, F4, fun us hl => match us, hl with | [_, _, _], _ => rfl, d4, c4⟩
    · exact ⟨g5, _, s5, PySem.W.mg_of X G a5, F5, fun us hl => match us, hl with | [_], _ => rfl, d5, c5⟩
    · exact ⟨g6, _, s6, PySem.W.mg_of X G a6, F6, fun us hl => match us, hl with | [_, _, _], _ => rfl, d6, c6⟩
    · exact ⟨g7, _, s7, PySem.W.mg_of X G a7, F7, fun us hl => match us, hl with | [_, _], _ => rfl, d7, c7⟩
    · exact ⟨g8, _, s8, PySem.W.mg_of X G a8, F8, fun us hl => match us, hl with | [_], _ => rfl, d8, c8⟩
    · exact ⟨g9, _, s9, PySem.W.mg_of X G a9, F9, fun us hl => match us, hl with | [_, _], _ => rfl, d9, c9⟩
    · exact ⟨g10, _, s10, PySem.W.mg_of X G a10, F10, fun us hl => match us, hl with | [_, _, _], _ => rfl, d10, c10⟩
    · exact ⟨g11, _, s11, PySem.W.mg_of X G a11, F11, fun us hl => match us, hl with | [_], _ => rfl, d11, c11⟩
    · exact ⟨g12, _, s12, PySem.W.mg_of X G a12, F12, fun us hl => match us, hl with | [_, _], _ => rfl, d12, c12⟩
    · exact ⟨g13, _, s13, PySem.W.mg_of X G a13, F13, fun us hl => match us, hl with | [_], _ => rfl, d13, c13⟩
    · exact ⟨g14, _, s14, PySem.W.mg_of X G a14, F14, fun us hl => match us, hl with | [_], _ => rfl, d14, c14⟩
    · exact ⟨g15, _, s15, PySem.W.mg_of X G a15, F15, fun us hl => match us, hl with | [_], _ => rfl, d15, c15⟩
    · exact ⟨g16, _, s16, PySem.W.mg_of X G a16, F16, fun us hl => match us, hl with | [_, _], _ => rfl, d16, c16⟩
    · exact ⟨g17, _, s17, PySem.W.mg_of X G a17, F17, fun us hl => match us, hl with | [_, _], _ => rfl, d17, c17⟩
    · exact ⟨g18, _, s18, PySem.W.mg_of X G a18, F18, fun us hl => match us, hl with | [_, _], _ => rfl, d18, c18⟩
    · exact ⟨g19, _, s19, PySem.W.mg_of X G a19, F19, fun us hl => match us, hl with | [_, _], _ => rfl, d19, c19⟩
    · exact ⟨g20, _, s20, PySem.W.mg_of X G a20, F20, fun us hl => match us, hl with | [_, _], _ => rfl, d20, c20⟩
    · exact ⟨g21, _, s21, PySem.W.mg_of X G a21, F21, fun us hl => match us, hl with | [], _ => rfl, d21, c21⟩
    · exact ⟨g22, _, s22, PySem.W.mg_of X G a22, F22, fun us hl => match us, hl with | [_], _ => rfl, d22, c22⟩
  · have hc : con[i]? = some (x, d) := hc
    unfold con at hc
    match i, hc with
    | 0, hc => cases hc; exact ⟨.int 65536, _, PySem.W.mg_of X G n0, ⟨_, rfl⟩, fun _ _ => .int _⟩
    | 1, hc => cases hc; exact ⟨.int 4, _, PySem.W.mg_of X G n1, ⟨_, rfl⟩, fun _ _ => .int _⟩
    | 2, hc => cases hc; exact ⟨.int 40, _, PySem.W.mg_of X G n2, ⟨_, rfl⟩, fun _ _ => .int _⟩
    | 3, hc => cases hc; exact ⟨.int 60, _, PySem.W.mg_of X G n3, ⟨_, rfl⟩, fun _ _ => .int _⟩
    | 4, hc => cases hc; exact ⟨.int 4, _, PySem.W.mg_of X G n4, ⟨_, rfl⟩, fun _ _ => .int _⟩
    | 5, hc => cases hc; exact ⟨.int 6, _, PySem.W.mg_of X G n5, ⟨_, rfl⟩, fun _ _ => .int _⟩
    | 6, hc => cases hc; exact ⟨.str "abcdefghijklmnopqrstuvwxyz", _, PySem.W.mg_of X G n6, ⟨_, rfl⟩, fun _ _ => .str _⟩
    | 7, hc => cases hc; exact ⟨.str "0123456789", _, PySem.W.mg_of X G n7, ⟨_, rfl⟩, fun _ _ => .str _⟩
    | 8, hc => cases hc; exact ⟨.ref w8, .ref w8, PySem.W.mg_of X G n8, rfl, tup_at tl0 tv0 (by decide) fun _ _ => .cons (.str _) (.cons (.str _) (.cons (.str _) (.cons (.str _) (.cons (.str _) (.cons (.str _) (.cons (.str _) (.cons (.str _) (.cons (.str _) .nil))))))))⟩
    | i + 9, hc => cases hc
  · simp only [bnames, List.mem_cons, List.not_mem_nil, or_false] at hx
    rcases hx with rfl | rfl | rfl | rfl | rfl | rfl | rfl | rfl | rfl | rfl | rfl | rfl | rfl | rfl | rfl | rfl | rfl | rfl
    · exact PySem.W.mg_none_of X G z0
    · exact PySem.W.mg_none_of X G z1
    · exact PySem.W.mg_none_of X G z2
    · exact PySem.W.mg_none_of X G z3
    · exact PySem.W.mg_none_of X G z4
    · exact PySem.W.mg_none_of X G z5
    · exact PySem.W.mg_none_of X G z6
    · exact PySem.W.mg_none_of X G z7
    · exact PySem.W.mg_none_of X G z8
    · exact PySem.W.mg_none_of X G z9
    · exact PySem.W.mg_none_of X G z10
    · exact PySem.W.mg_none_of X G z11
    · exact PySem.W.mg_none_of X G z12
    · exact PySem.W.mg_none_of X G z13
    · exact PySem.W.mg_none_of X G z14
    · exact PySem.W.mg_none_of X G z15
    · exact PySem.W.mg_none_of X G z16
    · exact PySem.W.mg_none_of X G z17
  · have hc : dic[i]? = some (x, kvs) := hc
    unfold dic at hc
    match i, hc with
    | 0, hc => cases hc; exact dic_at [("set", yt0_0, Value.ref yr0_0), ("copy", yt0_1, Value.ref yr0_1), ("add", yt0_2, Value.ref yr0_2), ("sub", yt0_3, Value.ref yr0_3), ("mul", yt0_4, Value.ref yr0_4), ("times", yt0_5, Value.ref yr0_5), ("div", yt0_6, Value.ref yr0_6), ("less", yt0_7, Value.ref yr0_7), ("ask", yt0_8, Value.ref yr0_8), ("read", yt0_9, Value.ref yr0_9), ("write", yt0_10, Value.ref yr0_10), ("show", yt0_11, Value.ref yr0_11)] (PySem.W.mg_of X G yn0) ys0 yl0 yx0 (show (["set", "copy", "add", "sub", "mul", "times", "div", "less", "ask", "read", "write", "show"] : List Str).Nodup by decide +kernel) (.cons ⟨rfl, .ref _, rfl, tup_at tl1 tv1 (by decide) fun _ _ => .cons (.str _) (.cons (.str _) .nil)⟩ (.cons ⟨rfl, .ref _, rfl, tup_at tl2 tv2 (by decide) fun _ _ => .cons (.str _) (.cons (.str _) .nil)⟩ (.cons ⟨rfl, .ref _, rfl, tup_at tl3 tv3 (by decide) fun _ _ => .cons (.str _) (.cons (.str _) (.cons (.str _) .nil))⟩ (.cons ⟨rfl, .ref _, rfl, tup_at tl4 tv4 (by decide) fun _ _ => .cons (.str _) (.cons (.str _) (.cons (.str _) .nil))⟩ (.cons ⟨rfl, .ref _, rfl, tup_at tl5 tv5 (by decide) fun _ _ => .cons (.str _) (.cons (.str _) (.cons (.str _) .nil))⟩ (.cons ⟨rfl, .ref _, rfl, tup_at tl6 tv6 (by decide) fun _ _ => .cons (.str _) (.cons (.str _) (.cons (.str _) .nil))⟩ (.cons ⟨rfl, .ref _, rfl, tup_at tl7 tv7 (by decide) fun _ _ => .cons (.str _) (.cons (.str _) (.cons (.str _) .nil))⟩ (.cons ⟨rfl, .ref _, rfl, tup_at tl8 tv8 (by decide) fun _ _ => .cons (.str _) (.cons (.str _) (.cons (.str _) .nil))⟩ (.cons ⟨rfl, .ref _, rfl, tup_at tl9 tv9 (by decide) fun _ _ => .cons (.str _) .nil⟩ (.cons ⟨rfl, .ref _, rfl, tup_at tl10 tv10 (by decide) fun _ _ => .cons (.str _) (.cons (.str _) .nil)⟩ (.cons ⟨rfl, .ref _, rfl, tup_at tl11 tv11 (by decide) fun _ _ => .cons (.str _) (.cons (.str _) .nil)⟩ (.cons ⟨rfl, .ref _, rfl, tup_at tl12 tv12 (by decide) fun _ _ => .cons (.str _) .nil⟩ .nil))))))))))))
    | 1, hc => cases hc; exact dic_at [("go", yt1_0, Value.ref yr1_0), ("pick", yt1_1, Value.ref yr1_1), ("give", yt1_2, Value.ref yr1_2)] (PySem.W.mg_of X G yn1) ys1 yl1 yx1 (show (["go", "pick", "give"] : List Str).Nodup by decide +kernel) (.cons ⟨rfl, .ref _, rfl, tup_at tl13 tv13 (by decide) fun _ _ => .cons (.str _) .nil⟩ (.cons ⟨rfl, .ref _, rfl, tup_at tl14 tv14 (by decide) fun _ _ => .cons (.str _) (.cons (.str _) (.cons (.str _) .nil))⟩ (.cons ⟨rfl, .ref _, rfl, tup_at tl15 tv15 (by decide) fun _ _ => .cons (.str _) .nil⟩ .nil)))
    | i + 2, hc => cases hc
-- HOLES a0 l0 e0 k0 a1 l1 e1 k1 a2 l2 e2 k2 a3 l3 e3 k3 a4 l4 e4 k4 a5 l5 e5 k5 a6 l6 e6 k6 a7 l7 e7 k7 a8 l8 e8 k8 a9 l9 e9 k9 a10 l10 e10 k10 a11 l11 e11 k11 a12 l12 e12 k12 a13 l13 e13 k13 a14 l14 e14 k14 a15 l15 e15 k15 a16 l16 e16 k16 a17 l17 e17 k17 a18 l18 e18 k18 a19 l19 e19 k19 a20 l20 e20 k20 a21 l21 e21 k21 a22 l22 e22 k22 n0 n1 n2 n3 n4 n5 n6 n7 n8 tl0 tv0 yn0 ys0 yl0 yx0 tl1 tv1 tl2 tv2 tl3 tv3 tl4 tv4 tl5 tv5 tl6 tv6 tl7 tv7 tl8 tv8 tl9 tv9 tl10 tv10 tl11 tv11 tl12 tv12 yn1 ys1 yl1 yx1 tl13 tv13 tl14 tv14 tl15 tv15 z0 z1 z2 z3 z4 z5 z6 z7 z8 z9 z10 z11 z12 z13 z14 z15 z16 z17
/-! ### the law -/
def rest65 : Ss := match f22.body with
  | .cons (.forS _ _ (.cons _ r)) _ => r
  | _ => .nil
def N65 : List Str := f22.N
def fr65 (r : Int) : Fr := [none, none, some (.str ("a" ++ Str.ofString (toString r))), some (.str "y")] ++ List.replicate (N65.length - 4) none
theorem run65_0 : goesOn (fr65 0).length (evSs (cal pg 42) pg.wl rest65 (fr65 0) []) = true := by decide +kernel
theorem run65_1 : goesOn (fr65 1).length (evSs (cal pg 42) pg.wl rest65 (fr65 1) []) = true := by decide +kernel
theorem run65_2 : goesOn (fr65 2).length (evSs (cal pg 42) pg.wl rest65 (fr65 2) []) = true := by decide +kernel
theorem run65_3 : goesOn (fr65 3).length (evSs (cal pg 42) pg.wl rest65 (fr65 3) []) = true := by decide +kernel
theorem run65_4 : goesOn (fr65 4).length (evSs (cal pg 42) pg.wl rest65 (fr65 4) []) = true := by decide +kernel
theorem run65_5 : goesOn (fr65 5).length (evSs (cal pg 42) pg.wl rest65 (fr65 5) []) = true := by decide +kernel
theorem run65_6 : goesOn (fr65 6).length (evSs (cal pg 42) pg.wl rest65 (fr65 6) []) = true := by decide +kernel
theorem run65_7 : goesOn (fr65 7).length (evSs (cal pg 42) pg.wl rest65 (fr65 7) []) = true := by decide +kernel
theorem run65_8 : goesOn (fr65 8).length (evSs (cal pg 42) pg.wl rest65 (fr65 8) []) = true := by decide +kernel
theorem run65 {r : Int} (h0 : 0 ≤ r) (h9 : r < 9) : goesOn (fr65 r).length (evSs (cal pg 42) pg.wl rest65 (fr65 r) []) = true := by
  have : r = 0 ∨ r = 1 ∨ r = 2 ∨ r = 3 ∨ r = 4 ∨ r = 5 ∨ r = 6 ∨ r = 7 ∨ r = 8 := by omega
  rcases this with rfl | rfl | rfl | rfl | rfl | rfl | rfl | rfl | rfl
  · exact run65_0
  · exact run65_1
  · exact run65_2
  · exact run65_3
  · exact run65_4
  · exact run65_5
  · exact run65_6
  · exact run65_7
  · exact run65_8
theorem first65 (c : Int) : ∃ r a' b' : Int, 0 ≤ r ∧ r < 9 ∧ evS (cal pg 42) pg.wl (.par 2 3 (.bin .add (.con (.str "a")) (.bi .str_ (.cons (.call 18 (.cons (.var 1) (.cons (.con (.int 9)) .nil))) .nil))) (.con (.str "y"))) (frD N65 1) [.lst [.int c, .int 0]] =
    .ok (.nx (((frD N65 1).set 2 (some (.str ("a" ++ Str.ofString (toString r))))).set 3 (some (.str "y")))) [.lst [.int a', .int b']] := by
  obtain ⟨r, a', b', h0, h9, e⟩ := roll_ok (pg := pg) (iD := 17) (iR := 18) (n := 40) rfl rfl c 0 9 [.lst [.int c, .int 0]] 0 rfl (by decide) (by decide +kernel)
  refine ⟨r, a', b', h0, h9, ?_⟩
  have lg : r.natAbs.log2 < 1920 := Nat.lt_of_lt_of_le (log2_lt (k := 4) (by omega) (by decide)) (by decide)
  have z : ("a" : Str).length + (Str.ofString (toString r)).length ≤ LIM := by
    have : r = 0 ∨ r = 1 ∨ r = 2 ∨ r = 3 ∨ r = 4 ∨ r = 5 ∨ r = 6 ∨ r = 7 ∨ r = 8 := by omega
    rcases this with rfl | rfl | rfl | rfl | rfl | rfl | rfl | rfl | rfl <;> decide +kernel
  exact es_par (ev_bin (op := .add) ev_con (ev_bi (ev_cons (ev_call (ev_cons (ev_var rfl) (ev_cons ev_con ev_nil)) e) ev_nil) (if_pos lg)) (if_pos z)) ev_con (by decide) (by decide)
theorem body65 {E : XK} {X : Cx} (g : GS X [] E (fun _ => 0) pg 42) (hN : X.N = N65) (u : List Stmt) (hc : chkSs N65 pg (.cons (.par 2 3 (.bin .add (.con (.str "a")) (.bi .str_ (.cons (.call 18 (.cons (.var 1) (.cons (.con (.int 9)) .nil))) .nil))) (.con (.str "y"))) rest65) X.env.scope u = true) : BodyOk X 1 u := by
  rw [← hN] at hc
  refine body_closed g hc fun c => ?_
  obtain ⟨r, a', b', h0, h9, e⟩ := first65 c
  rw [hN]
  refine ⟨_, _, fr65 r, e, by simp [frD], ?_, run65 h0 h9⟩
  have : r = 0 ∨ r = 1 ∨ r = 2 ∨ r = 3 ∨ r = 4 ∨ r = 5 ∨ r = 6 ∨ r = 7 ∨ r = 8 := by omega
  rcases this with rfl | rfl | rfl | rfl | rfl | rfl | rfl | rfl | rfl <;> decide +kernel
theorem law65 {P : Program} {w : World} {K : PySem.W.Frag} {mg : Str → Option Value} (t : Top P w K mg [] (fun _ => 0) pg) :
    ∃ a fd, mg ("law" : Str) = some (.ref a) ∧ (∀ (s : Shared) (u : Value), BindsTo s fd ⟨[u], []⟩ [("_law_script", u)]) ∧ ∀ base : Heap, FnOk P w K mg base (L2N.CX P w) 43 a fd ["_law_script"] (spLawF K) :=
  law_fn t (iC := 16) (iR := 19) (n := 40) (d := 1) (most := 3) rfl rfl (by decide) (by decide) (t.fn f22 (List.mem_of_getElem? (i := 22) rfl)) fun X E g hN u hc => body65 g hN u hc
end Q65
open PySem PySem.W PyProof.Rows
set_option maxHeartbeats 0 in
theorem PySem.Challenge.cw_flowkeep_k65_whole_odd_graphs_holds : PySem.Challenge.rw_flowkeep_k65_whole_odd_graphs.Holds := by
  w_on; o_law; k_head; (case hw => w_witness2)
  k_fill
  refine L2.walk_of (l := PySem.Challenge.rw_flowkeep_k65_whole_odd_graphs) (n := 63) (k := 43) (x := "_law_script") (CX := fun w => L2N.CX PySem.Challenge.rw_flowkeep_k65_whole_odd_graphs.prog w) (sp := fun w => PI.spLawF _) rfl (by decide) rfl ⟨rfl, by decide, by decide⟩ (fun w h Y => PySem.W.kIn_of Y) ?F (fun _ _ a ns hl o hS => ⟨a, ns, rfl, hl, PI.frz_only o hS, fun _ => rfl⟩) (fun _ _ _ _ _ h => PI.cx_no h)
  case F =>
    intro w mg fa h KX G hmg
    refine PI.law_end (pg := Q65.pg) KX hmg ?t Q65.law65
    case t =>
      refine' Q65.top_mk KX G ?a0 ?l0 ?e0 ?k0 ?a1 ?l1 ?e1 ?k1 ?a2 ?l2 ?e2 ?k2 ?a3 ?l3 ?e3 ?k3 ?a4 ?l4 ?e4 ?k4 ?a5 ?l5 ?e5 ?k5 ?a6 ?l6 ?e6 ?k6 ?a7 ?l7 ?e7 ?k7 ?a8 ?l8 ?e8 ?k8 ?a9 ?l9 ?e9 ?k9 ?a10 ?l10 ?e10 ?k10 ?a11 ?l11 ?e11 ?k11 ?a12 ?l12 ?e12 ?k12 ?a13 ?l13 ?e13 ?k13 ?a14 ?l14 ?e14 ?k14 ?a15 ?l15 ?e15 ?k15 ?a16 ?l16 ?e16 ?k16 ?a17 ?l17 ?e17 ?k17 ?a18 ?l18 ?e18 ?k18 ?a19 ?l19 ?e19 ?k19 ?a20 ?l20 ?e20 ?k20 ?a21 ?l21 ?e21 ?k21 ?a22 ?l22 ?e22 ?k22 ?n0 ?n1 ?n2 ?n3 ?n4 ?n5 ?n6 ?n7 ?n8 ?tl0 ?tv0 ?yn0 ?ys0 ?yl0 ?yx0 ?tl1 ?tv1 ?tl2 ?tv2 ?tl3 ?tv3 ?tl4 ?tv4 ?tl5 ?tv5 ?tl6 ?tv6 ?tl7 ?tv7 ?tl8 ?tv8 ?tl9 ?tv9 ?tl10 ?tv10 ?tl11 ?tv11 ?tl12 ?tv12 ?yn1 ?ys1 ?yl1 ?yx1 ?tl13 ?tv13 ?tl14 ?tv14 ?tl15 ?tv15 ?z0 ?z1 ?z2 ?z3 ?z4 ?z5 ?z6 ?z7 ?z8 ?z9 ?z10 ?z11 ?z12 ?z13 ?z14 ?z15 ?z16 ?z17
      (case a0 => k_is)
      (case l0 => k_is)
      (case e0 => k_is)
      (case k0 => k_is)
      (case a1 => k_is)
      (case l1 => k_is)
      (case e1 => k_is)
      (case k1 => k_is)
      (case a2 => k_is)
      (case l2 => k_is)
      (case e2 => k_is)
      (case k2 => k_is)
      (case a3 => k_is)
      (case l3 => k_is)
      (case e3 => k_is)
      (case k3 => k_is)
      (case a4 => k_is)
      (case l4 => k_is)
      (case e4 => k_is)
      (case k4 => k_is)
      (case a5 => k_is)
      (case l5 => k_is)
      (case e5 => k_is)
      (case k5 => k_is)
      (case a6 => k_is)
      (case l6 => k_is)
      (case e6 => k_is)
      (case k6 => k_is)
      (case a7 => k_is)
      (case l7 => k_is)
      (case e7 => k_is)
      (case k7 => k_is)
      (case a8 => k_is)
      (case l8 => k_is)
      (case e8 => k_is)
      (case k8 => k_is)
      (case a9 => k_is)
      (case l9 => k_is)
      (case e9 => k_is)
      (case k9 => k_is)
      (case a10 => k_is)
      (case l10 => k_is)
      (case e10 => k_is)
      (case k10 => k_is)
      (case a11 => k_is)
      (case l11 => k_is)
      (case e11 => k_is)
      (case k11 => k_is)
      (case a12 => k_is)
      (case l12 => k_is)
      (case e12 => k_is)
      (case k12 => k_is)
      (case a13 => k_is)
      (case l13 => k_is)
      (case e13 => k_is)
      (case k13 => k_is)
      (case a14 => k_is)
      (case l14 => k_is)
      (case e14 => k_is)
      (case k14 => k_is)
      (case a15 => k_is)
      (case l15 => k_is)
      (case e15 => k_is)
      (case k15 => k_is)
      (case a16 => k_is)
      (case l16 => k_is)
      (case e16 => k_is)
      (case k16 => k_is)
      (case a17 => k_is)
      (case l17 => k_is)
      (case e17 => k_is)
      (case k17 => k_is)
      (case a18 => k_is)
      (case l18 => k_is)
      (case e18 => k_is)
      (case k18 => k_is)
      (case a19 => k_is)
      (case l19 => k_is)
      (case e19 => k_is)
      (case k19 => k_is)
      (case a20 => k_is)
      (case l20 => k_is)
      (case e20 => k_is)
      (case k20 => k_is)
      (case a21 => k_is)
      (case l21 => k_is)
      (case e21 => k_is)
      (case k21 => k_is)
      (case a22 => k_is)
      (case l22 => k_is)
      (case e22 => k_is)
      (case k22 => k_is)
      (case n0 => k_is)
      (case n1 => k_is)
      (case n2 => k_is)
      (case n3 => k_is)
      (case n4 => k_is)
      (case n5 => k_is)
      (case n6 => k_is)
      (case n7 => k_is)
      (case n8 => k_is)
      (case tl0 => k_is)
      (case tv0 => repeat (first | exact .nil | refine .cons ⟨_, rfl⟩ ?_))
      (case yn0 => k_is)
      (case ys0 => rfl)
      (case yl0 => k_is)
      (case yx0 => rfl)
      (case tl1 => k_is)
      (case tv1 => repeat (first | exact .nil | refine .cons ⟨_, rfl⟩ ?_))
      (case tl2 => k_is)
      (case tv2 => repeat (first | exact .nil | refine .cons ⟨_, rfl⟩ ?_))
      (case tl3 => k_is)
      (case tv3 => repeat (first | exact .nil | refine .cons ⟨_, rfl⟩ ?_))
      (case tl4 => k_is)
      (case tv4 => repeat (first | exact .nil | refine .cons ⟨_, rfl⟩ ?_))
      (case tl5 => k_is)
      (case tv5 => repeat (first | exact .nil | refine .cons ⟨_, rfl⟩ ?_))
      (case tl6 => k_is)
      (case tv6 => repeat (first | exact .nil | refine .cons ⟨_, rfl⟩ ?_))
      (case tl7 => k_is)
      (case tv7 => repeat (first | exact .nil | refine .cons ⟨_, rfl⟩ ?_))
      (case tl8 => k_is)
      (case tv8 => repeat (first | exact .nil | refine .cons ⟨_, rfl⟩ ?_))
      (case tl9 => k_is)
      (case tv9 => repeat (first | exact .nil | refine .cons ⟨_, rfl⟩ ?_))
      (case tl10 => k_is)
      (case tv10 => repeat (first | exact .nil | refine .cons ⟨_, rfl⟩ ?_))
      (case tl11 => k_is)
      (case tv11 => repeat (first | exact .nil | refine .cons ⟨_, rfl⟩ ?_))
      (case tl12 => k_is)
      (case tv12 => repeat (first | exact .nil | refine .cons ⟨_, rfl⟩ ?_))
      (case yn1 => k_is)
      (case ys1 => rfl)
      (case yl1 => k_is)
      (case yx1 => rfl)
      (case tl13 => k_is)
      (case tv13 => repeat (first | exact .nil | refine .cons ⟨_, rfl⟩ ?_))
      (case tl14 => k_is)
      (case tv14 => repeat (first | exact .nil | refine .cons ⟨_, rfl⟩ ?_))
      (case tl15 => k_is)
      (case tv15 => repeat (first | exact .nil | refine .cons ⟨_, rfl⟩ ?_))
      (case z0 => k_is)
      (case z1 => k_is)
      (case z2 => k_is)
      (case z3 => k_is)
      (case z4 => k_is)
      (case z5 => k_is)
      (case z6 => k_is)
      (case z7 => k_is)
      (case z8 => k_is)
      (case z9 => k_is)
      (case z10 => k_is)
      (case z11 => k_is)
      (case z12 => k_is)
      (case z13 => k_is)
      (case z14 => k_is)
      (case z15 => k_is)
      (case z16 => k_is)
      (case z17 => k_is)
