import PyProof.Rows.All
import PySem.Str
import PySem.Sem
import PyProof.StrBlockL
import PyProof.Rows.Walk
import Wide.All
import OpenK.AllK
import Wide.FinOn
import Lean
import PyProof.EqAt
import PyProof.EqKinds
import PyProof.TupleCall
import PyProof.SeqRoads2
import PyProof.ExcArgs
import KE.KIsAll
import PyProof.DictIter
import PySem.Challenge.RW_risecount_k30_loose_pairs_and_cut
set_option Elab.async false
set_option linter.all false
set_option maxRecDepth 100000
set_option maxHeartbeats 3999999
section
namespace L3
open PySem
inductive D where
 | non
 | bl (b:Bool)
 | int (i:Int)
 | str (x:Str)
 | tup (xs:List D)
 | lst (xs:List D)
 | lD (ns:List Int)
 | jX (ks:List (Sum Int Str)) (xs:List D)
 | eL (q:Nat->Obj->Prop) (ks:List (Sum (Sum Int Str) (List (Sum (Sum Int Str) (List (Sum Int Str)))))) (xs:List D)
 | exc (c:Str) (a:Nat)
mutual
def D.FI:D->Bool
 | .non=>true
 | .bl _=>true
 | .int _=>true
 | .str _=>true
 | .tup ds=>uX ds
 | .lst _=>false
 | .lD _=>true
 | .jX _ _=>false
 | .eL _ _ _=>false
 | .exc _ _=>true
def uX:List D->Bool
 | []=>true
 | d::ds=>d.FI&&uX ds
end
abbrev bN:=List (Option D)
inductive Sv where
 | no
 | ro (d:D)
 | ow (d:D)
abbrev aR:=List Sv
def Sv.all:Sv->Option D
 | .no=>none
 | .ro d=>some d
 | .ow d=>some d
def Sv.rd:Sv->Option D
 | .ro d=>some d
 | _=>none
def cC (ρ:aR):bN:=ρ.map Sv.all
def iT (ρ:aR):bN:=ρ.map Sv.rd
end L3
namespace L4
open PySem L3
inductive M (α:Type) where
 | no
 | ex (c:Str)
 | ok (a:α)
inductive Out where
 | no
 | nx (ρ:aR)
 | rt (d:D)
 | ex (c:Str)
abbrev EF:=bN->Option D
abbrev TF:=bN->Option Bool
abbrev AF:=bN->Option (List D)
abbrev XF:=aR->Option (aR×D)
abbrev SF:=aR->Out
abbrev fG:=List D->M D
def pX:Nat:=16777216
def aB (i:Nat):EF:=fun ρ=>(ρ[i]?).join
def eC (d:D):EF:=fun _=>some d
def aE (g:D->D->Option D) (a b:EF):EF:=fun ρ=>(a ρ).bind fun x=>(b ρ).bind fun y=>g x y
def lE:D->Option Bool
 | .bl b=>some b
 | .lst ds=>some (!ds.isEmpty)
 | .tup ds=>some (!ds.isEmpty)
 | _=>none
def tV (f:EF):TF:=fun ρ=>(f ρ).bind lE
def fZ (t:TF):TF:=fun ρ=>(t ρ).map (!·)
def lW (t u:TF):TF:=fun ρ=>(t ρ).bind fun b=>if b=true then u ρ else some false
def oR (t u:TF):TF:=fun ρ=>(t ρ).bind fun b=>if b=true then some true else u ρ
def mC:D->Option Bool
 | .bl b=>some b
 | _=>none
def iM (a b:EF):EF:=fun ρ=>(a ρ).bind fun x=>(mC x).bind fun c=>if c=true then b ρ else some (.bl false)
def NU (a b:EF):EF:=fun ρ=>(a ρ).bind fun x=>(mC x).bind fun c=>if c=true then some (.bl true) else b ρ
def rP (a:EF):EF:=fun ρ=>(a ρ).bind fun x=>(mC x).map fun c=>.bl (!c)
def KA (t:TF) (a b:EF):EF:=fun ρ=>(t ρ).bind fun c=>if c=true then a ρ else b ρ
def S7:D->Option D
 | .int i=>some (.int (-i))
 | _=>none
def A7 (a:EF):EF:=fun ρ=>(a ρ).bind S7
def mD (f g:D->D->Option D) (a b c:EF):EF:=fun ρ=>(a ρ).bind fun x=>(b ρ).bind fun y=>(f x y).bind fun z=>(mC z).bind fun k=>if k=true then (c ρ).bind fun w=>g y w else some (.bl false)
def FJ (g:Int->Int->D):D->D->Option D
 | .int i,.int j=>some (g i j)
 | _,_=>none
def oN (c:Int->Int->Bool) (g:Int->Int->D):D->D->Option D
 | .int i,.int j=>if c i j=true then some (g i j) else none
 | _,_=>none
def cB:D->D->Option D
 | .int i,.int j=>some (.int (i+j))
 | .lst a,.lst b=>if a.length+b.length<=pX then some (.lst (a++b)) else none
 | .tup a,.tup b=>if a.length+b.length<=pX then some (.tup (a++b)) else none
 | .str a,.str b=>if a.length+b.length<=pX then some (.str (a++b)) else none
 | _,_=>none
def fM:D->D->Option D:=FJ fun i j=>.int (i - j)
def uY (i j:Int):Bool:=decide (i.natAbs<18446744073709551616)||decide (j.natAbs<18446744073709551616)||decide (i.natAbs.log2+j.natAbs.log2<=134217700)
def mulM:D->D->Option D:=oN uY fun i j=>.int (i*j)
def fH:D->D->Option D:=oN (fun _ j=>decide (0<j)) fun i j=>.int (i % j)
def t9:D->D->Option D:=oN (fun _ j=>decide (0<j)&&decide (j.natAbs<1073741824)) fun i j=>.int (i / j)
def uA:D->D->Option D:=oN (fun i j=>decide (0<=j)&&decide (j.natAbs<=1000000)&&decide (i.natAbs<18446744073709551616)) fun i j=>.int (i ^ j.toNat)
def WW:D->D->Option D:=FJ fun i j=>.bl (decide (i<j))
def leM:D->D->Option D:=FJ fun i j=>.bl (decide (i<=j))
def uK:D->D->Option D:=FJ fun i j=>.bl (decide (j<i))
def geM:D->D->Option D:=FJ fun i j=>.bl (decide (j<=i))
def WY:D->D->Option Bool
 | .int i,.int j=>some (decide (i=j))
 | .bl i,.bl j=>some (decide (i=j))
 | .str i,.str j=>some (decide (i=j))
 | .non,.non=>some true
 | _,_=>none
def jW:D->D->Option D:=fun x y=>(WY x y).map .bl
def KC:D->D->Option D:=fun x y=>(WY x y).map fun b=>.bl (!b)
def uZ:D->Bool
 | .non=>true
 | _=>false
def S8:D->D->Option D:=fun x y=>if uZ y=true then some (.bl (uZ x)) else none
def intsOf:List D->Option (List Int)
 | []=>some []
 | .int i::ds=>(intsOf ds).map (i :: ·)
 | _::_=>none
def lC (neg:Bool):D->D->Option D
 | .int i,.tup ds=>(intsOf ds).map fun ns=>.bl (if neg then !ns.contains i else ns.contains i)
 | .int i,.lst ds=>(intsOf ds).map fun ns=>.bl (if neg then !ns.contains i else ns.contains i)
 | _,_=>none
def NV (n:Nat) (i:Int):Option Nat:=if 0<=i then (if i<n then some i.toNat else none) else if -(n:Int)<=i then some (i+n).toNat else none
def CY {α:Type} (xs:List α) (i:Int):Option α:=(NV xs.length i).bind fun j=>xs[j]?
def cQ:D->D->Option D
 | .lst a,.int i=>CY a i
 | .tup a,.int i=>CY a i
 | .lD a,.int i=>(CY a i).map D.int
 | _,_=>none
def u0:D->Option (Sum Int Str)
 | .int i=>some (.inl i)
 | .str x=>some (.inr x)
 | _=>none
def jZ (ks:List (Sum Int Str)) (ds:List D) (k:Sum Int Str):Option D:=((ks.zip ds).find? fun kv=>decide (kv.1=k)).map (·.2)
def u3:D->D->Option D
 | .jX ks ds,d=>(u0 d).bind fun k=>jZ ks ds k
 | _,_=>none
def aC:AF:=fun _=>some []
def aA (a:EF) (t:AF):AF:=fun ρ=>(a ρ).bind fun d=>(t ρ).bind fun ds=>some (d::ds)
def fJ (t:AF):EF:=fun ρ=>(t ρ).bind fun ds=>if ds.length<=pX then some (.tup ds) else none
def eZ (t:AF):EF:=fun ρ=>(t ρ).bind fun ds=>if ds.length<=pX then some (.lst ds) else none
def bU (g:List D->Option D) (t:AF):EF:=fun ρ=>(t ρ).bind g
def C0:M D->Option D
 | .ok d=>some d
 | _=>none
def aG (R:fG) (t:AF):EF:=fun ρ=>(t ρ).bind fun ds=>C0 (R ds)
def bV:List D->Option D
 | [.lst a]=>some (.int a.length)
 | [.tup a]=>some (.int a.length)
 | [.lD a]=>some (.int a.length)
 | _=>none
def bW:List D->Option D
 | [.lst a]=>some (.tup a)
 | [.tup a]=>some (.tup a)
 | _=>none
def pZ:List D->Option D
 | [.lst a]=>some (.lst a)
 | [.tup a]=>some (.lst a)
 | _=>none
def insI (a:Int):List Int->List Int
 | []=>[a]
 | b::l=>if a<=b then a::b::l else b::insI a l
def sortI:List Int->List Int
 | []=>[]
 | a::l=>insI a (sortI l)
def fL:List D->Option D
 | [.lst a]=>(intsOf a).bind fun ns=>if ns.length<64 then some (.lst ((sortI ns).map D.int)) else none
 | _=>none
def A8:List D->Option D
 | [.lst a]=>(intsOf a).map fun ns=>.int ns.sum
 | _=>none
def oS:List D->Option (List Bool)
 | []=>some []
 | d::ds=>(lE d).bind fun b=>(oS ds).map (b :: ·)
def allM:List D->Option D
 | [.lst a]=>(oS a).map fun bs=>.bl (bs.all id)
 | _=>none
def anyM:List D->Option D
 | [.lst a]=>(oS a).map fun bs=>.bl (bs.any id)
 | _=>none
def tyM:D->String
 | .non => "NoneType"
 | .bl _ => "bool"
 | .int _ => "int"
 | .str _ => "str"
 | .tup _ => "tuple"
 | .lst _ => "list"
 | .lD _ => "list"
 | .jX _ _ => "dict"
 | .eL _ _ _ => "dict"
 | .exc _ _ => "NoneType"
def FK (T:String) (d:D):Bool:=tyM d == T||(T == "int" && tyM d == "bool")
def FL:D->Bool
 | .exc _ _=>false
 | .eL _ _ _=>false
 | _=>true
def jJ (T:String) (a:EF):EF:=fun ρ=>(a ρ).bind fun d=>if FL d=true then some (.bl (FK T d)) else none
def bG (lo:Int) (n:Nat):List Int:=(List.range n).map fun k:Nat=>lo+(k:Int)
def aF0 (hi:Int) (n:Nat):List Int:=(List.range n).map fun k:Nat=>hi - (k:Int)
def FN (t:AF):EF:=fun ρ=>(t ρ).bind fun ds=>match ds with
 | [.int j]=>if j.natAbs<=16777216 then some (.lst ((bG 0 j.toNat).map D.int)) else none
 | _=>none
def u4:List D->Option D
 | [.int i,.int j]=>some (.int (if j>i then j else i))
 | _=>none
def repLM:D->D->Option D
 | .lst a,.int n=>if a.length*n.toNat<=pX/\n.natAbs<9223372036854775808 then some (.lst (List.replicate n.toNat a).flatten) else none
 | _,_=>none
def KG:D->D->Option D
 | .lst a,.lst b=>if a.length+b.length<=pX then some (.lst (a++b)) else none
 | _,_=>none
def C4:D->Option (List D)
 | .lst ds=>some ds
 | .tup ds=>some ds
 | _=>none
def cR (f:EF):AF:=fun ρ=>(f ρ).bind C4
def FO:List D->Option (List D)
 | [.int j]=>if j.natAbs<4611686018427387904 then some ((bG 0 j.toNat).map D.int) else none
 | [.int i,.int j]=>if i.natAbs<4611686018427387904/\j.natAbs<4611686018427387904 then some ((bG i (j - i).toNat).map D.int) else none
 | [.int i,.int j,.int k]=>if k=-1/\i.natAbs<1000000/\j.natAbs<1000000 then some ((aF0 i (i - j).toNat).map D.int) else none
 | _=>none
def aP (t:AF):AF:=fun ρ=>(t ρ).bind FO
def IB:List D->Option (List D)
 | [.lst ds]=>some (ds.zipIdx.map fun p=>.tup [.int (p.2:Int),p.1])
 | [.tup ds]=>some (ds.zipIdx.map fun p=>.tup [.int (p.2:Int),p.1])
 | _=>none
def mE (t:AF):AF:=fun ρ=>(t ρ).bind IB
def aF1:List D->Option (List D)
 | [a,b]=>(C4 a).bind fun xs=>(C4 b).map fun ys=>(xs.zip ys).map fun p=>.tup [p.1,p.2]
 | _=>none
def YE (t:AF):AF:=fun ρ=>(t ρ).bind aF1
def YF:List D->Option (List D)
 | [.lst ds]=>some ds.reverse
 | [.tup ds]=>some ds.reverse
 | _=>none
def KH (t:AF):AF:=fun ρ=>(t ρ).bind YF
abbrev FP:=D->bN->Option bN
def g1 (i:Nat):FP:=fun d ρ=>some (ρ.set i (some d))
def y6:D->Option (D×D)
 | .tup [x,y]=>some (x,y)
 | _=>none
def g2 (i j:Nat):FP:=fun d ρ=>(y6 d).map fun p=>(ρ.set i (some p.1)).set j (some p.2)
def dC:TF:=fun _=>some true
def benv (nl:Nat) (fr:List Nat) (ρ:bN):bN:=List.replicate nl none++fr.map fun j=>(ρ[j]?).join
def jK (g:FP) (t:TF) (e:EF) (ρ:bN):List D->Option (List D)
 | []=>some []
 | d::ds=>(g d ρ).bind fun ρ1=>(t ρ1).bind fun b=>if b=true then (e ρ1).bind fun y=>(jK g t e ρ ds).map (y :: ·) else jK g t e ρ ds
def bZ (nl:Nat) (fr:List Nat) (it:AF) (g:FP) (t:TF) (e:EF):EF:=fun ρ=>(it ρ).bind fun ds=>if ds.length<=pX then (jK g t e (benv nl fr ρ) ds).map D.lst else none
abbrev OF:=bN->Option (Option Int)
def oNo:OF:=fun _=>some none
def asInt:D->Option Int
 | .int i=>some i
 | _=>none
def oE (f:EF):OF:=fun ρ=>(f ρ).bind fun d=>(asInt d).map some
def S9 (n d:Nat):Option Int->Nat
 | none=>d
 | some i=>if i<0 then (i+n).toNat else min i.toNat n
def TB (xs:List D) (lo hi:Option Int):List D:=(xs.drop (S9 xs.length 0 lo)).take (S9 xs.length xs.length hi - S9 xs.length 0 lo)
def slM (d:D) (lo hi:Option Int):Option D:=match d with
 | .lst ds=>some (.lst (TB ds lo hi))
 | .tup ds=>some (.tup (TB ds lo hi))
 | _=>none
def eSl (f:EF) (lo hi:OF):EF:=fun ρ=>(f ρ).bind fun d=>(lo ρ).bind fun l=>(hi ρ).bind fun h=>slM d l h
def IC (f:EF):XF:=fun ρ=>(f (cC ρ)).bind fun d=>if d.FI=true then some (ρ,d) else none
def aV (f:EF):XF:=fun ρ=>(f (iT ρ)).bind fun d=>some (ρ,d)
def lF:Option Sv->Option (List D)
 | some (.ow (.lst ds))=>some ds
 | _=>none
def mB (i:Nat) (m:List D->D->Option (List D×D)) (x:XF):XF:=fun ρ=>(lF ρ[i]?).bind fun _=>(x ρ).bind fun p=>(lF p.1[i]?).bind fun ds=>(m ds p.2).map fun q=>(p.1.set i (.ow (.lst q.1)),q.2)
def gQ:List D->D->Option (List D×D):=fun ds d=>if ds.length<pX then some (ds++[d],.non) else none
def TC:List D->D->Option (List D×D)
 | ds,.int k=>if k.natAbs<9223372036854775808 then (NV ds.length k).bind fun j=>(ds[j]?).map fun d=>(ds.eraseIdx j,d) else none
 | _,_=>none
def KI:List D->D->Option (List D×D)
 | ds,.lst es=>if ds.length+es.length<=pX then some (ds++es,.non) else none
 | _,_=>none
def aBP (i:Nat):XF:=fun ρ=>(lF ρ[i]?).bind fun ds=>(ds[ds.length - 1]?).map fun d=>(ρ.set i (.ow (.lst ds.dropLast)),d)
def dA:SF:=fun ρ=>.nx ρ
def aJ (f g:SF):SF:=fun ρ=>match f ρ with
 | .nx ρ'=>g ρ'
 | o=>o
def aS (f:EF):SF:=fun ρ=>match f (cC ρ) with
 | some d=>.rt d
 | none=>.no
def fI (t:TF) (a b:SF):SF:=fun ρ=>match t (cC ρ) with
 | some true=>a ρ
 | some false=>b ρ
 | none=>.no
def aO (i:Nat) (f:EF):SF:=fun ρ=>match f (iT ρ) with
 | some d=>.nx (ρ.set i (.ro d))
 | none=>.no
def ID (i:Nat) (x:XF):SF:=fun ρ=>match x ρ with
 | some p=>.nx (p.1.set i (.ro p.2))
 | none=>.no
def iN (i:Nat) (f:EF):SF:=fun ρ=>match f (iT ρ) with
 | some d=>.nx (ρ.set i (.ow d))
 | none=>.no
def u5:D->Bool
 | .lst ds=>uX ds
 | _=>false
def NW (i:Nat) (f:EF):SF:=fun ρ=>match f (cC ρ) with
 | some d=>if u5 d=true then .nx (ρ.set i (.ow d)) else .no
 | none=>.no
def u6 (i:Nat) (f:EF):SF:=fun ρ=>match f (cC ρ) with
 | some d=>if u5 d=true then .nx (ρ.set i (.ro d)) else .no
 | none=>.no
def C5 (i:Nat):SF:=fun ρ=>.nx (ρ.set i (.ow (.jX [] [])))
def sX (x:XF):SF:=fun ρ=>match x ρ with
 | some p=>.nx p.1
 | none=>.no
def KJ (i:Nat) (x:XF) (k:EF):SF:=fun ρ=>match ((x ρ).bind fun p=>(lF p.1[i]?).bind fun ds=>(k (cC p.1)).bind fun kd=>(asInt kd).bind fun kk=>(NV ds.length kk).map fun j=>p.1.set i (.ow (.lst (ds.set j p.2)))) with
 | some ρ'=>.nx ρ'
 | none=>.no
def u7:Option Sv->Option (List (Sum Int Str)×List D)
 | some (.ow (.jX ks ds))=>some (ks,ds)
 | _=>none
def IE (i:Nat) (x:XF) (k:EF):SF:=fun ρ=>match ((x ρ).bind fun p=>(u7 p.1[i]?).bind fun kd=>(k (cC p.1)).bind fun kv=>(u0 kv).bind fun kk =>
  if (jZ kd.1 kd.2 kk).isNone=true/\kd.2.length<pX then some (p.1.set i (.ow (.jX (kd.1++[kk]) (kd.2++[p.2])))) else none) with
 | some ρ'=>.nx ρ'
 | none=>.no
abbrev IF:=D->aR->Option aR
def j9 (i:Nat):IF:=fun d ρ=>some (ρ.set i (.ro d))
def KL (i j:Nat):IF:=fun d ρ=>(y6 d).map fun p=>(ρ.set i (.ro p.1)).set j (.ro p.2)
def fR (g:IF) (b:SF):List D->aR->Out
 | [],ρ=>.nx ρ
 | d::ds,ρ=>match g d ρ with
  | none=>.no
  | some ρ1=>match b ρ1 with
   | .nx ρ2=>fR g b ds ρ2
   | o=>o
def dP (it:AF) (g:IF) (b:SF):SF:=fun ρ=>match it (iT ρ) with
 | some ds=>fR g b ds ρ
 | none=>.no
def NX (t:TF) (b:SF):Nat->aR->Out
 | 0,_=>.no
 | n+1,ρ=>match t (cC ρ) with
  | none=>.no
  | some false=>.nx ρ
  | some true=>match b ρ with
   | .nx ρ'=>NX t b n ρ'
   | o=>o
def NY:Nat:=1000000
def NZ (n:Nat) (t:TF) (b:SF):SF:=NX t b n
def dR (n:Nat) (ds:List D):aR:=ds.map Sv.ro++List.replicate (n - ds.length) Sv.no
def bQ (n np:Nat) (b:SF):fG:=fun ds=>if ds.length=np then (match b (dR n ds) with
 | .rt d=>.ok d
 | .nx _=>.ok .non
 | .ex c=>.ex c
 | .no=>.no) else .no
end L4
end
section
namespace L4
open PySem L3
def YG:List Int->List Int->Bool
 | [],[]=>false
 | [],_::_=>true
 | _::_,[]=>false
 | a::as,b::bs=>if a=b then YG as bs else decide (a<b)
def TH (t:List Int):List (List Int)->List (List Int)
 | []=>[t]
 | u::us=>if YG u t=true then u::TH t us else t::u::us
def IG:List (List Int)->List (List Int)
 | []=>[]
 | t::ts=>TH t (IG ts)
def aF2 (t:List Int):D:=.tup (t.map D.int)
def aBQ:D->Option (List Int)
 | .tup ds=>intsOf ds
 | _=>none
def N0:List D->Option (List (List Int))
 | []=>some []
 | d::ds=>(aBQ d).bind fun t=>(N0 ds).map (t :: ·)
def A9:List D->Option D
 | [.lst a]=>(N0 a).bind fun ts=>if ts.length<64/\ts.all (fun t=>!t.isEmpty)=true then some (.lst ((IG ts).map aF2)) else none
 | _=>none
theorem y7 (t:List Int):∀ l,(TH t l).Perm (t::l)
 | []=>.refl _
 | u::us=>by
  unfold TH
  by_cases h:YG u t=true
  ·rw [if_pos h]; exact ((y7 t us).cons u).trans (.swap t u us)
  ·rw [if_neg h]
theorem u9:∀ l,(IG l).Perm l
 | []=>.refl _
 | t::ts=>(y7 t _).trans ((u9 ts).cons t)
def aBR (f:D->D->Option Bool):List D->List D->Option Bool
 | d::ds,e::es=>(f d e).bind fun x=>(aBR f ds es).map (x && ·)
 | _,_=>some true
def eqP:Nat->D->D->Option Bool
 | _,.int i,.int j=>some (decide (i=j))
 | _,.bl i,.bl j=>if i=j then some true else none
 | _,.str i,.str j=>if i=j then some true else none
 | n+1,.tup a,.tup b=>(aBR (eqP n) a b).map fun r=>r&&decide (a.length=b.length)
 | _,_,_=>none
def aBS:D->D->Option D:=fun x y=>(eqP 8 x y).map D.bl
def aF3 (ρ:aR) (i:Nat):aR:=match ρ[i]? with
 | some (.ow d)=>ρ.set i (.ro d)
 | _=>ρ
def YH (i:Nat) (f:SF):SF:=fun ρ=>f (aF3 ρ i)
def aF4:List D->Option D
 | [.lst [d]]=>some (.lst [d])
 | ds=>A9 ds
def aBT:List D->Option D
 | [.tup a]=>(intsOf a).map fun ns=>.int ns.sum
 | _=>none
abbrev RF:=bN->Option Str
def aBU:M D->Option Str
 | .ex c=>some c
 | _=>none
def vA (R:fG) (t:AF):RF:=fun ρ=>(t ρ).bind fun ds=>aBU (R ds)
def vB (r:RF) (f:SF):SF:=fun ρ=>match r (cC ρ) with
 | some c=>.ex c
 | none=>f ρ
def p4 (t:AF) (c:Str):SF:=fun ρ=>match t (cC ρ) with
 | some ds=>if ds.length<=10 then .ex c else .no
 | none=>.no
def aM1:D->Option D
 | .lst ds=>some (.lst ds.reverse)
 | _=>none
def KN (x:XF) (g:IF):SF:=fun ρ=>match (x ρ).bind fun p=>g p.2 p.1 with
 | some ρ'=>.nx ρ'
 | none=>.no
def aF5:D->D->Option Bool
 | .lst a,.lst b=>(intsOf a).bind fun x=>(intsOf b).map fun y=>decide (x=y)
 | _,_=>none
def TJ (f:SF):SF:=fun ρ=>match f ρ with
 | .ex _=>.no
 | o=>o
def putN (ns:List Int) (k:Int):List Int:=if k∈ns then ns else ns++[k]
def BA (ns:List Int):List Int:=ns.foldl putN []
def fN:List D->Option D
 | [.tup ds]=>(intsOf ds).bind fun ns=>if ns.length<64 then some (.lst ((sortI (BA ns)).map D.int)) else none
 | _=>none
def TK (i j:Nat) (t:AF):SF:=fun ρ=>match t (iT ρ) with
 | some [x,y]=>.nx ((ρ.set i (.ro x)).set j (.ro y))
 | _=>.no
def mF:List D->Option D
 | [.tup ds]=>(intsOf ds).bind fun ns=>if ns.length<64 then some (.lst ((sortI ns).map D.int)) else none
 | _=>none
abbrev uB:Nat->Obj->Prop:=fun _ _=>True
def adr (q:Nat->Obj->Prop):Nat->Obj->Prop:=fun a _=>∃ o,q a o
abbrev FQ:=Sum Int Str
abbrev PN1:=List (Sum FQ (List FQ))
abbrev vC:=Sum FQ PN1
def y9:List D->Option (List FQ)
 | []=>some []
 | d::ds=>(u0 d).bind fun k=>(y9 ds).map (k :: ·)
def N2:D->Option (Sum FQ (List FQ))
 | .tup ds=>(y9 ds).map .inr
 | d=>(u0 d).map .inl
def vD:List D->Option PN1
 | []=>some []
 | d::ds=>(N2 d).bind fun k=>(vD ds).map (k :: ·)
def rQ:D->Option vC
 | .tup ds=>(vD ds).map .inr
 | d=>(u0 d).map .inl
def cK (ks:List vC) (ds:List D) (k:vC):Option D:=((ks.zip ds).find? fun p=>decide (p.1=k)).map (·.2)
def kindB (ks:List vC) (k:vC):Bool:=ks.all fun q=>q.isLeft == k.isLeft
def aBV:D->D->Option D
 | .eL _ ks ds,d=>(rQ d).bind fun k=>if kindB ks k=true then cK ks ds k else none
 | _,_=>none
def KO (neg:Bool):D->D->Option D
 | d,.eL _ ks ds=>(rQ d).bind fun k=>if kindB ks k=true then some (.bl (if neg then !(cK ks ds k).isSome else (cK ks ds k).isSome)) else none
 | _,_=>none
def e9 (ks:List vC) (ds:List D) (k:vC) (v:D):List vC×List D :=
 if ks.any (fun q=>decide (q=k))=true then (ks,(ks.zip ds).map fun p=>if p.1=k then v else p.2) else (ks++[k],ds++[v])
def KP:Option Sv->Option ((Nat->Obj->Prop)×List vC×List D)
 | some (.ow (.eL q ks ds))=>some (q,ks,ds)
 | _=>none
def WZ (i:Nat):SF:=fun ρ=>.nx (ρ.set i (.ow (.eL uB [] [])))
def zA (i:Nat) (x:XF) (k:EF):SF:=fun ρ=>match ((x ρ).bind fun p=>(KP p.1[i]?).bind fun kd=>(k (cC p.1)).bind fun kv=>(rQ kv).bind fun kk =>
  if kindB kd.2.1 kk=true/\kd.2.2.length<pX then some (p.1.set i (.ow (.eL (adr kd.1) (e9 kd.2.1 kd.2.2 kk p.2).1 (e9 kd.2.1 kd.2.2 kk p.2).2))) else none) with
 | some ρ'=>.nx ρ'
 | none=>.no
def W0:List D->Option (List D)
 | [.lst xs,.lst ys]=>some ((xs.zip ys).map fun p=>.tup [p.1,p.2])
 | _=>none
def C6 (t:AF):AF:=fun ρ=>(t ρ).bind W0
def aF6:List Int->Int
 | []=>0
 | a::l=>l.foldl (fun m b=>if b<m then b else m) a
def W2:List D->Option D
 | [.tup ds]=>(intsOf ds).bind fun ns=>if ns=[] then none else some (.int (aF6 ns))
 | _=>none
def aF7:D->D->Option D:=fun x y=>(aF5 x y).map D.bl
abbrev KD:=List vC×List D
abbrev TL:=List D->KD->M (D×KD)
def startM (n:Nat) (ds:List D) (q:Nat->Obj->Prop) (kd:KD):aR:=ds.map Sv.ro++Sv.ow (.eL q kd.1 kd.2)::List.replicate (n - (ds.length+1)) Sv.no
noncomputable def TN (j:Nat) (k:EF) (q:Nat->Obj->Prop):aR->Option (D×KD):=fun ρ=>(KP ρ[j]?).bind fun kd=>(k (iT ρ)).bind fun kv=>(rQ kv).bind fun kk=>@ite _ (kindB kd.2.1 kk=true /\ ∀ a o,kd.1 a o -> ∃ o2,q a o2) (Classical.propDecidable _) ((cK kd.2.1 kd.2.2 kk).map fun d=>(d,kd.2)) none
noncomputable def vE (n np:Nat) (b:SF) (k:EF) (q:Nat->Obj->Prop) (ds:List D) (kd:KD):Option (D×KD):=if ds.length+1=np then (match b (startM n ds q kd) with
 | .nx ρ=>TN (np - 1) k q ρ
 | _=>none) else none
noncomputable def runM (n np:Nat) (b:SF) (k:EF):TL:=fun ds kd=>@dite _ (∃ r,∀ q,vE n np b k q ds kd=some r) (Classical.propDecidable _) (fun h=>.ok h.choose) fun _=>.no
theorem IH {n np:Nat} {b:SF} {k:EF} {ds:List D} {kd:KD} {r:D×KD} (h:runM n np b k ds kd=.ok r) (q:Nat->Obj->Prop):vE n np b k q ds kd=some r:=by
 unfold runM at h
 split at h
 ·rename_i hx
  cases h
  exact hx.choose_spec q
 ·cases h
theorem TQ {n np:Nat} {b:SF} {k:EF} {ds:List D} {kd:KD} {r:D×KD} (h:∀ q,vE n np b k q ds kd=some r):runM n np b k ds kd=.ok r:=by
 have hx:∃ r,∀ q,vE n np b k q ds kd=some r:=⟨r,h⟩
 unfold runM
 rw [dif_pos hx]
 have e:=hx.choose_spec uB
 rw [h uB] at e
 rw [Option.some.inj e]
def stepM (R:TL) (t:AF) (j:Nat) (ρ:aR):Option ((Nat->Obj->Prop)×D×KD):=(t (iT ρ)).bind fun ds=>(KP ρ[j]?).bind fun kd=>match R ds kd.2 with
 | .ok r=>some (kd.1,r)
 | _=>none
def rR (i:Nat) (R:TL) (t:AF) (j:Nat):SF:=fun ρ=>match stepM R t j ρ with
 | some r=>.nx ((ρ.set j (.ow (.eL (adr r.1) r.2.2.1 r.2.2.2))).set i (.ro r.2.1))
 | none=>.no
def TR (R:TL) (t:AF) (j:Nat):SF:=fun ρ=>match stepM R t j ρ with
 | some r=>.nx (ρ.set j (.ow (.eL (adr r.1) r.2.2.1 r.2.2.2)))
 | none=>.no
end L4
end
section
namespace Ord
structure Rows (rows:List (List Int)):Prop where
 up:∀ (b:Nat) (r:List Int),rows[b]? = some r->r.Pairwise (·<·)
 rng:∀ (b:Nat) (r:List Int),rows[b]? = some r -> ∀ a∈r,0<=a/\a<(rows.length:Int)
 tr:∀ (b a:Nat) (r v:List Int),rows[b]? = some r->(a:Int)∈r->rows[a]? = some v -> ∀ c∈v,c∈r
 irr:∀ (b:Nat) (r:List Int),rows[b]? = some r->(b:Int)∉r
theorem vF {α:Type}:∀ (l:List α) (j:Nat) (x:α),l[j]? = some x->(x::l.eraseIdx j).Perm l
 | [],j,x,h=>by simp at h
 | a::l,0,x,h=>by simp at h; subst h; simp
 | a::l,j+1,x,h=>by
  have ih:=vF l j x (by simpa using h)
  rw [List.eraseIdx_cons_succ]
  exact (List.Perm.swap a x _).trans (ih.cons a)
theorem BB {l:List Int} (p:Int->Bool) (h:l.Nodup):(l.filter p).Nodup:=List.Pairwise.filter p h
def Under (word:List Int) (us:List (List Int)) (t:Nat) (u:List Int):Prop :=
 u.Nodup /\ ∀ a∈u,∃ (s:Nat) (v:List Int),s<t/\word[s]? = some a/\us[s]? = some v /\ ∀ c∈v,c∈u
def Good (word:List Int) (us:List (List Int)):Prop:=∀ (t:Nat) (u:List Int),us[t]? = some u->Under word us t u
theorem Under.mono {word:List Int} {us:List (List Int)} {t t':Nat} {u:List Int} (h:Under word us t u) (ht:t<=t'):Under word us t' u :=
 ⟨h.1,fun a ha=>by obtain ⟨s,v,h1,h2,h3,h4⟩:=h.2 a ha; exact ⟨s,v,by omega,h2,h3,h4⟩⟩
theorem vG {word:List Int} (h:word.Nodup) {i j:Nat} {a:Int} (hi:word[i]? = some a) (hj:word[j]? = some a):i=j:=by
 obtain ⟨h1,e1⟩:=List.getElem?_eq_some_iff.mp hi
 obtain ⟨h2,e2⟩:=List.getElem?_eq_some_iff.mp hj
 exact (List.getElem_inj h).mp (e1.trans e2.symm)
theorem Under.step {word:List Int} {us:List (List Int)} {i:Nat} {u v:List Int} {x:Int} (hw:word.Nodup) (g:Good word us) (h:Under word us i u) (hx:word[i]? = some x) (hv:us[i]? = some v) :
  Under word us (i+1) (u++(v++[x]).filter fun a=>!u.contains a):=by
 have gv:=g i v hv
 have mem:∀ c,c∈v++[x]->c∈u++(v++[x]).filter fun a=>!u.contains a:=fun c hc=>by
  by_cases hu:c∈u
  ·exact List.mem_append_left _ hu
  ·exact List.mem_append_right _ (List.mem_filter.mpr ⟨hc,by simpa using hu⟩)
 have nv:(v++[x]).Nodup:=by
  refine List.nodup_append.mpr ⟨gv.1,by simp,fun a ha b hb e=>?_⟩
  have hb:=List.mem_singleton.mp hb
  subst hb
  subst e
  obtain ⟨s,_,h1,h2,_⟩:=gv.2 a ha
  have:=vG hw h2 hx
  omega
 refine ⟨List.nodup_append.mpr ⟨h.1,BB _ nv,fun a ha b hb e=>?_⟩,fun a ha=>?_⟩
 ·subst e
  have:=(List.mem_filter.mp hb).2
  simp at this
  exact this ha
 ·rcases List.mem_append.mp ha with h1 | h1
  ·obtain ⟨s,z,a1,a2,a3,a4⟩:=h.2 a h1
   exact ⟨s,z,by omega,a2,a3,fun c hc=>List.mem_append_left _ (a4 c hc)⟩
  ·rcases List.mem_append.mp (List.mem_filter.mp h1).1 with h2 | h2
   ·obtain ⟨s,z,a1,a2,a3,a4⟩:=gv.2 a h2
    exact ⟨s,z,by omega,a2,a3,fun c hc=>mem c (List.mem_append_left _ (a4 c hc))⟩
   ·have e:=List.mem_singleton.mp h2
    subst e
    exact ⟨i,v,by omega,hx,hv,fun c hc=>mem c (List.mem_append_left _ hc)⟩
theorem Good.snoc {word:List Int} {us:List (List Int)} {u:List Int} (g:Good word us) (h:Under word us us.length u):Good word (us++[u]):=fun t z e=>by
 have old:∀ {s:Nat} {v:List Int},us[s]? = some v->(us++[u])[s]? = some v:=fun {s v} e=>by rw [List.getElem?_append_left (List.getElem?_eq_some_iff.mp e).1]; exact e
 have up:∀ {t:Nat} {z:List Int},Under word us t z->Under word (us++[u]) t z:=fun {t z} q=>⟨q.1,fun a ha=>by obtain ⟨s,v,a1,a2,a3,a4⟩:=q.2 a ha; exact ⟨s,v,a1,a2,old a3,a4⟩⟩
 by_cases ht:t<us.length
 ·rw [List.getElem?_append_left ht] at e
  exact up (g t z e)
 ·have et:t=us.length:=by
   have:=(List.getElem?_eq_some_iff.mp e).1
   simp at this
   omega
  subst et
  rw [List.getElem?_append_right (Nat.le_refl _),Nat.sub_self] at e
  have e:u=z:=by simpa using e
  subst e
  exact up h
theorem Good.rows {word:List Int} {us rows:List (List Int)} {n:Nat} (g:Good word us) (hu:us.length=n) (hw:word.Perm ((List.range n).map fun k:Nat=>(k:Int))) (hr:rows.length=n)
  (h:∀ (b t:Nat) (r u:List Int),rows[b]? = some r->word[t]? = some (b:Int)->us[t]? = some u->r.Perm u/\r.Pairwise (· <= ·)):Rows rows:=by
 have nd:word.Nodup:=hw.nodup_iff.mpr (by
  refine List.Pairwise.map _ (fun a b hab=>?_) List.nodup_range
  intro e
  exact hab (by omega))
 have find:∀ (b:Nat),b<n -> ∃ t u,word[t]? = some (b:Int)/\us[t]? = some u:=fun b hb=>by
  have hm:(b:Int)∈word:=hw.mem_iff.mpr (List.mem_map.mpr ⟨b,List.mem_range.mpr hb,rfl⟩)
  obtain ⟨t,ht⟩:=List.mem_iff_getElem?.mp hm
  have hl:word.length=n:=by rw [hw.length_eq,List.length_map,List.length_range]
  have:=(List.getElem?_eq_some_iff.mp ht).1
  exact ⟨t,us[t]'(by omega),ht,List.getElem?_eq_getElem (by omega)⟩
 have row:∀ (b:Nat) (r:List Int),rows[b]? = some r -> ∃ t u,word[t]? = some (b:Int)/\us[t]? = some u/\r.Perm u/\r.Pairwise (· <= ·):=fun b r e=>by
  have hb:=(List.getElem?_eq_some_iff.mp e).1
  obtain ⟨t,u,h1,h2⟩:=find b (by omega)
  exact ⟨t,u,h1,h2,h b t r u e h1 h2⟩
 refine ⟨fun b r e=>?_,fun b r e a ha=>?_,fun b a r v e ha ev c hc=>?_,fun b r e hb=>?_⟩
 ·obtain ⟨t,u,h1,h2,h3,h4⟩:=row b r e
  have n1:r.Nodup:=h3.nodup_iff.mpr (g t u h2).1
  exact (List.pairwise_and_iff.mpr ⟨h4,n1⟩).imp fun q=>by have:=q.1; have:=q.2; omega
 ·obtain ⟨t,u,h1,h2,h3,h4⟩:=row b r e
  obtain ⟨s,z,_,a2,_⟩:=(g t u h2).2 a (h3.mem_iff.mp ha)
  have hm:=hw.mem_iff.mp (List.mem_of_getElem? a2)
  obtain ⟨k,hk,rfl⟩:=List.mem_map.mp hm
  have:=List.mem_range.mp hk
  omega
 ·obtain ⟨t,u,h1,h2,h3,h4⟩:=row b r e
  obtain ⟨t2,u2,k1,k2,k3,k4⟩:=row a v ev
  obtain ⟨s,z,_,a2,a3,a4⟩:=(g t u h2).2 _ (h3.mem_iff.mp ha)
  have es:=vG nd a2 k1
  subst es
  rw [k2] at a3
  cases a3
  exact h3.mem_iff.mpr (a4 c (k3.mem_iff.mp hc))
 ·obtain ⟨t,u,h1,h2,h3,h4⟩:=row b r e
  obtain ⟨s,z,a1,a2,_⟩:=(g t u h2).2 _ (h3.mem_iff.mp hb)
  have:=vG nd a2 h1
  omega
def tri:Nat->Nat
 | 0=>0
 | j+1=>tri j+j
theorem N3 {i j:Nat} (h:i<=j):tri i<=tri j:=by
 induction h with
 | refl=>exact Nat.le_refl _
 | step _ ih=>exact Nat.le_trans ih (Nat.le_add_right _ _)
theorem YI {n j i:Nat} (hj:j<n) (hi:i<j):tri j+i<tri n:=by
 have:=N3 (show j+1<=n by omega)
 show tri j+i<tri n
 have e:tri (j+1)=tri j+j:=rfl
 omega
theorem jL:∀ (l m:List Int),l.Nodup->(∀ a∈l,a∈m)->l.length<=m.length
 | [],m,_,_=>Nat.zero_le _
 | a::l,m,h,hs=>by
  obtain ⟨h1,h2⟩:=List.nodup_cons.mp h
  have ha:=hs a List.mem_cons_self
  have ih:=jL l (m.erase a) h2 fun b hb=>by
   have:b≠a:=fun e=>h1 (e▸hb)
   exact (List.mem_erase_of_ne this).mpr (hs b (List.mem_cons_of_mem _ hb))
  rw [List.length_erase_of_mem ha] at ih
  have:0<m.length:=List.length_pos_of_mem ha
  rw [List.length_cons]
  omega
end Ord
end
section
namespace LL
open PySem L3 L4
def cL:fG:=bQ 2 2
  (aJ (fI (tV (aE jW (bU bV (aA (aB 0) aC)) (eC (.int 0))))
   (aS (eC (.int 0)))
   dA)
  (aS (aE cQ (aB 0) (aE fH (aB 1) (bU bV (aA (aB 0) aC))))))
def eM:fG:=bQ 5 3
  (aJ (aO 3 (aE fH (aE mulM (aE cB (aE cB (aE cB (aB 0) (aE mulM (aE mulM (eC (.int 11)) (aB 1)) (aB 1))) (aE mulM (eC (.int 17)) (aB 1))) (aB 2)) (eC (.int 48271))) (eC (.int 2147483647))))
  (aJ (aO 4 (aE fH (aE cB (aE cB (aE mulM (aB 3) (aE cB (aE t9 (aB 3) (eC (.int 4096))) (eC (.int 5)))) (aE mulM (eC (.int 29)) (aB 1))) (aB 2)) (eC (.int 2147483629))))
  (aS (aE fH (aE mulM (aB 4) (eC (.int 39373))) (eC (.int 1000000007))))))
def cM:fG:=bQ 6 3
  (aJ (iN 3 (eZ aC))
  (aJ (aO 4 (eC (.int 0)))
  (aJ (fI (tV (aE geM (aB 0) (aE uA (eC (.int 10)) (eC (.int 18)))))
   (aO 4 (aB 0))
   dA)
  (aJ (dP (aP (aA (aB 1) aC)) (j9 5)
   (fI (tV (aE uK (aB 4) (eC (.int 0))))
    (aJ (sX (mB 3 gQ (aV (aE fH (aB 4) (eC (.int 64))))))
    (aO 4 (aE t9 (aB 4) (eC (.int 64)))))
    (sX (mB 3 gQ (aV (aG LL.eM (aA (aB 0) (aA (aB 5) (aA (aB 2) aC)))))))))
  (aS (aB 3))))))
def bE:Nat->fG
 | 0=>fun _=>.no
 | n+1=>bQ 2 2
  (aJ (fI (tV (jJ "tuple" (aB 1)))
   (aJ (fI (oR (fZ (tV (jJ "tuple" (aB 0)))) (tV (aE KC (bU bV (aA (aB 0) aC)) (bU bV (aA (aB 1) aC)))))
    (aS (eC (.bl false)))
    dA)
   (aS (bU allM (aA (bZ 1 [0,1] (aP (aA (bU bV (aA (aB 1) aC)) aC)) (g1 0) dC (aG (bE n) (aA (aE cQ (aB 1) (aB 0)) (aA (aE cQ (aB 2) (aB 0)) aC)))) aC))))
   dA)
  (aJ (fI (tV (aE S8 (aB 1) (eC .non)))
   (aS (aE S8 (aB 0) (eC .non)))
   dA)
  (aJ (fI (tV (jJ "bool" (aB 1)))
   (aS (iM (jJ "bool" (aB 0)) (aE jW (aB 0) (aB 1))))
   dA)
  (aJ (fI (tV (jJ "int" (aB 1)))
   (aS (iM (jJ "int" (aB 0)) (iM (rP (jJ "bool" (aB 0))) (aE jW (aB 0) (aB 1)))))
   dA)
  (aS (iM (jJ "str" (aB 0)) (aE jW (aB 0) (aB 1))))))))
def i6:fG:=bQ 11 3
  (aJ (iN 3 (FN (aA (aB 1) aC)))
  (aJ (iN 4 (eZ aC))
  (aJ (dP (aP (aA (aB 1) aC)) (j9 5)
   (sX (mB 4 gQ (mB 3 TC (IC (aE fH (aE cQ (aB 0) (aB 5)) (bU bV (aA (aB 3) aC))))))))
  (aJ (C5 6)
  (aJ (aO 7 (aB 1))
  (aJ (dP (aP (aA (aB 1) aC)) (j9 8)
   (aJ (aO 9 (eZ aC))
   (aJ (dP (aP (aA (aB 8) aC)) (j9 10)
    (aJ (fI (tV (aE WW (aE fH (aE cQ (aB 0) (aB 7)) (eC (.int 4))) (aB 2)))
     (u6 9 (aE KG (aB 9) (bZ 1 [9] (cR (aE cB (aE u3 (aB 6) (aE cQ (aB 4) (aB 10))) (eZ (aA (aE cQ (aB 4) (aB 10)) aC)))) (g1 0) (tV (aE (lC true) (aB 0) (aB 1))) (aB 0))))
     dA)
    (aO 7 (aE cB (aB 7) (eC (.int 1))))))
   (IE 6 (aV (aB 9)) (aE cQ (aB 4) (aB 8))))))
  (aS (bU bW (aA (bZ 1 [6] (aP (aA (aB 1) aC)) (g1 0) dC (bU bW (aA (bU fL (aA (aE u3 (aB 1) (aB 0)) aC)) aC))) aC)))))))))
def eO:fG:=bQ 7 4
  (aJ (aO 4 (aG LL.cM (aA (aG LL.cL (aA (aB 0) (aA (aB 1) aC))) (aA (eC (.int 4)) (aA (aB 3) aC)))))
  (aJ (aO 5 (aE fH (aE cQ (aB 4) (eC (.int 0))) (aE cB (aB 2) (eC (.int 1)))))
  (aJ (aO 6 (aG LL.cM (aA (aG LL.cL (aA (aB 0) (aA (aE cB (aB 1) (eC (.int 1))) aC))) (aA (aE cB (aB 5) (aE t9 (aE mulM (aB 5) (aE fM (aB 5) (eC (.int 1)))) (eC (.int 2)))) (aA (aE cB (aB 3) (eC (.int 10007))) aC)))))
  (aS (aG LL.i6 (aA (aB 6) (aA (aB 5) (aA (aE cQ (eZ (aA (eC (.int 1)) (aA (eC (.int 1)) (aA (eC (.int 2)) (aA (eC (.int 2)) (aA (eC (.int 3)) (aA (eC (.int 1)) (aA (eC (.int 0)) (aA (eC (.int 4)) aC))))))))) (aE fH (aE cQ (aB 4) (eC (.int 1))) (eC (.int 8)))) aC))))))))
def tupI (xs:List Int):D:=.tup (xs.map D.int)
def aI (xs:List Int):D:=.lst (xs.map D.int)
def aK (rows:List (List Int)):D:=.tup (rows.map tupI)
theorem iF {i j:Int}:cB (.int i) (.int j)=some (.int (i+j)):=rfl
theorem vH {i j:Int}:fM (.int i) (.int j)=some (.int (i - j)):=rfl
theorem dI {i j:Int} (h:0<j):fH (.int i) (.int j)=some (.int (i % j)):=by simp [fH,oN,h]
theorem mG {i j:Int} (h:0<j) (h2:j<1073741824):t9 (.int i) (.int j)=some (.int (i / j)):=by simp [t9,oN,h,show j.natAbs<1073741824 by omega]
theorem uL {i j:Int}:WW (.int i) (.int j)=some (.bl (decide (i<j))):=rfl
theorem uM {i j:Int}:leM (.int i) (.int j)=some (.bl (decide (i<=j))):=rfl
theorem p5 {i j:Int}:uK (.int i) (.int j)=some (.bl (decide (j<i))):=rfl
theorem p6 {i j:Int}:geM (.int i) (.int j)=some (.bl (decide (j<=i))):=rfl
theorem eK {i j:Int}:jW (.int i) (.int j)=some (.bl (decide (i=j))):=rfl
theorem uN {i j:Int}:KC (.int i) (.int j)=some (.bl (!decide (i=j))):=rfl
theorem rS {i j:Bool}:jW (.bl i) (.bl j)=some (.bl (decide (i=j))):=rfl
theorem nP {i j:Str}:jW (.str i) (.str j)=some (.bl (decide (i=j))):=rfl
theorem BC {d:D}:S8 d .non=some (.bl (uZ d)):=rfl
theorem p7 {a:List D} {i:Int}:cQ (.lst a) (.int i)=CY a i:=rfl
theorem uO {a:List D} {i:Int}:cQ (.tup a) (.int i)=CY a i:=rfl
theorem BD {a:List Int} {i:Int}:cQ (.lD a) (.int i)=(CY a i).map D.int:=rfl
theorem vI {a:List D}:bV [.lst a]=some (.int a.length):=rfl
theorem mH {a:List D}:bV [.tup a]=some (.int a.length):=rfl
theorem vJ {a:List Int}:bV [.lD a]=some (.int a.length):=rfl
theorem oU {a:List D}:bW [.lst a]=some (.tup a):=rfl
theorem oV {a:List D}:bW [.tup a]=some (.tup a):=rfl
theorem rT {a:List D}:pZ [.lst a]=some (.lst a):=rfl
theorem rV {a:List D}:pZ [.tup a]=some (.lst a):=rfl
theorem rW {a:List D}:C4 (.lst a)=some a:=rfl
theorem rX {a:List D}:C4 (.tup a)=some a:=rfl
theorem i7 {b:Bool}:lE (.bl b)=some b:=rfl
theorem oW {b:List D}:lE (.lst b)=some (!b.isEmpty):=rfl
theorem oX {b:List D}:lE (.tup b)=some (!b.isEmpty):=rfl
theorem kG {b:Bool}:mC (.bl b)=some b:=rfl
theorem p8 {ds:List D} {d:D} (h:ds.length<16777216):gQ ds d=some (ds++[d],.non):=if_pos h
theorem TU {ds es:List D} (h:ds.length+es.length<=16777216):KI ds (.lst es)=some (ds++es,.non):=if_pos h
theorem rY {ds:List D}:IB [.tup ds]=some (ds.zipIdx.map fun p=>.tup [.int (p.2:Int),p.1]):=rfl
theorem rZ {ds:List D}:IB [.lst ds]=some (ds.zipIdx.map fun p=>.tup [.int (p.2:Int),p.1]):=rfl
theorem vK {ds:List D}:YF [.tup ds]=some ds.reverse:=rfl
theorem vL {ds:List D}:YF [.lst ds]=some ds.reverse:=rfl
theorem TV {t:AF} {ρ:bN} {ds:List D} (h:t ρ=some ds) (hl:ds.length<=16777216):fJ t ρ=some (.tup ds):=by
 unfold fJ; rw [h]; exact if_pos hl
theorem gA {n np:Nat} {b:SF} {ds:List D} {d:D} (hl:ds.length=np) (h:b (dR n ds)=.rt d):bQ n np b ds=.ok d:=by
 unfold bQ; rw [if_pos hl,h]
theorem dG {f g:SF} {ρ:aR} {o:Out} (ρ':aR) (h1:f ρ=.nx ρ') (h2:g ρ' = o):aJ f g ρ=o:=by
 unfold aJ; rw [h1]; exact h2
theorem vM {f g:SF} {ρ:aR} {d:D} (h1:f ρ=.rt d):aJ f g ρ=.rt d:=by
 unfold aJ; rw [h1]
theorem gB {f:EF} {ρ:aR} {d:D} (h:f (cC ρ)=some d):aS f ρ=.rt d:=by
 unfold aS; rw [h]
theorem gR {i:Nat} {f:EF} {ρ:aR} (d:D) {ρ':aR} (h:f (iT ρ)=some d) (hr:ρ.set i (.ro d)=ρ'):aO i f ρ=.nx ρ':=by
 unfold aO; rw [h,<- hr]
theorem FR {t:TF} {a b:SF} {ρ:aR} {o:Out} (h:t (cC ρ)=some true) (h2:a ρ=o):fI t a b ρ=o:=by
 unfold fI; rw [h]; exact h2
theorem rM {t:TF} {a b:SF} {ρ:aR} {o:Out} (h:t (cC ρ)=some false) (h2:b ρ=o):fI t a b ρ=o:=by
 unfold fI; rw [h]; exact h2
theorem C7 {it:AF} {g:IF} {b:SF} {ρ:aR} {o:Out} (ds:List D) (h:it (iT ρ)=some ds) (h2:fR g b ds ρ=o):dP it g b ρ=o:=by
 unfold dP; rw [h]; exact h2
theorem mI {nl:Nat} {fr:List Nat} {it:AF} {g:FP} {t:TF} {e:EF} {ρ:bN} (ds:List D) {ys:List D} (h:it ρ=some ds) (hl:ds.length<=16777216) (h2:jK g t e (benv nl fr ρ) ds=some ys):bZ nl fr it g t e ρ=some (.lst ys):=by
 unfold bZ; rw [h]
 show (if ds.length<=pX then _ else _)=_
 rw [if_pos (show ds.length<=pX from hl),h2]; rfl
theorem vN {a b:List D} (h:a.length+b.length<=16777216):cB (.lst a) (.lst b)=some (.lst (a++b)):=if_pos h
theorem vO {a b:List D} (h:a.length+b.length<=16777216):cB (.tup a) (.tup b)=some (.tup (a++b)):=if_pos h
theorem N4 {a b:List D} (h:a.length+b.length<=16777216):KG (.lst a) (.lst b)=some (.lst (a++b)):=if_pos h
theorem oY {i j:Int} (h:i.natAbs<18446744073709551616):mulM (.int i) (.int j)=some (.int (i*j)):=by
 simp [mulM,oN,uY,h]
theorem BE {i j:Int} (h:j.natAbs<18446744073709551616):mulM (.int i) (.int j)=some (.int (i*j)):=by
 simp [mulM,oN,uY,h]
theorem C8 {j:Int} (h:j.natAbs<4611686018427387904):FO [.int j]=some ((bG 0 j.toNat).map D.int):=if_pos h
theorem p9 {n:Nat} (h:n<4611686018427387904):FO [.int (n:Int)]=some ((bG 0 n).map D.int):=by
 rw [C8 (by omega)]; rfl
theorem eE:∀ ns:List Int,intsOf (ns.map D.int)=some ns
 | []=>rfl
 | n::ns=>by simp [intsOf,eE ns]
theorem j1 {neg:Bool} {i:Int} {ns:List Int}:lC neg (.int i) (.tup (ns.map D.int))=some (.bl (if neg then !ns.contains i else ns.contains i)):=by simp [lC,eE]
theorem uP {neg:Bool} {i:Int} {ns:List Int}:lC neg (.int i) (.lst (ns.map D.int))=some (.bl (if neg then !ns.contains i else ns.contains i)):=by simp [lC,eE]
theorem sorted_ints {ns:List Int} (h:ns.length<64):fL [.lst (ns.map D.int)]=some (.lst ((sortI ns).map D.int)):=by simp [fL,eE,h]
theorem sum_ints {ns:List Int}:A8 [.lst (ns.map D.int)]=some (.int ns.sum):=by simp [A8,eE]
theorem zB:∀ bs:List Bool,oS (bs.map D.bl)=some bs
 | []=>rfl
 | b::bs=>by simp [oS,lE,zB bs]
theorem II {bs:List Bool}:allM [.lst (bs.map D.bl)]=some (.bl (bs.all id)):=by simp [allM,zB]
theorem vP {n:Nat} {i:Int} (h0:0<=i) (h1:i<n):NV n i=some i.toNat:=by
 unfold NV; rw [if_pos h0,if_pos h1]
theorem TX {n k:Nat} (h:k<n):NV n (k:Int)=some k:=by
 rw [vP (by omega) (by omega)]; rfl
theorem TY {α:Type} {xs:List α} {k:Nat} (h:k<xs.length):CY xs (k:Int)=xs[k]?:=by
 unfold CY; rw [TX h]; rfl
theorem vQ {α:Type} {xs:List α} {i:Int} (h0:0<=i) (h1:i<xs.length):∃ x∈xs,CY xs i=some x/\xs[i.toNat]? = some x:=by
 have hl:i.toNat<xs.length:=by omega
 refine ⟨xs[i.toNat],List.getElem_mem hl,?_,by simp [hl]⟩
 unfold CY; rw [vP h0 h1]; simp [hl]
theorem qA {α β:Type} (f:α->β) (xs:List α) (i:Int):CY (xs.map f) i=(CY xs i).map f:=by
 unfold CY
 rw [List.length_map]
 cases NV xs.length i with
 | none=>rfl
 | some j=>simp
theorem BF {α:Type} {xs:List α} {k:Nat} {x:α} (h:xs[k]? = some x):CY xs (k:Int)=some x:=by
 rw [TY (List.getElem?_eq_some_iff.mp h).1,h]
theorem aU (lo:Int) (n:Nat):(bG lo n).length=n:=by simp [bG]
theorem kH {lo:Int} {n i:Nat} (h:i<n):(bG lo n)[i]? = some (lo+(i:Int)):=by simp [bG,h]
theorem i8 (lo:Int) (n:Nat):bG lo (n+1)=bG lo n++[lo+(n:Int)]:=by simp [bG,List.range_succ]
theorem dQ {lo:Int} {n:Nat} {x:Int}:x∈bG lo n↔lo<=x/\x<lo+n:=by
 unfold bG
 rw [List.mem_map]
 simp only [List.mem_range]
 constructor
 ·rintro ⟨k,hk,rfl⟩; omega
 ·rintro ⟨h1,h2⟩; exact ⟨(x - lo).toNat,by omega,by omega⟩
theorem C9 {g:IF} {b:SF} (P:Nat->aR->Prop) (ds:List D) {ρ:aR} (h0:P 0 ρ) (step:∀ (i:Nat) (d:D) (ρ:aR),ds[i]? = some d->P i ρ -> ∃ ρ1 ρ2,g d ρ=some ρ1/\b ρ1=.nx ρ2/\P (i+1) ρ2) :
  ∃ ρ',fR g b ds ρ=.nx ρ'/\P ds.length ρ':=by
 suffices H:∀ (l:List D) (k:Nat) (ρ:aR),ds.drop k=l->k<=ds.length->P k ρ -> ∃ ρ',fR g b l ρ=.nx ρ'/\P ds.length ρ' from H ds 0 ρ (by simp) (Nat.zero_le _) h0
 intro l
 induction l with
 | nil =>
  intro k ρ hl hk hp
  have:ds.length<=k:=by simpa using hl
  exact ⟨ρ,rfl,by rwa [show ds.length=k by omega]⟩
 | cons d l ih =>
  intro k ρ hl hk hp
  have hk':k<ds.length:=by
   apply Classical.byContradiction
   intro h
   rw [List.drop_eq_nil_of_le (by omega)] at hl
   cases hl
  have hd:ds[k]? = some d:=by
   have:=congrArg (fun x=>x[0]?) hl
   simpa using this
  obtain ⟨ρ1,ρ2,e1,e2,p2⟩:=step k d ρ hd hp
  have hl2:ds.drop (k+1)=l:=by
   rw [List.drop_eq_getElem_cons hk'] at hl
   exact (List.cons.inj hl).2
  obtain ⟨ρ',e3,p3⟩:=ih (k+1) ρ2 hl2 hk' p2
  exact ⟨ρ',by simp only [fR,e1,e2,e3],p3⟩
theorem N5 {g:IF} {b:SF} (P:Nat->aR->Prop) (lo:Int) (n:Nat) {ρ:aR} (h0:P 0 ρ) (step:∀ (i:Nat) (ρ:aR),i<n->P i ρ -> ∃ ρ1 ρ2,g (.int (lo+(i:Int))) ρ=some ρ1/\b ρ1=.nx ρ2/\P (i+1) ρ2) :
  ∃ ρ',fR g b ((bG lo n).map D.int) ρ=.nx ρ'/\P n ρ':=by
 have:=C9 (g:=g) (b:=b) P ((bG lo n).map D.int) h0 fun i d ρ hd hp=>by
  have hi:i<n:=by
   have:=(List.getElem?_eq_some_iff.mp hd).1
   simpa [aU] using this
  rw [List.getElem?_map,kH hi] at hd
  cases hd
  exact step i ρ hi hp
 simpa [aU] using this
theorem zC {α:Type} {g:FP} {e:EF} {ρ:bN} (mk:α->D) (f:α->D) (l:List α) (h:∀ a∈l,(g (mk a) ρ).bind e=some (f a)):jK g dC e ρ (l.map mk)=some (l.map f):=by
 induction l with
 | nil=>rfl
 | cons a l ih =>
  have h1:=h a (by simp)
  have h2:=ih fun x hx=>h x (by simp [hx])
  cases hg:g (mk a) ρ with
  | none=>rw [hg] at h1; cases h1
  | some ρ1 =>
   rw [hg] at h1
   have h1':e ρ1=some (f a):=h1
   simp only [List.map_cons,jK,hg,Option.bind_some,dC,if_true,h1',h2,Option.map_some]
theorem nQ {α:Type} {g:FP} {e:EF} {ρ:bN} (mk:α->D) (f:α->D) (l:List α) (h:∀ a∈l,∃ ρ1,g (mk a) ρ=some ρ1/\e ρ1=some (f a)):jK g dC e ρ (l.map mk)=some (l.map f) :=
 zC mk f l fun a ha=>by
  obtain ⟨ρ1,h1,h2⟩:=h a ha
  rw [h1]; exact h2
theorem iG {α:Type} {g:FP} {t:TF} {e:EF} {ρ:bN} (mk:α->D) (p:α->Bool) (f:α->D) (l:List α) (h:∀ a∈l,∃ ρ1,g (mk a) ρ=some ρ1/\t ρ1=some (p a)/\(p a=true->e ρ1=some (f a))) :
  jK g t e ρ (l.map mk)=some ((l.filter p).map f):=by
 induction l with
 | nil=>rfl
 | cons a l ih =>
  obtain ⟨ρ1,h1,h2,h3⟩:=h a (by simp)
  have ih:=ih fun x hx=>h x (by simp [hx])
  cases hp:p a with
  | false=>simp [jK,h1,h2,hp,ih]
  | true=>simp [jK,h1,h2,hp,h3 hp,ih]
theorem N6 {α β:Type} {g:FP} {e:EF} {ρ:bN} (mk:α->D) (out:β->D) (R:α->β->Prop) (l:List α) (h:∀ a∈l,∃ ρ1 b,g (mk a) ρ=some ρ1/\e ρ1=some (out b)/\R a b) :
  ∃ bs:List β,bs.length=l.length/\(∀ (i:Nat) (a:α) (b:β),l[i]? = some a->bs[i]? = some b->R a b)/\jK g dC e ρ (l.map mk)=some (bs.map out):=by
 induction l with
 | nil=>exact ⟨[],rfl,fun i a b h=>by simp at h,rfl⟩
 | cons a l ih =>
  obtain ⟨ρ1,b,h1,h2,h3⟩:=h a (by simp)
  obtain ⟨bs,hl,hr,hc⟩:=ih fun x hx=>h x (by simp [hx])
  refine ⟨b::bs,by simp [hl],fun i x y hx hy=>?_,by simp [jK,h1,h2,hc,dC]⟩
  cases i with
  | zero=>simp at hx hy; subst hx hy; exact h3
  | succ i=>exact hr i x y (by simpa using hx) (by simpa using hy)
def Rt (o:Out) (Q:D->Prop):Prop:=∃ d,o=.rt d/\Q d
def Nx (o:Out) (Q:aR->Prop):Prop:=∃ ρ,o=.nx ρ/\Q ρ
theorem sA {f g:SF} {ρ:aR} {Q:D->Prop} (M:aR->Prop) (h1:Nx (f ρ) M) (h2:∀ ρ',M ρ'->Rt (g ρ') Q):Rt (aJ f g ρ) Q:=by
 obtain ⟨ρ',e,m⟩:=h1; unfold aJ; rw [e]; exact h2 ρ' m
theorem FT {f g:SF} {ρ:aR} {Q:aR->Prop} (M:aR->Prop) (h1:Nx (f ρ) M) (h2:∀ ρ',M ρ'->Nx (g ρ') Q):Nx (aJ f g ρ) Q:=by
 obtain ⟨ρ',e,m⟩:=h1; unfold aJ; rw [e]; exact h2 ρ' m
theorem cN {f g:SF} {ρ:aR} {Q:D->Prop} (ρ':aR) (h1:f ρ=.nx ρ') (h2:Rt (g ρ') Q):Rt (aJ f g ρ) Q:=by
 unfold aJ; rw [h1]; exact h2
theorem IJ {f g:SF} {ρ:aR} {Q:aR->Prop} (ρ':aR) (h1:f ρ=.nx ρ') (h2:Nx (g ρ') Q):Nx (aJ f g ρ) Q:=by
 unfold aJ; rw [h1]; exact h2
theorem TZ {f g:SF} {ρ:aR} {Q:D->Prop} (h1:Rt (f ρ) Q):Rt (aJ f g ρ) Q:=by
 obtain ⟨d,e,m⟩:=h1; unfold aJ; rw [e]; exact ⟨d,rfl,m⟩
theorem IK {t:TF} {a b:SF} {ρ:aR} {Q:aR->Prop} (c:Bool) (h:t (cC ρ)=some c) (h1:c=true->Nx (a ρ) Q) (h2:c=false->Nx (b ρ) Q):Nx (fI t a b ρ) Q:=by
 unfold fI; rw [h]; cases c; exact h2 rfl; exact h1 rfl
theorem sC {f:EF} {ρ:aR} {Q:D->Prop} (d:D) (h:f (cC ρ)=some d) (q:Q d):Rt (aS f ρ) Q:=⟨d,gB h,q⟩
theorem N7 {i:Nat} {f:EF} {ρ:aR} {Q:aR->Prop} (d:D) (h:f (iT ρ)=some d) (q:Q (ρ.set i (.ro d))):Nx (aO i f ρ) Q:=⟨_,gR d h rfl,q⟩
theorem BG {ρ:aR} {Q:aR->Prop} (q:Q ρ):Nx (dA ρ) Q:=⟨ρ,rfl,q⟩
theorem FU {it:AF} {g:IF} {b:SF} {ρ:aR} {Q:aR->Prop} (ds:List D) (P:Nat->aR->Prop) (h:it (iT ρ)=some ds) (h0:P 0 ρ) (step:∀ (i:Nat) (d:D) (ρ:aR),ds[i]? = some d->P i ρ -> ∃ ρ1,g d ρ=some ρ1/\Nx (b ρ1) (P (i+1)))
  (fin:∀ ρ',P ds.length ρ'->Q ρ'):Nx (dP it g b ρ) Q:=by
 obtain ⟨ρ',e,p⟩:=C9 (g:=g) (b:=b) P ds h0 fun i d ρ hd hp=>by
  obtain ⟨ρ1,e1,ρ2,e2,p2⟩:=step i d ρ hd hp
  exact ⟨ρ1,ρ2,e1,e2,p2⟩
 exact ⟨ρ',C7 ds h e,fin ρ' p⟩
theorem mJ {t:AF} {g:IF} {b:SF} {ρ:aR} {Q:aR->Prop} (n:Nat) (P:Nat->aR->Prop) (h:t (iT ρ)=some [.int (n:Int)]) (hn:n<4611686018427387904) (h0:P 0 ρ) (step:∀ (i:Nat) (ρ:aR),i<n->P i ρ -> ∃ ρ1,g (.int (i:Int)) ρ=some ρ1/\Nx (b ρ1) (P (i+1)))
  (fin:∀ ρ',P n ρ'->Q ρ'):Nx (dP (aP t) g b ρ) Q:=by
 refine FU ((bG 0 n).map D.int) P (by unfold aP; rw [h,Option.bind_some,p9 hn]) h0 (fun i d ρ hd hp=>?_) (fun ρ' p=>fin ρ' (by simpa [aU] using p))
 have hi:i<n:=by
  have:=(List.getElem?_eq_some_iff.mp hd).1
  simpa [aU] using this
 rw [List.getElem?_map,kH hi] at hd
 have hd:D.int (0+(i:Int))=d:=by simpa using hd
 subst hd
 obtain ⟨ρ1,e,q⟩:=step i ρ hi hp
 exact ⟨ρ1,by rw [Int.zero_add]; exact e,q⟩
theorem sD {n np:Nat} {b:SF} {ds:List D} {Q:D->Prop} (hl:ds.length=np) (h:Rt (b (dR n ds)) Q):∃ d,bQ n np b ds=.ok d/\Q d:=by
 obtain ⟨d,e,q⟩:=h; exact ⟨d,gA hl e,q⟩
theorem zD:∀ (l:List Int) (j:Nat),(l.map D.int).eraseIdx j=(l.eraseIdx j).map D.int
 | [],j=>by simp
 | a::l,0=>by simp
 | a::l,j+1=>by simp [zD l j]
theorem bL {g:D->D->Option D} {a b:EF} {ρ:bN} {z:Option D} {x y:D} (ha:a ρ=some x) (hb:b ρ=some y) (h:g x y=z):aE g a b ρ=z:=by
 unfold aE; rw [ha,hb]; exact h
theorem fO {g:List D->Option D} {a:EF} {ρ:bN} {z:Option D} {x:D} (ha:a ρ=some x) (h:g [x]=z):bU g (aA a aC) ρ=z:=by
 unfold bU aA aC; rw [ha]; exact h
theorem aF8 {g:List D->Option D} {a b:EF} {ρ:bN} {z:Option D} {x y:D} (ha:a ρ=some x) (hb:b ρ=some y) (h:g [x,y]=z):bU g (aA a (aA b aC)) ρ=z:=by
 unfold bU aA aC; rw [ha,hb]; exact h
theorem vR {f:fG} {a:EF} {ρ:bN} {d x:D} (ha:a ρ=some x) (h:f [x]=.ok d):aG f (aA a aC) ρ=some d:=by
 unfold aG aA aC; rw [ha]; show C0 (f [x])=_; rw [h]; rfl
theorem dU {f:fG} {a b:EF} {ρ:bN} {d x y:D} (ha:a ρ=some x) (hb:b ρ=some y) (h:f [x,y]=.ok d):aG f (aA a (aA b aC)) ρ=some d:=by
 unfold aG aA aC; rw [ha,hb]; show C0 (f [x,y])=_; rw [h]; rfl
theorem e8 {f:fG} {a b c:EF} {ρ:bN} {d x y z:D} (ha:a ρ=some x) (hb:b ρ=some y) (hc:c ρ=some z) (h:f [x,y,z]=.ok d):aG f (aA a (aA b (aA c aC))) ρ=some d:=by
 unfold aG aA aC; rw [ha,hb,hc]; show C0 (f [x,y,z])=_; rw [h]; rfl
theorem YJ {f:fG} {a b c e:EF} {ρ:bN} {d x y z w:D} (ha:a ρ=some x) (hb:b ρ=some y) (hc:c ρ=some z) (he:e ρ=some w) (h:f [x,y,z,w]=.ok d):aG f (aA a (aA b (aA c (aA e aC)))) ρ=some d:=by
 unfold aG aA aC; rw [ha,hb,hc,he]; show C0 (f [x,y,z,w])=_; rw [h]; rfl
theorem args1 {a:EF} {ρ:bN} {x:D} (ha:a ρ=some x):aA a aC ρ=some [x]:=by unfold aA aC; rw [ha]; rfl
theorem args2 {a b:EF} {ρ:bN} {x y:D} (ha:a ρ=some x) (hb:b ρ=some y):aA a (aA b aC) ρ=some [x,y]:=by unfold aA aC; rw [ha,hb]; rfl
theorem W3 {a:EF} {ρ:bN} {n:Nat} (ha:a ρ=some (.int (n:Int))) (hn:n<4611686018427387904):aP (aA a aC) ρ=some ((bG 0 n).map D.int):=by
 unfold aP; rw [args1 ha,Option.bind_some,p9 hn]
theorem W4 {a b:EF} {ρ:bN} {i j:Int} (ha:a ρ=some (.int i)) (hb:b ρ=some (.int j)) (hi:i.natAbs<4611686018427387904) (hj:j.natAbs<4611686018427387904):aP (aA a (aA b aC)) ρ=some ((bG i (j - i).toNat).map D.int):=by
 unfold aP; rw [args2 ha hb,Option.bind_some]
 exact if_pos ⟨hi,hj⟩
theorem rN {f:EF} {ρ:bN} {d:D} {b:Bool} (h:f ρ=some d) (ht:lE d=some b):tV f ρ=some b:=by unfold tV; rw [h]; exact ht
theorem tnE {t:TF} {ρ:bN} {b c:Bool} (h:t ρ=some b) (hc:(!b)=c):fZ t ρ=some c:=by unfold fZ; rw [h,<- hc]; rfl
theorem W5 {t u:TF} {ρ:bN} {b c:Bool} (h:t ρ=some b) (h2:b=true->u ρ=some c) (h3:b=false->c=false):lW t u ρ=some c:=by
 unfold lW; rw [h]; cases b
 ·rw [h3 rfl]; rfl
 ·exact h2 rfl
theorem T4 {t u:TF} {ρ:bN} {b c:Bool} (h:t ρ=some b) (h2:b=false->u ρ=some c) (h3:b=true->c=true):oR t u ρ=some c:=by
 unfold oR; rw [h]; cases b
 ·exact h2 rfl
 ·rw [h3 rfl]; rfl
theorem T5 {l:List Int} {i:Int} {y:Int} (h0:0<=i) (h1:i<l.length) (h2:l.length<=16777216) (hy:l[i.toNat]? = some y):TC (l.map D.int) (.int i)=some ((l.eraseIdx i.toNat).map D.int,.int y):=by
 show (if i.natAbs<9223372036854775808 then _ else _)=_
 rw [if_pos (by omega),List.length_map,vP h0 h1,Option.bind_some,List.getElem?_map,hy,zD]
 rfl
theorem qB {ws:List Int} {j:Nat} {x:Int} (h:ws[j]? = some x):CY (ws.map D.int) (j:Int)=some (.int x):=by
 rw [qA,BF h]; rfl
theorem N8 {α:Type} {l:List α} {i j:Nat} {x:α} (h:l[i]? = some x) (hij:i<j):(l.take j)[i]? = some x:=by rw [List.getElem?_take_of_lt hij]; exact h
theorem nR:∀ ns:List Int,uX (ns.map D.int)=true
 | []=>rfl
 | n::ns=>by rw [List.map_cons,uX,nR ns]; rfl
theorem oZ {k q:Sum Int Str} {ks:List (Sum Int Str)} {d:D} {ds:List D}:jZ (q::ks) (d::ds) k=if q=k then some d else jZ ks ds k:=by
 by_cases e:q=k
 ·simp [jZ,e]
 ·simp [jZ,e]
theorem sE:∀ {word:List Int} {us:List (List Int)} {i:Nat} {x:Int} {v:List Int},word.Nodup->word[i]? = some x->us[i]? = some v->jZ (word.map Sum.inl) (us.map aI) (Sum.inl x)=some (aI v)
 | [],us,i,x,v,_,h,_=>by simp at h
 | w::ws,[],i,x,v,_,_,h=>by simp at h
 | w::ws,u::us,0,x,v,_,h1,h2=>by
  simp at h1 h2
  subst h1 h2
  rw [List.map_cons,List.map_cons,oZ,if_pos rfl]
 | w::ws,u::us,i+1,x,v,hn,h1,h2=>by
  obtain ⟨n1,n2⟩:=List.nodup_cons.mp hn
  have h1':ws[i]? = some x:=by simpa using h1
  have ne:(Sum.inl w:Sum Int Str)≠Sum.inl x:=fun e=>n1 (by cases e; exact List.mem_of_getElem? h1')
  rw [List.map_cons,List.map_cons,oZ,if_neg ne]
  exact sE n2 h1' (by simpa using h2)
theorem zE:∀ {word:List Int} {us:List (List Int)} {x:Int},x∉word->jZ (word.map Sum.inl) (us.map aI) (Sum.inl x)=none
 | [],us,x,_=>by simp [jZ]
 | w::ws,[],x,_=>by simp [jZ]
 | w::ws,u::us,x,h=>by
  have ne:(Sum.inl w:Sum Int Str)≠Sum.inl x:=fun e=>h (by cases e; exact List.mem_cons_self)
  rw [List.map_cons,List.map_cons,oZ,if_neg ne]
  exact zE fun z=>h (List.mem_cons_of_mem _ z)
theorem insI_perm (a:Int):∀ l:List Int,(insI a l).Perm (a::l)
 | []=>.refl _
 | b::l=>by
  unfold insI
  split
  ·exact .refl _
  ·exact ((insI_perm a l).cons b).trans (.swap a b l)
theorem sortI_perm:∀ l:List Int,(sortI l).Perm l
 | []=>.refl _
 | a::l=>(insI_perm a (sortI l)).trans ((sortI_perm l).cons a)
theorem tP (a:Int):∀ l:List Int,l.Pairwise (· <= ·)->(insI a l).Pairwise (· <= ·)
 | [],_=>by simp [insI]
 | b::l,h=>by
  unfold insI
  split
  ·rename_i hab
   refine List.pairwise_cons.mpr ⟨fun c hc=>?_,h⟩
   rcases List.mem_cons.mp hc with e | e
   ·subst e; exact hab
   ·exact Int.le_trans hab ((List.pairwise_cons.mp h).1 c e)
  ·rename_i hab
   refine List.pairwise_cons.mpr ⟨fun c hc=>?_,tP a l (List.pairwise_cons.mp h).2⟩
   rcases List.mem_cons.mp ((insI_perm a l).mem_iff.mp hc) with e | e
   ·subst e; omega
   ·exact (List.pairwise_cons.mp h).1 c e
theorem iU:∀ l:List Int,(sortI l).Pairwise (· <= ·)
 | []=>List.Pairwise.nil
 | a::l=>tP a _ (iU l)
theorem zF:∀ {l m:List Int},l.Perm m->l.Pairwise (· <= ·)->m.Pairwise (· <= ·)->l=m
 | [],m,p,_,_=>by rw [p.nil_eq]
 | a::l,[],p,_,_=>by have:=p.length_eq; simp at this
 | a::l,b::m,p,h1,h2=>by
  have e:a=b:=by
   have m1:=p.mem_iff.mp (List.mem_cons_self (a:=a) (l:=l))
   have m2:=p.mem_iff.mpr (List.mem_cons_self (a:=b) (l:=m))
   rcases List.mem_cons.mp m1 with e | e
   ·exact e
   ·rcases List.mem_cons.mp m2 with e2 | e2
    ·exact e2.symm
    ·have:=(List.pairwise_cons.mp h2).1 a e
     have:=(List.pairwise_cons.mp h1).1 b e2
     omega
  subst e
  rw [zF p.cons_inv (List.pairwise_cons.mp h1).2 (List.pairwise_cons.mp h2).2]
theorem DA {l m:List Int} (p:m.Perm l) (h:m.Pairwise (· <= ·)):sortI l=m:=zF ((sortI_perm l).trans p.symm) (iU l) h
local macro_rules | `(tactic| walk_at "ev") => `(tactic| simp only [dR, aJ, fI, aS, aO, ID, iN, NW, u6, C5, sX, dP, dA, aB, eC, aE, tV, fZ, lW, oR, iM, NU, rP, KA, A7, mD, aC, aA, bU, aG, C0, jJ, cR, aP, mE, YE, KH, g1, g2, j9, KL, y6, dC, benv, eSl, oNo, oE, asInt, aV, mB, lF, cC, iT, Sv.all, Sv.rd, List.map_cons, List.map_nil, List.getElem?_cons_zero, List.getElem?_cons_succ, List.getElem?_nil, Option.join_some, Option.join_none, Option.bind_some, Option.bind_none, Option.map_some, Option.map_none, List.set_cons_zero, List.set_cons_succ, List.set_nil, List.length_cons, List.length_nil, List.length_map, List.cons_append, List.nil_append, List.replicate_succ, List.replicate_zero, Nat.reduceSub, Nat.reduceAdd, Nat.reduceEqDiff, i7, oW, oX, kG, S7, iF, vH, uL, uM, p5, p6, eK, uN, rS, nP, BC, uZ, p7, uO, BD, vI, mH, vJ, oU, oV, rT, rV, rW, rX, rY, rZ, vK, vL, if_true, if_false, ite_true, ite_false, reduceIte, decide_true, decide_false, decide_eq_true_eq, Bool.false_eq_true, Bool.not_true, Bool.not_false, j1, uP])
theorem nU (ns:List Int) (k:Int):∃ c,cL [.lD ns,.int k]=.ok (.int c):=by
 unfold cL
 by_cases h:(ns.length:Int)=0
 ·exact ⟨0,gA rfl (vM (FR (by walk_at "ev"; rw [decide_eq_true h]) rfl))⟩
 ·obtain ⟨x,_,e,_⟩:=vQ (xs:=ns) (i:=k % (ns.length:Int)) (Int.emod_nonneg _ (by omega)) (Int.emod_lt_of_pos _ (by omega))
  refine ⟨x,gA rfl (dG _ (rM (by walk_at "ev"; rw [decide_eq_false h]) rfl) (gB ?_))⟩
  walk_at "ev"
  rw [dI (by omega)]
  walk_at "ev"
  rw [e]; rfl
def N9 (c k s:Int):Int:=(c+11*k*k+17*k+s)*48271 % 2147483647
def aBX (c k s:Int):Int:=(N9 c k s*(N9 c k s / 4096+5)+29*k+s) % 2147483629
theorem DB (c k s:Int) (h0:0<=k) (h1:k<1000000):∃ r,0<=r/\eM [.int c,.int k,.int s]=.ok (.int r):=by
 unfold eM
 have ha:0<=N9 c k s:=Int.emod_nonneg ((c+11*k*k+17*k+s)*48271) (b:=2147483647) (by decide)
 have hb:N9 c k s<2147483647:=Int.emod_lt_of_pos ((c+11*k*k+17*k+s)*48271) (b:=2147483647) (by decide)
 refine ⟨aBX c k s*39373 % 1000000007,Int.emod_nonneg _ (b:=1000000007) (by decide),gA rfl (dG _ (gR (.int (N9 c k s)) ?_ rfl) (dG _ (gR (.int (aBX c k s)) ?_ rfl) (gB ?_)))⟩
 ·walk_at "ev"
  rw [oY (by decide)]
  walk_at "ev"
  rw [BE (by omega),oY (i:=17) (by decide)]
  walk_at "ev"
  rw [BE (j:=48271) (by decide)]
  walk_at "ev"
  rw [dI (by decide)]
  rfl
 ·walk_at "ev"
  rw [mG (by decide) (by decide)]
  walk_at "ev"
  rw [oY (by omega),oY (i:=29) (by decide)]
  walk_at "ev"
  rw [dI (by decide)]
  rfl
 ·walk_at "ev"
  rw [BE (j:=39373) (by decide)]
  walk_at "ev"
  rw [dI (by decide)]
theorem zG (xs:List Int) (x:Int):D.lst (xs.map D.int++[.int x])=aI (xs++[x]):=by simp [aI]
theorem mK (c many s:Int) (h0:0<=many) (h1:many<1000000):∃ xs:List Int,xs.length=many.toNat/\(∀ x∈xs,0<=x)/\cM [.int c,.int many,.int s]=.ok (aI xs):=by
 unfold cM
 have key:∀ left:Int,∃ ρ',fR (j9 5) (fI (tV (aE uK (aB 4) (eC (.int 0))))
    (aJ (sX (mB 3 gQ (aV (aE fH (aB 4) (eC (.int 64))))))
    (aO 4 (aE t9 (aB 4) (eC (.int 64)))))
    (sX (mB 3 gQ (aV (aG LL.eM (aA (aB 0) (aA (aB 5) (aA (aB 2) aC))))))))
    ((bG 0 many.toNat).map D.int) [Sv.ro (.int c),Sv.ro (.int many),Sv.ro (.int s),Sv.ow (.lst []),Sv.ro (.int left),Sv.no]=.nx ρ' /\
    ∃ (xs:List Int) (l:Int) (v:Sv),xs.length=many.toNat/\(∀ x∈xs,0<=x)/\ρ' = [Sv.ro (.int c),Sv.ro (.int many),Sv.ro (.int s),Sv.ow (aI xs),Sv.ro (.int l),v]:=by
  intro left
  refine N5 (fun i ρ'=>∃ (xs:List Int) (l:Int) (v:Sv),xs.length=i/\(∀ x∈xs,0<=x)/\ρ' = [Sv.ro (.int c),Sv.ro (.int many),Sv.ro (.int s),Sv.ow (aI xs),Sv.ro (.int l),v]) 0 _ ⟨[],left,_,rfl,by simp,rfl⟩ ?_
  rintro i _ hi ⟨xs,l,v,hx,hn,rfl⟩
  have hlen:(xs.map D.int).length<16777216:=by rw [List.length_map]; omega
  by_cases hl:0<l
  ·refine ⟨_,_,rfl,FR (by walk_at "ev"; rw [decide_eq_true hl]) (dG [Sv.ro (.int c),Sv.ro (.int many),Sv.ro (.int s),Sv.ow (aI (xs++[l % 64])),Sv.ro (.int l),Sv.ro (.int (0+(i:Int)))] ?_ (gR (.int (l / 64)) ?_ rfl)),xs++[l % 64],l / 64,_,by simp [hx],?_,rfl⟩
   ·walk_at "ev"
    rw [dI (by decide)]
    walk_at "ev"
    simp only [aI,lF]
    walk_at "ev"
    rw [p8 hlen]
    walk_at "ev"
    rw [zG]
    rfl
   ·walk_at "ev"
    rw [mG (by decide) (by decide)]
   ·intro x hx
    rcases List.mem_append.mp hx with h | h
    ·exact hn x h
    ·rw [List.mem_singleton.mp h]; exact Int.emod_nonneg _ (by decide)
  ·obtain ⟨r,hr,e⟩:=DB c (0+(i:Int)) s (by omega) (by omega)
   refine ⟨_,[Sv.ro (.int c),Sv.ro (.int many),Sv.ro (.int s),Sv.ow (aI (xs++[r])),Sv.ro (.int l),Sv.ro (.int (0+(i:Int)))],rfl,rM (by walk_at "ev"; rw [decide_eq_false hl]) ?_,xs++[r],l,_,by simp [hx],?_,rfl⟩
   ·walk_at "ev"
    rw [e]
    simp only [aI,lF]
    walk_at "ev"
    rw [p8 hlen]
    walk_at "ev"
    rw [zG]
    rfl
   ·intro x hx
    rcases List.mem_append.mp hx with h | h
    ·exact hn x h
    ·rw [List.mem_singleton.mp h]; exact hr
 have hp:uA (.int 10) (.int 18)=some (.int 1000000000000000000):=rfl
 have fin:∀ left:Int,(0=0) -> ∃ xs:List Int,xs.length=many.toNat/\(∀ x∈xs,0<=x)/\aJ (dP (aP (aA (aB 1) aC)) (j9 5) (fI (tV (aE uK (aB 4) (eC (.int 0))))
    (aJ (sX (mB 3 gQ (aV (aE fH (aB 4) (eC (.int 64))))))
    (aO 4 (aE t9 (aB 4) (eC (.int 64)))))
    (sX (mB 3 gQ (aV (aG LL.eM (aA (aB 0) (aA (aB 5) (aA (aB 2) aC))))))))) (aS (aB 3)) [Sv.ro (.int c),Sv.ro (.int many),Sv.ro (.int s),Sv.ow (.lst []),Sv.ro (.int left),Sv.no]=.rt (aI xs):=by
  intro left _
  obtain ⟨ρ',e,xs,l,v,h1',h2',rfl⟩:=key left
  refine ⟨xs,h1',h2',dG _ (C7 _ ?_ e) (gB rfl)⟩
  walk_at "ev"
  exact C8 (by omega)
 by_cases hc:1000000000000000000<=c
 ·obtain ⟨xs,a,b,e⟩:=fin c rfl
  refine ⟨xs,a,b,gA rfl (dG _ rfl (dG _ rfl (dG _ (FR ?_ rfl) e)))⟩
  walk_at "ev"
  rw [hp]
  walk_at "ev"
  rw [decide_eq_true hc]
 ·obtain ⟨xs,a,b,e⟩:=fin 0 rfl
  refine ⟨xs,a,b,gA rfl (dG _ rfl (dG _ rfl (dG _ (rM ?_ rfl) e)))⟩
  walk_at "ev"
  rw [hp]
  walk_at "ev"
  rw [decide_eq_false hc]
theorem OA (dr:List Int) (n:Nat) (th:Int) (hn:n<=9) (hl:n+Ord.tri n<=dr.length) :
  ∃ d,i6 [aI dr,.int n,.int th]=.ok d /\ ∃ rows:List (List Int),rows.length=n/\Ord.Rows rows/\d=aK rows:=by
 unfold i6
 refine sD rfl ?_
 rw [show dR 11 [aI dr,.int n,.int th]=[Sv.ro (aI dr),Sv.ro (.int n),Sv.ro (.int th),Sv.no,Sv.no,Sv.no,Sv.no,Sv.no,Sv.no,Sv.no,Sv.no] from rfl]
 refine cN [Sv.ro (aI dr),Sv.ro (.int n),Sv.ro (.int th),Sv.ow (.lst ((bG 0 n).map D.int)),Sv.no,Sv.no,Sv.no,Sv.no,Sv.no,Sv.no,Sv.no] ?_ ?_
 ·walk_at "ev"
  simp only [FN]
  walk_at "ev"
  rw [if_pos (by omega)]
  rfl
 refine cN [Sv.ro (aI dr),Sv.ro (.int n),Sv.ro (.int th),Sv.ow (.lst ((bG 0 n).map D.int)),Sv.ow (.lst []),Sv.no,Sv.no,Sv.no,Sv.no,Sv.no,Sv.no] rfl ?_
 refine sA (fun ρ=>∃ (word:List Int) (kv v3:Sv),word.Perm (bG 0 n)/\ρ=[Sv.ro (aI dr),Sv.ro (.int n),Sv.ro (.int th),v3,Sv.ow (aI word),kv,Sv.no,Sv.no,Sv.no,Sv.no,Sv.no]) ?_ ?_
 ·refine mJ n (fun i ρ=>∃ (rest word:List Int) (kv:Sv),word.length=i/\(word++rest).Perm (bG 0 n)/\ρ=[Sv.ro (aI dr),Sv.ro (.int n),Sv.ro (.int th),Sv.ow (aI rest),Sv.ow (aI word),kv,Sv.no,Sv.no,Sv.no,Sv.no,Sv.no])
   rfl (by omega) ⟨bG 0 n,[],Sv.no,rfl,.refl _,rfl⟩ ?_ ?_
  ·rintro i _ hi ⟨rest,word,kv,hw,hp,rfl⟩
   have hlr:word.length+rest.length=n:=by
    have:=hp.length_eq
    rw [List.length_append,aU] at this
    exact this
   obtain ⟨x,hx⟩:∃ x,dr[i]? = some x:=⟨_,List.getElem?_eq_getElem (by omega)⟩
   have hr0:(0:Int)<rest.length:=by omega
   have h0:=Int.emod_nonneg x (show (rest.length:Int)≠0 by omega)
   have h1:=Int.emod_lt_of_pos x hr0
   obtain ⟨y,hy⟩:∃ y,rest[(x % (rest.length:Int)).toNat]? = some y:=⟨_,List.getElem?_eq_getElem (by omega)⟩
   refine ⟨_,rfl,[Sv.ro (aI dr),Sv.ro (.int n),Sv.ro (.int th),Sv.ow (aI (rest.eraseIdx (x % (rest.length:Int)).toNat)),Sv.ow (aI (word++[y])),Sv.ro (.int i),Sv.no,Sv.no,Sv.no,Sv.no,Sv.no],?_,rest.eraseIdx (x % (rest.length:Int)).toNat,word++[y],Sv.ro (.int i),by simp [hw],?_,rfl⟩
   ·have e1:=T5 h0 h1 (by omega) hy
    simp only [aI]
    walk_at "ev"
    simp only [IC]
    walk_at "ev"
    rw [qB hx]
    walk_at "ev"
    rw [dI hr0]
    walk_at "ev"
    simp only [D.FI,ite_true,Option.bind_some]
    walk_at "ev"
    rw [e1]
    walk_at "ev"
    rw [p8 (by rw [List.length_map]; omega)]
    walk_at "ev"
    rw [List.map_append]
    rfl
   ·rw [List.append_assoc]
    exact ((Ord.vF rest _ y hy).append_left word).trans hp
  ·rintro _ ⟨rest,word,kv,hw,hp,rfl⟩
   have hlr:word.length+rest.length=n:=by
    have:=hp.length_eq
    rw [List.length_append,aU] at this
    exact this
   have e:rest=[]:=List.length_eq_zero_iff.mp (by omega)
   subst e
   rw [List.append_nil] at hp
   exact ⟨word,kv,_,hp,rfl⟩
 rintro _ ⟨word,kv,v3,hp,rfl⟩
 have hpw:word.Perm ((List.range n).map fun k:Nat=>(k:Int)):=by
  have e:bG 0 n=(List.range n).map fun k:Nat=>(k:Int):=List.map_congr_left fun k _=>by show 0+(k:Int)=k; omega
  rw [<- e]
  exact hp
 have hlw:word.length=n:=by rw [hpw.length_eq,List.length_map,List.length_range]
 have ndw:word.Nodup:=hpw.nodup_iff.mpr (List.Pairwise.map _ (fun a b hab e=>hab (by omega)) List.nodup_range)
 have YK:∀ {us:List (List Int)} (t:Nat) (u:List Int),Ord.Under word us t u->u.length<=n:=fun {us} t u h=>by
  rw [<- hlw]
  exact Ord.jL u word h.1 fun a ha=>by obtain ⟨s,_,_,h2,_⟩:=h.2 a ha; exact List.mem_of_getElem? h2
 refine cN [Sv.ro (aI dr),Sv.ro (.int n),Sv.ro (.int th),v3,Sv.ow (aI word),kv,Sv.ow (.jX [] []),Sv.no,Sv.no,Sv.no,Sv.no] rfl ?_
 refine cN [Sv.ro (aI dr),Sv.ro (.int n),Sv.ro (.int th),v3,Sv.ow (aI word),kv,Sv.ow (.jX [] []),Sv.ro (.int n),Sv.no,Sv.no,Sv.no] rfl ?_
 refine sA (fun ρ=>∃ (us:List (List Int)) (v7 v8 v9 v10:Sv),us.length=n/\Ord.Good word us/\ρ=[Sv.ro (aI dr),Sv.ro (.int n),Sv.ro (.int th),v3,Sv.ow (aI word),kv,Sv.ow (.jX (word.map Sum.inl) (us.map aI)),v7,v8,v9,v10]) ?_ ?_
 ·refine mJ n (fun j ρ=>∃ (us:List (List Int)) (v8 v9 v10:Sv),us.length=j/\Ord.Good word us/\ρ=[Sv.ro (aI dr),Sv.ro (.int n),Sv.ro (.int th),v3,Sv.ow (aI word),kv,Sv.ow (.jX ((word.take j).map Sum.inl) (us.map aI)),Sv.ro (.int ((n+Ord.tri j:Nat):Int)),v8,v9,v10])
   rfl (by omega) ⟨[],Sv.no,Sv.no,Sv.no,rfl,(fun t u e=>by simp at e),rfl⟩ ?_ ?_
  ·rintro j _ hj ⟨us,v8,v9,v10,hul,hg,rfl⟩
   refine ⟨_,rfl,?_⟩
   refine IJ [Sv.ro (aI dr),Sv.ro (.int n),Sv.ro (.int th),v3,Sv.ow (aI word),kv,Sv.ow (.jX ((word.take j).map Sum.inl) (us.map aI)),Sv.ro (.int ((n+Ord.tri j:Nat):Int)),Sv.ro (.int j),Sv.ro (.lst []),v10] rfl ?_
   refine FT (fun ρ=>∃ (u:List Int) (v10:Sv),Ord.Under word us j u/\ρ=[Sv.ro (aI dr),Sv.ro (.int n),Sv.ro (.int th),v3,Sv.ow (aI word),kv,Sv.ow (.jX ((word.take j).map Sum.inl) (us.map aI)),Sv.ro (.int ((n+Ord.tri (j+1):Nat):Int)),Sv.ro (.int j),Sv.ro (aI u),v10]) ?_ ?_
   ·refine mJ j (fun i ρ=>∃ (u:List Int) (v10:Sv),Ord.Under word us i u/\ρ=[Sv.ro (aI dr),Sv.ro (.int n),Sv.ro (.int th),v3,Sv.ow (aI word),kv,Sv.ow (.jX ((word.take j).map Sum.inl) (us.map aI)),Sv.ro (.int ((n+Ord.tri j+i:Nat):Int)),Sv.ro (.int j),Sv.ro (aI u),v10])
     rfl (by omega) ⟨[],_,⟨List.nodup_nil,fun a ha=>(nomatch ha)⟩,rfl⟩ ?_ ?_
    ·rintro i _ hi ⟨u,v10,hU,rfl⟩
     have tl:=Ord.YI hj hi
     obtain ⟨y,hy⟩:∃ y,dr[n+Ord.tri j+i]? = some y:=⟨_,List.getElem?_eq_getElem (by omega)⟩
     obtain ⟨x,hx⟩:∃ x,word[i]? = some x:=⟨_,List.getElem?_eq_getElem (by omega)⟩
     obtain ⟨v,hv⟩:∃ v,us[i]? = some v:=⟨_,List.getElem?_eq_getElem (by omega)⟩
     have lv:=YK _ _ (hg i v hv)
     have lu:=YK _ _ hU
     refine ⟨_,rfl,?_⟩
     refine FT (fun ρ=>∃ u':List Int,Ord.Under word us (i+1) u'/\ρ=[Sv.ro (aI dr),Sv.ro (.int n),Sv.ro (.int th),v3,Sv.ow (aI word),kv,Sv.ow (.jX ((word.take j).map Sum.inl) (us.map aI)),Sv.ro (.int ((n+Ord.tri j+i:Nat):Int)),Sv.ro (.int j),Sv.ro (aI u'),Sv.ro (.int i)]) ?_ ?_
     ·refine IK (decide (y % 4<th)) ?_ (fun _=>?_) (fun _=>BG ⟨u,hU.mono (by omega),rfl⟩)
      ·simp only [aI]
       walk_at "ev"
       rw [qB hy]
       walk_at "ev"
       rw [dI (by decide)]
       walk_at "ev"
      ·refine ⟨_,?_,_,hU.step ndw hg hx hv,rfl⟩
       have hf:=List.length_filter_le (fun a=>!u.contains a) (v++[x])
       have e1:jK (g1 0) (tV (aE (lC true) (aB 0) (aB 1))) (aB 0) [none,some (.lst (u.map D.int))] ((v++[x]).map D.int)=some (((v++[x]).filter fun a=>!u.contains a).map D.int) :=
        iG D.int _ D.int (v++[x]) fun a _=>⟨_,rfl,by walk_at "ev",fun _=>rfl⟩
       have e2:aE cB (aE u3 (aB 6) (aE cQ (aB 4) (aB 10))) (eZ (aA (aE cQ (aB 4) (aB 10)) aC)) [some (aI dr),some (.int n),some (.int th),v3.all,some (aI word),kv.all,some (.jX ((word.take j).map Sum.inl) (us.map aI)),some (.int ((n+Ord.tri j+i:Nat):Int)),some (.int j),some (aI u),some (.int i)]=some (.lst ((v++[x]).map D.int)):=by
        simp only [aI]
        walk_at "ev"
        rw [qB hx]
        walk_at "ev"
        simp only [u3,u0,Option.bind_some]
        have:=sE (List.Nodup.sublist (List.take_sublist j word) ndw) (N8 hx hi) hv
        simp only [aI] at this
        rw [this]
        simp only [eZ]
        walk_at "ev"
        rw [qB hx]
        walk_at "ev"
        rw [if_pos (by decide),Option.bind_some,vN (by simp; omega)]
        simp
       have e3:bZ 1 [9] (cR (aE cB (aE u3 (aB 6) (aE cQ (aB 4) (aB 10))) (eZ (aA (aE cQ (aB 4) (aB 10)) aC)))) (g1 0) (tV (aE (lC true) (aB 0) (aB 1))) (aB 0) [some (aI dr),some (.int n),some (.int th),v3.all,some (aI word),kv.all,some (.jX ((word.take j).map Sum.inl) (us.map aI)),some (.int ((n+Ord.tri j+i:Nat):Int)),some (.int j),some (aI u),some (.int i)]=some (.lst (((v++[x]).filter fun a=>!u.contains a).map D.int)) :=
        mI ((v++[x]).map D.int) (by unfold cR; rw [e2]; rfl) (by simp; omega) e1
       unfold u6
       have e4:aE KG (aB 9) (bZ 1 [9] (cR (aE cB (aE u3 (aB 6) (aE cQ (aB 4) (aB 10))) (eZ (aA (aE cQ (aB 4) (aB 10)) aC)))) (g1 0) (tV (aE (lC true) (aB 0) (aB 1))) (aB 0)) [some (aI dr),some (.int n),some (.int th),v3.all,some (aI word),kv.all,some (.jX ((word.take j).map Sum.inl) (us.map aI)),some (.int ((n+Ord.tri j+i:Nat):Int)),some (.int j),some (aI u),some (.int i)]=some (aI (u++(v++[x]).filter fun a=>!u.contains a)):=by
        refine bL (x:=aI u) rfl e3 ?_
        show KG (.lst (u.map D.int)) _=_
        rw [N4 (by simp only [List.length_map,List.length_append,List.length_cons,List.length_nil] at hf ⊢; omega),<- List.map_append]
        rfl
       rw [show cC _=[some (aI dr),some (.int n),some (.int th),v3.all,some (aI word),kv.all,some (.jX ((word.take j).map Sum.inl) (us.map aI)),some (.int ((n+Ord.tri j+i:Nat):Int)),some (.int j),some (aI u),some (.int i)] from rfl,e4]
       show (if u5 (aI _)=true then _ else _)=_
       rw [if_pos (show u5 (aI _)=true from nR _)]
       rfl
     rintro _ ⟨u',hU',rfl⟩
     exact ⟨_,rfl,u',_,hU',rfl⟩
    ·rintro _ ⟨u,v10,hU,rfl⟩
     exact ⟨u,v10,hU,by rw [Nat.add_assoc]; rfl⟩
   rintro _ ⟨u,v10,hU,rfl⟩
   obtain ⟨x,hx⟩:∃ x,word[j]? = some x:=⟨_,List.getElem?_eq_getElem (by omega)⟩
   refine ⟨[Sv.ro (aI dr),Sv.ro (.int n),Sv.ro (.int th),v3,Sv.ow (aI word),kv,Sv.ow (.jX ((word.take (j+1)).map Sum.inl) ((us++[u]).map aI)),Sv.ro (.int ((n+Ord.tri (j+1):Nat):Int)),Sv.ro (.int j),Sv.ro (aI u),v10],?_,us++[u],Sv.ro (.int j),Sv.ro (aI u),v10,by simp [hul],hg.snoc (by rw [hul]; exact hU),rfl⟩
   have hno:jZ ((word.take j).map Sum.inl) (us.map aI) (Sum.inl x)=none:=zE fun hm=>by
    obtain ⟨t,ht⟩:=List.mem_iff_getElem?.mp hm
    have htl:t<j:=by
     have:=(List.getElem?_eq_some_iff.mp ht).1
     rw [List.length_take] at this
     omega
    rw [List.getElem?_take_of_lt htl] at ht
    have:=Ord.vG ndw ht hx
    omega
   unfold IE
   walk_at "ev"
   simp only [u7,Option.bind_some]
   have e5:cQ (aI word) (.int (j:Int))=some (.int x):=qB hx
   rw [e5]
   simp only [Option.bind_some,u0,hno,Option.isNone_none,true_and]
   rw [if_pos (by rw [List.length_map]; show us.length<16777216; omega),List.take_succ,hx,List.map_append,List.map_append]
   rfl
  ·rintro _ ⟨us,v8,v9,v10,hul,hg,rfl⟩
   refine ⟨us,Sv.ro (.int ((n+Ord.tri n:Nat):Int)),v8,v9,v10,hul,hg,?_⟩
   rw [List.take_of_length_le (by omega)]
 rintro _ ⟨us,v7,v8,v9,v10,hul,hg,rfl⟩
 have ec:∃ rows:List (List Int),rows.length=(List.range n).length/\(∀ (i:Nat) (b:Nat) (r:List Int),(List.range n)[i]? = some b->rows[i]? = some r -> ∀ (t:Nat) (u:List Int),word[t]? = some (b:Int)->us[t]? = some u->r.Perm u/\r.Pairwise (· <= ·)) /\
   jK (g1 0) dC (bU bW (aA (bU fL (aA (aE u3 (aB 1) (aB 0)) aC)) aC)) [none,some (.jX (word.map Sum.inl) (us.map aI))] ((List.range n).map fun b:Nat=>D.int (b:Int))=some (rows.map tupI):=by
  refine N6 (fun b:Nat=>D.int (b:Int)) tupI _ (List.range n) fun b hb=>?_
  have hb2:=List.mem_range.mp hb
  have hm:(b:Int)∈word:=hpw.mem_iff.mpr (List.mem_map.mpr ⟨b,hb,rfl⟩)
  obtain ⟨t,ht⟩:=List.mem_iff_getElem?.mp hm
  obtain ⟨u,hu2⟩:∃ u,us[t]? = some u:=⟨_,List.getElem?_eq_getElem (by have:=(List.getElem?_eq_some_iff.mp ht).1; omega)⟩
  have lu:=YK _ _ (hg t u hu2)
  refine ⟨_,sortI u,rfl,?_,fun t' u' e1 e2=>?_⟩
  ·walk_at "ev"
   simp only [u3,u0,Option.bind_some]
   rw [sE ndw ht hu2]
   simp only [aI]
   walk_at "ev"
   rw [sorted_ints (by omega)]
   rfl
  ·have e:=Ord.vG ndw e1 ht
   subst e
   rw [hu2] at e2
   cases e2
   exact ⟨sortI_perm u,iU u⟩
 obtain ⟨rows,hr1,hr2,ec⟩:=ec
 rw [List.length_range] at hr1
 refine sC (aK rows) ?_ ⟨rows,hr1,hg.rows hul hpw hr1 fun b t r u e1 e2 e3=>hr2 b b r (by rw [List.getElem?_range (by have:=(List.getElem?_eq_some_iff.mp e1).1; omega)]) e1 t u e2 e3,rfl⟩
 have e6:(bG 0 n).map D.int=(List.range n).map fun b:Nat=>D.int (b:Int):=by
  unfold bG
  rw [List.map_map]
  exact List.map_congr_left fun b _=>by show D.int (0+(b:Int))=_; rw [Int.zero_add]
 have e7:=mI (nl:=1) (fr:=[6]) (it:=aP (aA (aB 1) aC)) (g:=g1 0) (t:=dC) (e:=bU bW (aA (bU fL (aA (aE u3 (aB 1) (aB 0)) aC)) aC)) (ρ:=cC [Sv.ro (aI dr),Sv.ro (.int n),Sv.ro (.int th),v3,Sv.ow (aI word),kv,Sv.ow (.jX (word.map Sum.inl) (us.map aI)),v7,v8,v9,v10]) ((bG 0 n).map D.int)
  (by walk_at "ev"; exact p9 (by omega)) (by rw [List.length_map,aU]; omega) (by rw [e6]; exact ec)
 exact fO e7 rfl
theorem T6 (n:Nat):2*Ord.tri n+n=n*n:=by
 induction n with
 | zero=>rfl
 | succ n ih =>
  show 2*(Ord.tri n+n)+(n+1)=(n+1)*(n+1)
  have:(n+1)*(n+1)=n*n+2*n+1:=by rw [Nat.add_mul,Nat.mul_add]; omega
  omega
theorem OB (ns:List Int) (k m s:Int) (h0:0<=m) (h1:m<=9) :
  ∃ d,eO [.lD ns,.int k,.int m,.int s]=.ok d /\ ∃ rows:List (List Int),(rows.length:Int)<=m/\Ord.Rows rows/\d=aK rows:=by
 unfold eO
 refine sD rfl ?_
 obtain ⟨c1,ec1⟩:=nU ns k
 obtain ⟨xs,hx,hxn,ex⟩:=mK c1 4 s (by decide) (by decide)
 obtain ⟨c2,ec2⟩:=nU ns (k+1)
 obtain ⟨a,b,r,rfl⟩:∃ a b r,xs=a::b::r:=by
  match xs,hx with
  | a::b::r,_=>exact ⟨a,b,r,rfl⟩
 have hm0:=Int.emod_nonneg a (show m+1≠0 by omega)
 have hm1:=Int.emod_lt_of_pos a (show 0<m+1 by omega)
 obtain ⟨n,hn⟩:∃ n:Nat,a % (m+1)=(n:Int):=⟨(a % (m+1)).toNat,by omega⟩
 have hn9:n<=9:=by omega
 have et:=T6 n
 have hq:(n:Int)*((n:Int) - 1) / 2=(Ord.tri n:Int):=by
  have:(n:Int)*((n:Int) - 1)=2*(Ord.tri n:Int):=by
   have e2:((n*n:Nat):Int)=(n:Int)*n:=by simp
   rw [Int.mul_sub,Int.mul_one]
   omega
  rw [this,Int.mul_ediv_cancel_left _ (by decide)]
 have aN9:Ord.tri n<=36:=Ord.N3 hn9
 obtain ⟨ys,hy,hyn,ey⟩:=mK c2 ((n:Int)+Ord.tri n) (s+10007) (by omega) (by omega)
 refine cN _ (gR (aI (a::b::r)) (e8 (dU rfl rfl ec1) rfl rfl ex) rfl) ?_
 refine cN _ (gR (.int n) ?_ rfl) ?_
 ·simp only [aI]
  walk_at "ev"
  rw [show CY (D.int a::D.int b::r.map D.int) 0=some (D.int a) from BF (k:=0) rfl]
  walk_at "ev"
  rw [dI (by omega),hn]
 refine cN _ (gR (aI ys) (e8 (dU rfl rfl ec2) ?_ rfl ey) rfl) ?_
 ·walk_at "ev"
  rw [oY (by omega)]
  walk_at "ev"
  rw [mG (by decide) (by decide),hq]
  walk_at "ev"
 have hb0:=Int.emod_nonneg b (show (8:Int)≠0 by decide)
 have hb1:=Int.emod_lt_of_pos b (show (0:Int)<8 by decide)
 have hth:∃ th:Int,aE cQ (eZ (aA (eC (.int 1)) (aA (eC (.int 1)) (aA (eC (.int 2)) (aA (eC (.int 2)) (aA (eC (.int 3)) (aA (eC (.int 1)) (aA (eC (.int 0)) (aA (eC (.int 4)) aC))))))))) (aE fH (aE cQ (aB 4) (eC (.int 1))) (eC (.int 8))) [some (.lD ns),some (.int k),some (.int m),some (.int s),some (aI (a::b::r)),some (.int n),some (aI ys)]=some (.int th):=by
  obtain ⟨x,hx,e,_⟩:=vQ (xs:=[(1:Int),1,2,2,3,1,0,4]) (i:=b % 8) hb0 hb1
  refine ⟨x,bL (x:=.lst ([(1:Int),1,2,2,3,1,0,4].map D.int)) rfl (y:=.int (b % 8)) ?_ ?_⟩
  ·refine bL (x:=.int b) (y:=.int 8) ?_ rfl (dI (by decide))
   simp only [aI]
   walk_at "ev"
   exact BF (k:=1) rfl
  ·rw [p7,qA,e]; rfl
 obtain ⟨th,eth⟩:=hth
 obtain ⟨d,ed,rows,hr1,hr2,rfl⟩:=OA ys n th hn9 (by omega)
 exact sC (aK rows) (e8 rfl rfl eth ed) ⟨rows,by omega,hr2,rfl⟩
def fP:fG:=bQ 2 2
  (aS (mD leM WW (eC (.int 0)) (aB 0) (aB 1)))
def dJ:fG:=bQ 3 3
  (aS (iM (aE KC (aB 1) (aB 2)) (iM (aE (lC true) (aB 1) (aE cQ (aB 0) (aB 2))) (aE (lC true) (aB 2) (aE cQ (aB 0) (aB 1))))))
def eF:fG:=bQ 3 1
  (aJ (iN 1 (eZ aC))
  (aJ (dP (aP (aA (bU bV (aA (aB 0) aC)) aC)) (j9 2)
   (sX (mB 1 KI (aV (bZ 1 [2,0] (aP (aA (aE cB (aB 2) (eC (.int 1))) (aA (bU bV (aA (aB 0) aC)) aC))) (g1 0) (tV (aG LL.dJ (aA (aB 2) (aA (aB 1) (aA (aB 0) aC))))) (fJ (aA (aB 1) (aA (aB 0) aC))))))))
  (aS (bU bW (aA (aB 1) aC)))))
def vS:fG:=bQ 2 2
  (aS (bU bW (aA (bZ 2 [1] (mE (aA (aB 0) aC)) (g2 0 1) (tV (aE (lC false) (aB 2) (aB 1))) (aB 0)) aC)))
def kA:fG:=bQ 1 1
  (aS (bU bW (aA (bZ 1 [0] (aP (aA (bU bV (aA (aB 0) aC)) aC)) (g1 0) dC (aG LL.vS (aA (aB 1) (aA (aB 0) aC)))) aC)))
def iV:fG:=bQ 7 3
  (aJ (aO 3 (aE cB (bU pZ (aA (aE cQ (aB 0) (aB 1)) aC)) (eZ (aA (aB 1) aC))))
  (aJ (iN 4 (eZ aC))
  (aJ (dP (aP (aA (bU bV (aA (aB 0) aC)) aC)) (j9 5)
   (aJ (aO 6 (bU pZ (aA (aE cQ (aB 0) (aB 5)) aC)))
   (aJ (fI (oR (tV (aE jW (aB 5) (aB 2))) (tV (aE (lC false) (aB 2) (aE cQ (aB 0) (aB 5)))))
    (aO 6 (aE cB (aB 6) (bZ 1 [6] (cR (aB 3)) (g1 0) (tV (aE (lC true) (aB 0) (aB 1))) (aB 0))))
    dA)
   (sX (mB 4 gQ (aV (bU bW (aA (bU fL (aA (aB 6) aC)) aC))))))))
  (aS (bU bW (aA (aB 4) aC))))))
def BH:Nat->D->Prop
 | 0,_=>False
 | n+1,.tup ds=>ds.length<=1000000 /\ ∀ d∈ds,BH n d
 | _+1,.int _=>True
 | _+1,.bl _=>True
 | _+1,.non=>True
 | _+1,.str _=>True
 | _+1,_=>False
theorem isi {T:String} {f:EF} {ρ:bN} {d:D} (h:f ρ=some d) (hn:FL d=true:=by rfl):jJ T f ρ=some (.bl (FK T d)):=by unfold jJ; rw [h]; exact if_pos hn
theorem same_refl:∀ (n:Nat) (d:D),BH n d->bE n [d,d]=.ok (.bl true)
 | 0,_,h=>h.elim
 | n+1,.tup ds,h=>by
  have hl:=h.1
  unfold bE
  refine gA rfl (vM (FR (by unfold tV; rw [isi rfl]; rfl) (dG _ (rM ?_ rfl) (gB ?_))))
  ·simp only [dR,aJ,fI,aS,aO,ID,iN,NW,u6,C5,sX,dP,dA,aB,eC,aE,tV,fZ,lW,oR,iM,NU,rP,KA,A7,mD,aC,aA,bU,aG,C0,jJ,cR,aP,mE,YE,KH,g1,g2,j9,KL,y6,dC,benv,eSl,oNo,oE,asInt,aV,mB,lF,cC,iT,Sv.all,Sv.rd,List.map_cons,List.map_nil,List.getElem?_cons_zero,List.getElem?_cons_succ,List.getElem?_nil,Option.join_some,Option.join_none,Option.bind_some,Option.bind_none,Option.map_some,Option.map_none,List.set_cons_zero,List.set_cons_succ,List.set_nil,List.length_cons,List.length_nil,List.length_map,List.cons_append,List.nil_append,List.replicate_succ,List.replicate_zero,Nat.reduceSub,Nat.reduceAdd,Nat.reduceEqDiff,i7,oW,oX,kG,S7,iF,vH,uL,uM,p5,p6,eK,uN,rS,nP,BC,uZ,p7,uO,BD,vI,mH,vJ,oU,oV,rT,rV,rW,rX,rY,rZ,vK,vL,if_true,if_false,ite_true,ite_false,reduceIte,decide_true,decide_false,decide_eq_true_eq,Bool.false_eq_true,Bool.not_true,Bool.not_false,j1,uP]
   simp [FK,tyM,dR,cC,jJ,FL,aB,Sv.all,lE]
  ·have e1:=mI (nl:=1) (fr:=[0,1]) (it:=aP (aA (bU bV (aA (aB 1) aC)) aC)) (g:=g1 0) (t:=dC) (e:=aG (bE n) (aA (aE cQ (aB 1) (aB 0)) (aA (aE cQ (aB 2) (aB 0)) aC))) (ρ:=[some (.tup ds),some (.tup ds)]) ((bG 0 ds.length).map D.int) (ys:=(bG 0 ds.length).map fun _=>D.bl true)
    (by simp only [dR,aJ,fI,aS,aO,ID,iN,NW,u6,C5,sX,dP,dA,aB,eC,aE,tV,fZ,lW,oR,iM,NU,rP,KA,A7,mD,aC,aA,bU,aG,C0,jJ,cR,aP,mE,YE,KH,g1,g2,j9,KL,y6,dC,benv,eSl,oNo,oE,asInt,aV,mB,lF,cC,iT,Sv.all,Sv.rd,List.map_cons,List.map_nil,List.getElem?_cons_zero,List.getElem?_cons_succ,List.getElem?_nil,Option.join_some,Option.join_none,Option.bind_some,Option.bind_none,Option.map_some,Option.map_none,List.set_cons_zero,List.set_cons_succ,List.set_nil,List.length_cons,List.length_nil,List.length_map,List.cons_append,List.nil_append,List.replicate_succ,List.replicate_zero,Nat.reduceSub,Nat.reduceAdd,Nat.reduceEqDiff,i7,oW,oX,kG,S7,iF,vH,uL,uM,p5,p6,eK,uN,rS,nP,BC,uZ,p7,uO,BD,vI,mH,vJ,oU,oV,rT,rV,rW,rX,rY,rZ,vK,vL,if_true,if_false,ite_true,ite_false,reduceIte,decide_true,decide_false,decide_eq_true_eq,Bool.false_eq_true,Bool.not_true,Bool.not_false,j1,uP]; exact p9 (by omega)) (by rw [List.length_map,aU]; omega) (zC D.int (fun _=>D.bl true) (bG 0 ds.length) fun k hk=>by
     have hk:=dQ.mp hk
     obtain ⟨x,hx,e,_⟩:=vQ (xs:=ds) (i:=k) (by omega) (by omega)
     show aG (bE n) _ _=_
     exact dU (bL rfl rfl e) (bL rfl rfl e) (same_refl n x (h.2 x hx)))
   refine fO e1 ?_
   have:(bG 0 ds.length).map (fun _=>D.bl true)=((bG 0 ds.length).map fun _=>true).map D.bl:=by rw [List.map_map]; rfl
   rw [this,II]
   congr 2
   simp
 | n+1,.int i,_=>by
  unfold bE
  refine gA rfl (dG _ (rM rfl rfl) (dG _ (rM rfl rfl) (dG _ (rM rfl rfl) (vM (FR rfl (gB ?_))))))
  show iM _ _ _=_
  simp [iM,rP,jJ,FL,aB,FK,tyM,mC,aE,eK,rS,nP,dR,cC,Sv.all]
 | n+1,.bl b,_=>by
  unfold bE
  refine gA rfl (dG _ (rM rfl rfl) (dG _ (rM rfl rfl) (vM (FR rfl (gB ?_)))))
  simp [iM,rP,jJ,FL,aB,FK,tyM,mC,aE,eK,rS,nP,dR,cC,Sv.all]
 | n+1,.non,_=>by
  unfold bE
  exact gA rfl (dG _ (rM rfl rfl) (vM (FR rfl (gB rfl))))
 | n+1,.str x,_=>by
  unfold bE
  refine gA rfl (dG _ (rM rfl rfl) (dG _ (rM rfl rfl) (dG _ (rM rfl rfl) (dG _ (rM rfl rfl) (gB ?_)))))
  simp [iM,rP,jJ,FL,aB,FK,tyM,mC,aE,eK,rS,nP,dR,cC,Sv.all]
 | n+1,.lst _,h=>h.elim
 | n+1,.lD _,h=>h.elim
 | n+1,.jX _ _,h=>h.elim
 | n+1,.eL _ _ _,h=>h.elim
 | n+1,.exc _ _,h=>h.elim
theorem vT {n:Nat} {xs:List Int} (h:xs.length<=1000000):BH (n+2) (tupI xs):=⟨by rw [List.length_map]; exact h,fun d hd=>by
 obtain ⟨i,_,rfl⟩:=List.mem_map.mp hd; trivial⟩
theorem vU {n:Nat} {rows:List (List Int)} (h:rows.length<=1000000) (h2:∀ r∈rows,r.length<=1000000):BH (n+3) (aK rows):=⟨by rw [List.length_map]; exact h,fun d hd=>by
 obtain ⟨r,hr,rfl⟩:=List.mem_map.mp hd; exact vT (h2 r hr)⟩
theorem sF {α:Type} {g:IF} {b:SF} {z:D} (P:aR->Prop) (mk:α->D) (ok:α->Bool):∀ (l:List α) (ρ:aR),P ρ->(∀ a∈l,∀ ρ,P ρ -> ∃ ρ1,g (mk a) ρ=some ρ1/\(ok a=true->Nx (b ρ1) P)/\(ok a=false->b ρ1=.rt z)) ->
  (l.all ok=true->Nx (fR g b (l.map mk) ρ) P)/\(l.all ok=false->fR g b (l.map mk) ρ=.rt z)
 | [],ρ,h,_=>⟨fun _=>⟨ρ,rfl,h⟩,fun e=>by cases e⟩
 | a::l,ρ,h,step=>by
  obtain ⟨ρ1,e1,h1,h2⟩:=step a (by simp) ρ h
  cases hd:ok a with
  | true =>
   obtain ⟨ρ2,e2,p2⟩:=h1 hd
   have ih:=sF P mk ok l ρ2 p2 fun d' hd'=>step d' (by simp [hd'])
   simp only [List.map_cons,fR,e1,e2,List.all_cons,hd,Bool.true_and]
   exact ih
  | false =>
   have e2:=h2 hd
   simp only [List.map_cons,fR,e1,e2,List.all_cons,hd,Bool.false_and]
   exact ⟨fun e=>(by cases e),fun _=>trivial⟩
def row (rows:List (List Int)) (b:Int):List Int:=(rows[b.toNat]?).getD []
theorem jM {rows:List (List Int)} {i:Int} (h0:0<=i) (h1:i<rows.length):cQ (aK rows) (.int i)=some (tupI (row rows i)):=by
 have hl:i.toNat<rows.length:=by omega
 rw [show aK rows=.tup (rows.map tupI) from rfl,uO,qA]
 unfold CY row
 rw [vP h0 h1]
 simp [hl]
theorem FV {i:Int} {xs:List Int}:lC false (.int i) (tupI xs)=some (.bl (xs.contains i)):=by
 unfold tupI; rw [j1]; rfl
theorem BI {i:Int} {xs:List Int}:lC true (.int i) (tupI xs)=some (.bl (!xs.contains i)):=by
 unfold tupI; rw [j1]; rfl
theorem fE {rows:List (List Int)}:bV [aK rows]=some (.int rows.length):=by unfold aK; rw [mH,List.length_map]
theorem OC {xs:List Int}:bV [tupI xs]=some (.int xs.length):=by unfold tupI; rw [mH,List.length_map]
theorem zipIdx_map {α β:Type} (f:α->β) (l:List α) (m:Nat):(l.map f).zipIdx m=(l.zipIdx m).map fun p=>(f p.1,p.2):=by
 induction l generalizing m with
 | nil=>rfl
 | cons a l ih=>simp [List.zipIdx_cons,ih]
theorem tQ (a n:Int):fP [.int a,.int n]=.ok (.bl (decide (0<=a)&&decide (a<n))):=by
 unfold fP
 refine gA rfl (gB ?_)
 show mD leM WW (eC (.int 0)) (aB 0) (aB 1) [some (.int a),some (.int n)]=_
 unfold mD
 simp only [eC,aB,List.getElem?_cons_zero,List.getElem?_cons_succ,Option.join_some,Option.bind_some,uM,uL,kG]
 by_cases h:0<=a
 ·simp [h]
 ·simp [h]
def fA (rows:List (List Int)) (a b:Int):Bool:=!decide (a=b)&&(!(row rows b).contains a && !(row rows a).contains b)
theorem qC {rows:List (List Int)} {a b:Int} (ha:0<=a/\a<(rows.length:Int)) (hb:0<=b/\b<(rows.length:Int)):dJ [aK rows,.int a,.int b]=.ok (.bl (fA rows a b)):=by
 unfold dJ
 refine gA rfl (gB ?_)
 show iM (aE KC (aB 1) (aB 2)) _ _=_
 unfold iM
 rw [bL (x:=.int a) (y:=.int b) rfl rfl uN,bL (x:=.int a) (y:=tupI (row rows b)) rfl (bL rfl rfl (jM hb.1 hb.2)) BI,bL (x:=.int b) (y:=tupI (row rows a)) rfl (bL rfl rfl (jM ha.1 ha.2)) BI]
 simp only [Option.bind_some,kG,fA]
 cases decide (a=b)<;>cases (row rows b).contains a<;>rfl
def pairD (p:Int×Int):D:=.tup [.int p.1,.int p.2]
def dH (rows:List (List Int)) (a:Int):List (Int×Int):=((bG (a+1) (rows.length - (a+1)).toNat).filter fun b=>fA rows a b).map fun b=>(a,b)
def loose (rows:List (List Int)):List (Int×Int):=(bG 0 rows.length).flatMap (dH rows)
theorem mL (rows:List (List Int)) {a:Int} (ha:0<=a):(dH rows a).length<=rows.length:=by
 unfold dH
 rw [List.length_map]
 refine Nat.le_trans (List.length_filter_le _ _) ?_
 rw [aU]; omega
theorem vV {rows:List (List Int)} (hn:rows.length<=1000):eF [aK rows]=.ok (.tup ((loose rows).map pairD)):=by
 unfold eF
 have hlen:∀ k,k<=rows.length->((bG 0 k).flatMap (dH rows)).length<=k*rows.length:=by
  intro k
  induction k with
  | zero=>intro _; simp [bG]
  | succ k ih =>
   intro hk
   rw [i8,List.flatMap_append,List.length_append]
   have:=ih (by omega)
   have h2:=mL rows (a:=0+(k:Int)) (by omega)
   simp only [List.flatMap_cons,List.flatMap_nil,List.append_nil]
   rw [Nat.add_mul]
   omega
 obtain ⟨ρ',e,v2,rfl⟩:Nx (dP (aP (aA (bU bV (aA (aB 0) aC)) aC)) (j9 2)
   (sX (mB 1 KI (aV (bZ 1 [2,0] (aP (aA (aE cB (aB 2) (eC (.int 1))) (aA (bU bV (aA (aB 0) aC)) aC))) (g1 0) (tV (aG LL.dJ (aA (aB 2) (aA (aB 1) (aA (aB 0) aC))))) (fJ (aA (aB 1) (aA (aB 0) aC)))))))
   [Sv.ro (aK rows),Sv.ow (.lst []),Sv.no]) (fun ρ=>∃ v2,ρ=[Sv.ro (aK rows),Sv.ow (.lst ((loose rows).map pairD)),v2]):=by
  refine mJ rows.length (fun i ρ=>∃ v2,ρ=[Sv.ro (aK rows),Sv.ow (.lst (((bG 0 i).flatMap (dH rows)).map pairD)),v2]) ?_ (by omega) ⟨_,rfl⟩ ?_ ?_
  ·exact args1 (fO rfl fE)
  ·rintro i _ hi ⟨v2,rfl⟩
   refine ⟨_,rfl,[Sv.ro (aK rows),Sv.ow (.lst (((bG 0 (i+1)).flatMap (dH rows)).map pairD)),Sv.ro (.int i)],?_,_,rfl⟩
   have ec:=mI (nl:=1) (fr:=[2,0]) (it:=aP (aA (aE cB (aB 2) (eC (.int 1))) (aA (bU bV (aA (aB 0) aC)) aC))) (g:=g1 0) (t:=tV (aG LL.dJ (aA (aB 2) (aA (aB 1) (aA (aB 0) aC))))) (e:=fJ (aA (aB 1) (aA (aB 0) aC)))
    (ρ:=[some (aK rows),none,some (.int (i:Int))]) ((bG ((i:Int)+1) (rows.length - ((i:Int)+1)).toNat).map D.int) (ys:=(dH rows (i:Int)).map pairD)
    (W4 (bL (x:=.int i) (y:=.int 1) rfl rfl iF) (fO rfl fE) (by omega) (by omega))
    (by rw [List.length_map,aU]; omega)
    (by
     unfold dH
     rw [List.map_map]
     refine iG D.int (fun b=>fA rows (i:Int) b) _ _ fun b hb=>⟨_,rfl,?_,fun _=>rfl⟩
     have hb:=dQ.mp hb
     show (aG _ _ _).bind lE=_
     rw [e8 (x:=aK rows) (y:=.int i) (z:=.int b) rfl rfl rfl (qC ⟨by omega,by omega⟩ ⟨by omega,by omega⟩)]
     rfl)
   have ex:aV (bZ 1 [2,0] (aP (aA (aE cB (aB 2) (eC (.int 1))) (aA (bU bV (aA (aB 0) aC)) aC))) (g1 0) (tV (aG LL.dJ (aA (aB 2) (aA (aB 1) (aA (aB 0) aC))))) (fJ (aA (aB 1) (aA (aB 0) aC)))) [Sv.ro (aK rows),Sv.ow (.lst (((bG 0 i).flatMap (dH rows)).map pairD)),Sv.ro (.int i)]=some ([Sv.ro (aK rows),Sv.ow (.lst (((bG 0 i).flatMap (dH rows)).map pairD)),Sv.ro (.int i)],.lst ((dH rows (i:Int)).map pairD)):=by
    unfold aV
    rw [show iT _=[some (aK rows),none,some (.int (i:Int))] from rfl,ec]
    rfl
   unfold sX mB
   show (match ((lF (some (Sv.ow (.lst _)))).bind _:Option (aR×D)) with | some p=>_ | none=>_)=_
   simp only [lF,Option.bind_some]
   rw [show [Sv.ro (aK rows),Sv.ow (.lst (((bG 0 i).flatMap (dH rows)).map pairD)),v2].set 2 (Sv.ro (.int (i:Int)))=[Sv.ro (aK rows),Sv.ow (.lst (((bG 0 i).flatMap (dH rows)).map pairD)),Sv.ro (.int i)] from rfl,ex]
   simp only [Option.bind_some,List.getElem?_cons_succ,List.getElem?_cons_zero,lF]
   rw [TU (by
    have h1:=hlen i (by omega)
    have h2:=mL rows (a:=(i:Int)) (by omega)
    have h3:i*rows.length<=1000*1000:=Nat.mul_le_mul (by omega) hn
    rw [List.length_map,List.length_map]; omega)]
   simp only [Option.map_some,List.set_cons_succ,List.set_cons_zero]
   rw [i8,List.flatMap_append,List.map_append]
   simp
  ·rintro _ ⟨v2,rfl⟩
   exact ⟨v2,rfl⟩
 exact gA rfl (dG _ rfl (dG _ e (gB rfl)))
end LL
end
section
namespace Ord
def rel (rows:List (List Int)) (a b:Nat):Bool:=(rows.getD b []).contains (a:Int)
end Ord
end
section
namespace Ord
theorem Rows.short {x:List (List Int)} (h:Rows x) {r:List Int} (hr:r∈x):r.length<=x.length:=by
 obtain ⟨b,hb⟩:=List.mem_iff_getElem?.mp hr
 have nd:r.Nodup:=(h.up b r hb).imp fun q=>by omega
 have:=jL r (L4.bG 0 x.length) nd fun a ha=>LL.dQ.mpr (by have:=h.rng b r hb a ha; omega)
 rwa [LL.aU] at this
end Ord
end
section
namespace S4
open PySem L3 L4
def lX:fG:=bQ 2 2
  (aS (bU bW (aA (bZ 1 [1] (KH (aA (aB 0) aC)) (g1 0) dC (aE fM (aE fM (aB 1) (eC (.int 1))) (aB 0))) aC)))
def jN:fG:=bQ 1 1
  (aS (bU bW (aA (bZ 1 [0] (KH (aA (aB 0) aC)) (g1 0) dC (aG lX (aA (aB 0) (aA (bU bV (aA (aB 1) aC)) aC)))) aC)))
def qD:fG:=bQ 3 1
  (aJ (aO 1 (eZ aC))
  (aJ (dP (aP (aA (bU bV (aA (aB 0) aC)) aC)) (j9 2)
   (aO 1 (aE cB (aB 1) (bZ 1 [2] (cR (aE cQ (aB 0) (aB 2))) (g1 0) dC (fJ (aA (aB 0) (aA (aB 1) aC)))))))
  (aS (bU A9 (aA (aB 1) aC)))))
def vW:fG:=bQ 2 2
  (aS (bU bW (aA (bZ 1 [1] (aP (aA (aB 0) aC)) (g1 0) dC (bU bW (aA (bU fL (aA (bZ 2 [0] (cR (aB 1)) (g2 0 1) (tV (aE jW (aB 1) (aB 2))) (aB 0)) aC)) aC))) aC)))
def qE:fG:=bQ 7 1
  (aJ (aO 1 (aG LL.eO (aA (aB 0) (aA (eC (.int 0)) (aA (eC (.int 9)) (aA (eC (.int 100003)) aC))))))
  (aJ (aO 2 (bU bV (aA (aB 1) aC)))
  (aJ (aO 3 (aG qD (aA (aB 1) aC)))
  (aJ (aO 4 (aG vW (aA (aB 2) (aA (bZ 2 [2] (cR (aB 3)) (g2 0 1) dC (fJ (aA (aE fM (aE fM (aB 2) (eC (.int 1))) (aB 0)) (aA (aE fM (aE fM (aB 2) (eC (.int 1))) (aB 1)) aC)))) aC))))
  (aJ (aO 5 (aG vW (aA (aB 2) (aA (bZ 2 [] (cR (aB 3)) (g2 0 1) dC (fJ (aA (aB 1) (aA (aB 0) aC)))) aC))))
  (aJ (aO 6 (aG vW (aA (aB 2) (aA (bZ 2 [2] (cR (aB 3)) (g2 0 1) dC (fJ (aA (aE fM (aE fM (aB 2) (eC (.int 1))) (aB 1)) (aA (aE fM (aE fM (aB 2) (eC (.int 1))) (aB 0)) aC)))) aC))))
  (aJ (fI (oR (fZ (tV (aG (LL.bE 6) (aA (aG jN (aA (aB 1) aC)) (aA (aB 4) aC))))) (fZ (tV (aG (LL.bE 6) (aA (aG LL.kA (aA (aB 1) aC)) (aA (aB 5) aC))))))
   (aS (eC (.bl false)))
   dA)
  (aJ (fI (oR (fZ (tV (aG (LL.bE 6) (aA (aG jN (aA (aB 4) aC)) (aA (aB 1) aC))))) (fZ (tV (aG (LL.bE 6) (aA (aG LL.kA (aA (aB 5) aC)) (aA (aB 1) aC))))))
   (aS (eC (.bl false)))
   dA)
  (aS (iM (aG (LL.bE 6) (aA (aG jN (aA (aB 5) aC)) (aA (aB 6) aC))) (aG (LL.bE 6) (aA (aG LL.kA (aA (aB 4) aC)) (aA (aB 6) aC)))))))))))))
end S4
end
section
namespace S4
open PySem L3 L4 LL
def pr (p:Int×Int):List Int:=[p.1,p.2]
def OD (x:List (List Int)) (k:Nat):List (Int×Int):=(bG 0 k).flatMap fun b=>(row x b).map fun a=>(a,b)
theorem OE {x:List (List Int)} {p:Int×Int}:p∈OD x x.length↔0<=p.2/\p.2<(x.length:Int)/\p.1∈row x p.2:=by
 unfold OD
 rw [List.mem_flatMap]
 constructor
 ·rintro ⟨b,hb,hp⟩
  obtain ⟨a,ha,rfl⟩:=List.mem_map.mp hp
  have:=dQ.mp hb
  exact ⟨by omega,by omega,ha⟩
 ·rintro ⟨h0,h1,h2⟩
  exact ⟨p.2,dQ.mpr (by omega),List.mem_map.mpr ⟨p.1,h2,rfl⟩⟩
theorem iA {x:List (List Int)} {b:Int} (h0:0<=b) (h1:b<(x.length:Int)):x[b.toNat]? = some (row x b):=by
 have:b.toNat<x.length:=by omega
 unfold row
 rw [List.getElem?_eq_getElem this]
 rfl
def un (t:List Int):Int×Int:=(t.getD 0 0,t.getD 1 0)
def srt (l:List (Int×Int)):List (Int×Int):=(IG (l.map pr)).map un
theorem OG (l:List (Int×Int)):(srt l).Perm l:=by
 have:=(u9 (l.map pr)).map un
 rw [List.map_map] at this
 have e:(un∘pr)=id:=funext fun p=>rfl
 rw [e,List.map_id] at this
 exact this
end S4
end
section
namespace S5
open PySem L3 L4
def zH:fG:=bQ 4 1
  (aJ (iN 1 (eZ aC))
  (aJ (dP (mE (aA (aB 0) aC)) (KL 2 3)
   (sX (mB 1 KI (aV (bZ 1 [2] (cR (aB 3)) (g1 0) dC (fJ (aA (aB 0) (aA (aB 1) aC))))))))
  (aS (bU bW (aA (bU A9 (aA (aB 1) aC)) aC)))))
def KQ:fG:=bQ 4 2
  (aJ (aO 2 (aE cQ (aB 1) (eC (.int 0))))
  (aJ (aO 3 (aE cQ (aB 1) (eC (.int 1))))
  (aS (rP (bU anyM (aA (bZ 1 [2,0] (cR (aE cQ (aB 0) (aB 3))) (g1 0) dC (aE (lC false) (aB 1) (aE cQ (aB 2) (aB 0)))) aC))))))
def DC:fG:=bQ 1 1
  (aS (bU bW (aA (bZ 1 [0] (cR (aG zH (aA (aB 0) aC))) (g1 0) (tV (aG KQ (aA (aB 1) (aA (aB 0) aC)))) (aB 0)) aC)))
def qD:fG:=bQ 3 1
  (aJ (aO 1 (eZ aC))
  (aJ (dP (aP (aA (bU bV (aA (aB 0) aC)) aC)) (j9 2)
   (aO 1 (aE cB (aB 1) (bZ 1 [2] (cR (aE cQ (aB 0) (aB 2))) (g1 0) dC (fJ (aA (aB 0) (aA (aB 1) aC)))))))
  (aS (bU A9 (aA (aB 1) aC)))))
def FW:fG:=bQ 9 2
  (aJ (iN 2 (eZ aC))
  (aJ (dP (aP (aA (aB 0) aC)) (j9 3)
   (aJ (iN 4 (eZ aC))
   (aJ (iN 5 (eZ (aA (aB 3) aC)))
   (aJ (NZ NY (tV (aE uK (bU bV (aA (aB 5) aC)) (eC (.int 0))))
    (aJ (ID 6 (aBP 5))
    (dP (cR (aB 1)) (KL 7 8)
     (fI (lW (tV (aE jW (aB 8) (aB 6))) (tV (aE (lC true) (aB 7) (aB 4))))
      (aJ (sX (mB 4 gQ (aV (aB 7))))
      (sX (mB 5 gQ (aV (aB 7)))))
      dA))))
   (aJ (fI (tV (aE (lC false) (aB 3) (aB 4)))
    (aS (eC .non))
    dA)
   (sX (mB 2 gQ (IC (bU bW (aA (bU fL (aA (aB 4) aC)) aC))))))))))
  (aS (bU bW (aA (aB 2) aC)))))
def OH:fG:=bQ 5 1
  (aJ (iN 1 (eZ aC))
  (aJ (dP (cR (aG qD (aA (aB 0) aC))) (KL 2 3)
   (aJ (aO 4 (bZ 1 [2,0,3] (aP (aA (bU bV (aA (aB 0) aC)) aC)) (g1 0) (lW (tV (aE (lC false) (aB 1) (aE cQ (aB 2) (aB 0)))) (tV (aE (lC false) (aB 0) (aE cQ (aB 2) (aB 3))))) (aB 0)))
   (fI (tV (aE jW (bU bV (aA (aB 4) aC)) (eC (.int 0))))
    (sX (mB 1 gQ (aV (fJ (aA (aB 2) (aA (aB 3) aC))))))
    dA)))
  (aS (aB 1))))
def sG:fG:=bQ 2 1
  (aJ (aO 1 (aG DC (aA (aB 0) aC)))
  (aJ (fI (oR (fZ (tV (aG (LL.bE 6) (aA (aG zH (aA (aB 0) aC)) (aA (bU bW (aA (aG qD (aA (aB 0) aC)) aC)) aC))))) (fZ (tV (aG (LL.bE 6) (aA (aB 1) (aA (bU bW (aA (aG OH (aA (aB 0) aC)) aC)) aC))))))
   (aS (eC (.bl false)))
   dA)
  (aS (aE aBS (aG FW (aA (bU bV (aA (aB 0) aC)) (aA (aB 1) aC))) (aB 0)))))
def qE:fG:=bQ 3 1
  (aJ (aO 1 (aG LL.eO (aA (aB 0) (aA (eC (.int 0)) (aA (eC (.int 9)) (aA (eC (.int 100003)) aC))))))
  (aJ (aO 2 (aG LL.eO (aA (aB 0) (aA (eC (.int 2)) (aA (eC (.int 9)) (aA (eC (.int 300007)) aC))))))
  (aS (iM (aG sG (aA (aB 1) aC)) (iM (aG sG (aA (aB 2) aC)) (aG sG (aA (aB 1) aC)))))))
end S5
end
section
namespace S5
open PySem L3 L4 LL S4
theorem aF9 {i:Nat} {m:List D->D->Option (List D×D)} {x:XF} {ρ ρ1:aR} {d:D} {ds0 ds:List D} {q:List D×D} (h0:lF ρ[i]? = some ds0) (hx:x ρ=some (ρ1,d)) (h1:lF ρ1[i]? = some ds) (hm:m ds d=some q) :
  mB i m x ρ=some (ρ1.set i (.ow (.lst q.1)),q.2):=by
 unfold mB
 rw [h0,Option.bind_some,hx,Option.bind_some,h1,Option.bind_some,hm]
 rfl
section
variable {x:List (List Int)} (hx:Ord.Rows x)
include hx
theorem zJ {a c:Int} (h0:0<=c) (h1:c<(x.length:Int)) (h:a∈row x c):0<=a/\a<(x.length:Int):=hx.rng _ _ (iA h0 h1) a h
theorem T7 {a b c:Int} (h0:0<=c) (h1:c<(x.length:Int)) (hb:b∈row x c) (ha:a∈row x b):a∈row x c:=by
 obtain ⟨b0,b1⟩:=zJ hx h0 h1 hb
 exact hx.tr c.toNat b.toNat _ _ (iA h0 h1) (by rw [show ((b.toNat:Nat):Int)=b by omega]; exact hb) (iA b0 b1) a ha
theorem aB0 {c:Int} (h0:0<=c) (h1:c<(x.length:Int)):c∉row x c:=fun h=>hx.irr c.toNat _ (iA h0 h1) (by rw [show ((c.toNat:Nat):Int)=c by omega]; exact h)
end
def YL (x:List (List Int)) (p:Int×Int):Bool:=!(row x p.2).any fun c=>(row x c).contains p.1
structure Cl (x:List (List Int)) (P:List (Int×Int)) (b:Int) (u f:List Int):Prop where
 nd:u.Nodup
 sub:∀ a∈u,a∈row x b
 fr:∀ a∈f,a=b\/a∈u
 cl:∀ c,(c=b\/c∈u)->c∉f -> ∀ a,(a,c)∈P->a∈u
abbrev T (x:List (List Int)):List (Int×Int):=srt (OD x x.length)
theorem OI {x:List (List Int)} {p:Int×Int}:p∈T x↔0<=p.2/\p.2<(x.length:Int)/\p.1∈row x p.2:=by
 rw [(OG _).mem_iff,OE]
abbrev B (x:List (List Int)):List (Int×Int):=(T x).filter (YL x)
end S5
end
section
namespace LL
open PySem L3 L4
def fS:fG:=bQ 5 3
  (aJ (fI (tV (aE geM (aB 0) (aE uA (eC (.int 10)) (eC (.int 18)))))
   (aS (aE fH (aE t9 (aB 0) (eC (.int 64))) (aB 1)))
   dA)
  (aJ (aO 3 (eC (.int 0)))
  (aJ (dP (aP (aA (eC (.int 20)) aC)) (j9 4)
   (aO 3 (aE cB (aE mulM (aB 3) (eC (.int 1000000007))) (aG LL.eM (aA (aB 0) (aA (aB 4) (aA (aB 2) aC)))))))
  (aS (aE fH (aB 3) (aB 1))))))
def dD:fG:=bQ 4 2
  (aJ (dP (aP (aA (bU bV (aA (aB 0) aC)) aC)) (j9 2)
   (dP (cR (aE cQ (aB 0) (aB 2))) (j9 3)
    (fI (oR (tV (aE uK (aE cQ (aB 1) (aB 3)) (aE cQ (aB 1) (aB 2)))) (lW (tV (aE uK (aB 3) (aB 2))) (tV (aE jW (aE cQ (aB 1) (aB 3)) (aE cQ (aB 1) (aB 2))))))
     (aS (eC (.bl false)))
     dA)))
  (aS (eC (.bl true))))
theorem runN {n np:Nat} {b:SF} {ds:List D} {ρ:aR} (hl:ds.length=np) (h:b (dR n ds)=.nx ρ):bQ n np b ds=.ok .non:=by
 unfold bQ
 rw [if_pos hl,h]
theorem aFa {r:RF} {f:SF} {ρ:aR} {o:Out} (h:r (cC ρ)=none) (h2:f ρ=o):vB r f ρ=o:=by
 unfold vB
 rw [h]
 exact h2
theorem aFb {a:EF} {ρ:bN} {x:D} (ha:a ρ=some x):fJ (aA a aC) ρ=some (.tup [x]):=TV (args1 ha) (by simp)
theorem T8 {i j:Int} {p q:Nat} (hp:p<=4000) (hq:q<=4000) (hi:i.natAbs<2 ^ p) (hj:j.natAbs<2 ^ q):mulM (.int i) (.int j)=some (.int (i*j)):=by
 have lg:∀ m r:Nat,m<2 ^ r->m.log2<r+1:=by
  intro m r hm
  by_cases z:m=0
  ·rw [z]; exact Nat.succ_pos r
  ·exact Nat.lt_succ_of_lt ((Nat.log2_lt z).mpr hm)
 have a:=lg _ _ hi
 have b:=lg _ _ hj
 have e:uY i j=true:=by
  unfold uY
  rw [decide_eq_true (show i.natAbs.log2+j.natAbs.log2<=134217700 by omega),Bool.or_true]
 unfold mulM oN
 exact if_pos e
theorem OJ {i:Int} {j:Int} (ρ:bN) (h:(decide ((0:Int)<=j)&&decide (j.natAbs<=1000000)&&decide (i.natAbs<18446744073709551616))=true):aE uA (eC (.int i)) (eC (.int j)) ρ=some (.int (i ^ j.toNat)) :=
 bL rfl rfl (if_pos h)
theorem OK (c s:Int) {most:Int} (hm:0<most):∃ r,0<=r/\r<most/\fS [.int c,.int most,.int s]=.ok (.int r):=by
 have e18:∀ ρ,aE uA (eC (.int 10)) (eC (.int 18)) ρ=some (.int 1000000000000000000):=fun ρ=>by
  rw [OJ ρ (by decide +kernel)]
  rfl
 unfold fS
 by_cases h:(1000000000000000000:Int)<=c
 ·refine ⟨c / 64 % most,Int.emod_nonneg _ (by omega),Int.emod_lt_of_pos _ hm,gA rfl (vM (FR (rN (bL (x:=.int c) (y:=.int 1000000000000000000) rfl (e18 _) p6) (by rw [decide_eq_true h]; rfl)) (gB (bL (x:=.int (c / 64)) (y:=.int most) (bL (x:=.int c) (y:=.int 64) rfl rfl (mG (by decide) (by decide))) rfl (dI hm)))))⟩
 ·obtain ⟨_,e,x,v4,rfl⟩:Nx (dP (aP (aA (eC (.int 20)) aC)) (j9 4)
   (aO 3 (aE cB (aE mulM (aB 3) (eC (.int 1000000007))) (aG LL.eM (aA (aB 0) (aA (aB 4) (aA (aB 2) aC)))))) [.ro (.int c),.ro (.int most),.ro (.int s),.ro (.int 0),.no])
   (fun ρ=>∃ x v4,ρ=[.ro (.int c),.ro (.int most),.ro (.int s),.ro (.int x),v4]):=by
   refine mJ 20 (fun i ρ=>∃ x v4,ρ=[.ro (.int c),.ro (.int most),.ro (.int s),.ro (.int x),v4]) rfl (by decide) ⟨0,.no,rfl⟩ ?_ fun ρ h=>h
   rintro i _ hi ⟨x,v4,rfl⟩
   obtain ⟨r,_,er⟩:=DB c (i:Int) s (by omega) (by omega)
   exact ⟨_,rfl,_,gR (.int (x*1000000007+r)) (bL (x:=.int (x*1000000007)) (y:=.int r) (bL (x:=.int x) (y:=.int 1000000007) rfl rfl (BE (by decide))) (e8 rfl rfl rfl er) iF) rfl,_,_,rfl⟩
  exact ⟨x % most,Int.emod_nonneg _ (by omega),Int.emod_lt_of_pos _ hm,gA rfl (dG _ (rM (rN (bL (x:=.int c) (y:=.int 1000000000000000000) rfl (e18 _) p6) (by rw [decide_eq_false h]; rfl)) rfl) (dG _ (gR (.int 0) rfl rfl) (dG _ e (gB (bL (x:=.int x) (y:=.int most) rfl rfl (dI hm))))))⟩
def at0 (fl:List Int) (a:Int):Int:=(fl[a.toNat]?).getD 0
theorem YM {fl:List Int} {a:Int} (h0:0<=a) (h1:a<(fl.length:Int)):cQ (tupI fl) (.int a)=some (.int (at0 fl a)):=by
 obtain ⟨x,_,e,e2⟩:=vQ h0 h1
 show CY (fl.map D.int) a=_
 rw [qA,e]
 unfold at0
 rw [e2]
 rfl
theorem OL {fl:List Int} {a:Int} (h0:0<=a) (h1:a<(fl.length:Int)):cQ (aI fl) (.int a)=some (.int (at0 fl a)):=YM h0 h1
def sH (fl:List Int) (p:Int×Int):Bool:=if p.2<p.1 then decide (at0 fl p.1<at0 fl p.2) else decide (at0 fl p.1<=at0 fl p.2)
def rs (x:List (List Int)) (fl:List Int):Bool:=(S5.T x).all (sH fl)
theorem pA {x:List (List Int)} (hx:Ord.Rows x) (hn:x.length<=9) {fl:List Int} (hl:fl.length=x.length):dD [aK x,aI fl]=.ok (.bl (rs x fl)):=by
 unfold dD
 have eq:rs x fl=(bG 0 x.length).all fun b=>(row x b).all fun a=>sH fl (a,b):=by
  rw [Bool.eq_iff_iff]
  simp only [rs,List.all_eq_true,dQ,Prod.forall,S5.OI]
  constructor
  ·intro h b hb a ha
   exact h a b ⟨by omega,by omega,ha⟩
  ·intro h a b hb
   exact h b (by omega) a hb.2.2
 have inner:∀ b:Int,0<=b->b<(x.length:Int) -> ∀ v3:Sv,((row x b).all (fun a=>sH fl (a,b))=true->Nx (dP (cR (aE cQ (aB 0) (aB 2))) (j9 3)
    (fI (oR (tV (aE uK (aE cQ (aB 1) (aB 3)) (aE cQ (aB 1) (aB 2)))) (lW (tV (aE uK (aB 3) (aB 2))) (tV (aE jW (aE cQ (aB 1) (aB 3)) (aE cQ (aB 1) (aB 2))))))
     (aS (eC (.bl false)))
     dA) [.ro (aK x),.ro (aI fl),.ro (.int b),v3]) fun ρ=>∃ v3,ρ=[.ro (aK x),.ro (aI fl),.ro (.int b),v3]) /\
   ((row x b).all (fun a=>sH fl (a,b))=false->(dP (cR (aE cQ (aB 0) (aB 2))) (j9 3)
    (fI (oR (tV (aE uK (aE cQ (aB 1) (aB 3)) (aE cQ (aB 1) (aB 2)))) (lW (tV (aE uK (aB 3) (aB 2))) (tV (aE jW (aE cQ (aB 1) (aB 3)) (aE cQ (aB 1) (aB 2))))))
     (aS (eC (.bl false)))
     dA) [.ro (aK x),.ro (aI fl),.ro (.int b),v3])=.rt (.bl false)):=by
  intro b b0 b1 v3
  have it:∀ v3:Sv,cR (aE cQ (aB 0) (aB 2)) (iT [.ro (aK x),.ro (aI fl),.ro (.int b),v3])=some ((row x b).map D.int):=by
   intro v3
   unfold cR
   rw [bL (x:=aK x) (y:=.int b) rfl rfl (jM b0 b1)]
   rfl
  have L:=sF (g:=j9 3) (b:=fI (oR (tV (aE uK (aE cQ (aB 1) (aB 3)) (aE cQ (aB 1) (aB 2)))) (lW (tV (aE uK (aB 3) (aB 2))) (tV (aE jW (aE cQ (aB 1) (aB 3)) (aE cQ (aB 1) (aB 2))))))
     (aS (eC (.bl false)))
     dA) (z:=.bl false) (fun ρ=>∃ v3,ρ=[.ro (aK x),.ro (aI fl),.ro (.int b),v3]) D.int (fun a=>sH fl (a,b)) (row x b) [.ro (aK x),.ro (aI fl),.ro (.int b),v3] ⟨_,rfl⟩ (by
   rintro a ha _ ⟨w3,rfl⟩
   have ra:=S5.zJ hx b0 b1 ha
   rw [<- hl] at ra
   have rb:b<(fl.length:Int):=by omega
   refine ⟨[.ro (aK x),.ro (aI fl),.ro (.int b),.ro (.int a)],rfl,?_⟩
   have c:oR (tV (aE uK (aE cQ (aB 1) (aB 3)) (aE cQ (aB 1) (aB 2)))) (lW (tV (aE uK (aB 3) (aB 2))) (tV (aE jW (aE cQ (aB 1) (aB 3)) (aE cQ (aB 1) (aB 2))))) (cC [.ro (aK x),.ro (aI fl),.ro (.int b),.ro (.int a)])=some (!sH fl (a,b)):=by
    have ea:∀ v:bN,v=cC [.ro (aK x),.ro (aI fl),.ro (.int b),.ro (.int a)]->aE cQ (aB 1) (aB 3) v=some (.int (at0 fl a)):=by rintro _ rfl; exact bL (x:=aI fl) (y:=.int a) rfl rfl (OL ra.1 ra.2)
    have eb:∀ v:bN,v=cC [.ro (aK x),.ro (aI fl),.ro (.int b),.ro (.int a)]->aE cQ (aB 1) (aB 2) v=some (.int (at0 fl b)):=by rintro _ rfl; exact bL (x:=aI fl) (y:=.int b) rfl rfl (OL b0 rb)
    refine T4 (b:=decide (at0 fl b<at0 fl a)) (rN (bL (ea _ rfl) (eb _ rfl) p5) rfl) (fun h=>?_) (fun h=>?_)
    ·have h:¬ at0 fl b<at0 fl a:=by simpa using h
     refine W5 (b:=decide (b<a)) (rN (bL (x:=.int a) (y:=.int b) rfl rfl p5) rfl) (fun h2=>?_) (fun h2=>?_)
     ·have h2:b<a:=by simpa using h2
      refine rN (bL (ea _ rfl) (eb _ rfl) eK) ?_
      show some _=some _
      unfold sH
      rw [if_pos h2]
      congr 1
      rw [Bool.eq_iff_iff]
      simp
      omega
     ·have h2:¬ b<a:=by simpa using h2
      unfold sH
      rw [if_neg h2]
      simp
      omega
    ·have h:at0 fl b<at0 fl a:=by simpa using h
     unfold sH
     split<;>simp<;>omega
   constructor
   ·intro h
    exact ⟨_,rM (by rw [c,h]; rfl) rfl,_,rfl⟩
   ·intro h
    exact FR (by rw [c,h]; rfl) (gB rfl))
  refine ⟨fun h=>?_,fun h=>C7 _ (it v3) (L.2 h)⟩
  obtain ⟨ρ',e,p⟩:=L.1 h
  exact ⟨ρ',C7 _ (it v3) e,p⟩
 have L:=sF (g:=j9 2) (b:=dP (cR (aE cQ (aB 0) (aB 2))) (j9 3)
    (fI (oR (tV (aE uK (aE cQ (aB 1) (aB 3)) (aE cQ (aB 1) (aB 2)))) (lW (tV (aE uK (aB 3) (aB 2))) (tV (aE jW (aE cQ (aB 1) (aB 3)) (aE cQ (aB 1) (aB 2))))))
     (aS (eC (.bl false)))
     dA)) (z:=.bl false) (fun ρ=>∃ v2 v3,ρ=[.ro (aK x),.ro (aI fl),v2,v3]) D.int (fun b=>(row x b).all fun a=>sH fl (a,b)) (bG 0 x.length) [.ro (aK x),.ro (aI fl),.no,.no] ⟨_,_,rfl⟩ (by
  rintro b hb _ ⟨w2,w3,rfl⟩
  have hb:=dQ.mp hb
  have I:=inner b (by omega) (by omega) w3
  refine ⟨[.ro (aK x),.ro (aI fl),.ro (.int b),w3],rfl,fun h=>?_,I.2⟩
  obtain ⟨ρ',e,v3,rfl⟩:=I.1 h
  exact ⟨_,e,_,_,rfl⟩)
 have it:aP (aA (bU bV (aA (aB 0) aC)) aC) (iT [.ro (aK x),.ro (aI fl),.no,.no])=some ((bG 0 x.length).map D.int):=W3 (fO rfl fE) (by omega)
 refine gA rfl ?_
 rw [eq]
 cases h:(bG 0 x.length).all fun b=>(row x b).all fun a=>sH fl (a,b) with
 | true =>
  obtain ⟨ρ',e,v2,v3,rfl⟩:=L.1 h
  exact dG _ (C7 _ it e) (gB rfl)
 | false=>exact vM (C7 _ it (L.2 h))
def aT:fG:=bQ 3 3
  (fI (oR (fZ (tV (aG LL.fP (aA (aB 1) (aA (aB 0) aC))))) (fZ (tV (aG LL.fP (aA (aB 2) (aA (aB 0) aC))))))
   (p4 (aA (eC (.str "a number that is no thing of the order")) aC) "NoThing")
   dA)
def eS:fG:=bQ 8 3
  (aJ (vB (vA LL.aT (aA (bU bV (aA (aB 0) aC)) (aA (aB 1) (aA (aB 2) aC)))) (sX (aV (aG LL.aT (aA (bU bV (aA (aB 0) aC)) (aA (aB 1) (aA (aB 2) aC)))))))
  (aJ (fI (oR (tV (aE jW (aB 1) (aB 2))) (tV (aE (lC false) (aB 2) (aE cQ (aB 0) (aB 1)))))
   (p4 (aA (eC (.str "a thing would lie under itself")) aC) "Looped")
   dA)
  (aJ (aO 3 (aE cB (aE cQ (aB 0) (aB 1)) (fJ (aA (aB 1) aC))))
  (aJ (iN 4 (eZ aC))
  (aJ (TJ (dP (mE (aA (aB 0) aC)) (KL 5 6)
   (aJ (aO 7 (NU (aE jW (aB 5) (aB 2)) (aE (lC false) (aB 2) (aB 6))))
   (sX (mB 4 gQ (aV (KA (tV (aB 7)) (bU bW (aA (bU fN (aA (aE cB (aB 6) (aB 3)) aC)) aC)) (aB 6))))))))
  (aS (bU bW (aA (aB 4) aC))))))))
theorem OM {ns:List Int} {k a:Int}:a∈putN ns k↔a∈ns\/a=k:=by
 unfold putN
 split
 ·rename_i h
  exact ⟨.inl,fun q=>q.elim id fun z=>z▸h⟩
 ·rw [List.mem_append,List.mem_singleton]
theorem FX {ns:List Int} {k:Int} (h:ns.Nodup):(putN ns k).Nodup:=by
 unfold putN
 split
 ·exact h
 ·rename_i z
  exact List.nodup_append.mpr ⟨h,by simp,fun a ha b hb=>by
   rw [List.mem_singleton] at hb
   intro e
   subst e
   subst hb
   exact z ha⟩
theorem zK:∀ (ks ns:List Int),ns.Nodup->(ks.foldl putN ns).Nodup /\ ∀ a,a∈ks.foldl putN ns↔a∈ns\/a∈ks
 | [],ns,h=>⟨h,fun a=>by simp⟩
 | k::ks,ns,h=>by
  obtain ⟨h1,h2⟩:=zK ks (putN ns k) (FX h)
  refine ⟨h1,fun a=>?_⟩
  rw [List.foldl_cons,h2,OM,List.mem_cons,or_assoc]
theorem ON (ns:List Int):(BA ns).Nodup /\ ∀ a,a∈BA ns↔a∈ns:=by
 obtain ⟨h1,h2⟩:=zK ns [] (by simp)
 exact ⟨h1,fun a=>by unfold BA; rw [h2]; simp⟩
def both (r l:List Int):List Int:=sortI (BA (r++l))
theorem BJ (r l:List Int):(both r l).Pairwise (·<·):=by
 have h1:=iU (BA (r++l))
 have h2:(both r l).Nodup:=(sortI_perm (BA (r++l))).nodup_iff.mpr (ON _).1
 exact (List.Pairwise.and h1 h2).imp fun q=>by omega
theorem DD {r l:List Int} {a:Int}:a∈both r l↔a∈r\/a∈l:=by
 unfold both
 rw [(sortI_perm _).mem_iff,(ON _).2,List.mem_append]
theorem T9 {r l:List Int} (h:r.length+l.length<64):fN [.tup (r.map D.int++l.map D.int)]=some (.lst ((both r l).map D.int)):=by
 unfold fN
 rw [<- List.map_append]
 dsimp only
 rw [eE]
 show (if (r++l).length<64 then _ else _)=_
 rw [if_pos (by rw [List.length_append]; exact h)]
 rfl
theorem rc3 {R:fG} {a b c:EF} {ρ:bN} {x y z:D} {o:Option Str} (ha:a ρ=some x) (hb:b ρ=some y) (hc:c ρ=some z) (h:aBU (R [x,y,z])=o):vA R (aA a (aA b (aA c aC))) ρ=o:=by
 unfold vA aA aC
 rw [ha,hb,hc]
 exact h
def thing (n a:Int):Bool:=decide (0<=a)&&decide (a<n)
theorem zL {n a b:Int} (ha:thing n a=true) (hb:thing n b=true):aT [.int n,.int a,.int b]=.ok .non:=by
 unfold aT
 refine runN (ρ:=[Sv.ro (.int n),Sv.ro (.int a),Sv.ro (.int b)]) rfl (rM ?_ rfl)
 refine T4 (b:=false) (tnE (rN (dU rfl rfl (tQ a n)) rfl) (by rw [show (decide (0<=a)&&decide (a<n))=true from ha]; rfl)) (fun _=>?_) (fun z=>by cases z)
 exact tnE (rN (dU rfl rfl (tQ b n)) rfl) (by rw [show (decide (0<=b)&&decide (b<n))=true from hb]; rfl)
theorem fT {n a:Int}:thing n a=true↔0<=a/\a<n:=by simp [thing]
theorem aB1 {ρ:aR} {x:List (List Int)} {a b:Int} {r:aR} (hr:ρ=Sv.ro (aK x)::Sv.ro (.int a)::Sv.ro (.int b)::r) (ha:thing x.length a=true) (hb:thing x.length b=true) :
  vB (vA LL.aT (aA (bU bV (aA (aB 0) aC)) (aA (aB 1) (aA (aB 2) aC)))) (sX (aV (aG LL.aT (aA (bU bV (aA (aB 0) aC)) (aA (aB 1) (aA (aB 2) aC)))))) ρ=.nx ρ:=by
 subst hr
 refine aFa (rc3 (fO rfl fE) rfl rfl (by rw [zL ha hb]; rfl)) ?_
 unfold sX aV
 rw [e8 (fO rfl fE) rfl rfl (zL ha hb)]
 rfl
def uC (b:Int) (lower:List Int) (p:List Int×Nat):List Int:=if decide ((p.2:Int)=b)||p.1.contains b then both p.1 lower else p.1
def put (x:List (List Int)) (a b:Int):List (List Int):=x.zipIdx.map (uC b (row x a++[a]))
def lU (x:List (List Int)) (a b:Int):Bool:=decide (a=b)||(row x a).contains b
theorem KR {x:List (List Int)} {a b:Int} {r:aR} (ha:thing x.length a=true):(oR (tV (aE jW (aB 1) (aB 2))) (tV (aE (lC false) (aB 2) (aE cQ (aB 0) (aB 1))))) (cC (Sv.ro (aK x)::Sv.ro (.int a)::Sv.ro (.int b)::r))=some (lU x a b):=by
 obtain ⟨h0,h1⟩:=fT.mp ha
 refine T4 (b:=decide (a=b)) (rN (bL (x:=.int a) (y:=.int b) rfl rfl eK) rfl) (fun z=>?_) (fun z=>by unfold lU; rw [z]; rfl)
 unfold lU
 rw [z,Bool.false_or]
 exact rN (bL (x:=.int b) (y:=tupI (row x a)) rfl (bL (x:=aK x) (y:=.int a) rfl rfl (jM h0 h1)) FV) rfl
theorem OO {x:List (List Int)} {a b:Int} (hn:x.length<=1000) (hr:∀ r∈x,r.length<=9) (ha:thing x.length a=true) (hb:thing x.length b=true) (h:lU x a b=false):eS [aK x,.int a,.int b]=.ok (aK (put x a b)):=by
 obtain ⟨h0,h1⟩:=fT.mp ha
 have hw:(row x a).length<=9:=by
  unfold row
  rw [List.getElem?_eq_getElem (by omega)]
  exact hr _ (List.getElem_mem _)
 unfold eS
 refine gA rfl (dG _ (aB1 rfl ha hb) (dG _ (rM ((KR ha).trans (congrArg some h)) rfl) (dG _ (gR (tupI (row x a++[a])) (bL (x:=tupI (row x a)) (y:=.tup [.int a]) (bL (x:=aK x) (y:=.int a) rfl rfl (jM h0 h1)) (aFb rfl) ?_) rfl) (dG [Sv.ro (aK x),Sv.ro (.int a),Sv.ro (.int b),Sv.ro (tupI (row x a++[a])),Sv.ow (.lst []),Sv.no,Sv.no,Sv.no] rfl ?_))))
 ·unfold tupI
  rw [vO (by simp; omega),List.map_append]
  rfl
 ·have L:Nx (dP (mE (aA (aB 0) aC)) (KL 5 6)
    (aJ (aO 7 (NU (aE jW (aB 5) (aB 2)) (aE (lC false) (aB 2) (aB 6))))
    (sX (mB 4 gQ (aV (KA (tV (aB 7)) (bU bW (aA (bU fN (aA (aE cB (aB 6) (aB 3)) aC)) aC)) (aB 6)))))) [Sv.ro (aK x),Sv.ro (.int a),Sv.ro (.int b),Sv.ro (tupI (row x a++[a])),Sv.ow (.lst []),Sv.no,Sv.no,Sv.no])
    fun ρ=>∃ v5 v6 v7,ρ=[Sv.ro (aK x),Sv.ro (.int a),Sv.ro (.int b),Sv.ro (tupI (row x a++[a])),Sv.ow (.lst ((put x a b).map tupI)),v5,v6,v7]:=by
   refine FU ((x.map tupI).zipIdx.map fun p=>D.tup [.int (p.2:Int),p.1]) (fun i ρ=>∃ v5 v6 v7,ρ=[Sv.ro (aK x),Sv.ro (.int a),Sv.ro (.int b),Sv.ro (tupI (row x a++[a])),Sv.ow (.lst (((put x a b).take i).map tupI)),v5,v6,v7]) rfl ⟨_,_,_,rfl⟩ ?_ ?_
   ·rintro i d _ hd ⟨v5,v6,v7,rfl⟩
    rw [zipIdx_map,List.map_map,List.getElem?_map] at hd
    obtain ⟨⟨r,j⟩,hz,rfl⟩:=Option.map_eq_some_iff.mp hd
    have hj:j=i/\x[i]? = some r:=by
     rw [List.getElem?_zipIdx] at hz
     obtain ⟨r',e1,e2⟩:=Option.map_eq_some_iff.mp hz
     cases e2
     exact ⟨by omega,e1⟩
    obtain ⟨rfl,hx⟩:=hj
    have rl:r.length<=9:=hr r (List.mem_of_getElem? hx)
    refine ⟨[Sv.ro (aK x),Sv.ro (.int a),Sv.ro (.int b),Sv.ro (tupI (row x a++[a])),Sv.ow (.lst (((put x a b).take j).map tupI)),Sv.ro (.int j),Sv.ro (tupI r),v7],rfl,?_⟩
    have hpj:(put x a b)[j]? = some (uC b (row x a++[a]) (r,j)):=by
     unfold put
     rw [List.getElem?_map,hz]
     rfl
    have tk:(put x a b).take (j+1)=(put x a b).take j++[uC b (row x a++[a]) (r,j)]:=by
     rw [List.take_add_one,hpj]
     rfl
    have e7:(NU (aE jW (aB 5) (aB 2)) (aE (lC false) (aB 2) (aB 6))) (iT [Sv.ro (aK x),Sv.ro (.int a),Sv.ro (.int b),Sv.ro (tupI (row x a++[a])),Sv.ow (.lst (((put x a b).take j).map tupI)),Sv.ro (.int j),Sv.ro (tupI r),v7])=some (.bl (decide ((j:Int)=b)||r.contains b)):=by
     unfold NU
     rw [bL (x:=.int j) (y:=.int b) rfl rfl eK,bL (x:=.int b) (y:=tupI r) rfl rfl FV]
     simp only [Option.bind_some,kG]
     cases decide ((j:Int)=b)<;>rfl
    refine ⟨_,dG _ (gR _ e7 rfl) ?_,Sv.ro (.int j),Sv.ro (tupI r),Sv.ro (.bl (decide ((j:Int)=b)||r.contains b)),rfl⟩
    rw [tk]
    unfold sX
    have ev:(aV (KA (tV (aB 7)) (bU bW (aA (bU fN (aA (aE cB (aB 6) (aB 3)) aC)) aC)) (aB 6))) [Sv.ro (aK x),Sv.ro (.int a),Sv.ro (.int b),Sv.ro (tupI (row x a++[a])),Sv.ow (.lst (((put x a b).take j).map tupI)),Sv.ro (.int j),Sv.ro (tupI r),Sv.ro (.bl (decide ((j:Int)=b)||r.contains b))]
      = some ([Sv.ro (aK x),Sv.ro (.int a),Sv.ro (.int b),Sv.ro (tupI (row x a++[a])),Sv.ow (.lst (((put x a b).take j).map tupI)),Sv.ro (.int j),Sv.ro (tupI r),Sv.ro (.bl (decide ((j:Int)=b)||r.contains b))],tupI (uC b (row x a++[a]) (r,j))):=by
     unfold aV KA
     rw [rN (b:=decide ((j:Int)=b)||r.contains b) rfl rfl]
     unfold uC
     cases decide ((j:Int)=b)||r.contains b with
     | false=>rfl
     | true =>
      simp only [Option.bind_some,if_true]
      rw [fO (x:=.lst ((both r (row x a++[a])).map D.int)) (fO (x:=.tup (r.map D.int++(row x a++[a]).map D.int)) (bL (x:=tupI r) (y:=tupI (row x a++[a])) rfl rfl (vO (by simp; omega))) (T9 (by simp; omega))) rfl]
      rfl
    have pl:((put x a b).take j).length<1000+1:=by
     rw [List.length_take]
     have:(put x a b).length=x.length:=by simp [put]
     omega
    have ex:=S5.aF9 (i:=4) (m:=gQ) rfl ev rfl (p8 (d:=tupI (uC b (row x a++[a]) (r,j))) (ds:=((put x a b).take j).map tupI) (by rw [List.length_map]; omega))
    refine (congrArg (fun o:Option (aR×D)=>match o with | some p=>Out.nx p.1 | none=>Out.no) ex).trans ?_
    rw [List.map_append]
    rfl
   ·rintro ρ' ⟨v5,v6,v7,rfl⟩
    refine ⟨v5,v6,v7,?_⟩
    rw [List.take_of_length_le (by simp [put])]
  obtain ⟨ρ',e,v5,v6,v7,rfl⟩:=L
  refine dG _ (by unfold TJ; rw [e]) (gB ?_)
  exact fO rfl rfl
end LL
end
section
namespace LL
open PySem L3 L4 S5 S4
theorem UA {y:List (List Int)} (up:∀ d:Int,0<=d->d<(y.length:Int)->(row y d).Pairwise (·<·)) (rng:∀ c d:Int,0<=d->d<(y.length:Int)->c∈row y d->0<=c/\c<(y.length:Int))
  (tr:∀ c v d:Int,0<=d->d<(y.length:Int)->v∈row y d->c∈row y v->c∈row y d) (irr:∀ d:Int,0<=d->d<(y.length:Int)->d∉row y d):Ord.Rows y:=by
 have vX:∀ (b:Nat) (r:List Int),y[b]? = some r->row y (b:Int)=r/\(b:Int)<(y.length:Int):=fun b r h=>by
  unfold row
  rw [Int.toNat_natCast,h]
  have:=(List.getElem?_eq_some_iff.1 h).1
  exact ⟨rfl,by omega⟩
 refine ⟨fun b r h=>?_,fun b r h a ha=>?_,fun b a r v h ha hv c hc=>?_,fun b r h=>?_⟩
 ·obtain ⟨e,l⟩:=vX b r h
  rw [<- e]
  exact up b (by omega) l
 ·obtain ⟨e,l⟩:=vX b r h
  rw [<- e] at ha
  exact rng a b (by omega) l ha
 ·obtain ⟨e,l⟩:=vX b r h
  obtain ⟨e2,l2⟩:=vX a v hv
  rw [<- e] at ha ⊢
  rw [<- e2] at hc
  exact tr c a b (by omega) l ha hc
 ·obtain ⟨e,l⟩:=vX b r h
  rw [<- e]
  exact irr b (by omega) l
theorem dN (x:List (List Int)) (a b:Int):(put x a b).length=x.length:=by simp [put]
theorem BK {x:List (List Int)} {a b d:Int} (h0:0<=d) (h1:d<(x.length:Int)):row (put x a b) d=uC b (row x a++[a]) (row x d,d.toNat):=by
 have hk:d.toNat<x.length:=by omega
 unfold row put
 rw [List.getElem?_map,List.getElem?_zipIdx,List.getElem?_eq_getElem hk]
 simp [row]
theorem gF {x:List (List Int)} {a b c d:Int} (h0:0<=d) (h1:d<(x.length:Int)):c∈row (put x a b) d↔c∈row x d\/((d=b\/b∈row x d)/\(c=a\/c∈row x a)):=by
 rw [BK h0 h1]
 unfold uC
 have e:((d.toNat:Nat):Int)=d:=by omega
 rw [e]
 by_cases h:(decide (d=b)||(row x d).contains b)=true
 ·rw [if_pos h,DD,List.mem_append,List.mem_singleton]
  have h':d=b\/b∈row x d:=by simpa using h
  constructor
  ·rintro (z | z | z)
   ·exact .inl z
   ·exact .inr ⟨h',.inr z⟩
   ·exact .inr ⟨h',.inl z⟩
  ·rintro (z | ⟨_,z | z⟩)
   ·exact .inl z
   ·exact .inr (.inr z)
   ·exact .inr (.inl z)
 ·rw [if_neg h]
  have h':¬ (d=b\/b∈row x d):=by simpa using h
  exact ⟨.inl,fun z=>z.elim id fun q=>absurd q.1 h'⟩
theorem OP {x:List (List Int)} {a b:Int} (h:lU x a b=false):a≠b/\b∉row x a:=by
 unfold lU at h
 simpa using h
theorem DF {x:List (List Int)} (hx:Ord.Rows x) {a b:Int} (ha:thing x.length a=true) (hb:thing x.length b=true) (h:lU x a b=false):Ord.Rows (put x a b):=by
 obtain ⟨a0,a1⟩:=fT.mp ha
 obtain ⟨b0,b1⟩:=fT.mp hb
 obtain ⟨nab,nba⟩:=OP h
 refine UA (fun d d0 d1=>?_) (fun c d d0 d1 hc=>?_) (fun c v d d0 d1 hv hc=>?_) fun d d0 d1 hd=>?_
 ·rw [dN] at d1
  rw [BK d0 d1]
  unfold uC
  split
  ·exact BJ _ _
  ·exact hx.up _ _ (iA d0 d1)
 ·rw [dN] at d1 ⊢
  rcases (gF d0 d1).1 hc with z | ⟨_,z | z⟩
  ·exact zJ hx d0 d1 z
  ·omega
  ·exact zJ hx a0 a1 z
 ·rw [dN] at d1
  have hv':=(gF d0 d1).1 hv
  have vr:0<=v/\v<(x.length:Int):=by
   rcases hv' with z | ⟨_,z | z⟩
   ·exact zJ hx d0 d1 z
   ·omega
   ·exact zJ hx a0 a1 z
  refine (gF d0 d1).2 ?_
  rcases (gF vr.1 vr.2).1 hc with z | ⟨u,l⟩
  ·rcases hv' with y | ⟨u,l⟩
   ·exact .inl (T7 hx d0 d1 y z)
   ·refine .inr ⟨u,.inr ?_⟩
    rcases l with e | l
    ·rw [e] at z
     exact z
    ·exact T7 hx a0 a1 l z
  ·refine .inr ⟨?_,l⟩
   rcases hv' with y | ⟨u2,_⟩
   ·rcases u with e | u
    ·rw [e] at y
     exact .inr y
    ·exact .inr (T7 hx d0 d1 y u)
   ·exact u2
 ·rw [dN] at d1
  rcases (gF d0 d1).1 hd with z | ⟨u,l⟩
  ·exact aB0 hx d0 d1 z
  ·rcases u with e | u
   ·rcases l with e2 | l
    ·exact nab (e2.symm.trans e)
    ·rw [e] at l
     exact nba l
   ·rcases l with e2 | l
    ·rw [e2] at u
     exact nba u
    ·exact nba (T7 hx a0 a1 l u)
end LL
end
section
namespace LL
open PySem L3 L4
def fB:fG:=bQ 2 2
  (aS (bU bW (aA (bU mF (aA (aE cB (aB 0) (fJ (aA (aB 1) aC))) aC)) aC)))
def dW:fG:=bQ 3 2
  (aJ (aO 2 (bZ 1 [1] (aP (aA (bU bV (aA (aB 0) aC)) aC)) (g1 0) (tV (aE (lC true) (aB 0) (aB 1))) (aB 0)))
  (aS (bZ 1 [1,0] (cR (aB 2)) (g1 0) (tV (bU allM (aA (bZ 1 [1] (cR (aE cQ (aB 2) (aB 0))) (g1 0) dC (aE (lC false) (aB 0) (aB 1))) aC))) (aB 0))))
def bM (x:List (List Int)) (a:List Int):List Int:=((bG 0 x.length).filter fun t=>!a.contains t).filter fun t=>(row x t).all fun l=>a.contains l
def bO (a:List Int) (t:Int):List Int:=sortI (a++[t])
def rdI (x:List (List Int)) (a:List Int):List (List Int):=(bM x a).map (bO a)
def YN (x:List (List Int)) (a:List Int):Prop:=a.Nodup /\ ∀ t∈a,0<=t/\t<(x.length:Int)
theorem BL {ns:List Int} (h:ns.length<64):mF [.tup (ns.map D.int)]=some (.lst ((sortI ns).map D.int)):=by simp [mF,eE,h]
theorem KS {a:List Int} {t:Int} (h:a.length<=9):fB [tupI a,.int t]=.ok (tupI (bO a t)):=by
 unfold fB
 refine gA rfl (gB (fO (x:=aI (bO a t)) (fO (x:=tupI (a++[t])) (bL (x:=tupI a) (y:=tupI [t]) rfl rfl ?_) ?_) rfl))
 ·unfold tupI
  rw [vO (by simp; omega),List.map_append]
 ·have:=BL (ns:=a++[t]) (by simp; omega)
  exact this
theorem DG {x:List (List Int)} {a:List Int} (hx:x.length<=9) (hr:∀ r∈x,r.length<=9):dW [aK x,tupI a]=.ok (aI (bM x a)):=by
 unfold dW bM
 have e1:bZ 1 [1] (aP (aA (bU bV (aA (aB 0) aC)) aC)) (g1 0) (tV (aE (lC true) (aB 0) (aB 1))) (aB 0) (iT (dR 3 [aK x,tupI a]))=some (aI ((bG 0 x.length).filter fun t=>!a.contains t)):=by
  refine mI ((bG 0 x.length).map D.int) (W3 (fO rfl fE) (by omega)) (by rw [List.length_map,aU]; omega) ?_
  exact iG D.int _ D.int (bG 0 x.length) fun t _=>⟨[some (.int t),some (tupI a)],rfl,rN (bL (x:=.int t) (y:=tupI a) rfl rfl BI) rfl,fun _=>rfl⟩
 generalize hL:((bG 0 x.length).filter fun t=>!a.contains t)=L at e1
 have Lr:∀ t∈L,0<=t/\t<(x.length:Int):=fun t ht=>by
  rw [<- hL] at ht
  have:=dQ.mp (List.mem_filter.mp ht).1
  omega
 have Ll:L.length<=9:=by
  rw [<- hL]
  have:=List.length_filter_le (fun t=>!a.contains t) (bG 0 x.length)
  rw [aU] at this
  omega
 refine gA rfl (dG _ (gR (aI L) e1 rfl) (gB ?_))
 refine mI (L.map D.int) rfl (by rw [List.length_map]; omega) ?_
 refine iG D.int _ D.int L fun t ht=>⟨[some (.int t),some (tupI a),some (aK x)],rfl,?_,fun _=>rfl⟩
 obtain ⟨t0,t1⟩:=Lr t ht
 have rl:(row x t).length<=9:=by
  unfold row
  rw [List.getElem?_eq_getElem (by omega)]
  exact hr _ (List.getElem_mem _)
 refine rN (d:=.bl ((row x t).all fun l=>a.contains l)) (fO (x:=.lst (((row x t).map fun l=>a.contains l).map D.bl)) ?_ ?_) rfl
 ·refine Eq.trans (mI ((row x t).map D.int) ?_ (by rw [List.length_map]; omega) (nQ D.int (fun l=>.bl (a.contains l)) (row x t) fun l _=>⟨[some (.int l),some (tupI a)],rfl,bL (x:=.int l) (y:=tupI a) rfl rfl FV⟩)) (by rw [List.map_map]; rfl)
  unfold cR
  rw [bL (x:=aK x) (y:=.int t) (z:=some (tupI (row x t))) rfl rfl (jM t0 t1)]
  rfl
 ·rw [II,List.all_map]
  rfl
theorem i9 {x:List (List Int)} {a:List Int} {t:Int} (h:t∈bM x a):(0<=t/\t<(x.length:Int))/\t∉a:=by
 unfold bM at h
 have h1:=(List.mem_filter.mp h).1
 have h2:=List.mem_filter.mp h1
 have:=dQ.mp h2.1
 exact ⟨by omega,by simpa using h2.2⟩
theorem OQ (n:Nat):(bG 0 n).Nodup:=by
 refine List.pairwise_iff_getElem.mpr fun i j hi hj hij=>?_
 have e1:=kH (lo:=0) (n:=n) (i:=i) (by simpa [aU] using hi)
 have e2:=kH (lo:=0) (n:=n) (i:=j) (by simpa [aU] using hj)
 rw [List.getElem?_eq_getElem hi] at e1
 rw [List.getElem?_eq_getElem hj] at e2
 have e1:=Option.some.inj e1
 have e2:=Option.some.inj e2
 omega
theorem nV {x:List (List Int)} {a:List Int} (h:YN x a):(bM x a).length+a.length<=x.length:=by
 have nd:(bM x a++a).Nodup:=by
  refine List.nodup_append.mpr ⟨?_,h.1,fun u hu v hv e=>(i9 hu).2 (e▸hv)⟩
  unfold bM
  exact List.Pairwise.filter _ (List.Pairwise.filter _ (OQ x.length))
 have:=Ord.jL _ (bG 0 x.length) nd fun t ht=>dQ.mpr (by
  rcases List.mem_append.1 ht with z | z
  ·have:=(i9 z).1; omega
  ·have:=h.2 t z; omega)
 rwa [List.length_append,aU] at this
theorem W6 {x:List (List Int)} {a:List Int} (h:YN x a):(∀ b∈rdI x a,YN x b/\b.length=a.length+1)/\(rdI x a).length+a.length<=x.length:=by
 refine ⟨fun b hb=>?_,by unfold rdI; rw [List.length_map]; exact nV h⟩
 unfold rdI at hb
 obtain ⟨t,ht,rfl⟩:=List.mem_map.mp hb
 obtain ⟨hr,hn⟩:=i9 ht
 have p:=sortI_perm (a++[t])
 refine ⟨⟨?_,fun u hu=>?_⟩,?_⟩
 ·unfold bO
  refine p.nodup_iff.mpr (List.nodup_append.mpr ⟨h.1,by simp,fun u hu v hv e=>?_⟩)
  rw [List.mem_singleton] at hv
  subst hv
  subst e
  exact hn hu
 ·unfold bO at hu
  rcases List.mem_append.1 (p.mem_iff.mp hu) with z | z
  ·exact h.2 u z
  ·rw [List.mem_singleton] at z
   subst z
   exact hr
 ·unfold bO
  rw [p.length_eq]
  simp
theorem UB {x:List (List Int)} {a:List Int} (h:YN x a):a.length<=x.length:=by
 have:=nV h
 omega
theorem UC {x:List (List Int)}:YN x []:=⟨List.nodup_nil,fun t ht=>by cases ht⟩
end LL
end
section
namespace L7
open PySem L3 L4 LL
section
variable (rd:List Int->List (List Int))
def Wf:Nat->List Int->Int
 | 0,_=>1
 | m+1,a=>((rd a).map (Wf m)).sum
end
end L7
end
section
namespace K24
def fact:Nat->Int
 | 0=>1
 | k+1=>fact k*(k+1)
def ff (x:Int):Nat->Int
 | 0=>1
 | k+1=>ff x k*(x - k)
theorem vY:∀ k,0<fact k
 | 0=>by decide
 | k+1=>Int.mul_pos (vY k) (by omega)
theorem IL (x:Int):∀ k,ff (x+1) (k+1)=(x+1)*ff x k
 | 0=>by simp [ff]
 | k+1=>by
  rw [show ff (x+1) (k+1+1)=ff (x+1) (k+1)*(x+1 - ((k+1:Nat):Int)) from rfl,IL x k,show ff x (k+1)=ff x k*(x - k) from rfl,Int.mul_assoc]
  congr 2
  omega
theorem IM (x:Int) (k:Nat):ff (x+1) (k+1)=ff x (k+1)+(k+1)*ff x k:=by
 rw [IL,show ff x (k+1)=ff x k*(x - k) from rfl,Int.mul_comm (ff x k),<- Int.add_mul]
 congr 1
 omega
theorem IP:∀ k,ff 0 (k+1)=0
 | 0=>by simp [ff]
 | k+1=>by rw [show ff 0 (k+1+1)=ff 0 (k+1)*_ from rfl,IP k,Int.zero_mul]
theorem OR:∀ (k:Nat) (x:Int),fact k ∣ ff x k
 | 0,x=>by simp [fact,ff]
 | k+1,x=>by
  have st:∀ y:Int,fact (k+1) ∣ (k+1)*ff y k:=fun y=>by
   obtain ⟨c,e⟩:=OR k y
   exact ⟨c,by rw [e,show fact (k+1)=fact k*(k+1) from rfl,<- Int.mul_assoc,Int.mul_comm (k+1:Int)]⟩
  have up:∀ y:Int,fact (k+1) ∣ ff y (k+1)->fact (k+1) ∣ ff (y+1) (k+1):=fun y h=>by rw [IM]; exact Int.dvd_add h (st y)
  have dn:∀ y:Int,fact (k+1) ∣ ff (y+1) (k+1)->fact (k+1) ∣ ff y (k+1):=fun y h=>by rw [IM] at h; exact (Int.dvd_add_left (st y)).mp h
  have h0:fact (k+1) ∣ ff 0 (k+1):=by rw [IP]; exact Int.dvd_zero _
  have pos:∀ n:Nat,fact (k+1) ∣ ff (n:Int) (k+1):=fun n=>by
   induction n with
   | zero=>exact h0
   | succ n ih=>exact up _ ih
  have neg:∀ n:Nat,fact (k+1) ∣ ff (-(n:Int)) (k+1):=fun n=>by
   induction n with
   | zero=>exact h0
   | succ n ih=>exact dn _ (by rw [show -((n+1:Nat):Int)+1=-(n:Int) by omega]; exact ih)
  rcases Int.le_total 0 x with hx | hx
  ·have:=pos x.toNat; rwa [show ((x.toNat:Nat):Int)=x by omega] at this
  ·have:=neg (-x).toNat; rwa [show -(((-x).toNat:Nat):Int)=x by omega] at this
--CUT
def C (x:Int) (m:Nat):Int:=ff x m / fact m
theorem OS (x:Int) (m:Nat):C x m*fact m=ff x m:=Int.ediv_mul_cancel (OR m x)
def diffs:List Int->List Int
 | a::b::l=>(b - a)::diffs (b::l)
 | _=>[]
theorem qF:∀ l:List Int,(diffs l).length=l.length - 1
 | []=>rfl
 | [_]=>rfl
 | a::b::l=>by rw [diffs,List.length_cons,qF (b::l)]; simp
def fd (l:List Int):List Int:=match l with
 | []=>[]
 | a::r=>a::fd (diffs (a::r))
termination_by l.length
decreasing_by rw [qF]; simp
def vals (f:Int->Int):Nat->Int->List Int
 | 0,_=>[]
 | n+1,x=>f x::vals f n (x+1)
def DV (n:Nat) (d:Int):List Int->Int->Int
 | [],_=>0
 | w::l,k=>w*C (k+n - 1 - d) n+DV n (d+1) l k
def Bg (b:Nat) (x:Int):Prop:=x.natAbs<2 ^ b
theorem Bg.mono {a b:Nat} {x:Int} (h:Bg a x) (hab:a<=b):Bg b x:=Nat.lt_of_lt_of_le h (Nat.pow_le_pow_right (by omega) hab)
theorem Bg.mul {a b:Nat} {x y:Int} (h:Bg a x) (g:Bg b y):Bg (a+b) (x*y):=by
 unfold Bg at *
 rw [Nat.pow_add,Int.natAbs_mul]
 exact Nat.mul_lt_mul_of_lt_of_lt h g
theorem Bg.sub {a:Nat} {x y:Int} (h:Bg a x) (g:Bg a y):Bg (a+1) (x - y):=by
 unfold Bg at *
 rw [Nat.pow_succ]
 generalize 2 ^ a=z at *
 omega
end K24
end
section
namespace LL
open PySem L3 L4
noncomputable def iW:fG:=bQ 2 2
  (aS (bZ 2 [] (C6 (aA (aB 0) (aA (aB 1) aC))) (g2 0 1) dC (aE cB (aB 0) (aB 1))))
noncomputable def bJ:fG:=bQ 1 1
  (aS (aE cB (eZ (aA (eC (.int 0)) aC)) (eSl (aB 0) oNo (oE (A7 (eC (.int 1)))))))
noncomputable def aZ:Nat->TL
 | 0=>fun _ _=>.no
 | n+1=>runM 8 4
  ((aJ (aO 4 (fJ (aA (aB 1) (aA (aB 2) aC))))
  (fI (tV (aE (KO true) (aB 4) (aB 3)))
   (aJ (iN 5 (aE repLM (eZ (aA (eC (.int 0)) aC)) (bU u4 (aA (bU bV (aA (aB 0) aC)) (aA (eC (.int 1)) aC)))))
   (aJ (fI (tV (aE jW (bU bV (aA (aB 1) aC)) (bU bV (aA (aB 0) aC))))
    (KJ 5 (aV (eC (.int 1))) (eC (.int 0)))
    dA)
   (aJ (YH 5 (dP (cR (aG LL.dW (aA (aB 0) (aA (aB 1) aC)))) (j9 6)
    (aJ (rR 7 (aZ n) (aA (aB 0) (aA (aG LL.fB (aA (aB 1) (aA (aB 6) aC))) (aA (aB 6) aC))) 3)
    (aO 5 (aG LL.iW (aA (aB 5) (aA (KA (tV (aE uK (aB 2) (aB 6))) (aG LL.bJ (aA (aB 7) aC)) (aB 7)) aC)))))))
   (zA 3 (aV (aB 5)) (aB 4)))))
   dA)))
  (aB 4)
noncomputable def fU:fG:=bQ 2 1
  (aJ (WZ 1)
  (aJ (TR (LL.aZ 11) (aA (aB 0) (aA (fJ aC) (aA (eC (.int 0)) aC))) 1)
  (aS (aB 1))))
noncomputable def bC:fG:=bQ 1 1
  (aS (bU bW (aA (aE aBV (aG LL.fU (aA (aB 0) aC)) (fJ (aA (fJ aC) (aA (eC (.int 0)) aC)))) aC)))
noncomputable def kJ:fG:=bQ 4 2
  (aJ (aO 2 (eC (.int 1)))
  (aJ (dP (aP (aA (aB 1) aC)) (j9 3)
   (aO 2 (aE t9 (aE mulM (aB 2) (aE fM (aB 0) (aB 3))) (aE cB (aB 3) (eC (.int 1))))))
  (aS (aB 2))))
noncomputable def cD:fG:=bQ 3 3
  (aS (bU A8 (aA (bZ 2 [1,2] (mE (aA (aB 0) aC)) (g2 0 1) dC (aE mulM (aB 1) (aG LL.kJ (aA (aE fM (aE fM (aE cB (aB 3) (aB 2)) (eC (.int 1))) (aB 0)) (aA (aB 2) aC))))) aC)))
noncomputable def dO:fG:=bQ 2 2
  (aS (aG LL.cD (aA (aG LL.bC (aA (aB 0) aC)) (aA (bU bV (aA (aB 0) aC)) (aA (aB 1) aC)))))
noncomputable def yK:fG:=bQ 2 2
  (aS (bZ 2 [1] (C6 (aA (aE cB (aB 0) (eZ (aA (eC (.int 0)) aC))) (aA (aE cB (eZ (aA (eC (.int 0)) aC)) (aB 0)) aC))) (g2 0 1) dC (aE cB (aE mulM (aB 2) (aB 0)) (aB 1))))
noncomputable def pB:fG:=bQ 5 3
  (aJ (aO 3 (eZ (aA (aB 0) aC)))
  (aJ (dP (aP (aA (aB 2) aC)) (j9 4)
   (aO 3 (aG LL.yK (aA (aB 3) (aA (aE fM (aB 1) (aB 4)) aC)))))
  (aS (aB 3))))
noncomputable def BM:fG:=bQ 5 1
  (aJ (aO 1 (bU bV (aA (aB 0) aC)))
  (aJ (aO 2 (aE repLM (eZ (aA (eC (.int 0)) aC)) (aE cB (aB 1) (eC (.int 1)))))
  (aJ (dP (mE (aA (aG LL.bC (aA (aB 0) aC)) aC)) (KL 3 4)
   (aO 2 (aG LL.iW (aA (aB 2) (aA (aG LL.pB (aA (aB 4) (aA (aE fM (aE fM (aB 1) (eC (.int 1))) (aB 3)) (aA (aB 1) aC)))) aC)))))
  (aS (bU bW (aA (aB 2) aC))))))
noncomputable def oC:fG:=bQ 3 1
  (aJ (iN 1 (eZ aC))
  (aJ (aO 2 (aB 0))
  (aJ (NZ NY (tV (aB 2))
   (aJ (sX (mB 1 gQ (aV (aE cQ (aB 2) (eC (.int 0))))))
   (aO 2 (bZ 2 [] (C6 (aA (aB 2) (aA (eSl (aB 2) (oE (eC (.int 1))) oNo) aC))) (g2 0 1) dC (aE fM (aB 1) (aB 0))))))
  (aS (bU bW (aA (aB 1) aC))))))
noncomputable def qG:fG:=bQ 3 1
  (aJ (aO 1 (bU bV (aA (aB 0) aC)))
  (aJ (aO 2 (aG LL.bC (aA (aB 0) aC)))
  (aS (aG LL.oC (aA (bZ 1 [2,1] (aP (aA (aE cB (aB 1) (eC (.int 1))) aC)) (g1 0) dC (aG LL.cD (aA (aB 1) (aA (aB 2) (aA (aB 0) aC))))) aC)))))
noncomputable def pC:fG:=bQ 5 2
  (aJ (aO 2 (eC (.int 1)))
  (aJ (aO 3 (eC (.int 1)))
  (aJ (dP (aP (aA (aB 1) aC)) (j9 4)
   (aJ (aO 2 (aE mulM (aB 2) (aE fM (aB 0) (aB 4))))
   (aO 3 (aE mulM (aB 3) (aE cB (aB 4) (eC (.int 1)))))))
  (aS (aE t9 (aB 2) (aB 3))))))
noncomputable def sI:fG:=bQ 2 2
  (aJ (fI (oR (fZ (tV (jJ "tuple" (aB 0)))) (tV (aE KC (bU bV (aA (aB 0) aC)) (aB 1))))
   (aS (eC (.bl false)))
   dA)
  (aS (bU allM (aA (bZ 1 [] (cR (aB 0)) (g1 0) dC (iM (jJ "int" (aB 0)) (rP (jJ "bool" (aB 0))))) aC))))
noncomputable def KU:fG:=bQ 5 3
  (aJ (aO 3 (aG LL.cM (aA (aG LL.cL (aA (aB 0) (aA (aB 1) aC))) (aA (eC (.int 3)) (aA (aB 2) aC)))))
  (aJ (fI (tV (aE jW (aE fH (aE cQ (aB 3) (eC (.int 0))) (eC (.int 3))) (eC (.int 0))))
   (aS (aE fM (aE fH (aE cQ (aB 3) (eC (.int 1))) (eC (.int 25))) (eC (.int 12))))
   dA)
  (aJ (aO 4 (aG LL.fS (aA (aG LL.cL (aA (aB 0) (aA (aE cB (aB 1) (eC (.int 1))) aC))) (aA (aE cQ (eZ (aA (aE uA (eC (.int 10)) (eC (.int 4))) (aA (aE uA (eC (.int 10)) (eC (.int 20))) (aA (aE uA (eC (.int 10)) (eC (.int 59))) aC)))) (aE fH (aE cQ (aB 3) (eC (.int 1))) (eC (.int 3)))) (aA (aE cB (aB 2) (eC (.int 70001))) aC)))))
  (aS (aE mulM (aB 4) (aE fM (eC (.int 1)) (aE mulM (eC (.int 2)) (aE fH (aE cQ (aB 3) (eC (.int 2))) (eC (.int 2))))))))))
theorem DH {ks:List vC} {k k':vC} {v:D}:∀ {ks:List vC} {ds:List D},ks.length=ds.length->cK (e9 ks ds k v).1 (e9 ks ds k v).2 k' = if k' = k then some v else cK ks ds k':=by
 intro ks ds hl
 unfold e9
 split
 ·rename_i hc
  have go:∀ (ks:List vC) (ds:List D),ks.length=ds.length->cK ks ((ks.zip ds).map fun p=>if p.1=k then v else p.2) k' = if k' = k then (cK ks ds k').map (fun _=>v) else cK ks ds k':=by
   intro ks
   induction ks with
   | nil=>intro ds _; simp [cK]
   | cons q ks ih =>
    intro ds hl
    cases ds with
    | nil=>simp at hl
    | cons d ds =>
     have:=ih ds (by simpa using hl)
     unfold cK at this ⊢
     by_cases h1:q=k'
     ·subst h1
      by_cases h2:q=k
      ·simp [h2]
      ·simp [h2]
     ·simpa [h1] using this
  have hin:k∈ks:=by
   rw [List.any_eq_true] at hc
   obtain ⟨q,hq,e⟩:=hc
   rw [<- of_decide_eq_true e]
   exact hq
  have some_of:∀ (ks:List vC) (ds:List D),ks.length=ds.length->k∈ks -> ∃ d,cK ks ds k=some d:=by
   intro ks
   induction ks with
   | nil=>intro ds _ h; cases h
   | cons q ks ih =>
    intro ds hl h
    cases ds with
    | nil=>simp at hl
    | cons d ds =>
     by_cases h1:q=k
     ·exact ⟨d,by simp [cK,h1]⟩
     ·obtain ⟨d',e⟩:=ih ds (by simpa using hl) ((List.mem_cons.1 h).resolve_left (Ne.symm h1))
      exact ⟨d',by unfold cK at e ⊢; simpa [h1] using e⟩
  rw [go ks ds hl]
  by_cases h:k' = k
  ·subst h
   obtain ⟨d,e⟩:=some_of ks ds hl hin
   rw [e]
   simp
  ·rw [if_neg h,if_neg h]
 ·rename_i hc
  have hn:k∉ks:=fun h=>hc (List.any_eq_true.2 ⟨k,h,by simp⟩)
  unfold cK
  dsimp only
  rw [List.zip_append hl,List.find?_append]
  by_cases h:k' = k
  ·subst h
   have:((ks.zip ds).find? fun p=>decide (p.1=k'))=none:=by
    rw [List.find?_eq_none]
    intro p hp
    have:=List.of_mem_zip hp
    simp only [decide_eq_true_eq]
    exact fun e=>hn (e▸this.1)
   rw [this]
   simp
  ·rw [if_neg h]
   have:([k].zip [v]).find? (fun p=>decide (p.1=k'))=none:=by simp [Ne.symm h]
   rw [this,Option.or_none]
theorem IQ {ks:List vC} {ds:List D} {k:vC} {v:D} (h:ks.length=ds.length):(e9 ks ds k v).1.length=(e9 ks ds k v).2.length/\(e9 ks ds k v).1.length<=ks.length+1:=by
 unfold e9
 split
 ·simp [h]
 ·simp [h]
theorem KW {ks:List vC} {ds:List D} {k:vC} {v:D} (h:∀ q∈ks,q.isLeft=false) (hk:k.isLeft=false):∀ q∈(e9 ks ds k v).1,q.isLeft=false:=by
 unfold e9
 split
 ·exact h
 ·intro q hq
  rcases List.mem_append.1 hq with z | z
  ·exact h q z
  ·rw [List.mem_singleton.1 z]; exact hk
theorem lG {ks:List vC} {k:vC} (h:∀ q∈ks,q.isLeft=false) (hk:k.isLeft=false):kindB ks k=true:=by
 unfold kindB
 rw [List.all_eq_true]
 intro q hq
 rw [h q hq,hk]
 rfl
theorem zM:∀ a:List Int,y9 (a.map D.int)=some (a.map Sum.inl)
 | []=>rfl
 | x::a=>by rw [List.map_cons,y9,zM a]; rfl
def kS (a:List Int) (l:Int):vC:=.inr [.inr (a.map Sum.inl),.inl (.inl l)]
theorem IS (a:List Int) (l:Int):rQ (.tup [tupI a,.int l])=some (kS a l):=by
 have e:N2 (tupI a)=some (.inr (a.map Sum.inl)):=by
  show (y9 (a.map D.int)).map Sum.inr=_
  rw [zM]
  rfl
 show (vD [tupI a,.int l]).map Sum.inr=_
 unfold vD
 rw [e]
 rfl
theorem IT:∀ {a b:List Int},a.map (Sum.inl:Int->FQ)=b.map Sum.inl->a=b
 | [],[],_=>rfl
 | [],_::_,h=>by simp at h
 | _::_,[],h=>by simp at h
 | x::a,y::b,h=>by
  simp only [List.map_cons,List.cons.injEq,Sum.inl.injEq] at h
  rw [h.1,IT h.2]
theorem YO {a b:List Int} {l m:Int} (h:kS a l=kS b m):a=b/\l=m:=by
 unfold kS at h
 simp only [Sum.inr.injEq,List.cons.injEq,Sum.inl.injEq,and_true] at h
 exact ⟨IT h.1,h.2⟩
def qH (a b:List Int):List Int:=(a.zip b).map fun p=>p.1+p.2
def qI (l:List Int):List Int:=0::l.dropLast
def BN (n:Nat):List Int:=1::List.replicate (max n 1 - 1) 0
def CZ (n:Nat):List Int:=List.replicate (max n 1) 0
section
variable (x:List (List Int))
def Sh:Nat->List Int->Int->List Int
 | 0,_,_=>BN x.length
 | m+1,a,l=>(bM x a).foldl (fun acc t=>qH acc (if t<l then qI (Sh m (bO a t) t) else Sh m (bO a t) t)) (CZ x.length)
end
theorem OT {a b:List Int} (h:a.length<=1000):iW [aI a,aI b]=.ok (aI (qH a b)):=by
 unfold iW qH
 refine gA rfl (gB (mI ((a.zip b).map fun p=>D.tup [.int p.1,.int p.2]) ?_ ?_ ?_))
 ·unfold C6
  rw [args2 (x:=aI a) (y:=aI b) rfl rfl]
  show some (((a.map D.int).zip (b.map D.int)).map _)=_
  rw [List.zip_map,List.map_map]
  rfl
 ·rw [List.length_map,List.length_zip]; omega
 ·rw [nQ (fun p:Int×Int=>D.tup [.int p.1,.int p.2]) (fun p=>.int (p.1+p.2)) (a.zip b) fun p _=>⟨[some (.int p.1),some (.int p.2)],rfl,rfl⟩,List.map_map]
  rfl
theorem UD {a:List Int} (h0:1<=a.length) (h:a.length<=1000):bJ [aI a]=.ok (aI (qI a)):=by
 unfold bJ
 refine gA rfl (gB (bL (x:=aI [0]) (y:=aI a.dropLast) rfl ?_ ?_))
 ·show some (D.lst (TB (a.map D.int) none (some (-1))))=_
  unfold aI TB S9
  rw [List.length_map]
  simp only [Nat.sub_zero,List.drop_zero]
  rw [if_pos (by decide),show ((-1:Int)+(a.length:Int)).toNat=a.length - 1 by omega,<- List.map_take,List.dropLast_eq_take]
 ·show (if _ then _ else _)=_
  rw [if_pos (by simp [pX]; omega)]
  rfl
theorem j2 {a b:List Int} (h:a.length=b.length):(qH a b).length=a.length:=by unfold qH; simp [h]
theorem mM {a:List Int} (h:1<=a.length):(qI a).length=a.length:=by unfold qI; simp; omega
theorem pD (n:Nat):(CZ n).length=max n 1:=by simp [CZ]
theorem DI (n:Nat):(BN n).length=max n 1:=by simp [BN]; omega
theorem kK (x:List (List Int)):∀ (m:Nat) (a:List Int) (l:Int),(Sh x m a l).length=max x.length 1
 | 0,a,l=>DI _
 | m+1,a,l=>by
  unfold Sh
  have go:∀ (ts:List Int) (acc:List Int),acc.length=max x.length 1->(ts.foldl (fun acc t=>qH acc (if t<l then qI (Sh x m (bO a t) t) else Sh x m (bO a t) t)) acc).length=max x.length 1:=by
   intro ts
   induction ts with
   | nil=>intro acc h; exact h
   | cons t ts ih =>
    intro acc h
    rw [List.foldl_cons]
    refine ih _ ?_
    rw [j2]
    ·exact h
    ·rw [h]
     have:=kK x m (bO a t) t
     split
     ·rw [mM (by omega)]; exact this.symm
     ·exact this.symm
  exact go _ _ (pD _)
def most:Nat->Nat
 | 0=>1
 | m+1=>1+(m+1)*most m
def iQ (x:List (List Int)) (kd:KD):Prop:=kd.1.length=kd.2.length/\(∀ q∈kd.1,q.isLeft=false) /\ ∀ a l d,cK kd.1 kd.2 (kS a l)=some d->d=aI (Sh x (x.length - a.length) a l)
theorem iQ.put {x:List (List Int)} {kd:KD} (h:iQ x kd) (a:List Int) (l:Int):iQ x (e9 kd.1 kd.2 (kS a l) (aI (Sh x (x.length - a.length) a l))):=by
 refine ⟨(IQ h.1).1,KW h.2.1 rfl,fun b m d e=>?_⟩
 rw [DH (ks:=[]) h.1] at e
 split at e
 ·rename_i hk
  obtain ⟨rfl,rfl⟩:=YO hk
  exact (Option.some.inj e).symm
 ·exact h.2.2 b m d e
def oO (x:List (List Int)) (a:List Int) (l:Int) (q:Nat->Obj->Prop) (kd:KD) (s v6 v7:Sv):aR:=[.ro (aK x),.ro (tupI a),.ro (.int l),.ow (.eL q kd.1 kd.2),.ro (.tup [tupI a,.int l]),s,v6,v7]
theorem YQ {x:List (List Int)} {a:List Int} {l:Int} {q:Nat->Obj->Prop} {kd:KD} {s v6 v7:Sv} (h:iQ x kd):tV (aE (KO true) (aB 4) (aB 3)) (cC (oO x a l q kd s v6 v7))=some (!(cK kd.1 kd.2 (kS a l)).isSome):=by
 refine rN (d:=.bl (!(cK kd.1 kd.2 (kS a l)).isSome)) (bL (x:=.tup [tupI a,.int l]) (y:=.eL q kd.1 kd.2) rfl rfl ?_) rfl
 show ((rQ (.tup [tupI a,.int l])).bind _)=_
 rw [IS]
 show (if _ then _ else _)=_
 rw [if_pos (lG h.2.1 rfl)]
 rfl
theorem W7 {x:List (List Int)} {a:List Int} {l:Int} {q q0:Nat->Obj->Prop} {kd:KD} {s v6 v7:Sv} {d:D} (h:iQ x kd) (hq:∀ b o,q b o -> ∃ o2,q0 b o2) (hl:cK kd.1 kd.2 (kS a l)=some d):TN 3 (aB 4) q0 (oO x a l q kd s v6 v7)=some (d,kd):=by
 have e:TN 3 (aB 4) q0 (oO x a l q kd s v6 v7)=(rQ (.tup [tupI a,.int l])).bind fun kk=>@ite _ (kindB kd.1 kk=true /\ ∀ b o,q b o -> ∃ o2,q0 b o2) (Classical.propDecidable _) ((cK kd.1 kd.2 kk).map fun d=>(d,kd)) none:=rfl
 rw [e,IS]
 exact (if_pos ⟨lG h.2.1 rfl,hq⟩).trans (by rw [hl]; rfl)
theorem rep0 (n:Nat) (h:n<=1000):repLM (.lst [.int 0]) (.int (n:Int))=some (aI (List.replicate n 0)):=by
 show (if _ then _ else _)=_
 rw [if_pos ⟨by simp [pX]; omega,by omega⟩]
 unfold aI
 congr 2
 simp only [Int.toNat_natCast]
 induction n with
 | zero=>rfl
 | succ n ih=>rw [List.replicate_succ,List.flatten_cons,ih (by omega),List.replicate_succ]; rfl
theorem FY {x:List (List Int)} {a:List Int} (h:YN x a) (hl:a.length=x.length):bM x a=[]:=by
 have:=nV h
 exact List.eq_nil_of_length_eq_zero (by omega)
theorem IU {x:List (List Int)} {ρ:bN} (hx:x.length<=9) (h:ρ[0]? = some (some (aK x))):aE repLM (eZ (aA (eC (.int 0)) aC)) (bU u4 (aA (bU bV (aA (aB 0) aC)) (aA (eC (.int 1)) aC))) ρ=some (aI (CZ x.length)):=by
 have e0:aB 0 ρ=some (aK x):=by unfold aB; rw [h]; rfl
 refine bL (x:=.lst [.int 0]) (y:=.int ((max x.length 1:Nat):Int)) rfl (aF8 (x:=.int x.length) (y:=.int 1) (fO e0 fE) rfl ?_) (rep0 _ (by omega))
 show some (D.int (if _ then _ else _))=_
 split<;>congr 2<;>omega
theorem DJ {x:List (List Int)} {a:List Int} {ρ:bN} (h0:ρ[0]? = some (some (aK x))) (h1:ρ[1]? = some (some (tupI a))):tV (aE jW (bU bV (aA (aB 1) aC)) (bU bV (aA (aB 0) aC))) ρ=some (decide (a.length=x.length)):=by
 have e0:aB 0 ρ=some (aK x):=by unfold aB; rw [h0]; rfl
 have e1:aB 1 ρ=some (tupI a):=by unfold aB; rw [h1]; rfl
 refine rN (d:=.bl (decide ((a.length:Int)=x.length))) (bL (fO e1 OC) (fO e0 fE) eK) ?_
 rw [i7]
 congr 1
 exact decide_eq_decide.2 (by omega)
def yL (x:List (List Int)) (kd:KD) (a:List Int) (l:Int):KD:=e9 kd.1 kd.2 (kS a l) (aI (Sh x (x.length - a.length) a l))
theorem IV {x:List (List Int)} {kd:KD} {a:List Int} {l:Int} (h:iQ x kd):iQ x (yL x kd a l)/\(yL x kd a l).1.length<=kd.1.length+1/\cK (yL x kd a l).1 (yL x kd a l).2 (kS a l)=some (aI (Sh x (x.length - a.length) a l)) :=
 ⟨h.put a l,(IQ h.1).2,by unfold yL; rw [DH (ks:=[]) h.1,if_pos rfl]⟩
theorem W8 {x:List (List Int)} {a:List Int} {l:Int} {q:Nat->Obj->Prop} {kd:KD} {v6 v7:Sv} (h:iQ x kd) (hc:kd.1.length<16000000) :
  zA 3 (aV (aB 5)) (aB 4) (oO x a l q kd (.ro (aI (Sh x (x.length - a.length) a l))) v6 v7)=.nx (oO x a l (adr q) (yL x kd a l) (.ro (aI (Sh x (x.length - a.length) a l))) v6 v7):=by
 have e0:zA 3 (aV (aB 5)) (aB 4) (oO x a l q kd (.ro (aI (Sh x (x.length - a.length) a l))) v6 v7)=(match ((rQ (.tup [tupI a,.int l])).bind fun kk=>if kindB kd.1 kk=true/\kd.2.length<pX then some ((oO x a l q kd (.ro (aI (Sh x (x.length - a.length) a l))) v6 v7).set 3 (.ow (.eL (adr q) (e9 kd.1 kd.2 kk (aI (Sh x (x.length - a.length) a l))).1 (e9 kd.1 kd.2 kk (aI (Sh x (x.length - a.length) a l))).2))) else none) with
  | some ρ'=>.nx ρ'
  | none=>.no):=rfl
 rw [e0,IS,Option.bind_some,if_pos ⟨lG h.2.1 rfl,by rw [<- h.1]; unfold pX; omega⟩]
 rfl
theorem aFd {ρ:aR} {r:List Int} (h:ρ[5]? = some (.ow (aI (0::r)))):KJ 5 (aV (eC (.int 1))) (eC (.int 0)) ρ=.nx (ρ.set 5 (.ow (aI (1::r)))):=by
 have e:KJ 5 (aV (eC (.int 1))) (eC (.int 0)) ρ=(match ((lF ρ[5]?).bind fun ds=>(NV ds.length 0).map fun j=>ρ.set 5 (.ow (.lst (ds.set j (.int 1))))) with
  | some ρ'=>.nx ρ'
  | none=>.no):=rfl
 rw [e,h]
 show (match ((NV ((0::r).map D.int).length 0).map fun j=>ρ.set 5 (.ow (.lst (((0::r).map D.int).set j (.int 1))))) with
  | some ρ'=>Out.nx ρ'
  | none=>.no)=_
 rw [vP (by decide) (by simp)]
 rfl
noncomputable abbrev bS (n:Nat):SF:=(aJ (aO 4 (fJ (aA (aB 1) (aA (aB 2) aC))))
  (fI (tV (aE (KO true) (aB 4) (aB 3)))
   (aJ (iN 5 (aE repLM (eZ (aA (eC (.int 0)) aC)) (bU u4 (aA (bU bV (aA (aB 0) aC)) (aA (eC (.int 1)) aC)))))
   (aJ (fI (tV (aE jW (bU bV (aA (aB 1) aC)) (bU bV (aA (aB 0) aC))))
    (KJ 5 (aV (eC (.int 1))) (eC (.int 0)))
    dA)
   (aJ (YH 5 (dP (cR (aG LL.dW (aA (aB 0) (aA (aB 1) aC)))) (j9 6)
    (aJ (rR 7 (aZ n) (aA (aB 0) (aA (aG LL.fB (aA (aB 1) (aA (aB 6) aC))) (aA (aB 6) aC))) 3)
    (aO 5 (aG iW (aA (aB 5) (aA (KA (tV (aE uK (aB 2) (aB 6))) (aG bJ (aA (aB 7) aC)) (aB 7)) aC)))))))
   (zA 3 (aV (aB 5)) (aB 4)))))
   dA))
theorem uQ {x:List (List Int)} {n:Nat} {a:List Int} {l:Int} {kd vZ:KD} {d:D} (h:iQ x kd)
  (there:∀ d',cK kd.1 kd.2 (kS a l)=some d'->d' = d/\vZ = kd)
  (new:cK kd.1 kd.2 (kS a l)=none -> ∀ q,∃ q2 kd2 v5 v6 v7,(∀ b o,q2 b o -> ∃ o2,q b o2)/\bS n (startM 8 [aK x,tupI a,.int l] q kd)=.nx (oO x a l q2 kd2 v5 v6 v7)/\iQ x kd2/\cK kd2.1 kd2.2 (kS a l)=some d/\kd2=vZ) :
  aZ (n+1) [aK x,tupI a,.int l] kd=.ok (d,vZ):=by
 unfold aZ
 refine TQ fun q=>?_
 have e1:vE 8 4 (bS n) (aB 4) q [aK x,tupI a,.int l] kd=(match bS n (startM 8 [aK x,tupI a,.int l] q kd) with
  | .nx ρ=>TN 3 (aB 4) q ρ
  | _=>none):=rfl
 refine e1.trans ?_
 cases hl:cK kd.1 kd.2 (kS a l) with
 | some d' =>
  obtain ⟨rfl,rfl⟩:=there d' hl
  have e2:bS n (startM 8 [aK x,tupI a,.int l] q vZ)=.nx (oO x a l q vZ .no .no .no):=by
   refine dG (oO x a l q vZ .no .no .no) (gR (.tup [tupI a,.int l]) rfl rfl) ?_
   refine rM ?_ rfl
   rw [YQ h,hl]
   rfl
  rw [e2]
  exact W7 h (fun b o ho=>⟨o,ho⟩) hl
 | none =>
  obtain ⟨q2,kd2,v5,v6,v7,hq,eb,hM,hl2,rfl⟩:=new hl q
  rw [eb]
  exact W7 hM hq hl2
theorem W9 {a b c:EF} {ρ:bN} {x y z:D} (ha:a ρ=some x) (hb:b ρ=some y) (hc:c ρ=some z):aA a (aA b (aA c aC)) ρ=some [x,y,z]:=by
 have:=args2 hb hc
 unfold aA at this ⊢
 rw [ha,this]
 rfl
noncomputable abbrev lS (n:Nat):SF:=aJ (rR 7 (aZ n) (aA (aB 0) (aA (aG LL.fB (aA (aB 1) (aA (aB 6) aC))) (aA (aB 6) aC))) 3)
    (aO 5 (aG iW (aA (aB 5) (aA (KA (tV (aE uK (aB 2) (aB 6))) (aG bJ (aA (aB 7) aC)) (aB 7)) aC))))
def mO (x:List (List Int)) (m:Nat) (a:List Int) (l:Int) (acc:List Int) (t:Int):List Int:=qH acc (if t<l then qI (Sh x m (bO a t) t) else Sh x m (bO a t) t)
theorem YR {x:List (List Int)} {n m:Nat} {a:List Int} {l t:Int} {kd vZ:KD} {acc:List Int} {q:Nat->Obj->Prop} {v7:Sv} (ha:a.length<=9) (hx:x.length<=9) (hacc:acc.length=max x.length 1)
  (hR:aZ n [aK x,tupI (bO a t),.int t] kd=.ok (aI (Sh x m (bO a t) t),vZ)) :
  lS n (oO x a l q kd (.ro (aI acc)) (.ro (.int t)) v7)=.nx (oO x a l (adr q) vZ (.ro (aI (mO x m a l acc t))) (.ro (.int t)) (.ro (aI (Sh x m (bO a t) t)))):=by
 have hS:=kK x m (bO a t) t
 refine dG (oO x a l (adr q) vZ (.ro (aI acc)) (.ro (.int t)) (.ro (aI (Sh x m (bO a t) t)))) ?_ ?_
 ·have e:stepM (aZ n) (aA (aB 0) (aA (aG LL.fB (aA (aB 1) (aA (aB 6) aC))) (aA (aB 6) aC))) 3 (oO x a l q kd (.ro (aI acc)) (.ro (.int t)) v7)=some (q,aI (Sh x m (bO a t) t),vZ):=by
   unfold stepM
   have e1:aA (aB 0) (aA (aG LL.fB (aA (aB 1) (aA (aB 6) aC))) (aA (aB 6) aC)) (iT (oO x a l q kd (.ro (aI acc)) (.ro (.int t)) v7))=some [aK x,tupI (bO a t),.int t]:=by
    have e2:aG LL.fB (aA (aB 1) (aA (aB 6) aC)) (iT (oO x a l q kd (.ro (aI acc)) (.ro (.int t)) v7))=some (tupI (bO a t)):=dU rfl rfl (KS ha)
    exact W9 rfl e2 rfl
   rw [e1,Option.bind_some]
   show (match aZ n [aK x,tupI (bO a t),.int t] kd with
    | .ok r=>some (q,r)
    | _=>none)=_
   rw [hR]
  unfold rR
  rw [e]
  rfl
 ·refine gR (aI (mO x m a l acc t)) ?_ rfl
  have e3:KA (tV (aE uK (aB 2) (aB 6))) (aG bJ (aA (aB 7) aC)) (aB 7) (iT (oO x a l (adr q) vZ (.ro (aI acc)) (.ro (.int t)) (.ro (aI (Sh x m (bO a t) t)))))=some (aI (if t<l then qI (Sh x m (bO a t) t) else Sh x m (bO a t) t)):=by
   have et:tV (aE uK (aB 2) (aB 6)) (iT (oO x a l (adr q) vZ (.ro (aI acc)) (.ro (.int t)) (.ro (aI (Sh x m (bO a t) t)))))=some (decide (t<l)):=rfl
   unfold KA
   rw [et,Option.bind_some]
   by_cases h:t<l
   ·rw [decide_eq_true h,if_pos rfl,if_pos h]
    exact vR rfl (UD (by omega) (by omega))
   ·rw [decide_eq_false h,if_neg (by decide),if_neg h]
    rfl
  exact dU rfl e3 (OT (by omega))
theorem OU {x:List (List Int)} {n m:Nat} {a:List Int} {l:Int} (ha:a.length<=9) (hx:x.length<=9):∀ (ts:List Int) (acc:List Int) (kd:KD),acc.length=max x.length 1->iQ x kd ->
  (∀ t∈ts,∀ kd,iQ x kd->kd.1.length+most m<=10000000 -> ∃ vZ,aZ n [aK x,tupI (bO a t),.int t] kd=.ok (aI (Sh x m (bO a t) t),vZ)/\iQ x vZ/\vZ.1.length<=kd.1.length+most m) ->
  kd.1.length+ts.length*most m<=10000000 ->
  ∃ kd2,iQ x kd2/\kd2.1.length<=kd.1.length+ts.length*most m /\ ∀ (q0 q:Nat->Obj->Prop) (v6 v7:Sv),(∀ b o,q b o -> ∃ o2,q0 b o2) -> ∃ (q2:Nat->Obj->Prop) (w6 w7:Sv),(∀ b o,q2 b o -> ∃ o2,q0 b o2) /\
   fR (j9 6) (lS n) (ts.map D.int) (oO x a l q kd (.ro (aI acc)) v6 v7)=.nx (oO x a l q2 kd2 (.ro (aI (ts.foldl (mO x m a l) acc))) w6 w7)
 | [],acc,kd,hacc,hM,_,_=>⟨kd,hM,by simp,fun q0 q v6 v7 hq=>⟨q,v6,v7,hq,rfl⟩⟩
 | t::ts,acc,kd,hacc,hM,hR,hc=>by
  rw [List.length_cons,Nat.succ_mul] at hc
  obtain ⟨kd1,e1,hM1,hc1⟩:=hR t List.mem_cons_self kd hM (by omega)
  have hS:=kK x m (bO a t) t
  have aB3:(mO x m a l acc t).length=max x.length 1:=by
   unfold mO
   rw [j2]
   ·exact hacc
   ·rw [hacc]
    split
    ·rw [mM (by omega)]; exact hS.symm
    ·exact hS.symm
  obtain ⟨kd2,hM2,hc2,go⟩:=OU ha hx ts (mO x m a l acc t) kd1 aB3 hM1 (fun u hu=>hR u (List.mem_cons_of_mem _ hu)) (by omega)
  refine ⟨kd2,hM2,by rw [List.length_cons,Nat.succ_mul]; omega,fun q0 q v6 v7 hq=>?_⟩
  obtain ⟨q2,w6,w7,hq2,e2⟩:=go q0 (adr q) (.ro (.int t)) (.ro (aI (Sh x m (bO a t) t))) fun b o ⟨o1,h1⟩=>hq b o1 h1
  refine ⟨q2,w6,w7,hq2,?_⟩
  rw [List.map_cons,List.foldl_cons]
  have e3:fR (j9 6) (lS n) (D.int t::ts.map D.int) (oO x a l q kd (.ro (aI acc)) v6 v7)=(match lS n (oO x a l q kd (.ro (aI acc)) (.ro (.int t)) v7) with
   | .nx ρ2=>fR (j9 6) (lS n) (ts.map D.int) ρ2
   | o=>o):=rfl
  rw [e3,YR ha hx hacc e1]
  exact e2
theorem UE {x:List (List Int)} (hx:x.length<=9) (hr:∀ r∈x,r.length<=9):∀ (m e:Nat) (a:List Int) (l:Int) (kd:KD),YN x a->a.length+m=x.length->iQ x kd->kd.1.length+most m<=10000000 ->
  ∃ vZ,aZ (m+1+e) [aK x,tupI a,.int l] kd=.ok (aI (Sh x m a l),vZ)/\iQ x vZ/\vZ.1.length<=kd.1.length+most m/\cK vZ.1 vZ.2 (kS a l)=some (aI (Sh x m a l)):=by
 intro m
 induction m with
 | zero =>
  intro e a l kd ok hl hM hc
  have hl:a.length=x.length:=hl
  have m0:most 0=1:=rfl
  have e0:x.length - a.length=0:=by omega
  rw [show 0+1+e=e+1 by omega]
  cases hk:cK kd.1 kd.2 (kS a l) with
  | some d =>
   have ed:=hM.2.2 a l d hk
   rw [e0] at ed
   subst ed
   exact ⟨kd,uQ hM (fun d' h'=>by rw [hk] at h'; exact ⟨(Option.some.inj h').symm,rfl⟩) (fun h'=>by rw [hk] at h'; cases h'),hM,by omega,hk⟩
  | none =>
   obtain ⟨p1,p2,p3⟩:=IV (a:=a) (l:=l) hM
   rw [e0] at p3
   refine ⟨yL x kd a l,uQ hM (fun d' h'=>by rw [hk] at h'; cases h') fun _ q=>⟨adr q,yL x kd a l,.ro (aI (Sh x 0 a l)),.no,.no,fun b o h=>h,?_,p1,p3,rfl⟩,p1,by omega,p3⟩
   ·refine dG (oO x a l q kd .no .no .no) (gR (.tup [tupI a,.int l]) rfl rfl) (FR ?_ ?_)
    ·rw [YQ hM,hk]; rfl
    ·have ez:CZ x.length=0::List.replicate (max x.length 1 - 1) 0:=by
      unfold CZ
      rw [<- List.replicate_succ]
      congr 1
      omega
     refine dG (oO x a l q kd (.ow (aI (CZ x.length))) .no .no) (by unfold iN; rw [IU hx rfl]; rfl) ?_
     refine dG (oO x a l q kd (.ow (aI (BN x.length))) .no .no) (FR ((DJ rfl rfl).trans (by rw [decide_eq_true hl])) ?_) ?_
     ·rw [ez]
      exact aFd rfl
     refine dG (oO x a l q kd (.ro (aI (BN x.length))) .no .no) ?_ ?_
     ·show dP _ _ _ (oO x a l q kd (.ro (aI (BN x.length))) .no .no)=_
      refine C7 [] ?_ rfl
      unfold cR
      rw [dU (x:=aK x) (y:=tupI a) rfl rfl (DG hx hr),FY ok hl]
      rfl
     ·have:=W8 (x:=x) (a:=a) (l:=l) (q:=q) (kd:=kd) (v6:=.no) (v7:=.no) hM (by omega)
      rw [e0] at this
      exact this
 | succ m ih =>
  intro e a l kd ok hl hM hc
  have mm:most (m+1)=1+(m+1)*most m:=rfl
  have e0:x.length - a.length=m+1:=by omega
  have hfew:=nV ok
  have ha:=UB ok
  rw [show m+1+1+e=(m+1+e)+1 by omega]
  cases hk:cK kd.1 kd.2 (kS a l) with
  | some d =>
   have ed:=hM.2.2 a l d hk
   rw [e0] at ed
   subst ed
   exact ⟨kd,uQ hM (fun d' h'=>by rw [hk] at h'; exact ⟨(Option.some.inj h').symm,rfl⟩) (fun h'=>by rw [hk] at h'; cases h'),hM,by omega,hk⟩
  | none =>
   have hlen:(bM x a).length*most m<=(m+1)*most m:=Nat.mul_le_mul_right _ (by omega)
   obtain ⟨kd1,hM1,hc1,go⟩:=OU (n:=m+1+e) (m:=m) (l:=l) (by omega:a.length<=9) hx (bM x a) (CZ x.length) kd (pD _) hM (fun t ht kd hM' hc'=>(ih e (bO a t) t kd ((W6 ok).1 _ (List.mem_map_of_mem ht)).1 (by have:=((W6 ok).1 _ (List.mem_map_of_mem ht)).2; omega) hM' hc').imp fun _ h=>⟨h.1,h.2.1,h.2.2.1⟩) (by omega)
   obtain ⟨p1,p2,p3⟩:=IV (a:=a) (l:=l) hM1
   rw [e0] at p3
   refine ⟨yL x kd1 a l,uQ hM (fun d' h'=>by rw [hk] at h'; cases h') fun _ q=>?_,p1,by omega,p3⟩
   obtain ⟨q2,w6,w7,hq2,el⟩:=go q q .no .no fun b o h=>⟨o,h⟩
   refine ⟨adr q2,yL x kd1 a l,.ro (aI (Sh x (m+1) a l)),w6,w7,fun b o ⟨o1,h1⟩=>hq2 b o1 h1,?_,p1,p3,rfl⟩
   refine dG (oO x a l q kd .no .no .no) (gR (.tup [tupI a,.int l]) rfl rfl) (FR ?_ ?_)
   ·rw [YQ hM,hk]; rfl
   ·refine dG (oO x a l q kd (.ow (aI (CZ x.length))) .no .no) (by unfold iN; rw [IU hx rfl]; rfl) ?_
    refine dG (oO x a l q kd (.ow (aI (CZ x.length))) .no .no) (rM ((DJ rfl rfl).trans (by rw [decide_eq_false (by omega)])) rfl) ?_
    refine dG (oO x a l q2 kd1 (.ro (aI (Sh x (m+1) a l))) w6 w7) ?_ ?_
    ·show dP _ _ _ (oO x a l q kd (.ro (aI (CZ x.length))) .no .no)=_
     refine C7 ((bM x a).map D.int) ?_ el
     unfold cR
     rw [dU (x:=aK x) (y:=tupI a) rfl rfl (DG hx hr)]
     rfl
    ·have:=W8 (x:=x) (a:=a) (l:=l) (q:=q2) (kd:=kd1) (v6:=w6) (v7:=w7) hM1 (by omega)
     rw [e0] at this
     exact this
theorem YS:∀ {n:Nat},n<=9->most n<=1000000:=by
 intro n h
 have:∀ n,n<=9->most n<=1000000:=by decide
 exact this n h
def shares (x:List (List Int)):List Int:=Sh x x.length [] 0
theorem KY {x:List (List Int)} (hx:x.length<=9) (hr:∀ r∈x,r.length<=9):bC [aK x]=.ok (tupI (shares x)):=by
 obtain ⟨kd,e,hM,hc,hl⟩:=UE hx hr x.length (10 - x.length) [] 0 ([],[]) UC (by simp) ⟨rfl,fun q hq=>(by cases hq),fun a l d h=>(by simp [cK] at h)⟩ (by have:=YS hx; simp; omega)
 rw [show x.length+1+(10 - x.length)=11 by omega] at e
 have e1:fU [aK x]=.ok (.eL (adr uB) kd.1 kd.2):=by
  unfold fU
  refine gA rfl (dG [.ro (aK x),.ow (.eL uB [] [])] rfl (dG [.ro (aK x),.ow (.eL (adr uB) kd.1 kd.2)] ?_ (gB rfl)))
  have e2:stepM (aZ 11) (aA (aB 0) (aA (fJ aC) (aA (eC (.int 0)) aC))) 1 [.ro (aK x),.ow (.eL uB [] [])]=some (uB,aI (Sh x x.length [] 0),kd):=by
   unfold stepM
   rw [W9 (x:=aK x) (y:=tupI []) (z:=.int 0) rfl rfl rfl,Option.bind_some]
   show (match aZ 11 [aK x,tupI [],.int 0] ([],[]) with
    | .ok r=>some (uB,r)
    | _=>none)=_
   rw [e]
  unfold TR
  rw [e2]
  rfl
 unfold bC
 refine gA rfl (gB (fO (x:=aI (shares x)) (bL (x:=.eL (adr uB) kd.1 kd.2) (y:=.tup [tupI [],.int 0]) (vR rfl e1) rfl ?_) rfl))
 show ((rQ (.tup [tupI [],.int 0])).bind fun k=>if kindB kd.1 k=true then cK kd.1 kd.2 k else none)=_
 rw [IS,Option.bind_some,if_pos (lG hM.2.1 rfl)]
 exact hl
end LL
end
section
namespace LL
open PySem L3 L4 K24
theorem OV {x:Int} (hx:Bg 210 x):∀ m:Nat,m<=1000->Bg (211*m+1) (ff x m)
 | 0,_=>by unfold Bg ff; decide
 | m+1,h=>by
  have h1:=OV hx m (by omega)
  have h2:Bg 211 (x - m):=by
   have:Bg 210 (m:Int):=by
    unfold Bg
    have:(m:Int).natAbs<2 ^ 10:=by omega
    exact Nat.lt_of_lt_of_le this (Nat.pow_le_pow_right (by decide) (by decide))
   exact hx.sub this
  exact (h1.mul h2).mono (by omega)
theorem aB4 {x:Int} (hx:Bg 210 x) {m:Nat} (hm:m<=1000):Bg (211*m+1) (C x m):=by
 have h:=OV hx m hm
 have e:=OS x m
 unfold Bg at h ⊢
 rw [<- e,Int.natAbs_mul] at h
 have:1<=(fact m).natAbs:=by have:=vY m; omega
 exact Nat.lt_of_le_of_lt (Nat.le_mul_of_pos_right _ this) h
theorem YT (x:Int) (i:Nat):C x i*(x - i) / ((i:Int)+1)=C x (i+1):=by
 have h1:=OS x i
 have h2:=OS x (i+1)
 have e:C x i*(x - i)=C x (i+1)*((i:Int)+1):=by
  refine Int.eq_of_mul_eq_mul_right (Int.ne_of_gt (vY i)) ?_
  rw [show fact (i+1)=fact i*(i+1) from rfl,show ff x (i+1)=ff x i*(x - i) from rfl,<- h1] at h2
  calc C x i*(x - ↑i)*fact i=C x i*fact i*(x - ↑i):=by rw [Int.mul_right_comm]
   _=C x (i+1)*(fact i*(↑i+1)):=h2.symm
   _=C x (i+1)*(↑i+1)*fact i:=by rw [Int.mul_comm (fact i),Int.mul_assoc]
 rw [e,Int.mul_ediv_cancel _ (by omega)]
theorem KZ {x:Int} {m:Nat} (hx:Bg 210 x) (hm:m<=12):kJ [.int x,.int m]=.ok (.int (C x m)):=by
 unfold kJ
 have h:Rt (aJ (aO 2 (eC (.int 1))) (aJ (dP (aP (aA (aB 1) aC)) (j9 3) (aO 2 (aE t9 (aE mulM (aB 2) (aE fM (aB 0) (aB 3))) (aE cB (aB 3) (eC (.int 1)))))) (aS (aB 2))) (dR 4 [.int x,.int m])) fun d=>d=.int (C x m):=by
  refine cN [.ro (.int x),.ro (.int m),.ro (.int 1),.no] rfl ?_
  refine sA (fun ρ=>∃ v,ρ=[.ro (.int x),.ro (.int m),.ro (.int (C x m)),v]) ?_ fun ρ ⟨v,e⟩=>by subst e; exact sC _ rfl rfl
  refine mJ m (fun i ρ=>∃ v,ρ=[.ro (.int x),.ro (.int m),.ro (.int (C x i)),v]) rfl (by omega) ⟨_,rfl⟩ (fun i ρ hi ⟨v,e⟩=>?_) fun ρ h=>h
  subst e
  refine ⟨_,rfl,N7 (.int (C x (i+1))) (bL (x:=.int (C x i*(x - i))) (y:=.int ((i:Int)+1)) (bL (x:=.int (C x i)) (y:=.int (x - i)) rfl rfl (T8 (p:=211*i+1) (q:=211) (by omega) (by omega) (aB4 hx (by omega)) ?_)) rfl ?_) ⟨_,rfl⟩⟩
  ·have:Bg 210 (i:Int):=by
    unfold Bg
    have:(i:Int).natAbs<2 ^ 10:=by omega
    exact Nat.lt_of_lt_of_le this (Nat.pow_le_pow_right (by decide) (by decide))
   exact hx.sub this
  ·rw [mG (by omega) (by omega),YT]
 obtain ⟨d,e,rfl⟩:=sD rfl h
 exact e
def dvL (n:Nat) (k:Int) (w:List Int) (d:Nat):List Int:=(w.zipIdx d).map fun p=>p.1*C (k+n - 1 - p.2) n
theorem BO (n:Nat) (k:Int):∀ (w:List Int) (d:Nat),(dvL n k w d).sum=DV n d w k
 | [],d=>rfl
 | a::w,d=>by
  have ih:=BO n k w (d+1)
  show a*C (k+n - 1 - d) n+(dvL n k w (d+1)).sum=a*C (k+n - 1 - d) n+DV n ((d:Int)+1) w k
  rw [ih]
  rfl
theorem OW {k:Int} (hk:Bg 208 k) {a b:Nat} (ha:a<=1000) (hb:b<=1000):Bg 210 (k+a - 1 - b):=by
 unfold Bg at hk ⊢
 have:(2:Nat) ^ 210=4*2 ^ 208:=by rw [show 210=2+208 from rfl,Nat.pow_add]
 have h2:2000<2 ^ 208:=Nat.lt_of_lt_of_le (by decide:2000<2 ^ 11) (Nat.pow_le_pow_right (by decide) (by decide))
 rw [this]
 generalize 2 ^ 208=z at *
 omega
theorem DK {w:List Int} {n:Nat} {k:Int} (hw:w.length<=20) (hs:∀ y∈w,y.natAbs<18446744073709551616) (hn:n<=12) (hk:Bg 208 k):cD [tupI w,.int n,.int k]=.ok (.int (DV n 0 w k)):=by
 unfold cD
 have e:=BO n k w 0
 rw [show ((0:Nat):Int)=0 from rfl] at e
 rw [<- e]
 refine gA rfl (gB (fO (x:=aI (dvL n k w 0)) ?_ sum_ints))
 refine mI ((w.zipIdx).map fun p=>D.tup [.int (p.2:Int),.int p.1]) ?_ (by simp; omega) ?_
 ·unfold mE
  rw [args1 (x:=tupI w) rfl]
  show some (((w.map D.int).zipIdx).map _)=_
  rw [zipIdx_map,List.map_map]
  rfl
 ·unfold dvL
  rw [List.map_map]
  refine nQ (fun p:Int×Nat=>D.tup [.int (p.2:Int),.int p.1]) (fun p=>.int (p.1*C (k+n - 1 - p.2) n)) w.zipIdx fun p hp=>⟨[some (.int p.2),some (.int p.1),some (.int n),some (.int k)],rfl,?_⟩
  have hm:=List.mem_zipIdx hp
  have h1:p.1∈w:=by have:=hm.2.2; rw [this]; exact List.getElem_mem _
  exact bL (x:=.int p.1) (y:=.int (C (k+n - 1 - p.2) n)) rfl (dU (x:=.int (k+n - 1 - p.2)) (y:=.int n) rfl rfl (KZ (OW hk (by omega) (by omega)) hn)) (oY (hs _ h1))
theorem aB5 {i:Nat} {f:EF} {ρ:aR} {ds:List D} {d:D} (h1:f (iT ρ)=some d) (h2:ρ[i]? = some (.ow (.lst ds))) (hl:ds.length<16777216):sX (mB i gQ (aV f)) ρ=.nx (ρ.set i (.ow (.lst (ds++[d])))):=by
 have e:mB i gQ (aV f) ρ=some (ρ.set i (.ow (.lst (ds++[d]))),.non):=by
  unfold mB aV
  rw [h2,h1]
  show ((lF ρ[i]?).bind fun ds=>(gQ ds d).map _)=_
  rw [h2]
  show ((gQ ds d).map _)=_
  rw [p8 hl]
  rfl
 unfold sX
 rw [e]
def ev (k:Int):List Int->Int
 | []=>0
 | a::l=>a+k*ev k l
def YU (s:Int) (l:List Int):List Int:=((l++[0]).zip (0::l)).map fun p:Int×Int=>s*p.1+p.2
def XA (s t:Int):Nat->List Int
 | 0=>[s]
 | n+1=>YU (t - n) (XA s t n)
def XB (n:Nat):List Int->Nat->List Int->List Int
 | [],_,acc=>acc
 | s::w,d,acc=>XB n w (d+1) (qH acc (XA s ((n:Int) - 1 - d) n))
theorem OX (x:List (List Int)) (a:List Int):(bM x a).length<=x.length:=by
 unfold bM
 have h1:=List.length_filter_le (fun t=>(row x t).all fun l=>a.contains l) ((bG 0 x.length).filter fun t=>!a.contains t)
 have h2:=List.length_filter_le (fun t=>!a.contains t) (bG 0 x.length)
 rw [aU] at h2
 omega
theorem OY {x:List (List Int)} (hx:x.length<=9):∀ (m:Nat) (a:List Int) (l:Int),∀ y∈Sh x m a l,0<=y/\y<=9 ^ m
 | 0,a,l,y,hy=>by
  unfold Sh BN at hy
  rcases List.mem_cons.1 hy with e | e
  ·subst e; decide
  ·rw [List.eq_of_mem_replicate e]; decide
 | m+1,a,l,y,hy=>by
  have ih:=OY hx m
  have go:∀ (ts:List Int) (acc:List Int) (c:Int),0<=c->(∀ y∈acc,0<=y/\y<=c*9 ^ m) -> ∀ y∈ts.foldl (fun acc t=>qH acc (if t<l then qI (Sh x m (bO a t) t) else Sh x m (bO a t) t)) acc,0<=y/\y<=(c+ts.length)*9 ^ m:=by
   intro ts
   induction ts with
   | nil=>intro acc c hc h; simpa using h
   | cons t ts iht =>
    intro acc c hc h
    rw [List.foldl_cons]
    have:=iht (qH acc (if t<l then qI (Sh x m (bO a t) t) else Sh x m (bO a t) t)) (c+1) (by omega) ?_
    ·rw [List.length_cons]
     rw [show c+((ts.length+1:Nat):Int)=c+1+ts.length by omega]
     exact this
    ·intro y hy
     unfold qH at hy
     obtain ⟨p,hp,rfl⟩:=List.mem_map.1 hy
     obtain ⟨m1,m2⟩:=List.of_mem_zip hp
     have g1:=h _ m1
     have g2:0<=p.2/\p.2<=9 ^ m:=by
      split at m2
      ·unfold qI at m2
       rcases List.mem_cons.1 m2 with e | e
       ·rw [e]; exact ⟨by decide,Int.le_of_lt (Int.pow_pos (by decide))⟩
       ·exact ih _ _ _ (List.dropLast_subset _ e)
      ·exact ih _ _ _ m2
     rw [Int.add_mul,Int.one_mul]
     omega
  unfold Sh at hy
  have:=go (bM x a) (CZ x.length) 0 (by decide) (fun y hy=>by
   rw [List.eq_of_mem_replicate hy]
   simp) y hy
  refine ⟨this.1,Int.le_trans this.2 ?_⟩
  rw [Int.zero_add,Int.pow_succ,Int.mul_comm]
  have h1:=OX x a
  exact Int.mul_le_mul_of_nonneg_left (by omega) (Int.le_of_lt (Int.pow_pos (by decide)))
theorem FZ {x:List (List Int)} (hx:x.length<=9):∀ y∈shares x,0<=y/\y<=387420489:=fun y hy=>by
 have h:=OY hx x.length [] 0 y hy
 refine ⟨h.1,Int.le_trans h.2 ?_⟩
 have:∀ n,n<=9->(9:Int) ^ n<=387420489:=by decide
 exact this _ hx
theorem oP (x:List (List Int)):(shares x).length=max x.length 1:=kK x _ _ _
theorem wB {x:List (List Int)} (hx:x.length<=9) (hr:∀ r∈x,r.length<=9) {k:Int} (hk:Bg 208 k):dO [aK x,.int k]=.ok (.int (DV x.length 0 (shares x) k)):=by
 unfold dO
 refine gA rfl (gB (e8 (vR rfl (KY hx hr)) (fO rfl fE) rfl (DK (by rw [oP]; omega) (fun y hy=>?_) (by omega) hk)))
 have:=FZ hx y hy
 omega
def YV (x:List (List Int)):List Int:=fd (vals (DV x.length 0 (shares x)) (x.length+1) 0)
theorem OZ {a b:List Int} {j:Nat} {y z:Int} (h1:a[j]? = some y) (h2:b[j]? = some z):(qH a b)[j]? = some (y+z):=by
 unfold qH
 rw [List.getElem?_map,List.getElem?_zip_eq_some (z:=(y,z)) |>.2 ⟨h1,h2⟩]
 rfl
section
variable (x:List (List Int))
end
def Zr (w:List Int) (m:Nat):Prop:=∀ (d:Nat) (y:Int),w[d]? = some y->m<d->y=0
theorem Zr.CZ (n m:Nat):Zr (CZ n) m:=fun d y e _=>by
 unfold LL.CZ at e
 rw [List.getElem?_replicate] at e
 split at e
 ·cases e; rfl
 ·cases e
theorem BP (x:List (List Int)) (m:Nat) (a:List Int) (l:Int):Sh x (m+1) a l=(bM x a).foldl (mO x m a l) (CZ x.length):=rfl
theorem DL {x:List (List Int)} {a:List Int} {t:Int} (h:t∈bM x a):0<=t:=(i9 h).1.1
theorem fold_congr {α β:Type} {f g:β->α->β}:∀ (l:List α) (b:β),(∀ b,∀ t∈l,f b t=g b t)->l.foldl f b=l.foldl g b
 | [],b,_=>rfl
 | t::l,b,h=>by rw [List.foldl_cons,List.foldl_cons,h b t List.mem_cons_self]; exact fold_congr l _ fun b u hu=>h b u (List.mem_cons_of_mem _ hu)
theorem YW (x:List (List Int)) (m:Nat) (a:List Int) {l l':Int} (h:l<=0) (h':l'<=0):Sh x m a l=Sh x m a l':=by
 cases m with
 | zero=>rfl
 | succ m =>
  rw [BP,BP]
  refine fold_congr _ _ fun acc t ht=>?_
  have:=DL ht
  unfold mO
  rw [if_neg (by omega),if_neg (by omega)]
theorem wD {a:List Int} {t u:Int}:u∈bO a t↔u∈a\/u=t:=by
 unfold bO
 rw [(sortI_perm (a++[t])).mem_iff]
 simp
section
variable (x:List (List Int))
end
section
variable {x:List (List Int)}
theorem DM {a b:List Int} (h:∀ t,t∈a↔t∈b):bM x a=bM x b:=by
 have hc:∀ t,a.contains t=b.contains t:=fun t=>by
  rw [Bool.eq_iff_iff]
  simp [h t]
 unfold bM
 simp only [hc]
theorem jA {a:List Int} {t:Int}:t∈bM x a↔(0<=t/\t<(x.length:Int))/\t∉a /\ ∀ l∈row x t,l∈a:=by
 unfold bM
 rw [List.mem_filter,List.mem_filter,dQ,List.all_eq_true]
 simp only [Bool.not_eq_true',List.contains_eq_mem,decide_eq_false_iff_not,decide_eq_true_eq]
 constructor
 ·rintro ⟨⟨h1,h2⟩,h3⟩; exact ⟨by omega,h2,h3⟩
 ·rintro ⟨h1,h2,h3⟩; exact ⟨⟨by omega,h2⟩,h3⟩
theorem O0 (a:List Int):(bM x a).Nodup:=List.Pairwise.filter _ (List.Pairwise.filter _ (OQ x.length))
end
abbrev Tab:=List (Nat×Int)
def aB6 (A:Tab) (h:Nat) (v:Int):Tab:=if A.any (fun q=>decide (q.1=h))=true then A.map fun q=>if q.1=h then (q.1,v) else q else A++[(h,v)]
structure Okt (n:Nat) (A:Tab):Prop where
 nd:(A.map (·.1)).Nodup
 lt:∀ q∈A,q.1<2 ^ n
theorem Okt.put {n:Nat} {A:Tab} (o:Okt n A) {h:Nat} (hh:h<2 ^ n) (v:Int):Okt n (aB6 A h v):=by
 unfold aB6
 split
 ·refine ⟨?_,fun q hq=>?_⟩
  ·rw [List.map_map]
   have:(A.map ((fun q:Nat×Int=>q.1)∘fun q=>if q.1=h then (q.1,v) else q))=A.map (·.1):=List.map_congr_left fun q _=>by simp only [Function.comp]; split<;>rfl
   rw [this]
   exact o.nd
  ·obtain ⟨p,hp,rfl⟩:=List.mem_map.1 hq
   split
   ·exact o.lt p hp
   ·exact o.lt p hp
 ·rename_i hc
  refine ⟨?_,fun q hq=>?_⟩
  ·rw [List.map_append,List.nodup_append]
   refine ⟨o.nd,by simp,fun a ha b hb e=>?_⟩
   obtain ⟨q,hq,rfl⟩:=List.mem_map.1 ha
   simp only [List.map_nil,List.map_cons,List.mem_singleton] at hb
   exact hc (List.any_eq_true.2 ⟨q,hq,by simp [e,hb]⟩)
  ·rcases List.mem_append.1 hq with z | z
   ·exact o.lt q z
   ·rw [List.mem_singleton.1 z]; exact hh
section
variable (x:List (List Int))
end
section
variable {x:List (List Int)}
end
section
variable {x:List (List Int)}
end
end LL
end
section
namespace K25
open PySem L3 L4
noncomputable def uD:fG:=bQ 3 2
  (aJ (aO 2 (bU bV (aA (aB 0) aC)))
  (aS (bU A8 (aA (bZ 1 [0,2,1] (aP (aA (aB 2) aC)) (g1 0) dC (aE mulM (aE cQ (aB 1) (aB 0)) (aG LL.pC (aA (aE fM (aE fM (aE cB (aB 3) (aB 2)) (eC (.int 1))) (aB 0)) (aA (aB 2) aC))))) aC))))
noncomputable def BQ:fG:=bQ 2 2
  (aS (bU A8 (aA (bZ 1 [0,1] (aP (aA (bU bV (aA (aB 0) aC)) aC)) (g1 0) dC (aE mulM (aE cQ (aB 1) (aB 0)) (aG LL.pC (aA (aB 2) (aA (aB 0) aC))))) aC)))
noncomputable def K0:fG:=bQ 4 2
  (aJ (aO 2 (eC (.int 0)))
  (aJ (dP (KH (aA (aB 0) aC)) (j9 3)
   (aO 2 (aE cB (aE mulM (aB 2) (aB 1)) (aB 3))))
  (aS (aB 2))))
noncomputable def yM:fG:=bQ 3 1
  (aJ (aO 1 (eC (.int 1)))
  (aJ (dP (aP (aA (aB 0) aC)) (j9 2)
   (aO 1 (aE mulM (aB 1) (aE cB (aB 2) (eC (.int 1))))))
  (aS (aB 1))))
noncomputable def yN:fG:=bQ 7 5
  (aJ (aO 5 (aG LL.dO (aA (aB 0) (aA (aB 4) aC))))
  (aJ (fI (oR (fZ (tV (jJ "int" (aB 5)))) (tV (jJ "bool" (aB 5))))
   (aS (eC (.bl false)))
   dA)
  (aJ (aO 6 (eC (.int 1)))
  (aJ (fI (tV (aE uK (bU bV (aA (aB 0) aC)) (eC (.int 0))))
   (aO 6 (aG uD (aA (aB 1) (aA (aB 4) aC))))
   dA)
  (aJ (fI (oR (tV (aE KC (aB 5) (aB 6))) (tV (aE KC (aG BQ (aA (aB 2) (aA (aB 4) aC))) (aB 5))))
   (aS (eC (.bl false)))
   dA)
  (aS (aE jW (aG K0 (aA (aB 3) (aA (aB 4) aC))) (aE mulM (aB 5) (aG yM (aA (bU bV (aA (aB 0) aC)) aC))))))))))
noncomputable def qE:fG:=bQ 10 1
  (aJ (aO 1 (aG LL.eO (aA (aB 0) (aA (eC (.int 0)) (aA (eC (.int 9)) (aA (eC (.int 100003)) aC))))))
  (aJ (aO 2 (bU bV (aA (aB 1) aC)))
  (aJ (aO 3 (aG LL.bC (aA (aB 1) aC)))
  (aJ (aO 4 (aG LL.qG (aA (aB 1) aC)))
  (aJ (aO 5 (aG LL.BM (aA (aB 1) aC)))
  (aJ (fI (oR (fZ (tV (aG LL.sI (aA (aB 3) (aA (bU u4 (aA (eC (.int 1)) (aA (aB 2) aC))) aC))))) (oR (fZ (tV (aG LL.sI (aA (aB 4) (aA (aE cB (aB 2) (eC (.int 1))) aC))))) (fZ (tV (aG LL.sI (aA (aB 5) (aA (aE cB (aB 2) (eC (.int 1))) aC)))))))
   (aS (eC (.bl false)))
   dA)
  (aJ (fI (oR (tV (aE WW (bU W2 (aA (aB 3) aC)) (eC (.int 0)))) (oR (tV (aE WW (bU W2 (aA (aB 4) aC)) (eC (.int 0)))) (oR (tV (aE KC (bU aBT (aA (aB 3) aC)) (aE cQ (aB 4) (A7 (eC (.int 1)))))) (tV (aE KC (aE cQ (aB 5) (A7 (eC (.int 1)))) (aE cQ (aB 4) (A7 (eC (.int 1)))))))))
   (aS (eC (.bl false)))
   dA)
  (aJ (aO 6 (aE fH (aE cQ (aG LL.cM (aA (aG LL.cL (aA (aB 0) (aA (eC (.int 2)) aC))) (aA (eC (.int 1)) (aA (eC (.int 200017)) aC)))) (eC (.int 0))) (eC (.int 5))))
  (aJ (dP (cR (fJ (aA (aB 6) (aA (aG LL.KU (aA (aB 0) (aA (eC (.int 3)) (aA (eC (.int 300007)) aC)))) aC)))) (j9 7)
   (fI (fZ (tV (aG yN (aA (aB 1) (aA (aB 3) (aA (aB 4) (aA (aB 5) (aA (aB 7) aC))))))))
    (aS (eC (.bl false)))
    dA))
  (aJ (fI (tV (aE jW (aB 2) (eC (.int 0))))
   (aS (aE aBS (aB 4) (fJ (aA (eC (.int 1)) aC))))
   dA)
  (aJ (iN 8 (eZ (aA (eC (.int 0)) aC)))
  (aJ (dP (aP (aA (eC (.int 1)) (aA (aE cB (aB 2) (eC (.int 1))) aC))) (j9 9)
   (sX (mB 8 gQ (aV (bU A8 (aA (bZ 1 [3,2,9] (aP (aA (aB 9) aC)) (g1 0) dC (aE mulM (aE cQ (aB 1) (aB 0)) (aG LL.pC (aA (aE fM (aE fM (aB 2) (eC (.int 1))) (aB 0)) (aA (aE fM (aE fM (aB 3) (eC (.int 1))) (aB 0)) aC))))) aC))))))
  (aS (aE aF7 (bU pZ (aA (aB 4) aC)) (aB 8)))))))))))))))
end K25
end
section
namespace K25
open PySem L3 L4 K24 LL
theorem UG {α:Type} (g:Int->Int->α) (w:List Int):w.zipIdx.map (fun p=>g p.1 p.2)=(bG 0 w.length).map fun d=>g (at0 w d) d:=by
 apply List.ext_getElem?
 intro j
 rw [List.getElem?_map,List.getElem?_map,List.getElem?_zipIdx]
 by_cases h:j<w.length
 ·rw [kH h,List.getElem?_eq_getElem h]
  simp [at0,h]
 ·rw [List.getElem?_eq_none (by omega),List.getElem?_eq_none (by rw [aU]; omega)]
  rfl
section
variable {x:List (List Int)}
def aB7 (x:List (List Int)):List Int:=XB x.length (shares x) 0 (List.replicate (x.length+1) 0)
end
abbrev st (ns:List Int) (x:List (List Int)) (nr:Int) (v7 v8 v9:Sv):aR:=[.ro (.lD ns),.ro (aK x),.ro (.int x.length),.ro (tupI (shares x)),.ro (tupI (YV x)),.ro (tupI (aB7 x)),.ro (.int nr),v7,v8,v9]
end K25
end
section
namespace LL
open PySem L3 L4 K24
section
variable (x:List (List Int))
def gls:Nat->List (List Int)
 | 0=>[[]]
 | i+1=>(gls i).flatMap fun w=>(bM x w).map fun t=>w++[t]
end
section
variable {x:List (List Int)}
end
theorem sum_map_add {α:Type} (f g:α->Int):∀ L:List α,(L.map fun a=>f a+g a).sum=(L.map f).sum+(L.map g).sum
 | []=>rfl
 | a::L=>by
  have ih:=sum_map_add f g L
  simp only [List.map_cons,List.sum_cons,ih]
  omega
theorem lH {α:Type}:∀ L:List α,(L.map fun _=>(0:Int)).sum=0
 | []=>rfl
 | a::L=>by rw [List.map_cons,List.sum_cons,lH L]; rfl
theorem zN {α β:Type} (f:α->β->Int) (M:List β):∀ L:List α,(L.map fun a=>(M.map fun b=>f a b).sum).sum=(M.map fun b=>(L.map fun a=>f a b).sum).sum
 | []=>by simp only [List.map_nil,List.sum_nil]; rw [lH]
 | a::L=>by
  have ih:=zN f M L
  simp only [List.map_cons,List.sum_cons,ih]
  rw [<- sum_map_add]
theorem zO {α:Type} (c:Int) (f:α->Int):∀ L:List α,(L.map fun a=>c*f a).sum=c*(L.map f).sum
 | []=>by simp
 | a::L=>by
  have ih:=zO c f L
  simp only [List.map_cons,List.sum_cons,ih,Int.mul_add]
section
variable (x:List (List Int))
def SF:Nat->List Int->Int->Int->Int
 | 0,_,_,j=>if j=0 then 1 else 0
 | m+1,a,l,j=>((bM x a).map fun t=>SF m (bO a t) t (j - if t<l then 1 else 0)).sum
end
section
variable {x:List (List Int)}
theorem O1:∀ (m:Nat) (a:List Int) (l j:Int),j<0->SF x m a l j=0
 | 0,a,l,j,h=>if_neg (by omega)
 | m+1,a,l,j,h=>by
  have e:(fun t=>SF x m (bO a t) t (j - if t<l then 1 else 0))=fun _=>0:=funext fun t=>O1 m _ _ _ (by split<;>omega)
  show ((bM x a).map _).sum=0
  rw [e,lH]
theorem DN:∀ (m:Nat) {a b:List Int} (l j:Int),(∀ t,t∈a↔t∈b)->SF x m a l j=SF x m b l j
 | 0,a,b,l,j,_=>rfl
 | m+1,a,b,l,j,h=>by
  show ((bM x a).map fun t=>SF x m (bO a t) t (j - if t<l then 1 else 0)).sum=((bM x b).map fun t=>SF x m (bO b t) t (j - if t<l then 1 else 0)).sum
  rw [DM h]
  congr 1
  refine List.map_congr_left fun t _=>DN m _ _ fun u=>?_
  rw [wD,wD,h u]
theorem O2 {a b:List Int} {j:Int} (h:a.length=b.length):at0 (qH a b) j=at0 a j+at0 b j:=by
 unfold at0
 by_cases hj:j.toNat<a.length
 ·rw [OZ (List.getElem?_eq_getElem hj) (List.getElem?_eq_getElem (by omega)),List.getElem?_eq_getElem hj,List.getElem?_eq_getElem (by omega)]
  rfl
 ·rw [List.getElem?_eq_none (by rw [j2 h]; omega),List.getElem?_eq_none (by omega),List.getElem?_eq_none (by omega)]
  rfl
theorem UH {w:List Int} {j:Int} (h0:0<=j) (hj:j<w.length):at0 (qI w) j=if j=0 then 0 else at0 w (j - 1):=by
 unfold at0 qI
 split
 ·rename_i z; subst z; rfl
 ·obtain ⟨k,hk⟩:∃ k:Nat,j.toNat=k+1:=⟨j.toNat - 1,by omega⟩
  rw [hk,List.getElem?_cons_succ,List.getElem?_dropLast,if_pos (by omega),show (j - 1).toNat=k by omega]
theorem UI (n:Nat) (j:Int):at0 (CZ n) j=0:=by
 unfold at0 CZ
 rw [List.getElem?_replicate]
 split<;>rfl
theorem O5:∀ (m:Nat) (a:List Int) (l j:Int),0<=j->j<(max x.length 1:Nat)->at0 (Sh x m a l) j=SF x m a l j
 | 0,a,l,j,h0,h1=>by
  show at0 (BN x.length) j=if j=0 then 1 else 0
  unfold at0 BN
  split
  ·rename_i z; subst z; rfl
  ·obtain ⟨k,hk⟩:∃ k:Nat,j.toNat=k+1:=⟨j.toNat - 1,by omega⟩
   rw [hk,List.getElem?_cons_succ,List.getElem?_replicate]
   split<;>rfl
 | m+1,a,l,j,h0,h1=>by
  rw [BP]
  have go:∀ (ts acc:List Int),acc.length=max x.length 1->at0 (ts.foldl (mO x m a l) acc) j=at0 acc j+(ts.map fun t=>SF x m (bO a t) t (j - if t<l then 1 else 0)).sum:=by
   intro ts
   induction ts with
   | nil=>intro acc _; simp
   | cons t ts ih =>
    intro acc h
    have hS:=kK x m (bO a t) t
    have hlen:acc.length=(if t<l then qI (Sh x m (bO a t) t) else Sh x m (bO a t) t).length:=by
     rw [h]
     split
     ·rw [mM (by omega)]; exact hS.symm
     ·exact hS.symm
    have ev:at0 (if t<l then qI (Sh x m (bO a t) t) else Sh x m (bO a t) t) j=SF x m (bO a t) t (j - if t<l then 1 else 0):=by
     split
     ·rw [UH h0 (by rw [hS]; exact h1)]
      split
      ·rename_i z; subst z; rw [O1 _ _ _ _ (by omega)]
      ·exact O5 m _ _ _ (by omega) (by omega)
     ·rw [Int.sub_zero]; exact O5 m _ _ _ h0 h1
    rw [List.foldl_cons,ih _ (by unfold mO; rw [j2 hlen,h]),List.map_cons,List.sum_cons]
    unfold mO
    rw [O2 hlen,ev]
    omega
  rw [go _ _ (pD _),UI,Int.zero_add]
  rfl
end
def dl:Int->List Int->Int
 | _,[]=>0
 | l,t::w=>(if t<l then 1 else 0)+dl t w
def zP (w:List Int):Int:=w.getLast?.getD (-1)
theorem IW:∀ (l:Int) (w:List Int) (t:Int),dl l (w++[t])=dl l w+if t<(w.getLast?.getD l) then 1 else 0
 | l,[],t=>by
  show (if t<l then 1 else 0)+0=0+if t<l then 1 else 0
  rw [Int.add_zero,Int.zero_add]
 | l,a::w,t=>by
  show (if a<l then 1 else 0)+dl a (w++[t])=(if a<l then 1 else 0)+dl a w+_
  rw [IW a w t]
  have e:(a::w).getLast?.getD l=w.getLast?.getD a:=by
   cases w with
   | nil=>rfl
   | cons b w=>rw [List.getLast?_cons_cons]; rw [List.getLast?_eq_getLast (List.cons_ne_nil b w)]; rfl
  rw [e]
  omega
section
variable {x:List (List Int)}
theorem O6 (d:Int):∀ i r:Nat,((gls x i).map fun w=>SF x r w (zP w) (d - dl (-1) w)).sum=SF x (i+r) [] (-1) d
 | 0,r=>by
  show SF x r [] (-1) (d - 0)+0=_
  rw [Int.add_zero,Int.sub_zero,Nat.zero_add]
 | i+1,r=>by
  have ih:=O6 d i (r+1)
  rw [show i+1+r=i+(r+1) by omega,<- ih]
  have go:∀ L:List (List Int),((L.flatMap fun w=>(bM x w).map fun t=>w++[t]).map fun w=>SF x r w (zP w) (d - dl (-1) w)).sum=(L.map fun w=>SF x (r+1) w (zP w) (d - dl (-1) w)).sum:=by
   intro L
   induction L with
   | nil=>rfl
   | cons w L ihL =>
    rw [List.flatMap_cons,List.map_append,List.sum_append,ihL,List.map_cons,List.sum_cons,List.map_map]
    congr 1
    show _=((bM x w).map fun t=>SF x r (bO w t) t (d - dl (-1) w - if t<zP w then 1 else 0)).sum
    congr 1
    refine List.map_congr_left fun t _=>?_
    simp only [Function.comp]
    have e1:zP (w++[t])=t:=by unfold zP; simp
    rw [e1,IW,Int.sub_sub]
    exact DN r _ _ fun u=>by rw [wD]; simp
  exact go _
theorem BR {d:Nat} (hd:d<max x.length 1):at0 (shares x) d=((gls x x.length).map fun w=>if dl (-1) w=(d:Int) then 1 else 0).sum:=by
 have h:=O6 (x:=x) d x.length 0
 rw [Nat.add_zero,<- O5 x.length [] (-1) d (by omega) (by omega),YW x x.length [] (l:=-1) (l':=0) (by decide) (by decide)] at h
 show at0 (Sh x x.length [] 0) d=_
 rw [<- h]
 congr 1
 refine List.map_congr_left fun w _=>?_
 show (if (d:Int) - dl (-1) w=0 then (1:Int) else 0)=_
 by_cases e:dl (-1) w=(d:Int)
 ·rw [if_pos e,if_pos (by omega)]
 ·rw [if_neg e,if_neg (by omega)]
theorem F0:∀ (l:Int) (w:List Int),0<=dl l w/\dl l w<=w.length
 | _,[]=>⟨Int.le_refl 0,by simp [dl]⟩
 | l,t::w=>by
  have ih:=F0 t w
  show 0<=(if t<l then 1 else 0)+dl t w/\(if t<l then 1 else 0)+dl t w<=((t::w).length:Int)
  rw [List.length_cons]
  split<;>omega
theorem jB:∀ {i:Nat} {w:List Int},w∈gls x i->w.length=i /\ ∀ u t v,w=u++t::v->t∈bM x u
 | 0,w,h=>by
  have:w=[]:=by simpa [gls] using h
  subst this
  exact ⟨rfl,fun u t v e=>by simp at e⟩
 | i+1,w,h=>by
  obtain ⟨w',hw',hm⟩:=List.mem_flatMap.1 (show w∈(gls x i).flatMap fun w=>(bM x w).map fun t=>w++[t] from h)
  obtain ⟨t,ht,rfl⟩:=List.mem_map.1 hm
  have ih:=jB hw'
  refine ⟨by rw [List.length_append,ih.1]; rfl,fun u s v e=>?_⟩
  rcases List.eq_nil_or_concat v with rfl | ⟨v',b,rfl⟩
  ·have h1:=List.append_inj' e rfl
   have:t=s:=by simpa using h1.2
   rw [<- this,<- h1.1]
   exact ht
  ·have e2:w'++[t]=(u++s::v')++[b]:=by rw [e]; simp
   have h1:=List.append_inj' e2 rfl
   exact ih.2 u s v' h1.1
theorem sJ:∀ {i:Nat} {w:List Int},w.length=i->(∀ u t v,w=u++t::v->t∈bM x u)->w∈gls x i
 | 0,w,h,_=>by
  have:w=[]:=List.length_eq_zero_iff.1 h
  subst this
  exact List.mem_singleton.2 rfl
 | i+1,w,h,hp=>by
  rcases List.eq_nil_or_concat w with rfl | ⟨w',b,rfl⟩
  ·cases h
  ·refine List.mem_flatMap.2 ⟨w',sJ (by simpa using h) fun u t v e=>hp u t (v++[b]) (by rw [e]; simp),List.mem_map.2 ⟨b,hp w' b [] (by simp),by simp⟩⟩
theorem wF (k:Int):DV x.length 0 (shares x) k=((gls x x.length).map fun w=>C (k+x.length - 1 - dl (-1) w) x.length).sum:=by
 have hl:=oP x
 have e:DV x.length 0 (shares x) k=((bG 0 (shares x).length).map fun d=>at0 (shares x) d*C (k+x.length - 1 - d) x.length).sum:=by
  rw [<- K25.UG (fun a d=>a*C (k+x.length - 1 - d) x.length),show (0:Int)=((0:Nat):Int) from rfl,<- BO]
  rfl
 rw [e,hl]
 have e2:((bG 0 (max x.length 1)).map fun d=>at0 (shares x) d*C (k+x.length - 1 - d) x.length)=(bG 0 (max x.length 1)).map fun d=>((gls x x.length).map fun w=>(if dl (-1) w=d then C (k+x.length - 1 - d) x.length else 0)).sum:=by
  refine List.map_congr_left fun d hd=>?_
  have hr:=dQ.1 hd
  obtain ⟨m,rfl⟩:∃ m:Nat,d=(m:Int):=⟨d.toNat,by omega⟩
  rw [BR (by omega),Int.mul_comm,<- zO]
  congr 1
  refine List.map_congr_left fun w _=>?_
  split
  ·rw [Int.mul_one]
  ·rw [Int.mul_zero]
 rw [e2,zN]
 congr 1
 refine List.map_congr_left fun w hw=>?_
 have hg:=jB hw
 have aFf:0<=dl (-1) w/\dl (-1) w<(max x.length 1:Nat):=by
  have h0:=F0 (-1) w
  refine ⟨h0.1,?_⟩
  cases w with
  | nil=>show (0:Int)<_; omega
  | cons t w =>
   have ht:=DL (hg.2 [] t w rfl)
   have h1:=F0 t w
   have e:dl (-1) (t::w)=dl t w:=by
    show (if t < -1 then 1 else 0)+dl t w=_
    rw [if_neg (by omega),Int.zero_add]
   have h2:=hg.1
   rw [List.length_cons] at h2
   rw [e]
   omega
 have pick:∀ m:Nat,((bG 0 m).map fun d=>if dl (-1) w=d then C (k+x.length - 1 - d) x.length else 0).sum=if dl (-1) w<m then C (k+x.length - 1 - dl (-1) w) x.length else 0:=by
  intro m
  induction m with
  | zero=>show (0:Int)=_; rw [if_neg (by omega)]
  | succ m ih =>
   rw [i8,List.map_append,List.sum_append,ih,Int.zero_add,List.map_cons,List.map_nil,List.sum_cons,List.sum_nil,Int.add_zero]
   by_cases h1:dl (-1) w=(m:Int)
   ·rw [if_pos h1,if_neg (by omega),if_pos (by omega),Int.zero_add,h1]
   ·rw [if_neg h1,Int.add_zero]
    by_cases h2:dl (-1) w<(m:Int)
    ·rw [if_pos h2,if_pos (by omega)]
    ·rw [if_neg h2,if_neg (by omega)]
 rw [pick,if_pos aFf.2]
end
theorem O7 {a b:List Int} (h:a.Perm b):a.sum=b.sum:=by
 induction h with
 | nil=>rfl
 | cons x _ ih=>rw [List.sum_cons,List.sum_cons,ih]
 | swap x y l=>simp only [List.sum_cons]; omega
 | trans _ _ h1 h2=>rw [h1,h2]
section
variable {x y:List (List Int)}
theorem BS:∀ i:Nat,(gls x i).Nodup
 | 0=>by simp [gls]
 | i+1=>by
  show ((gls x i).flatMap fun w=>(bM x w).map fun t=>w++[t]).Nodup
  unfold List.Nodup
  rw [List.pairwise_flatMap]
  refine ⟨fun w _=>?_,(BS i).imp fun {a b} hab u hu v hv e=>?_⟩
  ·exact List.pairwise_map.2 ((O0 w).imp fun {a b} hab e=>hab (by have:=(List.append_inj' e rfl).2; simpa using this))
  ·obtain ⟨t,_,rfl⟩:=List.mem_map.1 hu
   obtain ⟨s,_,rfl⟩:=List.mem_map.1 hv
   exact hab (List.append_inj' e rfl).1
theorem wH {w:List Int} (h:∀ u t v,w=u++t::v->t∈bM x u):w.Nodup /\ ∀ t∈w,0<=t/\t<(x.length:Int):=by
 have key:∀ (r u:List Int),(∀ p t v,u++r=p++t::v->t∈bM x p)->u.Nodup->(u++r).Nodup:=by
  intro r
  induction r with
  | nil=>intro u _ hu; rw [List.append_nil]; exact hu
  | cons t r ih =>
   intro u hp hu
   have ht:=(i9 (hp u t r rfl)).2
   have e:u++t::r=(u++[t])++r:=by simp
   rw [e]
   refine ih (u++[t]) (fun p s v e2=>hp p s v (by rw [e,e2])) ?_
   rw [List.nodup_append]
   exact ⟨hu,by simp,fun a ha b hb e=>ht (by rw [List.mem_singleton] at hb; rw [<- hb,<- e]; exact ha)⟩
 refine ⟨key w [] h List.nodup_nil,fun t ht=>?_⟩
 obtain ⟨u,v,rfl⟩:=List.append_of_mem ht
 exact (i9 (h u t v rfl)).1
theorem sL {w:List Int} (hl:w.length=x.length) (h:∀ u t v,w=u++t::v->t∈bM x u) {b:Int} (h0:0<=b) (h1:b<(x.length:Int)):b∈w:=by
 obtain ⟨nd,hr⟩:=wH h
 refine Classical.byContradiction fun hb=>?_
 have:=Ord.jL (b::w) (bG 0 x.length) (List.nodup_cons.2 ⟨hb,nd⟩) fun t ht=>by
  rcases List.mem_cons.1 ht with z | z
  ·rw [z]; exact dQ.2 ⟨h0,by omega⟩
  ·have:=hr t z; exact dQ.2 ⟨this.1,by omega⟩
 rw [List.length_cons,aU] at this
 omega
def Turned (x y:List (List Int)):Prop:=y.length=x.length /\ ∀ a b:Int,0<=b->b<(x.length:Int)->(a∈row y ((x.length:Int) - 1 - b)↔(x.length:Int) - 1 - a∈row x b)
theorem Turned.symm (h:Turned x y):Turned y x:=by
 refine ⟨h.1.symm,fun a b h0 h1=>?_⟩
 rw [h.1] at h1 ⊢
 have e:=h.2 ((x.length:Int) - 1 - a) ((x.length:Int) - 1 - b) (by omega) (by omega)
 rw [show (x.length:Int) - 1 - ((x.length:Int) - 1 - b)=b by omega,show (x.length:Int) - 1 - ((x.length:Int) - 1 - a)=a by omega] at e
 exact e.symm
def GA (x z:List (List Int)):Prop:=z.length=x.length /\ ∀ a b:Int,0<=a->a<(x.length:Int)->0<=b->b<(x.length:Int)->(a∈row x b↔b∈row z a)
theorem GA.symm (h:GA x y):GA y x:=⟨h.1.symm,fun a b h0 h1 h2 h3=>by rw [h.1] at h1 h3; exact (h.2 b a h2 h3 h0 h1).symm⟩
end
section
variable {x:List (List Int)}
theorem nW {b:Int}:∀ {u u' v v':List Int},(u++b::v).Nodup->u++b::v=u'++b::v'->u=u'
 | [],[],_,_,_,_=>rfl
 | [],c::u',v,v',nd,e=>by
  simp only [List.nil_append,List.cons_append,List.cons.injEq] at e
  rw [List.nil_append,List.nodup_cons] at nd
  exact absurd (by rw [e.2]; exact List.mem_append_right _ List.mem_cons_self) nd.1
 | c::u,[],v,v',nd,e=>by
  simp only [List.nil_append,List.cons_append,List.cons.injEq] at e
  rw [List.cons_append,List.nodup_cons] at nd
  exact absurd (by rw [e.1]; exact List.mem_append_right _ List.mem_cons_self) nd.1
 | c::u,d::u',v,v',nd,e=>by
  simp only [List.cons_append,List.cons.injEq] at e
  rw [List.cons_append,List.nodup_cons] at nd
  rw [e.1,nW nd.2 e.2]
def Bef (a b:Int) (w:List Int):Prop:=∃ u v,w=u++b::v/\a∈u
theorem O8 {a b:Int} (ha:0<=a/\a<(x.length:Int)) (hb:0<=b/\b<(x.length:Int)) {w:List Int} (hw:w∈gls x x.length) (h:Bef a b w):w∈gls (put x a b) x.length:=by
 have hg:=jB hw
 have nd:=(wH hg.2).1
 obtain ⟨u,v,e,hu⟩:=h
 refine sJ hg.1 fun p t q et=>?_
 have hr:=jA.1 (hg.2 p t q et)
 have tail:∀ l,(l=a\/l∈row x a)->a∈p->l∈p:=fun l hl hap=>by
  rcases hl with z | z
  ·rw [z]; exact hap
  ·obtain ⟨r1,r2,er⟩:=List.append_of_mem hap
   have:=(jA.1 (hg.2 r1 a (r2++t::q) (by rw [et,er]; simp))).2.2 l z
   rw [er]
   exact List.mem_append_left _ this
 refine jA.2 ⟨by rw [dN]; exact hr.1,hr.2.1,fun l hl=>?_⟩
 rcases (gF hr.1.1 hr.1.2).1 hl with z | ⟨z | z,hz⟩
 ·exact hr.2.2 l z
 ·subst z
  refine tail l hz ?_
  have:u=p:=nW (by rw [<- e]; exact nd) (by rw [<- e,et])
  rw [<- this]
  exact hu
 ·refine tail l hz ?_
  have hbp:=hr.2.2 b z
  obtain ⟨r1,r2,er⟩:=List.append_of_mem hbp
  have:u=r1:=nW (b:=b) (v':=r2++t::q) (by rw [<- e]; exact nd) (by rw [<- e,et,er]; simp)
  rw [er,<- this]
  exact List.mem_append_left _ hu
theorem uR {a b:Int} (hb:0<=b/\b<(x.length:Int)) {w:List Int} (hw:w∈gls (put x a b) x.length):w∈gls x x.length/\Bef a b w:=by
 have hg:=jB hw
 have hpl:=dN x a b
 refine ⟨sJ hg.1 fun p t q et=>?_,?_⟩
 ·have hr:=jA.1 (hg.2 p t q et)
  rw [hpl] at hr
  exact jA.2 ⟨hr.1,hr.2.1,fun l hl=>hr.2.2 l ((gF hr.1.1 hr.1.2).2 (.inl hl))⟩
 ·have hbw:b∈w:=sL (x:=put x a b) (by rw [hg.1,hpl]) hg.2 hb.1 (by rw [hpl]; exact hb.2)
  obtain ⟨u,v,e⟩:=List.append_of_mem hbw
  exact ⟨u,v,e,(jA.1 (hg.2 u b v e)).2.2 a ((gF hb.1 hb.2).2 (.inr ⟨.inl rfl,.inl rfl⟩))⟩
theorem UJ {a b:Int} {w:List Int} (nd:w.Nodup) (h1:Bef a b w) (h2:Bef b a w):False:=by
 obtain ⟨u,v,e,hu⟩:=h1
 obtain ⟨u',v',e',hu'⟩:=h2
 obtain ⟨r1,r2,er⟩:=List.append_of_mem hu
 have h3:u' = r1:=nW (b:=a) (v':=r2++b::v) (by rw [<- e']; exact nd) (by rw [<- e',e,er]; simp)
 have h4:b∈u:=by rw [er,<- h3]; exact List.mem_append_left _ hu'
 rw [e] at nd
 exact (List.nodup_append.1 nd).2.2 b h4 b List.mem_cons_self rfl
theorem YX {a b:Int} (hab:a≠b) (ha:0<=a/\a<(x.length:Int)) (hb:0<=b/\b<(x.length:Int)) {w:List Int} (hw:w∈gls x x.length):Bef a b w\/Bef b a w:=by
 have hg:=jB hw
 have h1:=sL hg.1 hg.2 ha.1 ha.2
 obtain ⟨u,v,e⟩:=List.append_of_mem (sL hg.1 hg.2 hb.1 hb.2)
 rw [e] at h1
 rcases List.mem_append.1 h1 with z | z
 ·exact .inl ⟨u,v,e,z⟩
 ·rcases List.mem_cons.1 z with z | z
  ·exact absurd z hab
  ·obtain ⟨v1,v2,ev⟩:=List.append_of_mem z
   exact .inr ⟨u++b::v1,v2,by rw [e,ev]; simp,List.mem_append_right _ List.mem_cons_self⟩
theorem K1 {a b:Int} (hab:a≠b) (ha:0<=a/\a<(x.length:Int)) (hb:0<=b/\b<(x.length:Int)) (k:Int):DV x.length 0 (shares x) k=DV (put x a b).length 0 (shares (put x a b)) k+DV (put x b a).length 0 (shares (put x b a)) k:=by
 have hp:(gls x x.length).Perm (gls (put x a b) x.length++gls (put x b a) x.length):=by
  refine (List.perm_ext_iff_of_nodup (BS _) ?_).2 fun w=>?_
  ·rw [List.nodup_append]
   refine ⟨BS _,BS _,fun w h1 w' h2 e=>?_⟩
   subst e
   have o1:=uR hb h1
   have o2:=uR ha h2
   exact UJ (wH (jB o1.1).2).1 o1.2 o2.2
  ·rw [List.mem_append]
   refine ⟨fun h=>?_,fun h=>?_⟩
   ·rcases YX hab ha hb h with z | z
    ·exact .inl (O8 ha hb h z)
    ·exact .inr (O8 hb ha h z)
   ·rcases h with z | z
    ·exact (uR hb z).1
    ·exact (uR ha z).1
 rw [wF,wF,wF,dN,dN,O7 (hp.map _),List.map_append,List.sum_append]
def Lx (fl:List Int) (a b:Int):Prop:=at0 fl a<at0 fl b\/(at0 fl a=at0 fl b/\a<b)
theorem IX {fl:List Int} {a b:Int} (h:a≠b):sH fl (a,b)=true↔Lx fl a b:=by
 unfold sH Lx
 dsimp only
 split
 ·rw [decide_eq_true_eq]; omega
 ·rw [decide_eq_true_eq]; omega
theorem O9 (hx:Ord.Rows x) {fl:List Int}:rs x fl=true ↔ ∀ b:Int,0<=b->b<(x.length:Int) -> ∀ a∈row x b,Lx fl a b:=by
 have ir:∀ b:Int,0<=b->b<(x.length:Int)->b∉row x b:=fun b h0 h1=>by
  have:=hx.irr b.toNat (row x b) (S4.iA h0 h1)
  rw [show ((b.toNat:Nat):Int)=b by omega] at this
  exact this
 unfold rs
 rw [List.all_eq_true]
 refine ⟨fun h b h0 h1 a ha=>(IX (a:=a) (b:=b) fun e=>ir b h0 h1 (by rw [e] at ha; exact ha)).1 (h (a,b) (S5.OI.2 ⟨h0,h1,ha⟩)),fun h p hp=>?_⟩
 obtain ⟨h0,h1,h2⟩:=S5.OI.1 hp
 exact (IX (a:=p.1) (b:=p.2) fun e=>ir p.2 h0 h1 (by rw [e] at h2; exact h2)).2 (h p.2 h0 h1 p.1 h2)
theorem PB {a b:Int} (hx:Ord.Rows x) (hy:Ord.Rows (put x a b)) (ha:0<=a/\a<(x.length:Int)) (hb:0<=b/\b<(x.length:Int)) {fl:List Int}:rs (put x a b) fl=true↔rs x fl=true/\Lx fl a b:=by
 rw [O9 hx,O9 hy,dN]
 refine ⟨fun h=>⟨fun d h0 h1 c hc=>h d h0 h1 c ((gF h0 h1).2 (.inl hc)),h b hb.1 hb.2 a ((gF hb.1 hb.2).2 (.inr ⟨.inl rfl,.inl rfl⟩))⟩,fun ⟨h,hl⟩ d h0 h1 c hc=>?_⟩
 rcases (gF h0 h1).1 hc with z | ⟨z1,z2⟩
 ·exact h d h0 h1 c z
 ·have l1:c=a\/Lx fl c a:=z2.imp id fun z=>h a ha.1 ha.2 c z
  have l2:d=b\/Lx fl b d:=z1.imp id fun z=>h d h0 h1 b z
  have tr:∀ {p q r:Int},Lx fl p q->Lx fl q r->Lx fl p r:=fun {p q r} h1 h2=>by unfold Lx at *; omega
  rcases l1 with z | z
  ·rcases l2 with y | y
   ·rw [z,y]; exact hl
   ·rw [z]; exact tr hl y
  ·rcases l2 with y | y
   ·rw [y]; exact tr z hl
   ·exact tr z (tr hl y)
theorem YY {a b:Int} (hab:a≠b) (hx:Ord.Rows x) (h1:Ord.Rows (put x a b)) (h2:Ord.Rows (put x b a)) (ha:0<=a/\a<(x.length:Int)) (hb:0<=b/\b<(x.length:Int)) (fl:List Int):(rs (put x a b) fl&&rs (put x b a) fl)=false/\rs x fl=(rs (put x a b) fl||rs (put x b a) fl):=by
 have i1:=PB (fl:=fl) hx h1 ha hb
 have i2:=PB (fl:=fl) hx h2 hb ha
 have tot:Lx fl a b\/Lx fl b a:=by unfold Lx; omega
 have no:¬ (Lx fl a b/\Lx fl b a):=by unfold Lx; omega
 refine ⟨?_,?_⟩
 ·cases e1:rs (put x a b) fl with
  | false=>rfl
  | true =>
   cases e2:rs (put x b a) fl with
   | false=>rfl
   | true=>exact absurd ⟨(i1.1 e1).2,(i2.1 e2).2⟩ no
 ·cases e:rs x fl with
  | true =>
   rcases tot with z | z
   ·rw [i1.2 ⟨e,z⟩]; rfl
   ·rw [i2.2 ⟨e,z⟩,Bool.or_true]
  | false =>
   cases e1:rs (put x a b) fl with
   | true=>rw [(i1.1 e1).1] at e; cases e
   | false =>
    cases e2:rs (put x b a) fl with
    | true=>rw [(i2.1 e2).1] at e; cases e
    | false=>rfl
end
end LL
end
section
namespace K30
open PySem L3 L4
noncomputable def wJ:fG:=bQ 3 3
  (aJ (vB (vA LL.aT (aA (bU bV (aA (aB 0) aC)) (aA (aB 1) (aA (aB 2) aC)))) (sX (aV (aG LL.aT (aA (bU bV (aA (aB 0) aC)) (aA (aB 1) (aA (aB 2) aC)))))))
  (aJ (fI (fZ (tV (aG LL.dJ (aA (aB 0) (aA (aB 1) (aA (aB 2) aC))))))
   (p4 (aA (eC (.str "two things that are not loose")) aC) "NotLoose")
   dA)
  (vB (vA LL.eS (aA (aB 0) (aA (aB 1) (aA (aB 2) aC)))) (aS (fJ (aA (aG LL.eS (aA (aB 0) (aA (aB 1) (aA (aB 2) aC)))) (aA (aG LL.eS (aA (aB 0) (aA (aB 2) (aA (aB 1) aC)))) aC)))))))
noncomputable def gU:fG:=bQ 4 1
  (aJ (iN 1 (eZ aC))
  (aJ (dP (aP (aA (bU bV (aA (aB 0) aC)) aC)) (j9 2)
   (dP (aP (aA (aE cB (aB 2) (eC (.int 1))) (aA (bU bV (aA (aB 0) aC)) aC))) (j9 3)
    (fI (lW (tV (aE (lC true) (aB 2) (aE cQ (aB 0) (aB 3)))) (tV (aE (lC true) (aB 3) (aE cQ (aB 0) (aB 2)))))
     (sX (mB 1 gQ (aV (fJ (aA (aB 2) (aA (aB 3) aC))))))
     dA)))
  (aS (aB 1))))
noncomputable def lI:fG:=bQ 5 3
  (aJ (aO 3 (aG LL.cM (aA (aG LL.cL (aA (aB 0) (aA (aB 1) aC))) (aA (eC (.int 2)) (aA (aB 2) aC)))))
  (aJ (fI (tV (aE jW (aE fH (aE cQ (aB 3) (eC (.int 0))) (eC (.int 3))) (eC (.int 0))))
   (aS (aE fM (aE fH (aE cQ (aB 3) (eC (.int 1))) (eC (.int 23))) (eC (.int 11))))
   dA)
  (aJ (aO 4 (aG LL.fS (aA (aG LL.cL (aA (aB 0) (aA (aE cB (aB 1) (eC (.int 1))) aC))) (aA (aE uA (eC (.int 10)) (eC (.int 60))) (aA (aE cB (aB 2) (eC (.int 10007))) aC)))))
  (aJ (fI (tV (aE jW (aE fH (aE cQ (aB 3) (eC (.int 1))) (eC (.int 2))) (eC (.int 1))))
   (aS (A7 (aB 4)))
   dA)
  (aS (aB 4))))))
noncomputable def qE:fG:=bQ 11 1
  (aJ (aO 1 (aG LL.eO (aA (aB 0) (aA (eC (.int 0)) (aA (eC (.int 9)) (aA (eC (.int 100003)) aC))))))
  (aJ (aO 2 (aG gU (aA (aB 1) aC)))
  (aJ (fI (fZ (tV (aG (LL.bE 6) (aA (aG LL.eF (aA (aB 1) aC)) (aA (bU bW (aA (aB 2) aC)) aC)))))
   (aS (eC (.bl false)))
   dA)
  (aJ (fI (tV (aE jW (bU bV (aA (aB 2) aC)) (eC (.int 0))))
   (aS (eC (.bl true)))
   dA)
  (aJ (aO 3 (aG LL.cM (aA (aG LL.cL (aA (aB 0) (aA (eC (.int 2)) aC))) (aA (eC (.int 3)) (aA (eC (.int 200017)) aC)))))
  (aJ (KN (aV (aE cQ (aB 2) (aE fH (aE cB (aE cQ (aB 3) (eC (.int 0))) (aE mulM (eC (.int 64)) (aE cQ (aB 3) (eC (.int 1))))) (bU bV (aA (aB 2) aC))))) (KL 4 5))
  (aJ (fI (tV (aE jW (aE fH (aE cQ (aB 3) (eC (.int 2))) (eC (.int 2))) (eC (.int 1))))
   (TK 4 5 (aA (aB 5) (aA (aB 4) aC)))
   dA)
  (aJ (aO 6 (fJ (aA (aG LL.iV (aA (aB 1) (aA (aB 4) (aA (aB 5) aC)))) (aA (aG LL.iV (aA (aB 1) (aA (aB 5) (aA (aB 4) aC)))) aC))))
  (aJ (fI (fZ (tV (aG (LL.bE 6) (aA (aG wJ (aA (aB 1) (aA (aB 4) (aA (aB 5) aC)))) (aA (aB 6) aC)))))
   (aS (eC (.bl false)))
   dA)
  (aJ (aO 7 (aG lI (aA (aB 0) (aA (eC (.int 3)) (aA (eC (.int 300007)) aC)))))
  (aJ (fI (fZ (tV (aG (LL.bE 6) (aA (aG LL.dO (aA (aB 1) (aA (aB 7) aC))) (aA (aE cB (aG LL.dO (aA (aE cQ (aB 6) (eC (.int 0))) (aA (aB 7) aC))) (aG LL.dO (aA (aE cQ (aB 6) (eC (.int 1))) (aA (aB 7) aC)))) aC)))))
   (aS (eC (.bl false)))
   dA)
  (aJ (aO 8 (bZ 1 [] (cR (aG LL.cM (aA (aG LL.cL (aA (aB 0) (aA (eC (.int 5)) aC))) (aA (bU bV (aA (aB 1) aC)) (aA (eC (.int 400009)) aC))))) (g1 0) dC (aE cB (eC (.int 1)) (aE fH (aB 0) (eC (.int 4))))))
  (aJ (aO 9 (aG LL.dD (aA (aE cQ (aB 6) (eC (.int 0))) (aA (aB 8) aC))))
  (aJ (aO 10 (aG LL.dD (aA (aE cQ (aB 6) (eC (.int 1))) (aA (aB 8) aC))))
  (aS (iM (rP (iM (aB 9) (aB 10))) (aE jW (aG LL.dD (aA (aB 1) (aA (aB 8) aC))) (NU (aB 9) (aB 10)))))))))))))))))))
end K30
end
section
namespace K30
open PySem L3 L4 K24 LL
theorem short {x:List (List Int)} (hx:Ord.Rows x) (hn:x.length<=9):∀ r∈x,r.length<=9:=fun r hr=>Nat.le_trans (Ord.Rows.short hx hr) hn
theorem aFg {f:EF} {i j:Nat} {ρ:aR} {p q:D} (h:f (iT ρ)=some (.tup [p,q])):KN (aV f) (KL i j) ρ=.nx ((ρ.set i (.ro p)).set j (.ro q)):=by
 unfold KN aV
 rw [h]
 rfl
theorem UK {r l:List Int} (hr:r.Nodup) (hl:l.Nodup):sortI (r++l.filter fun t=>!r.contains t)=both r l:=by
 refine DA ?_ ((BJ r l).imp fun h=>by omega)
 refine (List.perm_ext_iff_of_nodup ((BJ r l).imp fun h=>by omega) ?_).2 fun t=>?_
 ·rw [List.nodup_append]
  refine ⟨hr,List.Pairwise.filter _ hl,fun a ha b hb e=>?_⟩
  have:=(List.mem_filter.1 hb).2
  rw [<- e] at this
  simp [ha] at this
 ·rw [DD,List.mem_append,List.mem_filter]
  by_cases h:t∈r
  ·simp [h]
  ·simp [h]
theorem DO {x:List (List Int)} (hx:Ord.Rows x) (hn:x.length<=9) {a b:Int} (ha:0<=a/\a<(x.length:Int)) (hb:0<=b/\b<(x.length:Int)):iV [aK x,.int a,.int b]=.ok (aK (put x a b)):=by
 unfold iV
 have hs:=short hx hn
 have rn:∀ c:Int,0<=c->c<(x.length:Int)->(row x c).Nodup/\(row x c).length<=9:=fun c h0 h1=>by
  have e:=S4.iA h0 h1
  exact ⟨(hx.up _ _ e).imp fun q=>by omega,hs _ (List.mem_of_getElem? e)⟩
 have ra:=rn a ha.1 ha.2
 have hlow:(row x a++[a]).Nodup:=by
  rw [List.nodup_append]
  refine ⟨ra.1,by simp,fun s h1 t h2 e=>?_⟩
  rw [List.mem_singleton] at h2
  have:=hx.irr a.toNat (row x a) (S4.iA ha.1 ha.2)
  rw [show ((a.toNat:Nat):Int)=a by omega] at this
  exact this (by rw [e,h2] at h1; exact h1)
 have hpl:=dN x a b
 have main:Rt ((aJ (aO 3 (aE cB (bU pZ (aA (aE cQ (aB 0) (aB 1)) aC)) (eZ (aA (aB 1) aC))))
  (aJ (iN 4 (eZ aC))
  (aJ (dP (aP (aA (bU bV (aA (aB 0) aC)) aC)) (j9 5)
   (aJ (aO 6 (bU pZ (aA (aE cQ (aB 0) (aB 5)) aC)))
   (aJ (fI (oR (tV (aE jW (aB 5) (aB 2))) (tV (aE (lC false) (aB 2) (aE cQ (aB 0) (aB 5)))))
    (aO 6 (aE cB (aB 6) (bZ 1 [6] (cR (aB 3)) (g1 0) (tV (aE (lC true) (aB 0) (aB 1))) (aB 0))))
    dA)
   (sX (mB 4 gQ (aV (bU bW (aA (bU fL (aA (aB 6) aC)) aC))))))))
  (aS (bU bW (aA (aB 4) aC)))))) (dR 7 [aK x,.int a,.int b])) fun d=>d=aK (put x a b):=by
  refine cN [.ro (aK x),.ro (.int a),.ro (.int b),.ro (aI (row x a++[a])),.no,.no,.no] (gR (aI (row x a++[a])) (bL (x:=aI (row x a)) (y:=aI [a]) (fO (x:=tupI (row x a)) (bL (x:=aK x) (y:=.int a) rfl rfl (jM ha.1 ha.2)) rfl) rfl (by unfold aI; rw [vN (by simp; omega),List.map_append])) rfl) ?_
  refine cN [.ro (aK x),.ro (.int a),.ro (.int b),.ro (aI (row x a++[a])),.ow (.lst []),.no,.no] rfl ?_
  refine sA (fun ρ=>∃ v5 v6,ρ=[.ro (aK x),.ro (.int a),.ro (.int b),.ro (aI (row x a++[a])),.ow (.lst (((put x a b).take x.length).map tupI)),v5,v6]) ?_ fun ρ ⟨v5,v6,e⟩=>?_
  ·refine mJ x.length (fun i ρ=>∃ v5 v6,ρ=[.ro (aK x),.ro (.int a),.ro (.int b),.ro (aI (row x a++[a])),.ow (.lst (((put x a b).take i).map tupI)),v5,v6]) (args1 (fO rfl fE)) (by omega) ⟨_,_,rfl⟩ (fun i ρ hi ⟨v5,v6,e⟩=>?_) fun ρ h=>h
   subst e
   have ri:=rn i (by omega) (by omega)
   have hrow:row (put x a b) (i:Int)=uC b (row x a++[a]) (row x i,i):=by
    have:=BK (x:=x) (a:=a) (b:=b) (d:=(i:Int)) (by omega) (by omega)
    rw [Int.toNat_natCast] at this
    exact this
   refine ⟨[.ro (aK x),.ro (.int a),.ro (.int b),.ro (aI (row x a++[a])),.ow (.lst (((put x a b).take i).map tupI)),.ro (.int i),v6],rfl,?_⟩
   refine IJ [.ro (aK x),.ro (.int a),.ro (.int b),.ro (aI (row x a++[a])),.ow (.lst (((put x a b).take i).map tupI)),.ro (.int i),.ro (aI (row x i))] (gR (aI (row x i)) (fO (x:=tupI (row x i)) (bL (x:=aK x) (y:=.int i) rfl rfl (jM (by omega) (by omega))) rfl) rfl) ?_
   refine FT (fun ρ=>∃ r:List Int,(r.length<64/\sortI r=row (put x a b) (i:Int))/\ρ=[.ro (aK x),.ro (.int a),.ro (.int b),.ro (aI (row x a++[a])),.ow (.lst (((put x a b).take i).map tupI)),.ro (.int i),.ro (aI r)]) ?_ fun ρ ⟨r,hr,e⟩=>?_
   ·refine IK (decide ((i:Int)=b)||(row x i).contains b) ?_ (fun hc=>?_) fun hc=>BG ⟨row x i,⟨by omega,?_⟩,rfl⟩
    ·refine T4 (b:=decide ((i:Int)=b)) (rN (bL rfl rfl eK) rfl) (fun h=>?_) fun h=>by rw [h]; rfl
     rw [h,Bool.false_or]
     exact rN (bL (x:=.int b) (y:=tupI (row x i)) rfl (bL (x:=aK x) (y:=.int i) rfl rfl (jM (by omega) (by omega))) j1) rfl
    ·have hfl:((row x a++[a]).filter fun t=>!(row x i).contains t).length<=10:=Nat.le_trans (List.length_filter_le _ _) (by rw [List.length_append]; simp; omega)
     refine N7 (aI (row x i++(row x a++[a]).filter fun t=>!(row x i).contains t)) (bL (x:=aI (row x i)) (y:=aI ((row x a++[a]).filter fun t=>!(row x i).contains t)) rfl ?_ ?_) ⟨_,⟨by rw [List.length_append]; omega,?_⟩,rfl⟩
     ·refine mI ((row x a++[a]).map D.int) rfl (by rw [List.length_map,List.length_append]; simp; omega) ?_
      exact iG D.int (fun t=>!(row x i).contains t) D.int _ fun t _=>⟨[some (.int t),some (aI (row x i))],rfl,rN (bL rfl rfl uP) rfl,fun _=>rfl⟩
     ·unfold aI
      rw [vN (by rw [List.length_map,List.length_map]; omega),List.map_append]
     ·rw [UK ri.1 hlow,hrow]
      unfold uC
      rw [if_pos hc]
    ·rw [hrow]
     unfold uC
     rw [if_neg (by rw [hc]; decide)]
     have e:=S4.iA (x:=x) (b:=(i:Int)) (by omega) (by omega)
     exact DA (List.Perm.refl _) ((hx.up _ _ e).imp fun q=>by omega)
   ·subst e
    refine ⟨_,aB5 (d:=tupI (row (put x a b) i)) (ds:=((put x a b).take i).map tupI) (fO (x:=aI (row (put x a b) i)) (fO (x:=aI r) rfl (by rw [<- hr.2]; exact sorted_ints hr.1)) rfl) rfl (by rw [List.length_map,List.length_take]; omega),.ro (.int i),.ro (aI r),?_⟩
    have e6:(put x a b).take (i+1)=(put x a b).take i++[row (put x a b) i]:=by
     rw [List.take_succ]
     have:=S4.iA (x:=put x a b) (b:=(i:Int)) (by omega) (by rw [hpl]; omega)
     rw [Int.toNat_natCast] at this
     rw [this]
     rfl
    rw [e6,List.map_append]
    rfl
  ·subst e
   rw [List.take_of_length_le (by rw [hpl]; exact Nat.le_refl _)]
   exact sC _ rfl rfl
 obtain ⟨d,e,rfl⟩:=sD rfl main
 exact e
theorem PD {x:List (List Int)} {p:Int×Int} (h:p∈loose x):(0<=p.1/\p.1<(x.length:Int))/\(0<=p.2/\p.2<(x.length:Int))/\fA x p.1 p.2=true:=by
 unfold loose at h
 obtain ⟨a,ha,hp⟩:=List.mem_flatMap.1 h
 unfold dH at hp
 obtain ⟨b,hb,rfl⟩:=List.mem_map.1 hp
 have h1:=dQ.1 ha
 have h2:=List.mem_filter.1 hb
 have h3:=dQ.1 h2.1
 exact ⟨by dsimp only; omega,by dsimp only; omega,h2.2⟩
theorem sM (x:List (List Int)):∀ k,k<=x.length->((bG 0 k).flatMap (dH x)).length<=k*x.length
 | 0,_=>by simp [bG]
 | k+1,h=>by
  have ih:=sM x k (by omega)
  have h2:=mL x (a:=0+(k:Int)) (by omega)
  rw [i8,List.flatMap_append,List.length_append,Nat.succ_mul]
  simp only [List.flatMap_cons,List.flatMap_nil,List.append_nil]
  omega
theorem GB {x:List (List Int)} (hn:x.length<=9):gU [aK x]=.ok (.lst ((loose x).map pairD)):=by
 unfold gU
 have main:Rt ((aJ (iN 1 (eZ aC))
  (aJ (dP (aP (aA (bU bV (aA (aB 0) aC)) aC)) (j9 2)
   (dP (aP (aA (aE cB (aB 2) (eC (.int 1))) (aA (bU bV (aA (aB 0) aC)) aC))) (j9 3)
    (fI (lW (tV (aE (lC true) (aB 2) (aE cQ (aB 0) (aB 3)))) (tV (aE (lC true) (aB 3) (aE cQ (aB 0) (aB 2)))))
     (sX (mB 1 gQ (aV (fJ (aA (aB 2) (aA (aB 3) aC))))))
     dA)))
  (aS (aB 1)))) (dR 4 [aK x])) fun d=>d=.lst ((loose x).map pairD):=by
  refine cN [.ro (aK x),.ow (.lst []),.no,.no] rfl ?_
  refine sA (fun ρ=>∃ v2 v3,ρ=[.ro (aK x),.ow (.lst ((loose x).map pairD)),v2,v3]) ?_ fun ρ ⟨v2,v3,e⟩=>by subst e; exact sC _ rfl rfl
  refine mJ x.length (fun i ρ=>∃ v2 v3,ρ=[.ro (aK x),.ow (.lst (((bG 0 i).flatMap (dH x)).map pairD)),v2,v3]) (args1 (fO rfl fE)) (by omega) ⟨_,_,rfl⟩ (fun i ρ hi ⟨v2,v3,e⟩=>?_) fun ρ h=>h
  subst e
  refine ⟨[.ro (aK x),.ow (.lst (((bG 0 i).flatMap (dH x)).map pairD)),.ro (.int i),v3],rfl,?_⟩
  have hl0:=sM x i (by omega)
  have hl1:i*x.length<=9*9:=Nat.mul_le_mul (by omega) hn
  generalize hA:(bG 0 i).flatMap (dH x)=A at hl0
  have hnext:(bG 0 (i+1)).flatMap (dH x)=A++dH x i:=by
   rw [i8,List.flatMap_append,hA,Int.zero_add]
   simp
  rw [hnext]
  have hm:((x.length:Int) - ((i:Int)+1)).toNat=x.length - (i+1):=by omega
  let R:Nat->List (Int×Int):=fun j=>((bG ((i:Int)+1) j).filter fun b=>fA x i b).map fun b=>((i:Int),b)
  refine FU ((bG ((i:Int)+1) (x.length - (i+1))).map D.int) (fun j ρ=>∃ v3,ρ=[.ro (aK x),.ow (.lst ((A++R j).map pairD)),.ro (.int i),v3]) ?_ ⟨v3,by simp [R,bG]⟩ (fun j d ρ hd ⟨v3,e⟩=>?_) fun ρ ⟨v3,e⟩=>⟨.ro (.int i),v3,?_⟩
  ·have:=W4 (a:=aE cB (aB 2) (eC (.int 1))) (b:=bU bV (aA (aB 0) aC)) (ρ:=iT [.ro (aK x),.ow (.lst (A.map pairD)),.ro (.int i),v3]) (i:=(i:Int)+1) (j:=(x.length:Int)) rfl (fO rfl fE) (by omega) (by omega)
   rw [this,hm]
  ·subst e
   have hj:j<x.length - (i+1):=by
    have:=(List.getElem?_eq_some_iff.1 hd).1
    simpa [aU] using this
   rw [List.getElem?_map,kH hj] at hd
   cases hd
   obtain ⟨b,hb⟩:∃ b:Int,(i:Int)+1+(j:Int)=b:=⟨_,rfl⟩
   rw [hb]
   have hlb:fA x i b=(!(row x b).contains (i:Int) && !(row x i).contains b):=by
    unfold fA
    rw [decide_eq_false (by omega)]; skip
    rfl
   have hRs:R (j+1)=R j++(if fA x i b=true then [((i:Int),b)] else []):=by
    show ((bG ((i:Int)+1) (j+1)).filter fun b=>fA x i b).map _=_
    rw [i8,hb,List.filter_append,List.map_append]
    congr 1
    by_cases h:fA x i b=true
    ·rw [if_pos h,List.filter_cons_of_pos h]; rfl
    ·rw [if_neg h,List.filter_cons_of_neg h]; rfl
   have hRl:(R j).length<=9:=by
    show (((bG ((i:Int)+1) j).filter _).map _).length<=9
    rw [List.length_map]
    refine Nat.le_trans (List.length_filter_le _ _) ?_
    rw [aU]
    omega
   refine ⟨[.ro (aK x),.ow (.lst ((A++R j).map pairD)),.ro (.int i),.ro (.int b)],rfl,?_⟩
   refine IK (fA x i b) ?_ (fun hc=>?_) fun hc=>BG ⟨.ro (.int b),?_⟩
   ·rw [hlb]
    refine W5 (b:=!(row x b).contains (i:Int)) (rN (bL (x:=.int i) (y:=tupI (row x b)) rfl (bL (x:=aK x) (y:=.int b) rfl rfl (jM (by omega) (by omega))) j1) rfl) (fun h=>?_) fun h=>by rw [h]; rfl
    rw [h,Bool.true_and]
    exact rN (bL (x:=.int b) (y:=tupI (row x i)) rfl (bL (x:=aK x) (y:=.int i) rfl rfl (jM (by omega) (by omega))) j1) rfl
   ·refine ⟨_,aB5 (d:=pairD ((i:Int),b)) (ds:=(A++R j).map pairD) rfl rfl (by rw [List.length_map,List.length_append]; omega),.ro (.int b),?_⟩
    rw [hRs,if_pos hc,<- List.append_assoc,List.map_append (l₁:=A++R j)]
    rfl
   ·rw [hRs,if_neg (by rw [hc]; decide),List.append_nil]
  ·rw [e,List.length_map,aU]
   show [Sv.ro (aK x),Sv.ow (.lst ((A++R (x.length - (i+1))).map pairD)),Sv.ro (.int i),v3]=_
   unfold dH
   rw [hm]
 obtain ⟨d,e,rfl⟩:=sD rfl main
 exact e
theorem YZ {x:List (List Int)} {a b:Int} (hx:Ord.Rows x) (hn:x.length<=9) (ha:thing x.length a=true) (hb:thing x.length b=true) (h:fA x a b=true) (hl:lU x a b=false/\lU x b a=false):wJ [aK x,.int a,.int b]=.ok (.tup [aK (put x a b),aK (put x b a)]):=by
 unfold wJ
 have e1:=OO (by omega) (short hx hn) ha hb hl.1
 have e2:=OO (by omega) (short hx hn) hb ha hl.2
 refine gA rfl (dG _ (aB1 rfl ha hb) (dG _ (rM (tnE (b:=true) (rN (e8 rfl rfl rfl (qC (fT.mp ha) (fT.mp hb))) (by rw [h]; rfl)) rfl) rfl) ?_))
 unfold vB
 rw [rc3 (o:=none) rfl rfl rfl (by rw [e1]; rfl)]
 refine gB ?_
 unfold fJ
 rw [args2 (e8 rfl rfl rfl e1) (e8 rfl rfl rfl e2)]
 rfl
theorem Y0 (ns:List Int) (a s:Int):∃ k,lI [.lD ns,.int a,.int s]=.ok (.int k)/\k.natAbs<=10 ^ 60:=by
 obtain ⟨c,ec⟩:=nU ns a
 obtain ⟨c2,ec2⟩:=nU ns (a+1)
 obtain ⟨xs,xl,_,ex⟩:=mK c 2 s (by decide) (by decide)
 have m60:∀ ρ,aE uA (eC (.int 10)) (eC (.int 60)) ρ=some (.int (10 ^ 60)):=fun ρ=>OJ (i:=10) (j:=60) ρ (by decide +kernel)
 have p60:(0:Int)<10 ^ 60:=by decide +kernel
 have b60:(1000:Nat)<10 ^ 60:=by decide +kernel
 obtain ⟨g,g0,g1,eg⟩:=OK c2 (s+10007) p60
 have gb:g.natAbs<=10 ^ 60:=by
  have e:((10:Int) ^ 60).natAbs=10 ^ 60:=by decide +kernel
  omega
 match xs,xl,ex with
 | [p,q],_,ex =>
  unfold lI
  have first:∀ {b:SF} {d:D},b [.ro (.lD ns),.ro (.int a),.ro (.int s),.ro (aI [p,q]),.no]=.rt d->aJ (aO 3 (aG LL.cM (aA (aG LL.cL (aA (aB 0) (aA (aB 1) aC))) (aA (eC (.int 2)) (aA (aB 2) aC))))) b (dR 5 [.lD ns,.int a,.int s])=.rt d:=fun h=>dG _ (gR (aI [p,q]) (e8 (dU rfl rfl ec) rfl rfl ex) rfl) h
  have tst:tV (aE jW (aE fH (aE cQ (aB 3) (eC (.int 0))) (eC (.int 3))) (eC (.int 0))) (cC [.ro (.lD ns),.ro (.int a),.ro (.int s),.ro (aI [p,q]),.no])=some (decide (p % 3=0)):=rN (bL (x:=.int (p % 3)) (y:=.int 0) (bL (x:=.int p) (y:=.int 3) rfl rfl (dI (by decide))) rfl eK) rfl
  by_cases h0:p % 3=0
  ·refine ⟨q % 23 - 11,gA rfl (first (vM (FR (by rw [tst,decide_eq_true h0]) (gB (bL (x:=.int (q % 23)) (y:=.int 11) (bL (x:=.int q) (y:=.int 23) rfl rfl (dI (by decide))) rfl rfl))))),by omega⟩
  ·have next:∀ {b:SF} {d:D},b [.ro (.lD ns),.ro (.int a),.ro (.int s),.ro (aI [p,q]),.ro (.int g)]=.rt d->aJ (aO 4 (aG LL.fS (aA (aG LL.cL (aA (aB 0) (aA (aE cB (aB 1) (eC (.int 1))) aC))) (aA (aE uA (eC (.int 10)) (eC (.int 60))) (aA (aE cB (aB 2) (eC (.int 10007))) aC))))) b [.ro (.lD ns),.ro (.int a),.ro (.int s),.ro (aI [p,q]),.no]=.rt d:=fun h=>dG _ (gR (.int g) (e8 (x:=.int c2) (y:=.int (10 ^ 60)) (z:=.int (s+10007)) (dU (x:=.lD ns) (y:=.int (a+1)) rfl rfl ec2) (m60 _) rfl eg) rfl) h
   have ts2:tV (aE jW (aE fH (aE cQ (aB 3) (eC (.int 1))) (eC (.int 2))) (eC (.int 1))) (cC [.ro (.lD ns),.ro (.int a),.ro (.int s),.ro (aI [p,q]),.ro (.int g)])=some (decide (q % 2=1)):=rN (bL (x:=.int (q % 2)) (y:=.int 1) (bL (x:=.int q) (y:=.int 2) rfl rfl (dI (by decide))) rfl eK) rfl
   by_cases h1:q % 2=1
   ·exact ⟨-g,gA rfl (first (dG _ (rM (by rw [tst,decide_eq_false h0]) rfl) (next (vM (FR (by rw [ts2,decide_eq_true h1]) (gB rfl)))))),by omega⟩
   ·exact ⟨g,gA rfl (first (dG _ (rM (by rw [tst,decide_eq_false h0]) rfl) (next (dG _ (rM (by rw [ts2,decide_eq_false h1]) rfl) (gB rfl))))),gb⟩
abbrev st (ns:List Int) (x:List (List Int)) (p q r:Int) (a b:Int) (v6 v7 v8 v9 v10:Sv):aR:=[.ro (.lD ns),.ro (aK x),.ro (.lst ((loose x).map pairD)),.ro (aI [p,q,r]),.ro (.int a),.ro (.int b),v6,v7,v8,v9,v10]
theorem zQ {x:List (List Int)} {a b:Int} (h:fA x a b=true):fA x b a=true/\(a≠b)/\lU x a b=false/\lU x b a=false:=by
 unfold fA at h ⊢
 unfold lU
 simp only [Bool.and_eq_true,Bool.not_eq_true',decide_eq_false_iff_not] at h ⊢
 obtain ⟨h1,h2,h3⟩:=h
 rw [h2,h3]
 simp only [Bool.or_false,decide_eq_false_iff_not]
 exact ⟨⟨Ne.symm h1,trivial,trivial⟩,h1,h1,Ne.symm h1⟩
theorem PF (ns:List Int) (hns:ns.length<=63):qE [.lD ns]=.ok (.bl true):=by
 obtain ⟨d,ed,x,hl9,hx,rfl⟩:=OB ns 0 9 100003 (by decide) (by decide)
 have hn:x.length<=9:=by omega
 have hlen:=sM x x.length (Nat.le_refl _)
 have h81:x.length*x.length<=9*9:=Nat.mul_le_mul hn hn
 have hll:(loose x).length<=81:=by unfold loose; omega
 have lp:=vV (rows:=x) (by omega)
 have ll:=GB (x:=x) hn
 have sp:bE 6 [.tup ((loose x).map pairD),.tup ((loose x).map pairD)]=.ok (.bl true):=same_refl 6 _ ⟨by rw [List.length_map]; omega,fun d hd=>by
  obtain ⟨p,_,rfl⟩:=List.mem_map.1 hd
  exact vT (n:=3) (xs:=[p.1,p.2]) (by simp)⟩
 obtain ⟨c2,ec2⟩:=nU ns 2
 obtain ⟨hs,hsl,hsp,eh⟩:=mK c2 3 200017 (by decide) (by decide)
 obtain ⟨k,ek,hk⟩:=Y0 ns 3 300007
 obtain ⟨c5,ec5⟩:=nU ns 5
 obtain ⟨dr,drl,_,edr⟩:=mK c5 (x.length:Int) 400009 (by omega) (by omega)
 have hdr:dr.length=x.length:=by rw [drl]; omega
 match hs,hsl,hsp,eh with
 | [p,q,r],_,hsp,eh =>
  have fin:Rt (((aJ (aO 1 (aG LL.eO (aA (aB 0) (aA (eC (.int 0)) (aA (eC (.int 9)) (aA (eC (.int 100003)) aC))))))
  (aJ (aO 2 (aG gU (aA (aB 1) aC)))
  (aJ (fI (fZ (tV (aG (LL.bE 6) (aA (aG LL.eF (aA (aB 1) aC)) (aA (bU bW (aA (aB 2) aC)) aC)))))
   (aS (eC (.bl false)))
   dA)
  (aJ (fI (tV (aE jW (bU bV (aA (aB 2) aC)) (eC (.int 0))))
   (aS (eC (.bl true)))
   dA)
  (aJ (aO 3 (aG LL.cM (aA (aG LL.cL (aA (aB 0) (aA (eC (.int 2)) aC))) (aA (eC (.int 3)) (aA (eC (.int 200017)) aC)))))
  (aJ (KN (aV (aE cQ (aB 2) (aE fH (aE cB (aE cQ (aB 3) (eC (.int 0))) (aE mulM (eC (.int 64)) (aE cQ (aB 3) (eC (.int 1))))) (bU bV (aA (aB 2) aC))))) (KL 4 5))
  (aJ (fI (tV (aE jW (aE fH (aE cQ (aB 3) (eC (.int 2))) (eC (.int 2))) (eC (.int 1))))
   (TK 4 5 (aA (aB 5) (aA (aB 4) aC)))
   dA)
  (aJ (aO 6 (fJ (aA (aG LL.iV (aA (aB 1) (aA (aB 4) (aA (aB 5) aC)))) (aA (aG LL.iV (aA (aB 1) (aA (aB 5) (aA (aB 4) aC)))) aC))))
  (aJ (fI (fZ (tV (aG (LL.bE 6) (aA (aG wJ (aA (aB 1) (aA (aB 4) (aA (aB 5) aC)))) (aA (aB 6) aC)))))
   (aS (eC (.bl false)))
   dA)
  (aJ (aO 7 (aG lI (aA (aB 0) (aA (eC (.int 3)) (aA (eC (.int 300007)) aC)))))
  (aJ (fI (fZ (tV (aG (LL.bE 6) (aA (aG LL.dO (aA (aB 1) (aA (aB 7) aC))) (aA (aE cB (aG LL.dO (aA (aE cQ (aB 6) (eC (.int 0))) (aA (aB 7) aC))) (aG LL.dO (aA (aE cQ (aB 6) (eC (.int 1))) (aA (aB 7) aC)))) aC)))))
   (aS (eC (.bl false)))
   dA)
  (aJ (aO 8 (bZ 1 [] (cR (aG LL.cM (aA (aG LL.cL (aA (aB 0) (aA (eC (.int 5)) aC))) (aA (bU bV (aA (aB 1) aC)) (aA (eC (.int 400009)) aC))))) (g1 0) dC (aE cB (eC (.int 1)) (aE fH (aB 0) (eC (.int 4))))))
  (aJ (aO 9 (aG LL.dD (aA (aE cQ (aB 6) (eC (.int 0))) (aA (aB 8) aC))))
  (aJ (aO 10 (aG LL.dD (aA (aE cQ (aB 6) (eC (.int 1))) (aA (aB 8) aC))))
  (aS (iM (rP (iM (aB 9) (aB 10))) (aE jW (aG LL.dD (aA (aB 1) (aA (aB 8) aC))) (NU (aB 9) (aB 10)))))))))))))))))))) (dR 11 [.lD ns])) fun d=>d=.bl true:=by
   refine cN [.ro (.lD ns),.ro (aK x),.no,.no,.no,.no,.no,.no,.no,.no,.no] (gR _ (YJ rfl rfl rfl rfl ed) rfl) ?_
   refine cN [.ro (.lD ns),.ro (aK x),.ro (.lst ((loose x).map pairD)),.no,.no,.no,.no,.no,.no,.no,.no] (gR _ (vR rfl ll) rfl) ?_
   refine cN _ (rM (tnE (b:=true) (rN (dU (vR rfl lp) (fO rfl rfl) sp) rfl) rfl) rfl) ?_
   have XD:bU bV (aA (aB 2) aC) (cC [.ro (.lD ns),.ro (aK x),.ro (.lst ((loose x).map pairD)),.no,.no,.no,.no,.no,.no,.no,.no])=some (.int ((loose x).length:Nat)):=fO rfl (by show some (D.int (((loose x).map pairD).length:Nat))=_; rw [List.length_map])
   by_cases h0:(loose x).length=0
   ·refine TZ ?_
    exact ⟨.bl true,FR (rN (bL (x:=.int ((loose x).length:Nat)) (y:=.int 0) XD rfl eK) (by rw [i7,decide_eq_true (by omega)])) (gB rfl),rfl⟩
   refine cN _ (rM (rN (bL (x:=.int ((loose x).length:Nat)) (y:=.int 0) XD rfl eK) (by rw [i7,decide_eq_false (by omega)])) rfl) ?_
   refine cN [.ro (.lD ns),.ro (aK x),.ro (.lst ((loose x).map pairD)),.ro (aI [p,q,r]),.no,.no,.no,.no,.no,.no,.no] (gR _ (e8 (dU rfl rfl ec2) rfl rfl eh) rfl) ?_
   have m0:=Int.emod_nonneg (p+64*q) (b:=((loose x).length:Int)) (by omega)
   have m1:=Int.emod_lt_of_pos (p+64*q) (b:=((loose x).length:Int)) (by omega)
   obtain ⟨t,ht,et,_⟩:=vQ (xs:=loose x) m0 m1
   obtain ⟨ha,hb,hlo⟩:=PD ht
   refine cN (st ns x p q r t.1 t.2 .no .no .no .no .no) (aFg (p:=.int t.1) (q:=.int t.2) (bL (x:=.lst ((loose x).map pairD)) (y:=.int ((p+64*q) % ((loose x).length:Int))) rfl (bL (x:=.int (p+64*q)) (y:=.int ((loose x).length:Int)) (bL (x:=.int p) (y:=.int (64*q)) rfl (bL (x:=.int 64) (y:=.int q) rfl rfl (oY (by decide))) iF) (fO rfl (by show some (D.int (((loose x).map pairD).length:Nat))=_; rw [List.length_map])) (dI (by omega))) (by rw [p7,qA,et]; rfl))) ?_
   refine sA (fun ρ=>∃ a b:Int,((0<=a/\a<(x.length:Int))/\(0<=b/\b<(x.length:Int))/\fA x a b=true)/\ρ=st ns x p q r a b .no .no .no .no .no) ?_ fun ρ ⟨a,b,⟨ha,hb,hlo⟩,e⟩=>?_
   ·exact IK (decide (r % 2=1)) (rN (bL (x:=.int (r % 2)) (y:=.int 1) (bL (x:=.int r) (y:=.int 2) rfl rfl (dI (by decide))) rfl eK) rfl) (fun _=>⟨st ns x p q r t.2 t.1 .no .no .no .no .no,rfl,t.2,t.1,⟨hb,ha,(zQ hlo).1⟩,rfl⟩) fun _=>BG ⟨t.1,t.2,⟨ha,hb,hlo⟩,rfl⟩
   ·subst e
    obtain ⟨_,hab,hl1,hl2⟩:=zQ hlo
    have ta:=fT.2 ha
    have tb:=fT.2 hb
    have r1:=DF hx ta tb hl1
    have r2:=DF hx tb ta hl2
    have n1:=dN x a b
    have n2:=dN x b a
    have u1:=DO hx hn ha hb
    have u2:=DO hx hn hb ha
    have uc:=YZ hx hn ta tb hlo ⟨hl1,hl2⟩
    refine cN (st ns x p q r a b (.ro (.tup [aK (put x a b),aK (put x b a)])) .no .no .no .no) (gR (.tup [aK (put x a b),aK (put x b a)]) (by unfold fJ; rw [args2 (e8 (x:=aK x) (y:=.int a) (z:=.int b) rfl rfl rfl u1) (e8 (x:=aK x) (y:=.int b) (z:=.int a) rfl rfl rfl u2)]; rfl) rfl) ?_
    have sc:bE 6 [.tup [aK (put x a b),aK (put x b a)],.tup [aK (put x a b),aK (put x b a)]]=.ok (.bl true):=same_refl 6 _ ⟨by simp,fun d hd=>by
     simp only [List.mem_cons,List.not_mem_nil,or_false] at hd
     rcases hd with rfl | rfl
     ·exact vU (n:=2) (by omega) fun s hs=>by have:=short r1 (by omega) s hs; omega
     ·exact vU (n:=2) (by omega) fun s hs=>by have:=short r2 (by omega) s hs; omega⟩
    refine cN _ (rM (tnE (b:=true) (rN (dU (e8 rfl rfl rfl uc) rfl sc) rfl) rfl) rfl) ?_
    refine cN (st ns x p q r a b (.ro (.tup [aK (put x a b),aK (put x b a)])) (.ro (.int k)) .no .no .no) (gR _ (e8 rfl rfl rfl ek) rfl) ?_
    have hkb:Bg 208 k:=by
     have h60:(10:Nat) ^ 60<2 ^ 208:=by decide +kernel
     unfold Bg
     omega
    have cx:=wB hn (short hx hn) hkb
    have c1:=wB (x:=put x a b) (by omega) (short r1 (by omega)) hkb
    have c2:=wB (x:=put x b a) (by omega) (short r2 (by omega)) hkb
    rw [K1 hab ha hb k] at cx
    generalize DV (put x a b).length 0 (shares (put x a b)) k=V at cx c1
    generalize DV (put x b a).length 0 (shares (put x b a)) k=U at cx c2
    refine cN _ (rM (tnE (b:=true) (rN (dU (x:=.int (V+U)) (y:=.int (V+U)) (dU rfl rfl cx) (bL (x:=.int V) (y:=.int U) (dU (x:=aK (put x a b)) (y:=.int k) rfl rfl c1) (dU (x:=aK (put x b a)) (y:=.int k) rfl rfl c2) iF) (same_refl 6 (.int (V+U)) trivial)) rfl) rfl) rfl) ?_
    let fl:List Int:=dr.map fun d=>1+d % 4
    have hfl:fl.length=x.length:=by show (dr.map _).length=_; rw [List.length_map,hdr]
    refine cN (st ns x p q r a b (.ro (.tup [aK (put x a b),aK (put x b a)])) (.ro (.int k)) (.ro (aI fl)) .no .no) (gR (aI fl) ?_ rfl) ?_
    ·have e5:aI fl=.lst (dr.map fun d=>D.int (1+d % 4)):=by unfold aI; show D.lst ((dr.map fun d=>1+d % 4).map D.int)=_; rw [List.map_map]; rfl
     rw [e5]
     refine mI (dr.map D.int) ?_ (by rw [List.length_map]; omega) ?_
     ·unfold cR
      rw [e8 (x:=.int c5) (y:=.int (x.length:Int)) (z:=.int 400009) (dU rfl rfl ec5) (fO rfl fE) rfl edr]
      rfl
     ·exact nQ D.int (fun d=>.int (1+d % 4)) _ fun d _=>⟨[some (.int d)],rfl,bL (x:=.int 1) (y:=.int (d % 4)) rfl (bL (x:=.int d) (y:=.int 4) rfl rfl (dI (by decide))) iF⟩
    have rx:=pA hx hn (fl:=fl) hfl
    have ra:=pA r1 (by omega) (fl:=fl) (by rw [hfl,n1])
    have rb:=pA r2 (by omega) (fl:=fl) (by rw [hfl,n2])
    have hc:=YY hab hx r1 r2 ha hb fl
    rw [hc.2] at rx
    generalize rs (put x a b) fl=A at ra rx hc
    generalize rs (put x b a) fl=B at rb rx hc
    refine cN (st ns x p q r a b (.ro (.tup [aK (put x a b),aK (put x b a)])) (.ro (.int k)) (.ro (aI fl)) (.ro (.bl A)) .no) (gR _ (dU (x:=aK (put x a b)) (y:=aI fl) rfl rfl ra) rfl) ?_
    refine cN (st ns x p q r a b (.ro (.tup [aK (put x a b),aK (put x b a)])) (.ro (.int k)) (.ro (aI fl)) (.ro (.bl A)) (.ro (.bl B))) (gR _ (dU (x:=aK (put x b a)) (y:=aI fl) rfl rfl rb) rfl) ?_
    refine sC (.bl true) ?_ rfl
    have erx:aG LL.dD (aA (aB 1) (aA (aB 8) aC)) (cC (st ns x p q r a b (.ro (.tup [aK (put x a b),aK (put x b a)])) (.ro (.int k)) (.ro (aI fl)) (.ro (.bl A)) (.ro (.bl B))))=some (.bl (A||B)):=dU rfl rfl rx
    unfold iM rP NU
    have h1:=hc.1
    cases A<;>cases B
    ·rw [show aE jW (aG LL.dD (aA (aB 1) (aA (aB 8) aC))) (fun ρ=>(aB 9 ρ).bind fun x=>(mC x).bind fun c=>if c=true then some (D.bl true) else aB 10 ρ) (cC (st ns x p q r a b (.ro (.tup [aK (put x a b),aK (put x b a)])) (.ro (.int k)) (.ro (aI fl)) (.ro (.bl false)) (.ro (.bl false))))=some (.bl true) from bL erx rfl rfl]; rfl
    ·rw [show aE jW (aG LL.dD (aA (aB 1) (aA (aB 8) aC))) (fun ρ=>(aB 9 ρ).bind fun x=>(mC x).bind fun c=>if c=true then some (D.bl true) else aB 10 ρ) (cC (st ns x p q r a b (.ro (.tup [aK (put x a b),aK (put x b a)])) (.ro (.int k)) (.ro (aI fl)) (.ro (.bl false)) (.ro (.bl true))))=some (.bl true) from bL erx rfl rfl]; rfl
    ·rw [show aE jW (aG LL.dD (aA (aB 1) (aA (aB 8) aC))) (fun ρ=>(aB 9 ρ).bind fun x=>(mC x).bind fun c=>if c=true then some (D.bl true) else aB 10 ρ) (cC (st ns x p q r a b (.ro (.tup [aK (put x a b),aK (put x b a)])) (.ro (.int k)) (.ro (aI fl)) (.ro (.bl true)) (.ro (.bl false))))=some (.bl true) from bL erx rfl rfl]; rfl
    ·cases h1
  unfold qE
  obtain ⟨d,e,rfl⟩:=sD rfl fin
  exact e
end K30
end
section
-- CHANGE: your row's module here,as the last of these rows
namespace L2
open PySem PySem.Spec PyProof.Rows
abbrev Key:=Sum Int Str
def zR:Key->Value->Bool
 | .inl k,v=>Value.isInt k v
 | .inr x,v=>Value.isStrOf x v
def aFj (w:World):Key->Int
 | .inl k=>hashInt k
 | .inr x=>hashStr w x
theorem dM:∀ {k:Key} {v:Value},zR k v=true->(∃ i t,k=Sum.inl i/\v=Value.int i t)\/(∃ x t,k=Sum.inr x/\v=Value.str x t)
 | .inl i,v,h=>by
  obtain ⟨t,e⟩:=Value.isInt_shape (k:=i) (v:=v) h
  exact .inl ⟨i,t,rfl,e⟩
 | .inr x,v,h=>by
  obtain ⟨t,e⟩:=Value.isStrOf_shape (x:=x) (v:=v) h
  exact .inr ⟨x,t,rfl,e⟩
theorem K2 (i:Int) (t:Tok):zR (.inl i) (.int i t)=true:=by simp [zR,Value.isInt]
theorem K3 (x:Str) (t:Tok):zR (.inr x) (.str x t)=true:=by simp [zR,Value.isStrOf]
theorem Y1 (a b:Int):decide ((Sum.inl a:Key)=Sum.inl b)=(a == b):=by
 by_cases e:a=b
 ·subst e; simp
 ·have h:¬ (Sum.inl a:Key)=Sum.inl b:=fun q=>e (Sum.inl.inj q)
  rw [decide_eq_false h]
  exact (beq_eq_false_iff_ne.mpr e).symm
theorem Y2 (a b:Str):decide ((Sum.inr a:Key)=Sum.inr b)=decide (a=b):=by
 by_cases e:a=b
 ·subst e; simp
 ·have h:¬ (Sum.inr a:Key)=Sum.inr b:=fun q=>e (Sum.inr.inj q)
  rw [decide_eq_false h,decide_eq_false e]
theorem Y3 (a:Int) (b:Str):decide ((Sum.inl a:Key)=Sum.inr b)=false:=decide_eq_false (fun q=>nomatch q)
theorem Y4 (a:Str) (b:Int):decide ((Sum.inr a:Key)=Sum.inl b)=false:=decide_eq_false (fun q=>nomatch q)
def bB (prog:Program) (w:World):PySem.KeyKind prog w Key where
 is:=zR
 hash:=aFj w
 inj:=fun v a b ha hb=>by
  rcases dM ha with ⟨i,t,rfl,rfl⟩ | ⟨x,t,rfl,rfl⟩
  ·rcases dM hb with ⟨j,u,rfl,e⟩ | ⟨y,u,rfl,e⟩
   ·injection e with e1 _; rw [e1]
   ·exact nomatch e
  ·rcases dM hb with ⟨j,u,rfl,e⟩ | ⟨y,u,rfl,e⟩
   ·exact nomatch e
   ·injection e with e1 _; rw [e1]
 byValue:=fun k v h=>by
  rcases dM h with ⟨i,t,rfl,rfl⟩ | ⟨x,t,rfl,rfl⟩<;>rfl
 pyHash:=fun hv h=>by
  rcases dM hv with ⟨i,t,rfl,rfl⟩ | ⟨x,t,rfl,rfl⟩
  ·exact wpAny_pyHash_int h
  ·exact wpAny_pyHash_str h
 eqBool:=fun hu hv h=>by
  rcases dM hu with ⟨i,t,rfl,rfl⟩ | ⟨x,t,rfl,rfl⟩
  ·rcases dM hv with ⟨j,u,rfl,rfl⟩ | ⟨y,u,rfl,rfl⟩
   ·rw [Y1] at h; exact wpAny_eqBool_int h
   ·rw [Y3] at h; exact SeqAt.EqAt.int_str i t y u _ _ _ _ h
  ·rcases dM hv with ⟨j,u,rfl,rfl⟩ | ⟨y,u,rfl,rfl⟩
   ·rw [Y4] at h; exact SeqAt.EqAt.str_int x t j u _ _ _ _ h
   ·rw [Y2] at h; exact wpAny_eqBool_str h
 «strs»:=fun k x t v h=>by
  rcases dM h with ⟨i,u,rfl,e⟩ | ⟨y,u,rfl,e⟩
  ·exact nomatch e
  ·injection e with e1 _
   subst e1
   cases v<;>rfl
theorem DP (prog:Program) (w:World) (i:Int) (t:Tok):(bB prog w).is (.inl i) (.int i t)=true:=K2 i t
theorem DQ (prog:Program) (w:World) (x:Str) (t:Tok):(bB prog w).is (.inr x) (.str x t)=true:=K3 x t
end L2
namespace L2
open PySem PySem.Spec PyProof.Rows
abbrev N1:=List (Sum Key (List Key))
abbrev KX:=Sum Key N1
section
variable {prog:Program} {w:World} {K:Type} [dK:DecidableEq K] (knd:KeyKind prog w K)
def pE (h:Heap):Sum K (List K)->Value->Prop
 | .inl k,v=>knd.is k v=true
 | .inr ks,v=>∃ b,v=.ref b/\IsTupleKey knd h ks b
inductive gG (h:Heap):List (Sum K (List K))->List Value->Prop
 | nil:gG h [] []
 | cons {k:Sum K (List K)} {v:Value} {ks:List (Sum K (List K))} {vs:List Value}:pE knd h k v->gG h ks vs->gG h (k::ks) (v::vs)
def gW (h:Heap) (ks:List (Sum K (List K))) (a:Addr):Prop:=∃ o items n,h.get? a=some o/\o.cls=.type "tuple" /\ o.data=.seq items n/\gG knd h ks items.toList
variable {knd}
theorem pE.inj {h:Heap} {v:Value}:∀ {x y:Sum K (List K)},pE knd h x v->pE knd h y v->x=y
 | .inl a,.inl b,hx,hy=>by rw [knd.inj _ _ _ hx hy]
 | .inl a,.inr b,hx,⟨q,e,_⟩=>by subst e; exact absurd (knd.byValue _ _ hx) (by simp [carriedByValue])
 | .inr a,.inl b,⟨q,e,_⟩,hy=>by subst e; exact absurd (knd.byValue _ _ hy) (by simp [carriedByValue])
 | .inr a,.inr b,⟨q,e,hx⟩,⟨r,f,hy⟩=>by
  subst e
  injection f with f
  subst f
  rw [hx.inj hy]
theorem gG.inj {h:Heap} {x:List (Sum K (List K))} {vs:List Value} (hx:gG knd h x vs):∀ {y},gG knd h y vs->x=y:=by
 induction hx with
 | nil=>intro y hy; cases hy; rfl
 | cons h1 _ ih =>
  intro y hy
  cases hy with
  | cons h2 t2=>rw [h1.inj h2,ih t2]
theorem gW.typeIs {s:Shared} {ks:List (Sum K (List K))} {a:Addr} (x:gW knd s.heap ks a):s.TypeIs (.ref a) "tuple" := let ⟨o,_,_,ho,hc,_⟩:=x; ⟨o,ho,hc⟩
theorem gW.inj {h:Heap} {a:Addr} {x y:List (Sum K (List K))} (hx:gW knd h x a) (hy:gW knd h y a):x=y:=by
 obtain ⟨o,its,n,ho,_,hd,hi⟩:=hx
 obtain ⟨o',its',n',ho',_,hd',hi'⟩:=hy
 rw [ho] at ho'
 cases ho'
 rw [hd] at hd'
 cases hd'
 exact hi.inj hi'
theorem gW.keeps {h h':Heap} {ks:List (Sum K (List K))} {a d:Addr} {o:Obj} {es ep} (x:gW knd h ks a) (ho:h.get? d=some o) (hd:o.data=.dict es ep) (hs:Heap.SameBut d h h'):gW knd h' ks a:=by
 obtain ⟨q,items,n,hq,hc,hi,his⟩:=x
 have ne:a≠d:=fun z=>by
  subst z
  rw [hq] at ho
  cases ho
  rw [hi] at hd
  cases hd
 refine ⟨q,items,n,(hs.2 a ne).trans hq,hc,hi,?_⟩
 have go:∀ {ks:List (Sum K (List K))} {vs:List Value},gG knd h ks vs->gG knd h' ks vs:=by
  intro ks vs t
  induction t with
  | nil=>exact .nil
  | @cons k v ks vs h1 _ ih =>
   refine .cons ?_ ih
   cases k with
   | inl k=>exact h1
   | inr k=>obtain ⟨b,e,hb⟩:=h1; exact ⟨b,e,hb.keeps ho hd hs⟩
 exact go his
def qJ (knd:KeyKind prog w K):Sum K (List K)->Int
 | .inl k=>knd.hash k
 | .inr ks=>tupleKeyHash knd ks
def kL:Sum K (List K)->Nat
 | .inl _=>1
 | .inr ks=>ks.length+1
def wK (knd:KeyKind prog w K) (ks:List (Sum K (List K))):Int:=reduceHash (Builtin.Tuple.tupleHashOf (ks.map (qJ knd)))
def nX (ks:List (Sum K (List K))):Nat:=(ks.map kL).sum+1
variable {s:Shared} {A:Around} {E:Value->Shared->Prop}
theorem K4 {k:Sum K (List K)} {v:Value} {Q:Int->Shared->Prop} (hu:A.units<cLine) (hk:pE knd s.heap k v) (h:Q (qJ knd k) { s with toks:=s.toks+kL k }):wpAny (model prog w) A (pyHash v) Q E s:=by
 cases k with
 | inl k=>exact knd.pyHash hk h
 | inr k =>
  obtain ⟨b,e,hb⟩:=hk
  subst e
  exact wpAny_pyHash_tuple hu hb h
theorem wL {ks:List K} {b:Addr} {h:Heap} (x:IsTupleKey knd h ks b):∃ items,h.IsTuple b items:=by
 obtain ⟨o,items,n,ho,hc,hd,_⟩:=x
 exact ⟨items,o,ho,hc,n,hd⟩
end
section
variable {P:Program} {w:World} {A:Around} {E:Value->Shared->Prop} {s:Shared}
theorem UL {x y:Sum Key (List Key)} {u v:Value} {Q:Bool->Shared->Prop} (hu:A.units<cLine) (hx:pE (bB P w) s.heap x u) (hy:pE (bB P w) s.heap y v) (h:Q (decide (x=y)) s):wpAny (model P w) A (eqBool u v) Q E s:=by
 cases x with
 | inl x =>
  cases y with
  | inl y =>
   refine (bB P w).eqBool hx hy ?_
   rw [show decide (x=y)=decide ((Sum.inl x:Sum Key (List Key))=Sum.inl y) by simp]
   exact h
  | inr y =>
   obtain ⟨b,e,hb⟩:=hy
   subst e
   obtain ⟨its,hb⟩:=wL hb
   rw [show decide ((Sum.inl x:Sum Key (List Key))=Sum.inr y)=false by simp] at h
   rcases dM hx with ⟨i,t,rfl,rfl⟩ | ⟨i,t,rfl,rfl⟩
   ·exact SeqAt.EqAt.int_tuple i t hb hu P w E Q h
   ·exact SeqAt.EqAt.str_tuple i t hb hu P w E Q h
 | inr x =>
  obtain ⟨a,e,ha⟩:=hx
  subst e
  cases y with
  | inl y =>
   obtain ⟨its,ha⟩:=wL ha
   rw [show decide ((Sum.inr x:Sum Key (List Key))=Sum.inl y)=false by simp] at h
   rcases dM hy with ⟨i,t,rfl,rfl⟩ | ⟨i,t,rfl,rfl⟩
   ·exact SeqAt.EqAt.tuple_int i t ha hu P w E Q h
   ·exact SeqAt.EqAt.tuple_str i t ha hu P w E Q h
  | inr y =>
   obtain ⟨b,e,hb⟩:=hy
   subst e
   refine wpAny_eqBool_tuple hu ha hb ?_
   rw [show decide (x=y)=decide ((Sum.inr x:Sum Key (List Key))=Sum.inr y) by simp]
   exact h
theorem zS:∀ (rest:List Value) (left:List (Sum Key (List Key))) (b:Array Int) (s:Shared) (R:Array Int->Shared->Prop),A.units<cLine->gG (bB P w) s.heap left rest ->
  (∀ b':Array Int,b'.toList=b.toList++left.map (qJ (bB P w))->R b' { s with toks:=s.toks+(left.map kL).sum }) ->
  wpAny (model P w) A (forIn rest b fun x r=>do
   let r' <- pyHash x
   pure (ForInStep.yield (r.push r'))) R E s
 | [],left,b,s,R,hu,t,k=>by
  cases t
  exact wpAny_pure (k b (by simp))
 | v::rest,left,b,s,R,hu,t,k=>by
  cases t with
  | @cons kk _ ks _ h1 h2 =>
   rw [List.forIn_cons]
   refine wpAny_bind (wpAny_bind (K4 hu h1 (wpAny_pure ?_)))
   refine zS rest ks _ _ _ hu h2 fun b' e=>?_
   have:=k b' (by rw [e]; simp)
   simpa [Nat.add_assoc] using this
theorem K5 {ks:List (Sum Key (List Key))} {a:Addr} {Q:Int->Shared->Prop} (hu:A.units+1<cLine) (hk:gW (bB P w) s.heap ks a) (h:Q (wK (bB P w) ks) { s with toks:=s.toks+nX ks }):wpAny (model P w) A (pyHash (.ref a)) Q E s:=by
 have hT:=hk.typeIs
 obtain ⟨o,its,n,ho,_,hd,hi⟩:=hk
 have sl:=F.slot_tuple_hash
 unfold pyHash pyHashByItsType
 wp_walk using wpAny_cRoomFor_or (.inr (by omega)),wpAny_specialOf hT sl.lookup,(wpAny_callSpecialIfBoundUnlessNone?_slot hT sl (wpAny_call_entry sl hT F.entry_tuple_hash ?_ (F.args_tuple_hash_1 _)))
 rw [hd]
 refine wpAny_pure (wpAny_pure (wpAny_bind ?_))
 rw [<- Array.forIn_toList]
 refine zS its.toList ks #[] s _ hu hi fun b eb=>?_
 dsimp only
 rw [eb,List.nil_append]
 unfold wK reduceHash at h
 refine wpAny_ret_mkInt ?_
 have e2:s.toks+(ks.map kL).sum+1=s.toks+nX ks:=by unfold nX; omega
 show wpAny (model P w) A (pyHashByItsType.reduced _) Q E { s with toks:=s.toks+(ks.map kL).sum+1 }
 rw [e2]
 unfold pyHashByItsType.reduced
 generalize Builtin.Tuple.tupleHashOf (ks.map (qJ (bB P w)))=z at h ⊢
 by_cases hz:(decide (-(2 ^ 63:Int)<=z)&&decide (z<2 ^ 63))=true
 ·rw [if_pos hz] at h ⊢
  exact wpAny_pure h
 ·rw [if_neg hz] at h ⊢
  refine wpAny_bind (wpAny_rule ?_); exact wpAny_pure h
theorem eq_loop:∀ (x y:List (Sum Key (List Key))) (xs ys:List Value) (R:Option Fin×Unit->Shared->Prop),A.units<cLine->gG (bB P w) s.heap x xs->gG (bB P w) s.heap y ys ->
  (x≠y->R (some (.done (.ret (.bool false))),()) s)->((x=y↔xs.length=ys.length)->R (none,()) s) ->
  wpAny (model P w) A (forIn (xs.zip ys) ((none,()):Option Fin×Unit) fun p _=>do
   let c <- eqBool p.1 p.2
   if (!c)=true then do
    let q <- ret (Value.bool false)
    pure (ForInStep.done (some q,()))
   else pure (ForInStep.yield (none,()))) R E s
 | [],y,xs,ys,R,hu,hx,hy,k1,k2=>by
  cases hx
  refine wpAny_pure (k2 ?_)
  cases hy<;>simp
 | kx::x,[],xs,ys,R,hu,hx,hy,k1,k2=>by
  cases hx
  cases hy
  exact wpAny_pure (k2 (by simp))
 | kx::x,ky::y,xs,ys,R,hu,hx,hy,k1,k2=>by
  cases hx with
  | @cons _ u _ xs hx1 hx2 =>
   cases hy with
   | @cons _ v _ ys hy1 hy2 =>
    rw [List.zip_cons_cons,List.forIn_cons]
    refine wpAny_bind (wpAny_bind (UL hu hx1 hy1 ?_))
    by_cases hk:kx=ky
    ·subst hk
     rw [decide_eq_true rfl,if_neg (by decide)]
     refine wpAny_pure (eq_loop x y xs ys R hu hx2 hy2 (fun n=>k1 (by simpa using n)) fun e=>k2 ?_)
     simpa using e
    ·rw [decide_eq_false hk,if_pos (by decide)]
     exact wpAny_bind (wpAny_pure (wpAny_pure (wpAny_pure (k1 (by simp [hk])))))
theorem UM {x y:List (Sum Key (List Key))} {a b:Addr} {Q:Bool->Shared->Prop} (hu:A.units+1<cLine) (hx:gW (bB P w) s.heap x a) (hy:gW (bB P w) s.heap y b) (h:Q (decide (x=y)) s):wpAny (model P w) A (eqBool (.ref a) (.ref b)) Q E s:=by
 have tx:=hx.typeIs
 have ty:=hy.typeIs
 have sl:=F.slot_tuple_eq
 by_cases hab:a=b
 ·subst hab
  rw [hx.inj hy,decide_eq_true rfl] at h
  exact SeqAt.EqAt.same _ P w E Q h
 ·obtain ⟨oa,xs,na,hoa,_,hda,hia⟩:=hx
  obtain ⟨oc,ys,nb,hob,_,hdb,hib⟩:=hy
  unfold eqBool
  rw [if_neg (by simpa using hab)]
  have hu0:A.units<cLine:=by omega
  apply wpAny_holding; apply wpAny_bind
  refine (wpAny_richCompare_same_room (op:=.Eq) tx ty sl (wpAny_call_entry sl tx F.entry_tuple_eq ?_ (F.args_tuple_eq_2 _ _)) hu0)
  unfold Builtin.«tuple.__eq__»
  wp_walk using wpAny_isInstance ty isSubtype_tuple_tuple,wpAny_tupleItemsOf hoa hda,wpAny_tupleItemsOf hob hdb
  refine eq_loop x y xs.toList ys.toList _ hu hia hib (fun n=>?_) fun e=>?_
  ·rw [decide_eq_false n] at h
   exact wpAny_pure ⟨_,rfl,(fun z=>nomatch z),wpAny_truthy_bool h⟩
  ·refine wpAny_pure ⟨_,rfl,(fun z=>nomatch z),?_⟩
   have e2:(xs.size == ys.size)=decide (x=y):=by
    by_cases q:x=y
    ·rw [decide_eq_true q]; simpa using e.1 q
    ·rw [decide_eq_false q]; simpa using fun z=>q (e.2 z)
   show wpAny (model P w) A (truthOfDropped (.bool (xs.size == ys.size))) Q E s
   rw [e2]
   exact wpAny_truthy_bool h
theorem wM {d:Nat}:∀ (vs:List Value) (R:Option Bool×Unit->Shared->Prop),(∀ v∈vs,∀ Q:Bool->Shared->Prop,Q true s->wpAny (model P w) A (eqIsQuiet d v) Q E s)->R (none,()) s ->
  wpAny (model P w) A (forIn vs ((none,()):Option Bool×Unit) fun y _=>do
   let c <- eqIsQuiet d y
   if (!c)=true then pure (ForInStep.done (some false,()))
   else pure (ForInStep.yield (none,()))) R E s
 | [],R,hq,k=>wpAny_pure k
 | v::vs,R,hq,k=>by
  rw [List.forIn_cons]
  refine wpAny_bind (wpAny_bind (hq v List.mem_cons_self _ ?_))
  rw [if_neg (by decide)]
  exact wpAny_pure (wM vs R (fun u hu=>hq u (List.mem_cons_of_mem _ hu)) k)
theorem zT {d:Nat} {a:Addr} {o:Obj} {xs:Array Value} {n:Nat} {Q:Bool->Shared->Prop} (tx:s.TypeIs (Value.ref a) "tuple") (ho:s.heap.get? a=some o) (hd:o.data=.seq xs n) (hq:∀ v∈xs.toList,∀ Q:Bool->Shared->Prop,Q true s->wpAny (model P w) A (eqIsQuiet d v) Q E s) (h:Q true s) :
  wpAny (model P w) A (eqIsQuiet (d+1) (.ref a)) Q E s:=by
 have sl:=F.slot_tuple_eq
 unfold eqIsQuiet
 refine wpAny_bind (wpAny_specialOf tx sl.lookup ?_)
 show wpAny (model P w) A (isInstance (.ref a) (.type "tuple") >>= _) _ _ s
 refine wpAny_bind (wpAny_isInstance tx isSubtype_tuple_tuple ?_)
 rw [if_neg (by decide)]
 dsimp only
 refine wpAny_bind (wpAny_seqItems ho hd (wpAny_bind ?_))
 show wpAny _ _ (forIn xs _ _) _ _ s
 rw [<- Array.forIn_toList]
 exact wM xs.toList _ hq (wpAny_pure h)
theorem GC {x:List (Sum Key (List Key))} {a:Addr} {Q:Bool->Shared->Prop} (hx:gW (bB P w) s.heap x a) (h:Q true s):wpAny (model P w) A (eqIsQuiet 8 (.ref a)) Q E s:=by
 have tx:=hx.typeIs
 obtain ⟨o,xs,n,ho,_,hd,hi⟩:=hx
 refine zT (d:=7) tx ho hd ?_ h
 have go:∀ {ks:List (Sum Key (List Key))} {vs:List Value},gG (bB P w) s.heap ks vs -> ∀ v∈vs,∀ Q:Bool->Shared->Prop,Q true s->wpAny (model P w) A (eqIsQuiet 7 v) Q E s:=by
  intro ks vs t
  induction t with
  | nil=>intro v hv; cases hv
  | @cons k v ks vs h1 _ ih =>
   intro u hu Q k0
   rcases List.mem_cons.1 hu with e | hu
   ·subst e
    cases k with
    | inl k =>
     rw [eqIsQuiet_byValue _ ((bB P w).byValue _ _ h1)]
     exact wpAny_pure k0
    | inr k =>
     obtain ⟨b,e,hb⟩:=h1
     subst e
     have tb:=hb.typeIs
     obtain ⟨o',xs',n',ho',_,hd',hi'⟩:=hb
     refine zT (d:=6) tb ho' hd' (fun v' hv' Q' k'=>?_) k0
     rw [eqIsQuiet_byValue _ (hi'.byValue v' hv')]
     exact wpAny_pure k'
   ·exact ih u hu Q k0
 exact go hi
def kM (P:Program) (w:World):HeapKind P w (List (Sum Key (List Key))) where
 is:=gW (bB P w)
 hash:=wK (bB P w)
 draws:=nX
 room:=fun A=>A.units+1<cLine
 inj:=fun hx hy=>hx.inj hy
 keeps:=fun x ho he hs=>x.keeps ho he hs
 pyHash:=fun hu hk h=>K5 hu hk h
 eqBool:=fun hu hx hy h=>UM hu hx hy h
 quiet:=fun hk h=>GC hk h
theorem nest_room (hu:A.units+2<cLine):(kM P w).room A.in1:=hu
end
end L2
namespace L2
open PySem PySem.Spec PyProof.Rows
inductive V where
 | non | bl (b:Bool) | int (i:Int) | str (x:Str) | K6 (b:Array UInt8) | flt (b:UInt64) | ref (a:Addr) | ty (n:String)
 deriving DecidableEq
def RelV:V->Value->Prop
 | .non,u=>u=Value.none
 | .bl b,u=>u=Value.bool b
 | .int i,u=>∃ t,u=Value.int i t
 | .str x,u=>∃ t,u=Value.str x t
 | .K6 b,u=>∃ t,u=Value.bytes b t
 | .flt b,u=>∃ t,u=Value.float b t
 | .ref a,u=>u=Value.ref a
 | .ty n,u=>u=Value.type n
abbrev Vals:List V->List Value->Prop:=Paired RelV
theorem Vals.length {xs:List V} {us:List Value} (r:Vals xs us):xs.length=us.length:=Paired.length r
theorem Vals.get:∀ {xs:List V} {us:List Value} {i:Nat} {x:V},Vals xs us->xs[i]? = some x -> ∃ u,us[i]? = some u/\RelV x u
 | _,_,_,_,.nil,e=>by simp at e
 | _,_,0,_,.cons r _,e=>by simp at e; subst e; exact ⟨_,rfl,r⟩
 | _,_,i+1,x,.cons _ t,e=>by
  obtain ⟨u,h1,h2⟩:=Vals.get (i:=i) (x:=x) t (by simpa using e)
  exact ⟨u,by simpa using h1,h2⟩
theorem Vals.set {x:V} {u:Value} (r:RelV x u):∀ {xs:List V} {us:List Value} (i:Nat),Vals xs us->Vals (xs.set i x) (us.set i u)
 | _,_,_,.nil=>.nil
 | _,_,0,.cons _ t=>.cons r t
 | _,_,i+1,.cons q t=>.cons q (Vals.set r i t)
theorem Vals.append:∀ {xs ys:List V} {us ws:List Value},Vals xs us->Vals ys ws->Vals (xs++ys) (us++ws)
 | _,_,_,_,.nil,s=>s
 | _,_,_,_,.cons r t,s=>.cons r (Vals.append t s)
theorem Vals.take:∀ {xs:List V} {us:List Value} (n:Nat),Vals xs us->Vals (xs.take n) (us.take n)
 | _,_,0,_=>.nil
 | _,_,_+1,.nil=>.nil
 | _,_,n+1,.cons r t=>.cons r (Vals.take n t)
theorem Vals.drop:∀ {xs:List V} {us:List Value} (n:Nat),Vals xs us->Vals (xs.drop n) (us.drop n)
 | _,_,0,r=>r
 | _,_,_+1,.nil=>.nil
 | _,_,n+1,.cons _ t=>Vals.drop n t
def mP:Option V->Option Value->Prop
 | some v,some u=>RelV v u
 | none,none=>True
 | _,_=>False
def KV {κ:Type}:List (κ×V)->List (κ×Value)->Prop:=Paired fun (p:κ×V) (q:κ×Value)=>p.1=q.1/\RelV p.2 q.2
def kV:Key->V
 | .inl i=>.int i
 | .inr x=>.str x
inductive HO where
 | lst (xs:List V)
 | tup (xs:List V)
 | dK (kvs:List (Key×V)) | dT (kvs:List (List Key×V))
 | dX (o:Obj) (kvs:List (KX×V×V))
 | set (S:Int->Bool) (n:Nat)
 | ins (C dx:Addr) (fs:List (Str×V))
 | own (x:Addr)
 | xd (fs:List (Str×V))
 | met (f x:Addr)
 | rng (lo hi:Int)
 | DR (o:Obj) (u:HO)
 | XE (ps:Array Value)
 | ext (φ:Heap->Prop)
abbrev Hp:=Addr->Option HO
def upd (H:Hp) (a:Addr) (o:HO):Hp:=fun b=>if b=a then some o else H b
theorem bA {H:Hp} {a:Addr} {o:HO}:upd H a o a=some o:=by unfold upd; rw [if_pos rfl]
theorem bR {H:Hp} {a b:Addr} {o:HO} (h:b≠a):upd H a o b=H b:=by unfold upd; rw [if_neg h]
theorem XG {H:Hp} {a b:Addr} {o u:HO} (h:H a=some o) (h':H b=some u) (d:o≠u):a≠b:=by
 intro e; subst e; rw [h] at h'; exact d (Option.some.inj h')
theorem bX {H:Hp} {a b:Addr} {o:HO} (h:H a=some o) (h':H b=none):a≠b:=by
 intro e; subst e; rw [h] at h'; cases h'
def BU (H:Hp):Sum Key (List Key)->V->Prop
 | .inl k,v=>v=kV k
 | .inr ks,v=>∃ b,v=.ref b/\H b=some (.tup (ks.map kV))
def mQ (H:Hp) (ks:N1) (a:Addr):Prop:=∃ vs,H a=some (.tup vs)/\Paired (BU H) ks vs
def BV (P:Program) (w:World) (H:Hp) (o:Obj) (kvs:List (KX×V×V)):Prop:=o.ExactDict /\ ∃ es ep,o.data=.dict es ep /\
 ((∃ vs:List (Key×Value),Paired (fun (p:KX×V×V) (q:Key×Value)=>p.1=.inl q.1/\p.2.1=kV q.1/\RelV p.2.2 q.2) kvs vs/\KeysOf (bB P w) es/\Pairs (bB P w) es.toList vs/\(vs.map (·.1)).Nodup) \/
  ∃ xs:List (N1×Addr×Value),Paired (fun (p:KX×V×V) (q:N1×Addr×Value)=>p.1=.inr q.1/\p.2.1=.ref q.2.1/\mQ H q.1 q.2.1/\RelV p.2.2 q.2.2) kvs xs/\es.toList=xs.map (entryOfKey (kM P w))/\(xs.map (·.1)).Nodup)
theorem Paired.Y5 {α β:Type} {F G:α->β->Prop}:∀ {l₁:List α} {l₂:List β},Paired F l₁ l₂->(∀ a b,F a b->G a b)->Paired G l₁ l₂
 | _,_,.nil,_=>.nil
 | _,_,.cons r t,f=>.cons (f _ _ r) (Paired.Y5 t f)
theorem mQ.stay {H H':Hp} {ks:N1} {a:Addr} (h:mQ H ks a) (ht:∀ b xs,H b=some (.tup xs)->H' b=some (.tup xs)):mQ H' ks a:=by
 obtain ⟨vs,e,r⟩:=h
 refine ⟨vs,ht _ _ e,Paired.Y5 r fun k v q=>?_⟩
 cases k with
 | inl k=>exact q
 | inr k=>obtain ⟨b,e,q⟩:=q; exact ⟨b,e,ht _ _ q⟩
theorem BV.stay {P:Program} {w:World} {H H':Hp} {o:Obj} {kvs:List (KX×V×V)} (h:BV P w H o kvs) (ht:∀ b xs,H b=some (.tup xs)->H' b=some (.tup xs)):BV P w H' o kvs:=by
 obtain ⟨x,es,ep,e,h⟩:=h
 refine ⟨x,es,ep,e,?_⟩
 rcases h with h | ⟨xs,r,h1,h2⟩
 ·exact .inl h
 ·exact .inr ⟨xs,Paired.Y5 r fun p q z=>⟨z.1,z.2.1,z.2.2.1.stay ht,z.2.2.2⟩,h1,h2⟩
section
variable (P:Program) (w:World)
def eD (H:Hp) (h:Heap) (a:Addr):HO->Prop
 | .lst xs=>xs.length<=sizeLine /\ ∃ (its:List Value) (n:Nat),Vals xs its/\h.get? a=some { cls:=.type "list",data:=.seq its.toArray n }
 | .tup xs=>xs.length<=sizeLine /\ ∃ its:List Value,Vals xs its/\IsTup h a its.toArray
 | .dK kvs=>kvs.length<=sizeLine/\(a == sysModules)=false /\ ∃ vs,KV kvs vs/\h.DictOf (bB P w) a vs
 | .dT kvs=>kvs.length<=sizeLine/\(a == sysModules)=false /\ ∃ xs:List (List Key×Addr×Value),
   Paired (fun (p:List Key×V) (q:List Key×Addr×Value)=>p.1=q.1/\H q.2.1=some (.tup (p.1.map kV))/\RelV p.2 q.2.2) kvs xs /\
   ∃ o es ep,h.get? a=some o/\o.ExactDict/\o.data=.dict es ep/\es.toList=xs.map (entryOfKey (tupleKind (bB P w)))/\(xs.map (·.1)).Nodup
 | .dX o kvs=>kvs.length<=sizeLine/\(a == sysModules)=false/\h.get? a=some o/\BV P w H o kvs
 | .set S n=>h.SetOf (intKind P w) a S n
 | .ins C dx fs=>H dx=some (.own a)/\fs.length<=1000/\dx≠a/\h.get? a=some (PySem.W.instObj C dx) /\
   ∃ mA,h.Ns1 dx mA/\(∀ f,mP (fs.lookup f) (mA f))/\PySem.Within mA (fs.map (·.1))
 | .own _=>∃ o,h.get? a=some o
 | .xd fs=>∃ mA,h.Ns1 a mA /\ ∀ f,mP (fs.lookup f) (mA f)
 | .rng lo hi=>∃ t u v,h.get? a=some { cls:=.type "range",data:=.fields #[.int lo t,.int hi u,.int 1 v] }
 | .DR o u=>h.get? a=some o/\eD H h a u
 | .XE ps=>h.get? a=some { cls:=.none,data:=.fields ps }
 | .met f x=>h.get? a=some (PySem.W.methodObj (.ref f) (.ref x))
 | .ext φ=>φ h/\(∃ o,h.get? a=some o) /\ ∀ h1 h2:Heap,φ h1->(∀ o,h1.get? a=some o->h2.get? a=some o)->φ h2
def oD (H:Hp) (h:Heap):Prop:=∀ a o,H a=some o->eD P w H h a o
end
section
variable {P:Program} {w:World} {H H':Hp} {h h':Heap} {a:Addr} {o:HO}
theorem eD.lt (x:eD P w H h a o):a<h.objs.size:=by
 cases o with
 | lst xs=>obtain ⟨_,_,_,_,e⟩:=x; exact Heap.lt_size e
 | tup xs=>obtain ⟨_,_,_,p⟩:=x; exact p.lt
 | dK kvs=>obtain ⟨_,_,_,_,o,_,_,e,_⟩:=x; exact Heap.lt_size e
 | dT kvs=>obtain ⟨_,_,_,_,o,_,_,e,_⟩:=x; exact Heap.lt_size e
 | dX ob kvs=>obtain ⟨_,_,e,_⟩:=x; exact Heap.lt_size e
 | set S n=>obtain ⟨o,_,_,_,e,_⟩:=x; exact Heap.lt_size e
 | ins C dx fs=>obtain ⟨_,_,_,e,_⟩:=x; exact Heap.lt_size e
 | own y=>obtain ⟨_,e⟩:=x; exact Heap.lt_size e
 | xd fs=>obtain ⟨_,⟨_,_,_,e,_⟩,_⟩:=x; exact Heap.lt_size e
 | rng lo hi=>obtain ⟨_,_,_,e⟩:=x; exact Heap.lt_size e
 | DR ob u=>obtain ⟨e,_⟩:=x; exact Heap.lt_size e
 | XE ps=>exact Heap.lt_size (show h.get? a=some _ from x)
 | met f y=>exact Heap.lt_size (show h.get? a=some _ from x)
 | ext φ=>obtain ⟨_,⟨_,e⟩,_⟩:=x; exact Heap.lt_size e
theorem Paired.Y6 {α β:Type} {F G:α->β->Prop}:∀ {l₁:List α} {l₂:List β},Paired F l₁ l₂->(∀ a b,F a b->G a b)->Paired G l₁ l₂
 | _,_,.nil,_=>.nil
 | _,_,.cons r t,f=>.cons (f _ _ r) (Paired.Y6 t f)
theorem eD.stay (x:eD P w H h a o) (k:∀ b u,(b=a\/H b=some (.own a))->h.get? b=some u->h'.get? b=some u)
  (ho:∀ b,H b=some (.own a)->H' b=some (.own a)) (ht:∀ b xs,H b=some (.tup xs)->H' b=some (.tup xs)):eD P w H' h' a o:=by
 induction o with
 | lst xs=>obtain ⟨z,its,n,r,e⟩:=x; exact ⟨z,its,n,r,k _ _ (.inl rfl) e⟩
 | tup xs=>obtain ⟨z,its,r,ob,e,c⟩:=x; exact ⟨z,its,r,ob,k _ _ (.inl rfl) e,c⟩
 | dK kvs=>obtain ⟨z,y,vs,r,ob,es,ep,e,c⟩:=x; exact ⟨z,y,vs,r,ob,es,ep,k _ _ (.inl rfl) e,c⟩
 | dT kvs =>
  obtain ⟨z,y,xs,r,ob,es,ep,e,c⟩:=x
  exact ⟨z,y,xs,Paired.Y6 r fun p q z=>⟨z.1,ht _ _ z.2.1,z.2.2⟩,ob,es,ep,k _ _ (.inl rfl) e,c⟩
 | dX ob kvs=>obtain ⟨z,y,e,c⟩:=x; exact ⟨z,y,k _ _ (.inl rfl) e,c.stay ht⟩
 | set S n=>obtain ⟨ob,es,ep,t,e,c⟩:=x; exact ⟨ob,es,ep,t,k _ _ (.inl rfl) e,c⟩
 | ins C dx fs =>
  obtain ⟨d,z,ne,e,mA,⟨od,es,ep,e2,c⟩,r⟩:=x
  exact ⟨ho _ d,z,ne,k _ _ (.inl rfl) e,mA,⟨od,es,ep,k _ _ (.inr d) e2,c⟩,r⟩
 | own y=>obtain ⟨ob,e⟩:=x; exact ⟨ob,k _ _ (.inl rfl) e⟩
 | xd fs=>obtain ⟨mA,⟨od,es,ep,e,c⟩,r⟩:=x; exact ⟨mA,⟨od,es,ep,k _ _ (.inl rfl) e,c⟩,r⟩
 | rng lo hi=>obtain ⟨t,u,v,e⟩:=x; exact ⟨t,u,v,k _ _ (.inl rfl) e⟩
 | DR ob u ih=>obtain ⟨e,q⟩:=x; exact ⟨k _ _ (.inl rfl) e,ih q⟩
 | XE ps =>
  have e:h.get? a=some { cls:=.none,data:=.fields ps }:=x
  show h'.get? a=some { cls:=.none,data:=.fields ps }
  exact k a _ (.inl rfl) e
 | met f y =>
  have e:h.get? a=some (PySem.W.methodObj (.ref f) (.ref y)):=x
  show h'.get? a=some (PySem.W.methodObj (.ref f) (.ref y))
  exact k a _ (.inl rfl) e
 | ext φ=>obtain ⟨p,⟨o,e⟩,st⟩:=x; exact ⟨st _ _ p fun o q=>k _ _ (.inl rfl) q,⟨o,k _ _ (.inl rfl) e⟩,st⟩
theorem oD.lt (x:oD P w H h) (e:H a=some o):a<h.objs.size:=(x a o e).lt
theorem oD.fresh (x:oD P w H h) (e:h.objs.size<=a):H a=none:=by
 cases q:H a with
 | none=>rfl
 | some u=>exact absurd (Nat.lt_of_lt_of_le (x.lt q) e) (Nat.lt_irrefl _)
theorem oD.kept (x:oD P w H h) (k:∀ b u,h.get? b=some u->h'.get? b=some u):oD P w H h':=fun a o e =>
 (x a o e).stay (fun b u _ q=>k b u q) (fun _ q=>q) fun _ _ q=>q
theorem oD.laid (x:oD P w H h) (k:∀ b u,h.get? b=some u->h'.get? b=some u) (hp:h.objs.size<=a) (new:eD P w (upd H a o) h' a o):oD P w (upd H a o) h':=fun b u e=>by
 have hn:=x.fresh hp
 by_cases hb:b=a
 ·subst hb; rw [bA] at e; cases e; exact new
 ·rw [bR hb] at e
  exact (x b u e).stay (fun c v _ q=>k c v q) (fun c q=>by rw [bR (bX q hn)]; exact q) fun c xs q=>by rw [bR (bX q hn)]; exact q
end
def Rd (H:Hp) (a:Addr) (u:HO):Prop:=H a=some u \/ ∃ o,H a=some (.DR o u)
theorem Rd.ok {P:Program} {w:World} {H:Hp} {h:Heap} {a:Addr} {u:HO} (r:Rd H a u) (x:oD P w H h):eD P w H h a u:=by
 rcases r with r | ⟨o,r⟩
 ·exact x a u r
 ·obtain ⟨_,q⟩:=x a _ r
  exact q
def Mut:Option HO->Prop
 | some (.lst _)=>True
 | some (.dK _)=>True
 | some (.dT _)=>True
 | some (.dX _ _)=>True
 | some (.set _ _)=>True
 | some (.ins _ _ _)=>True
 | some (.ext _)=>True
 | _=>False
section
variable {P:Program} {w:World} {H:Hp} {h h':Heap} {x e:Addr} {o':HO}
theorem oD.write (ok:oD P w H h) (mu:Mut (H x)) (he:e=x\/H e=some (.own x)) (k:∀ b u,b≠e->h.get? b=some u->h'.get? b=some u) (heo:∃ u,h'.get? e=some u)
  (new:eD P w (upd H x o') h' x o'):oD P w (upd H x o') h':=fun b u q=>by
 have aB8:∀ c y,H c=some (.own y)->c≠x:=fun c y r z=>by subst z; rw [r] at mu; exact mu
 have aFk:∀ c xs,H c=some (.tup xs)->c≠x:=fun c xs r z=>by subst z; rw [r] at mu; exact mu
 by_cases hb:b=x
 ·subst hb; rw [bA] at q; cases q; exact new
 ·rw [bR hb] at q
  by_cases hbe:b=e
  ·have q':H b=some (.own x):=by
    rcases he with z | z
    ·exact absurd (hbe.trans z) hb
    ·rw [hbe]; exact z
   rw [q] at q'; cases q'
   obtain ⟨v,hv⟩:=heo
   exact ⟨v,by rw [hbe]; exact hv⟩
  ·refine (ok b u q).stay (fun c v hc r=>k c v ?_ r) (fun c r=>by rw [bR (aB8 c b r)]; exact r) fun c xs r=>by rw [bR (aFk c xs r)]; exact r
   rcases hc with rfl | hc
   ·exact hbe
   ·rintro rfl
    rcases he with z | z
    ·exact aB8 c b hc z
    ·rw [hc] at z; cases z; exact hb rfl
end
structure Un (fs ex:List Addr) (H H':Hp) (h h':Heap):Prop where
 keep:∀ b o,h.get? b=some o->H b=none->b∉fs->b∉ex->h'.get? b=some o
 slot:∀ b o,h.get? b=some o->H b=none->b∈fs->b∉ex -> ∃ sl,h'.get? b=some { o with slots:=sl }
 free:∀ b o,h.get? b=some o->H b=none->b∉ex->H' b=none
 there:∀ b o,h.get? b=some o->b∉ex -> ∃ o',h'.get? b=some o'
 tups:∀ b xs,H b=some (.tup xs)->H' b=some (.tup xs)
 qK:∀ b o u,H b=some (.DR o u)->H' b=some (.DR o u)
 sN:∀ b ps,H b=some (.XE ps) -> ∃ more,H' b=some (.XE (ps++more))
section
variable {fs fs' ex ex':List Addr} {H H1 H2:Hp} {h h1 h2 h':Heap} {a x e:Addr} {o:HO}
theorem Un.any (u:Un fs ex H H1 h h1) {b:Addr} {ob:Obj} (q:h.get? b=some ob) (n:H b=none) (hx:b∉ex):∃ sl,h1.get? b=some { ob with slots:=sl }:=by
 by_cases hb:b∈fs
 ·exact u.slot b ob q n hb hx
 ·exact ⟨ob.slots,u.keep b ob q n hb hx⟩
theorem Un.trans (a:Un fs ex H H1 h h1) (b:Un fs ex H1 H2 h1 h2):Un fs ex H H2 h h2 where
 keep:=fun c ob q n hc hx=>b.keep c ob (a.keep c ob q n hc hx) (a.free c ob q n hx) hc hx
 slot:=fun c ob q n hc hx=>by
  obtain ⟨sl,e1⟩:=a.slot c ob q n hc hx
  obtain ⟨sl',e2⟩:=b.slot c _ e1 (a.free c ob q n hx) hc hx
  exact ⟨sl',e2⟩
 free:=fun c ob q n hx=>by
  obtain ⟨o',e1⟩:=a.there c ob q hx
  exact b.free c o' e1 (a.free c ob q n hx) hx
 there:=fun c ob q hx=>by
  obtain ⟨o',e1⟩:=a.there c ob q hx
  exact b.there c o' e1 hx
 tups:=fun c xs q=>b.tups c xs (a.tups c xs q)
 qK:=fun c ob xs q=>b.qK c ob xs (a.qK c ob xs q)
 sN:=fun c ps q=>by
  obtain ⟨m1,e1⟩:=a.sN c ps q
  obtain ⟨m2,e2⟩:=b.sN c _ e1
  exact ⟨m1++m2,by rw [e2,Array.append_assoc]⟩
theorem Un.kept (k:∀ b u,h.get? b=some u->h'.get? b=some u):Un fs ex H H h h' :=
 ⟨fun b ob q _ _ _=>k b ob q,fun b ob q _ _ _=>⟨ob.slots,k b ob q⟩,fun _ _ _ n _=>n,fun b ob q _=>⟨ob,k b ob q⟩,fun _ _ q=>q,fun _ _ _ q=>q,fun _ ps q=>⟨#[],by rw [q]; simp⟩⟩
theorem Un.refl:Un fs ex H H h h:=Un.kept fun _ _ q=>q
theorem Un.laid (k:∀ b u,h.get? b=some u->h'.get? b=some u) (hp:h.objs.size<=a) (hn:H a=none):Un fs ex H (upd H a o) h h' where
 keep:=fun b u q _ _ _=>k b u q
 slot:=fun b u q _ _ _=>⟨u.slots,k b u q⟩
 free:=fun b u q n _=>by rw [bR (Nat.ne_of_lt (Nat.lt_of_lt_of_le (Heap.lt_size q) hp))]; exact n
 there:=fun b u q _=>⟨u,k b u q⟩
 tups:=fun b xs q=>by rw [bR (bX q hn)]; exact q
 qK:=fun b u xs q=>by rw [bR (bX q hn)]; exact q
 sN:=fun b ps q=>⟨#[],by rw [bR (bX q hn),q]; simp⟩
theorem Un.write (mu:Mut (H x)) (he:e=x\/H e=some (.own x)) (k:∀ b u,b≠e->h.get? b=some u->h'.get? b=some u) (heo:∃ u,h'.get? e=some u):Un fs ex H (upd H x o) h h':=by
 have hx:∀ b,H b=none->b≠x:=fun b n z=>by subst z; rw [n] at mu; exact mu
 have hb:∀ b,H b=none->b≠e:=fun b n z=>by
  subst z
  rcases he with r | r
  ·exact hx b n r
  ·rw [n] at r; cases r
 have hm:∀ b u,H b=some u->¬ Mut (some u)->b≠x:=fun b u q nm z=>by subst z; rw [q] at mu; exact nm mu
 refine ⟨fun b u q n _ _=>k b u (hb b n) q,fun b u q n _ _=>⟨u.slots,k b u (hb b n) q⟩,fun b u q n _=>by rw [bR (hx b n)]; exact n,fun b u q _=>?_,
  fun b xs q=>by rw [bR (hm b _ q fun z=>z)]; exact q,fun b u xs q=>by rw [bR (hm b _ q fun z=>z)]; exact q,fun b ps q=>⟨#[],by rw [bR (hm b _ q fun z=>z),q]; simp⟩⟩
 by_cases hbe:b=e
 ·subst hbe; exact heo
 ·exact ⟨u,k b u hbe q⟩
end
def trk (h:Heap) (H:Hp):List Addr:=(List.range h.objs.size).filter fun a=>(H a).isSome
def BW (h:Heap) (H:Hp):Heap:=PySem.W.hideAll h (trk h H)
theorem K7 (h:Heap) (H:Hp):(BW h H).objs.size=h.objs.size:=PySem.W.hideAll_size _ _
theorem PH {h:Heap} {H:Hp} {b:Addr} {o:Obj} (e:h.get? b=some o) (n:H b=none):(BW h H).get? b=some o :=
 PySem.W.hideAll_get _ e fun hm=>by
  have q:(H b).isSome=true:=(List.mem_filter.mp hm).2
  rw [n] at q; simp at q
theorem UN {h:Heap} {H:Hp} {b:Addr} {o:Obj} (e:(BW h H).get? b=some o):h.get? b=some o/\H b=none:=by
 have e':h.get? b=some o:=PySem.W.of_hideAll (trk h H) e
 refine ⟨e',?_⟩
 cases q:H b with
 | none=>rfl
 | some x =>
  have hm:b∈trk h H:=List.mem_filter.mpr ⟨List.mem_range.mpr (Heap.lt_size e'),by simp [q]⟩
  have z:(BW h H).get? b=none:=PySem.W.hideAll_none (trk h H) hm
  rw [z] at e; cases e
end L2
namespace L2
open PySem PySem.Spec PyProof.Rows
structure Mod (K:PySem.W.Frag) (mg:Str->Option Value) (base:Heap):Prop where
 kin:K.In base
 glob:base.Ns mainGlobals mg
 blt:∃ mb,base.Ns builtinsNs mb /\ ∀ x:Str,x ≠ "__name__" -> mb x=bootBuiltins x
 nolimit:base.NoLimit
structure Cx where
 prog:Program
 w:World
 K:PySem.W.Frag
 mg:Str->Option Value
 base:Heap
 A:Around
 N:List Str
 s₀:Shared
 H₀:Hp
 env:Env
 outer:List Env
 stack:List Env
 ex:List Addr
 fn:Str->Bool
 calm:Bool
 pn:List (Addr×Obj)
 xe:Value->Shared->Prop
def frs (l:List Env):List Addr:=l.filterMap (·.frame)
abbrev Cx.fs (X:Cx):List Addr:=frs X.outer
def BX (sc:Scope) (x:Str):Prop:=sc.names.lookup x=some .local\/sc.names.lookup x=some .cell\/sc.names.lookup x=some .free
def Loc (sc:Scope) (x:Str):Prop:=sc.names.lookup x=some .local\/sc.names.lookup x=some .cell
def Look (env:Env) (h:Heap) (m:Str->Option Value) (x:Str) (u:Value):Prop :=
 (env.kindOf x=some .local/\m x=some u)\/((env.kindOf x=some .cell\/env.kindOf x=some .free) /\ ∃ c,env.cells.lookup x=some c/\h.IsCell c (some u))
structure Cx.Ok (X:Cx):Prop where
 mod:Mod X.K X.mg X.base
 kind:X.env.scope.kind=.function
 glob:X.env.globals=mainGlobals
 blt:X.env.builtins=builtinsNs
 above:X.s₀.heap.objs.size<=X.env.locals
 inj:∀ x y c,X.env.cells.lookup x=some c->X.env.cells.lookup y=some c->x=y
 has:∀ x,(X.env.kindOf x=some .cell\/X.env.kindOf x=some .free) -> ∃ c,X.env.cells.lookup x=some c
 cab:∀ x c,X.fn x=true->X.env.cells.lookup x=some c->X.s₀.heap.objs.size<=c
 hd:X.calm=true->X.A.handled=none
 frames:X.A.frames=some X.stack
 stk:X.stack=X.outer\/(X.stack=X.env::X.outer/\X.env.frame=some X.env.locals)
 exf:∀ b∈X.ex,b≠X.env.locals /\ ∀ x c,X.env.cells.lookup x=some c->c≠b
 bs:∀ b o,X.base.get? b=some o->X.s₀.heap.get? b=some o/\X.H₀ b=none
 UO:X.base.objs.size<=X.s₀.heap.objs.size
 PJ:∀ b o,X.base.get? b=some o->b∉X.ex
 UP:∀ b∈X.ex,b∉X.fs
 uE:X.s₀.heap.FunFrames X.base X.outer
 frf:∀ b∈X.fs,X.H₀ b=none
structure Inv (X:Cx) (pins:List (Addr×Obj)) (σ:List (Option V)) (H:Hp) (s:Shared):Prop where
 ok:X.Ok
 os:s.os=X.s₀.os
 bare:AllBare s.gens
 base:Un X.fs X.ex X.H₀ H X.s₀.heap s.heap
 loc:∃ m,s.heap.Ns X.env.locals m /\ ∀ (i:Nat) (x:Str) (v:V),X.N[i]? = some x->σ[i]? = some (some v)->BX X.env.scope x -> ∃ u,RelV v u/\Look X.env s.heap m x u
 cell:∀ x c,X.env.cells.lookup x=some c -> ∃ v,s.heap.IsCell c v
 free:H X.env.locals=none
 kN:∀ x c,X.env.cells.lookup x=some c->H c=none
 pin:∀ p∈X.pn++pins,s.heap.get? p.1=some p.2/\H p.1=none/\p.1≠X.env.locals/\p.1∉X.fs /\ ∀ v,p.2.data≠.cell v
 hok:oD X.prog X.w H s.heap
 len:σ.length=X.N.length
section
variable {X:Cx} {pins:List (Addr×Obj)} {σ:List (Option V)} {H H':Hp} {s:Shared} {h':Heap}
theorem Cx.Ok.aFl (ok:X.Ok) {b:Addr} {o:Obj} (e:X.base.get? b=some o):b∉X.fs:=fun hb=>by
 have:=(ok.uE.mem hb).1
 rw [e] at this; cases this
theorem Inv.bs (I:Inv X pins σ H s):∀ b o,X.base.get? b=some o->s.heap.get? b=some o/\H b=none:=fun b o e =>
 ⟨I.base.keep b o (I.ok.bs b o e).1 (I.ok.bs b o e).2 (I.ok.aFl e) (I.ok.PJ b o e),I.base.free b o (I.ok.bs b o e).1 (I.ok.bs b o e).2 (I.ok.PJ b o e)⟩
theorem Inv.bk (I:Inv X pins σ H s):∀ b o,X.base.get? b=some o->s.heap.get? b=some o:=fun b o e=>(I.bs b o e).1
theorem Inv.mod (I:Inv X pins σ H s):Mod X.K X.mg X.base:=I.ok.mod
theorem Inv.yH (I:Inv X pins σ H s):X.K.In s.heap:=I.ok.mod.kin.keeps I.bk
theorem Inv.fr (I:Inv X pins σ H s):∃ m,Fr X.base X.env.locals s.heap m :=
 let ⟨m,hn,_⟩:=I.loc
 ⟨m,hn,I.bk,Nat.le_trans I.ok.UO I.ok.above⟩
theorem Inv.lt (I:Inv X pins σ H s):X.env.locals<s.heap.objs.size:=let ⟨_,hn,_⟩:=I.loc; hn.lt
theorem Inv.sz (I:Inv X pins σ H s):X.s₀.heap.objs.size<=s.heap.objs.size:=Nat.le_trans I.ok.above (Nat.le_of_lt I.lt)
theorem Inv.aFm (I:Inv X pins σ H s) {a:Addr} (h:s.heap.objs.size<=a):a∉X.fs:=fun hb=>by
 obtain ⟨_,o,ho,_⟩:=I.ok.uE.mem hb
 exact absurd (Nat.lt_of_lt_of_le (Heap.lt_size ho) (Nat.le_trans I.sz h)) (Nat.lt_irrefl _)
theorem Inv.Y7 (I:Inv X pins σ H s):∀ x c,X.env.cells.lookup x=some c->c≠X.env.locals:=fun x c e z=>by
 obtain ⟨v,o,ho,hd⟩:=I.cell x c e
 obtain ⟨m,⟨o',es,ep,ho',hd',_⟩,_⟩:=I.loc
 rw [z,ho'] at ho; cases ho; rw [hd'] at hd; cases hd
theorem Inv.uE (I:Inv X pins σ H s):s.heap.FunFrames X.base X.outer:=by
 have all:∀ (l:List Env),(∀ b∈frs l,b∈X.fs)->X.s₀.heap.FunFrames X.base l->s.heap.FunFrames X.base l:=by
  intro l
  induction l with
  | nil=>intro _ _; trivial
  | cons env r ih =>
   intro hs hl
   obtain ⟨hk,⟨L,o,hf,hn,ho,hd⟩,hr⟩:=hl
   have hL:L∈X.fs:=hs L (by unfold frs; rw [List.filterMap_cons,hf]; exact List.mem_cons_self)
   obtain ⟨sl,e⟩:=I.base.slot L o ho (I.ok.frf L hL) hL fun z=>I.ok.UP L z hL
   exact ⟨hk,⟨L,_,hf,hn,e,hd⟩,ih (fun b hb=>hs b (by unfold frs; rw [List.filterMap_cons,hf]; exact List.mem_cons_of_mem _ hb)) hr⟩
 exact all X.outer (fun _ hb=>hb) I.ok.uE
theorem Inv.stack (I:Inv X pins σ H s):s.heap.FunFrames X.base X.stack:=by
 rcases I.ok.stk with e | ⟨e,hf⟩
 ·rw [e]; exact I.uE
 ·rw [e]
  obtain ⟨m,hn,_⟩:=I.loc
  refine .cons (by rw [I.ok.kind]; decide) hf hn ?_ I.uE
  exact Heap.get?_none_of_le (Nat.le_trans I.ok.UO I.ok.above)
theorem Inv.pF (I:Inv X pins σ H s):∀ b∈frs X.stack,b∈X.env.locals::X.fs:=fun b hb=>by
 rcases I.ok.stk with e | ⟨e,hf⟩
 ·rw [e] at hb; exact List.mem_cons_of_mem _ hb
 ·rw [e] at hb
  unfold frs at hb
  rw [List.filterMap_cons,hf] at hb
  exact hb
theorem Inv.BY (I:Inv X pins σ H s):∀ b∈frs X.stack,H b=none:=fun b hb=>by
 rcases List.mem_cons.mp (I.pF b hb) with e | hb
 ·rw [e]; exact I.free
 ·obtain ⟨_,o,ho,_⟩:=I.ok.uE.mem hb
  exact I.base.free b o ho (I.ok.frf b hb) fun z=>I.ok.UP b z hb
theorem Inv.step {g':Array GenState} {t':Nat} {d':Drawn} {ch:List Addr} (I:Inv X pins σ H s)
  (hch:∀ b∈ch,(b∈X.ex\/X.s₀.heap.objs.size<=b)/\b≠X.env.locals/\(∀ x c,X.env.cells.lookup x=some c->c≠b) /\ ∀ p∈X.pn++pins,p.1≠b)
  (keep:∀ b o,b≠X.env.locals->b∉X.fs->b∉ch->s.heap.get? b=some o->H b=none->h'.get? b=some o)
  (slot:∀ b o,b≠X.env.locals->b∈X.fs->b∉ch->s.heap.get? b=some o->H b=none -> ∃ sl,h'.get? b=some { o with slots:=sl }) (free:∀ b o,b∉ch->s.heap.get? b=some o->H b=none->H' b=none)
  (there:∀ b o,b∉ch->s.heap.get? b=some o -> ∃ o',h'.get? b=some o')
  (tups:∀ b xs,H b=some (.tup xs)->H' b=some (.tup xs)) (qK:∀ b o u,H b=some (.DR o u)->H' b=some (.DR o u)) (sN:∀ b ps,H b=some (.XE ps) -> ∃ more,H' b=some (.XE (ps++more)))
  (ns:∀ m,s.heap.Ns X.env.locals m->h'.Ns X.env.locals m) (hok:oD X.prog X.w H' h') (hg:AllBare g') :
  Inv X pins σ H' { s with heap:=h',gens:=g',drawn:=d',toks:=t' }:=by
 have neL:∀ b o,X.s₀.heap.get? b=some o->b≠X.env.locals:=fun b o e=>Nat.ne_of_lt (Nat.lt_of_lt_of_le (Heap.lt_size e) I.ok.above)
 have neC:∀ b o,X.s₀.heap.get? b=some o->b∉X.ex->b∉ch:=fun b o e hx hb=>by
  rcases (hch b hb).1 with z | z
  ·exact hx z
  ·exact absurd (Nat.lt_of_lt_of_le (Heap.lt_size e) z) (Nat.lt_irrefl _)
 have cellK:∀ x c,X.env.cells.lookup x=some c -> ∀ v,s.heap.IsCell c v->h'.IsCell c v:=fun x c e v hq0=>by
  obtain ⟨o,ho,hd⟩:=hq0
  have nch:c∉ch:=fun z=>(hch c z).2.2.1 x c e rfl
  by_cases hc:c∈X.fs
  ·obtain ⟨sl,q⟩:=slot c o (I.Y7 x c e) hc nch ho (I.kN x c e)
   exact ⟨_,q,hd⟩
  ·exact ⟨o,keep c o (I.Y7 x c e) hc nch ho (I.kN x c e),hd⟩
 refine ⟨I.ok,I.os,hg,⟨fun b o e n hb hx=>?_,fun b o e n hb hx=>?_,fun b o e n hx=>?_,fun b o e hx=>?_,fun b xs e=>tups b xs (I.base.tups b xs e),fun b o xs e=>qK b o xs (I.base.qK b o xs e),fun b ps e=>?_⟩,?_,fun x c e=>?_,?_,fun x c e=>?_,fun p hp=>?_,hok,I.len⟩
 ·exact keep b o (neL b o e) hb (neC b o e hx) (I.base.keep b o e n hb hx) (I.base.free b o e n hx)
 ·obtain ⟨sl,e1⟩:=I.base.slot b o e n hb hx
  obtain ⟨sl',e2⟩:=slot b _ (neL b o e) hb (neC b o e hx) e1 (I.base.free b o e n hx)
  exact ⟨sl',e2⟩
 ·obtain ⟨o',e1⟩:=I.base.there b o e hx
  exact free b o' (neC b o e hx) e1 (I.base.free b o e n hx)
 ·obtain ⟨o',e1⟩:=I.base.there b o e hx
  exact there b o' (neC b o e hx) e1
 ·obtain ⟨m1,e1⟩:=I.base.sN b ps e
  obtain ⟨m2,e2⟩:=sN b _ e1
  exact ⟨m1++m2,by rw [e2,Array.append_assoc]⟩
 ·obtain ⟨m,hn,hl⟩:=I.loc
  refine ⟨m,ns m hn,fun i x v e1 e2 e3=>?_⟩
  obtain ⟨u,r,l⟩:=hl i x v e1 e2 e3
  refine ⟨u,r,?_⟩
  rcases l with l | ⟨k,c,e,z⟩
  ·exact .inl l
  ·exact .inr ⟨k,c,e,cellK x c e _ z⟩
 ·obtain ⟨v,z⟩:=I.cell x c e
  exact ⟨v,cellK x c e v z⟩
 ·obtain ⟨m,⟨o,_,_,ho,_⟩,_⟩:=I.loc
  exact free _ o (fun z=>(hch _ z).2.1 rfl) ho I.free
 ·obtain ⟨v,o,ho,hd⟩:=I.cell x c e
  exact free c o (fun z=>(hch c z).2.2.1 x c e rfl) ho (I.kN x c e)
 ·obtain ⟨e,n,ne,nf,d⟩:=I.pin p hp
  have nch:p.1∉ch:=fun z=>(hch p.1 z).2.2.2 p hp rfl
  exact ⟨keep p.1 p.2 ne nf nch e n,free p.1 p.2 nch e n,ne,nf,d⟩
theorem Inv.un {t':Nat} (I:Inv X pins σ H s) (u:Un X.fs [] H H' s.heap h') (hok:oD X.prog X.w H' h'):Inv X pins σ H' { s with heap:=h',toks:=t' }:=by
 obtain ⟨m,⟨o,es,ep,ho,r⟩,_⟩:=id I.loc
 obtain ⟨sl,hL⟩:=u.any ho I.free (by simp)
 exact I.step (g':=s.gens) (d':=s.drawn) (ch:=[]) (fun _ z=>nomatch z) (fun b o _ hb _ e n=>u.keep b o e n hb (by simp)) (fun b o _ hb _ e n=>u.slot b o e n hb (by simp)) (fun b o _ e n=>u.free b o e n (by simp)) (fun b o _ e=>u.there b o e (by simp)) u.tups u.qK u.sN (fun m' hm=>by
  obtain ⟨o',es',ep',ho',r'⟩:=hm
  rw [ho] at ho'; cases ho'
  exact ⟨_,es',ep',hL,r'⟩) hok I.bare
theorem Inv.call {g':Array GenState} {t':Nat} {d':Drawn} {ch:List Addr} (I:Inv X pins σ H s) (u:Un (frs X.stack) ch H H' s.heap h') (hok:oD X.prog X.w H' h') (hg:AllBare g')
  (hch:∀ b∈ch,(b∈X.ex\/X.s₀.heap.objs.size<=b)/\b≠X.env.locals/\(∀ x c,X.env.cells.lookup x=some c->c≠b) /\ ∀ p∈X.pn++pins,p.1≠b) :
  Inv X pins σ H' { s with heap:=h',gens:=g',drawn:=d',toks:=t' }:=by
 obtain ⟨m,⟨o,es,ep,ho,r⟩,_⟩:=id I.loc
 obtain ⟨sl,hL⟩:=u.any ho I.free fun z=>(hch _ z).2.1 rfl
 exact I.step (ch:=ch) hch (fun b o hL hb hc e n=>u.keep b o e n (fun z=>(List.mem_cons.mp (I.pF b z)).elim hL hb) hc) (fun b o _ _ hc e n=>u.any e n hc) (fun b o hc e n=>u.free b o e n hc) (fun b o hc e=>u.there b o e hc) u.tups u.qK u.sN (fun m' hm=>by
  obtain ⟨o',es',ep',ho',r'⟩:=hm
  rw [ho] at ho'; cases ho'
  exact ⟨_,es',ep',hL,r'⟩) hok hg
theorem Inv.turned {t':Nat} {it:Addr} (I:Inv X pins σ H s) (k:∀ b o,b≠it->s.heap.get? b=some o->h'.get? b=some o) (hn:H it=none) (hL:it≠X.env.locals)
  (h1:it∈X.ex\/X.s₀.heap.objs.size<=it) (h2:∀ x c,X.env.cells.lookup x=some c->c≠it) (h3:∀ p∈X.pn++pins,p.1≠it):Inv X pins σ H { s with heap:=h',toks:=t' }:=by
 have nit:∀ b u,H b=some u->b≠it:=fun b u e z=>by rw [z,hn] at e; cases e
 refine I.step (g':=s.gens) (d':=s.drawn) (ch:=[it]) (fun b hb=>?_) (fun b o _ _ hc e _=>k b o (fun z=>hc (by simp [z])) e) (fun b o _ _ hc e _=>⟨o.slots,k b o (fun z=>hc (by simp [z])) e⟩) (fun _ _ _ _ n=>n)
  (fun b o hc e=>⟨o,k b o (fun z=>hc (by simp [z])) e⟩) (fun _ _ e=>e) (fun _ _ _ e=>e) (fun b ps e=>⟨#[],by rw [e]; simp⟩) (fun m hm=>?_) (fun b u e=>?_) I.bare
 ·have e:b=it:=by simpa using hb
  subst e
  exact ⟨h1,hL,h2,h3⟩
 ·obtain ⟨o,es,ep,ho,r⟩:=hm
  exact ⟨o,es,ep,k _ o (Ne.symm hL) ho,r⟩
 ·refine (I.hok b u e).stay (fun c v hc q=>k c v ?_ q) (fun _ q=>q) fun _ _ q=>q
  rcases hc with z | z
  ·rw [z]; exact nit b u e
  ·exact nit c _ z
theorem Inv.tok (I:Inv X pins σ H s) (t:Nat):Inv X pins σ H { s with toks:=t }:=I.un (h':=s.heap) (t':=t) Un.refl I.hok
theorem Inv.kept {t':Nat} (I:Inv X pins σ H s) (k:∀ b u,s.heap.get? b=some u->h'.get? b=some u):Inv X pins σ H { s with heap:=h',toks:=t' }:=I.un (Un.kept k) (I.hok.kept k)
theorem Inv.laid {a:Addr} {o:HO} {t':Nat} (I:Inv X pins σ H s) (k:∀ b u,s.heap.get? b=some u->h'.get? b=some u) (hp:s.heap.objs.size<=a) (new:eD X.prog X.w (upd H a o) h' a o) :
  Inv X pins σ (upd H a o) { s with heap:=h',toks:=t' }:=I.un (Un.laid k hp (I.hok.fresh hp)) (I.hok.laid k hp new)
theorem Inv.write {x e:Addr} {o:HO} {t':Nat} (I:Inv X pins σ H s) (mu:Mut (H x)) (he:e=x\/H e=some (.own x)) (k:∀ b u,b≠e->s.heap.get? b=some u->h'.get? b=some u) (heo:∃ u,h'.get? e=some u)
  (new:eD X.prog X.w (upd H x o) h' x o):Inv X pins σ (upd H x o) { s with heap:=h',toks:=t' }:=I.un (Un.write mu he k heo) (I.hok.write mu he k heo new)
theorem Inv.weak {σ':List (Option V)} (I:Inv X pins σ H s) (hl:σ'.length=σ.length) (w:∀ (i:Nat) v,σ'[i]? = some (some v)->σ[i]? = some (some v)):Inv X pins σ' H s :=
 ⟨I.ok,I.os,I.bare,I.base,let ⟨m,hn,hl'⟩:=I.loc; ⟨m,hn,fun i x v e1 e2 e3=>hl' i x v e1 (w i v e2) e3⟩,I.cell,I.free,I.kN,I.pin,I.hok,hl.trans I.len⟩
theorem Inv.IY {IZ:List (Addr×Obj)} (I:Inv X pins σ H s) (h:∀ p∈IZ,s.heap.get? p.1=some p.2/\H p.1=none/\p.1≠X.env.locals/\p.1∉X.fs /\ ∀ v,p.2.data≠.cell v):Inv X IZ σ H s :=
 ⟨I.ok,I.os,I.bare,I.base,I.loc,I.cell,I.free,I.kN,fun p hp=>(List.mem_append.mp hp).elim (fun z=>I.pin p (List.mem_append_left _ z)) (h p),I.hok,I.len⟩
theorem DS {N:List Str} (hN:N.Nodup) {i j:Nat} {x:Str} (a:N[i]? = some x) (b:N[j]? = some x):i=j:=by
 obtain ⟨h1,e1⟩:=List.getElem?_eq_some_iff.mp a
 obtain ⟨h2,e2⟩:=List.getElem?_eq_some_iff.mp b
 exact (List.getElem_inj hN).mp (e1.trans e2.symm)
theorem zU {M:Model} {A:Around} {E:Value->Shared->Prop} {i:Nat} {x:Str} {v:V} {u:Value} {Q:Unit->Shared->Prop} (I:Inv X pins σ H s) (hN:X.N.Nodup) (hi:X.N[i]? = some x) (hx:Loc X.env.scope x) (r:RelV v u)
  (h:∀ s',Inv X pins (σ.set i (some v)) H s'->(∃ a,Heap.SameBut a s.heap s'.heap/\(a=X.env.locals\/X.env.cells.lookup x=some a))->Q () s') (hf:X.fn x=true\/X.env.scope.names.lookup x=some .local:=by first | exact .inl rfl | exact .inr rfl | assumption):wpAny M A (storeName X.env x u) Q E s:=by
 obtain ⟨m,hn,hl⟩:=id I.loc
 have hcls:(X.env.scope.kind == .class||(X.env.scope.kind == .module&&X.env.locals != X.env.globals))=false:=by rw [I.ok.kind]; rfl
 have hiσ:i<σ.length:=by rw [I.len]; exact (List.getElem?_eq_some_iff.mp hi).1
 have Y7:=I.Y7
 have tracked:∀ {a:Addr} {h':Heap},(∃ o,s.heap.get? a=some o/\H a=none)->Heap.SameBut a s.heap h'->oD X.prog X.w H h':=fun {a h'} ha hs b ob e=>by
  obtain ⟨_,_,hfree⟩:=ha
  refine (I.hok b ob e).stay (fun c w' hc q=>(hs.2 c ?_).trans q) (fun _ q=>q) fun _ _ q=>q
  rintro rfl
  rcases hc with rfl | hc
  ·rw [hfree] at e; cases e
  ·rw [hfree] at hc; cases hc
 rcases hx with hk | hk
 ·refine wpAny_storeName_local hk hn (fun h' hn' hs=>?_) hcls
  obtain ⟨oL,_,_,hoL,_⟩:=id hn
  refine h _ ⟨I.ok,I.os,I.bare,⟨fun b o e n hb hx=>?_,fun b o e n hb hx=>?_,I.base.free,fun b o e hx=>?_,I.base.tups,I.base.qK,I.base.sN⟩,⟨_,hn',fun j y v' e1 e2 e3=>?_⟩,fun y c e=>?_,I.free,I.kN,fun p hp=>?_,tracked ⟨oL,hoL,I.free⟩ hs,by simpa using I.len⟩ ⟨_,hs,.inl rfl⟩
  ·exact (hs.2 b (Nat.ne_of_lt (Nat.lt_of_lt_of_le (Heap.lt_size e) I.ok.above))).trans (I.base.keep b o e n hb hx)
  ·obtain ⟨sl,e1⟩:=I.base.slot b o e n hb hx
   exact ⟨sl,(hs.2 b (Nat.ne_of_lt (Nat.lt_of_lt_of_le (Heap.lt_size e) I.ok.above))).trans e1⟩
  ·obtain ⟨o',e1⟩:=I.base.there b o e hx
   exact ⟨o',(hs.2 b (Nat.ne_of_lt (Nat.lt_of_lt_of_le (Heap.lt_size e) I.ok.above))).trans e1⟩
  ·by_cases hj:j=i
   ·subst hj
    rw [hi] at e1; cases e1
    rw [List.getElem?_set_self hiσ] at e2
    cases e2
    exact ⟨u,r,.inl ⟨hk,by simp⟩⟩
   ·rw [List.getElem?_set_ne (Ne.symm hj)] at e2
    obtain ⟨u',r',q⟩:=hl j y v' e1 e2 e3
    refine ⟨u',r',?_⟩
    rcases q with ⟨k,e⟩ | ⟨k,c,e,z⟩
    ·refine .inl ⟨k,?_⟩
     have:y≠x:=fun e=>hj (DS hN e1 (e▸hi))
     simp [this,e]
    ·exact .inr ⟨k,c,e,z.sameBut hs (Y7 y c e)⟩
  ·obtain ⟨w',z⟩:=I.cell y c e
   exact ⟨w',z.sameBut hs (Y7 y c e)⟩
  ·obtain ⟨e,n,ne,nf,d⟩:=I.pin p hp
   exact ⟨(hs.2 p.1 ne).trans e,n,ne,nf,d⟩
 ·have hfn:X.fn x=true:=by
   rcases hf with z | z
   ·exact z
   ·rw [z] at hk; cases hk
  obtain ⟨c,hc⟩:=I.ok.has x (.inl hk)
  obtain ⟨w',z⟩:=I.cell x c hc
  refine wpAny_storeName_cell I.ok.kind hk hc z (fun h' hc' hs=>?_)
  obtain ⟨oc,hoc,aFo⟩:=id z
  refine h { s with heap:=h' } ⟨I.ok,I.os,I.bare,⟨fun b o e n hb hx=>?_,fun b o e n hb hx=>?_,I.base.free,fun b o e hx=>?_,I.base.tups,I.base.qK,I.base.sN⟩,⟨m,hn.sameBut hs (Ne.symm (Y7 x c hc)),fun j y v' e1 e2 e3=>?_⟩,fun y c' e=>?_,I.free,I.kN,fun p hp=>?_,tracked ⟨oc,hoc,I.kN x c hc⟩ hs,by simpa using I.len⟩ ⟨c,hs,.inr hc⟩
  ·exact (hs.2 b (Nat.ne_of_lt (Nat.lt_of_lt_of_le (Heap.lt_size e) (I.ok.cab x c hfn hc)))).trans (I.base.keep b o e n hb hx)
  ·obtain ⟨sl,e1⟩:=I.base.slot b o e n hb hx
   exact ⟨sl,(hs.2 b (Nat.ne_of_lt (Nat.lt_of_lt_of_le (Heap.lt_size e) (I.ok.cab x c hfn hc)))).trans e1⟩
  ·obtain ⟨o',e1⟩:=I.base.there b o e hx
   exact ⟨o',(hs.2 b (Nat.ne_of_lt (Nat.lt_of_lt_of_le (Heap.lt_size e) (I.ok.cab x c hfn hc)))).trans e1⟩
  ·by_cases hj:j=i
   ·subst hj
    rw [hi] at e1; cases e1
    rw [List.getElem?_set_self hiσ] at e2
    cases e2
    exact ⟨u,r,.inr ⟨.inl hk,c,hc,hc'⟩⟩
   ·rw [List.getElem?_set_ne (Ne.symm hj)] at e2
    obtain ⟨u',r',q⟩:=hl j y v' e1 e2 e3
    refine ⟨u',r',?_⟩
    rcases q with q | ⟨k,c',e,z'⟩
    ·exact .inl q
    ·refine .inr ⟨k,c',e,z'.sameBut hs ?_⟩
     rintro rfl
     exact hj (DS hN e1 (I.ok.inj _ _ _ e hc▸hi))
  ·by_cases hcc:c' = c
   ·subst hcc; exact ⟨_,hc'⟩
   ·obtain ⟨w2,z2⟩:=I.cell y c' e
    exact ⟨w2,z2.sameBut hs hcc⟩
  ·obtain ⟨e,n,ne,nf,d⟩:=I.pin p hp
   refine ⟨(hs.2 p.1 ?_).trans e,n,ne,nf,d⟩
   intro q
   rw [q,hoc] at e
   have q':oc=p.2:=Option.some.inj e
   exact d w' (by rw [<- q']; exact aFo)
theorem qL {M:Model} {A:Around} {E:Value->Shared->Prop} {i:Nat} {x:Str} {v:V} {u:Value} {Q:Unit->Shared->Prop} (I:Inv X pins σ H s) (hN:X.N.Nodup) (hi:X.N[i]? = some x) (hx:Loc X.env.scope x) (r:RelV v u)
  (h:∀ s',Inv X pins (σ.set i (some v)) H s'->Q () s') (hf:X.fn x=true\/X.env.scope.names.lookup x=some .local:=by first | exact .inl rfl | exact .inr rfl | assumption):wpAny M A (storeName X.env x u) Q E s :=
 zU I hN hi hx r (fun s' I' _=>h s' I') hf
theorem Inv.call' {s':Shared} {ch:List Addr} (I:Inv X pins σ H s) (ho:s'.os=s.os) (u:Un (frs X.stack) ch H H' s.heap s'.heap) (hok:oD X.prog X.w H' s'.heap) (hg:AllBare s'.gens)
  (hch:∀ b∈ch,(b∈X.ex\/X.s₀.heap.objs.size<=b)/\b≠X.env.locals/\(∀ x c,X.env.cells.lookup x=some c->c≠b) /\ ∀ p∈X.pn++pins,p.1≠b):Inv X pins σ H' s':=by
 obtain ⟨h',g',d',t',o'⟩:=s'
 have e:o' = s.os:=ho
 subst e
 exact I.call (g':=g') (t':=t') (d':=d') u hok hg hch
end
abbrev XK:=Value->Option Addr->Hp->Prop
abbrev St:=List (Option V)
abbrev VK:=V->Hp->Prop
abbrev TE:=St->Hp->VK->Prop
abbrev TT:=St->Hp->(Bool->Hp->Prop)->Prop
abbrev TA:=St->Hp->(List V->Hp->Prop)->Prop
structure Ends where
 nx:St->Hp->Prop
 rt:VK
 bk:St->Hp->Prop:=fun _ _=>False
 ct:St->Hp->Prop:=fun _ _=>False
abbrev TS:=Ends->St->Hp->Prop
def EP (X:Cx) (pins:List (Addr×Obj)) (σ:St) (Q:VK) (u:Value) (s':Shared):Prop:=∃ v H',Inv X pins σ H' s'/\RelV v u/\Q v H'
def TP (X:Cx) (pins:List (Addr×Obj)) (σ:St) (Q:Bool->Hp->Prop) (b:Bool) (s':Shared):Prop:=∃ H',Inv X pins σ H' s'/\Q b H'
def AP (X:Cx) (pins:List (Addr×Obj)) (σ:St) (Q:List V->Hp->Prop) (us:List Value) (s':Shared):Prop:=∃ vs H',Inv X pins σ H' s'/\Vals vs us/\Q vs H'
def SP (X:Cx) (pins:List (Addr×Obj)) (D:Ends) (f:Flow) (s':Shared):Prop :=
 match f with
 | .next=>∃ σ' H',Inv X pins σ' H' s'/\D.nx σ' H'
 | .brk=>∃ σ' H',Inv X pins σ' H' s'/\D.bk σ' H'
 | .cont=>∃ σ' H',Inv X pins σ' H' s'/\D.ct σ' H'
 | .ret u=>∃ v σ' H',Inv X pins σ' H' s'/\RelV v u/\D.rt v H'
def PE (X:Cx) (e:Expr) (t:TE):Prop :=
 ∀ (pins:List (Addr×Obj)) (s:Shared) (σ:St) (H:Hp) (Q:VK),Inv X pins σ H s->t σ H Q->wpAny (model X.prog X.w) X.A (eval e X.env) (EP X pins σ Q) X.xe s
def PT (X:Cx) (e:Expr) (t:TT):Prop :=
 ∀ (pins:List (Addr×Obj)) (s:Shared) (σ:St) (H:Hp) (Q:Bool->Hp->Prop),Inv X pins σ H s->t σ H Q->wpAny (model X.prog X.w) X.A (isTrue e X.env (eval e X.env)) (TP X pins σ Q) X.xe s
def PW (X:Cx) (e:Expr) (t:TT):Prop :=
 ∀ (whole:Sem Value) (pins:List (Addr×Obj)) (s:Shared) (σ:St) (H:Hp) (Q:Bool->Hp->Prop),Inv X pins σ H s->t σ H Q->wpAny (model X.prog X.w) X.A (isTrue e X.env whole) (TP X pins σ Q) X.xe s
theorem PW.pt {X:Cx} {e:Expr} {t:TT} (h:PW X e t):PT X e t:=h _
def PA (X:Cx) (es:List Expr) (t:TA):Prop :=
 ∀ (pos:Pos) (pins:List (Addr×Obj)) (s:Shared) (σ:St) (H:Hp) (Q:List V->Hp->Prop),Inv X pins σ H s->t σ H Q->wpAny (model X.prog X.w) X.A (spliced (backTo pos (starEach es X.env))) (AP X pins σ Q) X.xe s
def PS (X:Cx) (st:Stmt) (t:TS):Prop :=
 ∀ (pins:List (Addr×Obj)) (s:Shared) (σ:St) (H:Hp) (D:Ends),Inv X pins σ H s->t D σ H->wpAny (model X.prog X.w) X.A (exec st X.env) (SP X pins D) X.xe s
def BZ (X:Cx) (st:List Stmt) (t:TS):Prop :=
 ∀ (pins:List (Addr×Obj)) (s:Shared) (σ:St) (H:Hp) (D:Ends),Inv X pins σ H s->t D σ H->wpAny (model X.prog X.w) X.A (execs st X.env) (SP X pins D) X.xe s
theorem eP {α:Type} {t:Sem α} {Q Q':α->Shared->Prop} {M:Model} {A:Around} {E:Value->Shared->Prop} {s:Shared} (h:wpAny M A t Q E s) (hQ:∀ a s,Q a s->Q' a s):wpAny M A t Q' E s:=wpAny_mono h hQ fun _ _ x=>x
end L2
namespace L2
open PySem PySem.Spec PyProof.Rows
section
variable {X:Cx}
def UQ (i:Nat):TE:=fun σ H Q=>∃ v,σ[i]? = some (some v)/\Q v H
def tC (v:V):TE:=fun _ H Q=>Q v H
theorem pG {i:Nat} {x:Str} {pos:Pos} (hN:X.N[i]? = some x) (hv:BX X.env.scope x) (hd:(x == ("__debug__" : Str))=false:=by decide) (hcd:(x == ("__classdict__" : Str))=false:=by decide):PE X (.Name x pos) (UQ i):=by
 intro pins s σ H Q I h
 obtain ⟨v,e,h⟩:=h
 obtain ⟨m,hn,hl⟩:=I.loc
 obtain ⟨u,r,l⟩:=hl i x v hN e hv
 have fin:EP X pins σ Q u s:=⟨v,H,I,r,h⟩
 rcases l with ⟨hk,hm⟩ | ⟨hk,c,hc,hcell⟩
 ·exact wpAny_Name (wpAny_loadName_local I.ok.kind hk hn hm fin) hd
 ·rcases hk with hk | hk
  ·exact wpAny_Name (wpAny_loadName_cell I.ok.kind hk hc hcell fin) hd
  ·exact wpAny_Name (wpAny_loadName_free I.ok.kind hk hc hcell fin hcd) hd
theorem Y8 {i j pos}:PE X (.Constant (.int i) j pos) (tC (.int i)):=fun _ _ _ H _ I h=>wpAny_Constant_int ⟨.int i,H,I.tok _,⟨_,rfl⟩,h⟩
theorem aBb {b j pos}:PE X (.Constant (.bool b) j pos) (tC (.bl b)):=fun _ _ _ H _ I h=>Constant_bool ⟨.bl b,H,I,rfl,h⟩
theorem Y9 {j pos}:PE X (.Constant .none j pos) (tC .non):=fun _ _ _ H _ I h=>Constant_none ⟨.non,H,I,rfl,h⟩
theorem ZA {x j pos}:PE X (.Constant (.str x) j pos) (tC (.str x)):=fun _ _ _ H _ I h=>Calls.Constant_str ⟨.str x,H,I.tok _,⟨_,rfl⟩,h⟩
def Gl (X:Cx) (x:Str):Prop:=X.env.kindOf x=some .globalImplicit
theorem I0 {E:Value->Shared->Prop} {pins:List (Addr×Obj)} {s:Shared} {σ:St} {H:Hp} {x:Str} {u:Value} {pos:Pos} {Q:Value->Shared->Prop} (I:Inv X pins σ H s) (hg:Gl X x) (hm:X.mg x=some u) (h:Q u s)
  (hd:(x == ("__debug__" : Str))=false:=by decide):wpAny (model X.prog X.w) X.A (eval (.Name x pos) X.env) Q E s :=
 Calls.Name_function_global I.ok.kind hg (Calls.loadGlobal_global (by rw [I.ok.glob]; exact I.mod.glob.keeps I.bk) hm h) hd
theorem mR {E:Value->Shared->Prop} {pins:List (Addr×Obj)} {s:Shared} {σ:St} {H:Hp} {x:Str} {u:Value} {pos:Pos} {Q:Value->Shared->Prop} (I:Inv X pins σ H s) (hg:Gl X x) (hm:X.mg x=none) (hv:bootBuiltins x=some u) (h:Q u s)
  (hn:x ≠ "__name__" := by decide) (hd:(x == ("__debug__" : Str))=false:=by decide):wpAny (model X.prog X.w) X.A (eval (.Name x pos) X.env) Q E s:=by
 obtain ⟨mb,h1,h2⟩:=I.mod.blt
 exact Calls.Name_function_global I.ok.kind hg (Calls.loadGlobal_builtin (by rw [I.ok.glob]; exact I.mod.glob.keeps I.bk) hm (by rw [I.ok.blt]; exact h1.keeps I.bk) ((h2 x hn).trans hv) h) hd
theorem UR {x:Str} {v:V} {u:Value} {pos:Pos} (hg:Gl X x) (hm:X.mg x=none) (hv:bootBuiltins x=some u) (r:RelV v u) (hn:x ≠ "__name__" := by decide) (hd:(x == ("__debug__" : Str))=false:=by decide):PE X (.Name x pos) (tC v) :=
 fun _ _ _ H _ I h=>mR I hg hm hv ⟨v,H,I,r,h⟩ hn hd
variable {a b:Expr} {ta tb:TE} {pos:Pos}
def PC (X:Cx) (op:CmpOp) (a b:Expr) (t:TE):Prop :=
 ∀ (pins:List (Addr×Obj)) (s:Shared) (σ:St) (H:Hp) (Q:VK),Inv X pins σ H s->t σ H Q ->
  wpAny (model X.prog X.w) X.A (eval a X.env) (fun v s₁=>wpAny (model X.prog X.w) X.A (eval b X.env) (fun u s₂=>wpAny (model X.prog X.w) X.A (compareOp op v u) (EP X pins σ Q) X.xe s₂) X.xe s₁) X.xe s
def tB (t:TE):TT:=fun σ H Q=>t σ H fun x H1=>∃ c,x=.bl c/\Q c H1
theorem ZC {op:CmpOp} {t:TE} (h:PC X op a b t) (h1:behindInMarks op b=false:=by first | exact aBd _ (by decide) (by decide) | rfl):PT X (.Compare a [op] [b] pos) (tB t):=by
 intro pins s σ H Q I hw
 refine wpAny_isTrue_Compare1 (eP (h pins s σ H _ I hw) fun v s1 h1=>eP h1 fun u s2 h2=>eP h2 fun c s3 ⟨x,H1,I1,r1,q1⟩=>?_) h1
 obtain ⟨d,rfl,q⟩:=q1
 cases r1
 exact wpAny_truthy_bool ⟨H1,I1,q⟩
variable {tA tB':TT} {rest:List Expr}
def lW (t u:TT):TT:=fun σ H Q=>t σ H fun c H1=>if c=true then u σ H1 Q else Q false H1
def oR (t u:TT):TT:=fun σ H Q=>t σ H fun c H1=>if c=true then Q true H1 else u σ H1 Q
def fZ (t:TT):TT:=fun σ H Q=>t σ H fun c H1=>Q (!c) H1
theorem US (ha:PT X a tA):PW X (.BoolOp .And [a] pos) tA:=by
 intro wh pins s σ H Q I h
 refine isTrue_and (eP (ha pins s σ H Q I h) fun c s1 e=>?_)
 cases c with
 | true=>exact isTrue_and_nil e
 | false=>exact e
theorem ZD (ha:PT X a tA):PW X (.BoolOp .Or [a] pos) tA:=by
 intro wh pins s σ H Q I h
 refine isTrue_or (eP (ha pins s σ H Q I h) fun c s1 e=>?_)
 cases c with
 | false=>exact isTrue_or_nil e
 | true=>exact e
theorem ZE (ha:PT X a tA) (hb:PW X (.BoolOp .And (b::rest) pos) tB'):PW X (.BoolOp .And (a::b::rest) pos) (lW tA tB'):=by
 intro wh pins s σ H Q I h
 refine isTrue_and (eP (ha pins s σ H _ I h) fun c s1 ⟨H1,I1,q1⟩=>?_)
 cases c with
 | true=>exact hb wh pins s1 σ H1 Q I1 q1
 | false=>exact ⟨H1,I1,q1⟩
theorem aBe (ha:PT X a tA) (hb:PW X (.BoolOp .Or (b::rest) pos) tB'):PW X (.BoolOp .Or (a::b::rest) pos) (oR tA tB'):=by
 intro wh pins s σ H Q I h
 refine isTrue_or (eP (ha pins s σ H _ I h) fun c s1 ⟨H1,I1,q1⟩=>?_)
 cases c with
 | true=>exact ⟨H1,I1,q1⟩
 | false=>exact hb wh pins s1 σ H1 Q I1 q1
theorem ZF (ha:PT X a tA):PT X (.UnaryOp .Not a pos) (fZ tA):=by
 intro pins s σ H Q I h
 exact isTrue_not (ha pins s σ H (fun c H1=>Q (!c) H1) I h)
def aBf (ta tb:TE):TE:=fun σ H Q=>ta σ H fun x H1=>∃ c,x=.bl c/\if c=true then tb σ H1 Q else Q (.bl false) H1
def aFp (ta tb:TE):TE:=fun σ H Q=>ta σ H fun x H1=>∃ c,x=.bl c/\if c=true then Q (.bl true) H1 else tb σ H1 Q
def aBg (ta:TE):TE:=fun σ H Q=>ta σ H fun x H1=>∃ c,x=.bl c/\Q (.bl (!c)) H1
theorem ZG {op} {t:TE} (h:PE X a t):PE X (.BoolOp op [a] pos) t:=fun pins s σ H Q I hw=>BoolOp_one (h pins s σ H Q I hw)
theorem ZH (ha:PE X a ta) (hb:PE X (.BoolOp .And (b::rest) pos) tb):PE X (.BoolOp .And (a::b::rest) pos) (aBf ta tb):=by
 intro pins s σ H Q I h
 refine BoolOp_and (eP (ha pins s σ H _ I h) fun v s1 ⟨x,H1,I1,r1,q1⟩=>?_)
 obtain ⟨c,rfl,q1⟩:=q1
 cases r1
 refine wpAny_truthy_bool ?_
 cases c with
 | true=>exact hb pins s1 σ H1 Q I1 q1
 | false=>exact ⟨.bl false,H1,I1,rfl,q1⟩
theorem aBh (ha:PE X a ta) (hb:PE X (.BoolOp .Or (b::rest) pos) tb):PE X (.BoolOp .Or (a::b::rest) pos) (aFp ta tb):=by
 intro pins s σ H Q I h
 refine BoolOp_or (eP (ha pins s σ H _ I h) fun v s1 ⟨x,H1,I1,r1,q1⟩=>?_)
 obtain ⟨c,rfl,q1⟩:=q1
 cases r1
 refine wpAny_truthy_bool ?_
 cases c with
 | false=>exact hb pins s1 σ H1 Q I1 q1
 | true=>exact ⟨.bl true,H1,I1,rfl,q1⟩
theorem ZI (ha:PE X a ta):PE X (.UnaryOp .Not a pos) (aBg ta):=by
 intro pins s σ H Q I h
 refine UnaryOp_ (eP (ha pins s σ H _ I h) fun v s1 ⟨x,H1,I1,r1,q1⟩=>?_)
 obtain ⟨c,rfl,q1⟩:=q1
 cases r1
 exact not_of (wpAny_truthy_bool ⟨.bl (!c),H1,I1,rfl,q1⟩)
def tIf (t:TT) (ta tb:TE):TE:=fun σ H Q=>t σ H fun c H1=>if c=true then ta σ H1 Q else tb σ H1 Q
theorem PK {c:Expr} (hc:PT X c tA) (ha:PE X a ta) (hb:PE X b tb):PE X (.IfExp c a b pos) (tIf tA ta tb):=by
 intro pins s σ H Q I h
 refine wpAny_IfExp (eP (hc pins s σ H _ I h) fun d s1 ⟨H1,I1,q1⟩=>?_)
 cases d with
 | true=>exact ha pins s1 σ H1 Q I1 q1
 | false=>exact hb pins s1 σ H1 Q I1 q1
end
end L2
namespace L2
open PySem PySem.Spec PyProof.Rows
def eV (K:PySem.W.Frag) (H:Hp) (a:Addr) (xs:List V):Prop :=
 Rd H a (.lst xs) \/
  ∃ (o:Obj) (its:Array Value) (n:Nat),K.lookup a=some o/\o.cls=.type "list" /\ o.dict=none/\o.data=.seq its n/\its.size<=sizeLine/\Vals xs its.toList
def gC (K:PySem.W.Frag) (H:Hp) (a:Addr) (xs:List V):Prop :=
 Rd H a (.tup xs) \/
  ∃ (o:Obj) (its:Array Value) (n:Nat),K.lookup a=some o/\o.cls=.type "tuple" /\ o.data=.seq its n/\its.size<=sizeLine/\Vals xs its.toList
def aFq:Value->Option V
 | .none=>some .non
 | .bool b=>some (.bl b)
 | .int i _=>some (.int i)
 | .str x _=>some (.str x)
 | .bytes b _=>some (.K6 b)
 | .float b _=>some (.flt b)
 | .ref a=>some (.ref a)
 | .type n=>some (.ty n)
 | _=>none
theorem RelV.abs {x:V} {u:Value} (r:RelV x u):aFq u=some x:=by
 cases x with
 | non=>cases r; rfl
 | bl _=>cases r; rfl
 | int _=>obtain ⟨t,rfl⟩:=r; rfl
 | str _=>obtain ⟨t,rfl⟩:=r; rfl
 | K6 _=>obtain ⟨t,rfl⟩:=r; rfl
 | flt _=>obtain ⟨t,rfl⟩:=r; rfl
 | ref _=>cases r; rfl
 | ty _=>cases r; rfl
theorem RelV.inj {x y:V} {u:Value} (r:RelV x u) (q:RelV y u):x=y:=Option.some.inj (r.abs.symm.trans q.abs)
theorem Vals.inj:∀ {xs ys:List V} {us:List Value},Vals xs us->Vals ys us->xs=ys
 | _,_,_,.nil,.nil=>rfl
 | _,_,_,.cons r t,.cons r' t'=>by rw [r.inj r',Vals.inj t t']
section
variable {X:Cx} {pins:List (Addr×Obj)} {σ:St} {H:Hp} {s:Shared} {a:Addr} {xs ys:List V}
theorem eV.of {K:PySem.W.Frag} (h:H a=some (.lst xs)):eV K H a xs:=.inl (.inl h)
theorem gC.of {K:PySem.W.Frag} (h:H a=some (.tup xs)):gC K H a xs:=.inl (.inl h)
theorem Inv.list (I:Inv X pins σ H s) (h:eV X.K H a xs):∃ its:List Value,Vals xs its/\PlainL s.heap a its.toArray/\xs.length<=sizeLine:=by
 rcases h with h | ⟨o,its,n,hk,hc,hd,hs,hz,r⟩
 ·obtain ⟨z,its,n,r,e⟩:=h.ok I.hok
  exact ⟨its,r,⟨_,n,e,rfl,rfl,rfl⟩,z⟩
 ·refine ⟨its.toList,r,⟨o,n,I.yH a o hk,hc,hd,by simpa using hs⟩,?_⟩
  have e:=r.length
  simp only [Array.length_toList] at e
  omega
theorem Inv.tuple (I:Inv X pins σ H s) (h:gC X.K H a xs):∃ its:List Value,Vals xs its/\IsTup s.heap a its.toArray/\xs.length<=sizeLine:=by
 rcases h with h | ⟨o,its,n,hk,hc,hs,hz,r⟩
 ·obtain ⟨z,its,r,p⟩:=h.ok I.hok
  exact ⟨its,r,p,z⟩
 ·refine ⟨its.toList,r,⟨o,I.yH a o hk,hc,n,by simpa using hs⟩,?_⟩
  have e:=r.length
  simp only [Array.length_toList] at e
  omega
theorem Inv.fK (I:Inv X pins σ H s) (h:eV X.K H a xs) (h':eV X.K H a ys):xs=ys:=by
 obtain ⟨its,r,⟨o,n,e,_,_,d⟩,_⟩:=I.list h
 obtain ⟨its',r',⟨o',n',e',_,_,d'⟩,_⟩:=I.list h'
 rw [e] at e'; cases e'
 rw [d] at d'
 injection d' with d1 _
 have:its=its':=by simpa using congrArg Array.toList d1
 subst this
 exact r.inj r'
theorem Inv.nY (I:Inv X pins σ H s) (h:gC X.K H a xs) (h':gC X.K H a ys):xs=ys:=by
 obtain ⟨its,r,⟨o,e,_,n,d⟩,_⟩:=I.tuple h
 obtain ⟨its',r',⟨o',e',_,n',d'⟩,_⟩:=I.tuple h'
 rw [e] at e'; cases e'
 rw [d] at d'
 injection d' with d1 _
 have:its=its':=by simpa using congrArg Array.toList d1
 subst this
 exact r.inj r'
end
abbrev Cx.wish (X:Cx) (E:Value->Shared->Prop):Cx:={ X with xe:=E }
abbrev Cx.UT (X:Cx):Cx:=X.wish fun _ _=>False
theorem Cx.Ok.wish {X:Cx} (ok:X.Ok) (E:Value->Shared->Prop):(X.wish E).Ok :=
 ⟨ok.mod,ok.kind,ok.glob,ok.blt,ok.above,ok.inj,ok.has,ok.cab,ok.hd,ok.frames,ok.stk,ok.exf,ok.bs,ok.UO,ok.PJ,ok.UP,ok.uE,ok.frf⟩
theorem Cx.Ok.lJ {X:Cx} {E:Value->Shared->Prop} (ok:(X.wish E).Ok):X.Ok :=
 ⟨ok.mod,ok.kind,ok.glob,ok.blt,ok.above,ok.inj,ok.has,ok.cab,ok.hd,ok.frames,ok.stk,ok.exf,ok.bs,ok.UO,ok.PJ,ok.UP,ok.uE,ok.frf⟩
section
variable {X:Cx} {pins:List (Addr×Obj)} {σ:St} {H:Hp} {s:Shared} {E:Value->Shared->Prop}
theorem Inv.wish (I:Inv X pins σ H s) (E:Value->Shared->Prop):Inv (X.wish E) pins σ H s:=⟨I.ok.wish E,I.os,I.bare,I.base,I.loc,I.cell,I.free,I.kN,I.pin,I.hok,I.len⟩
theorem Inv.lJ (I:Inv (X.wish E) pins σ H s):Inv X pins σ H s:=⟨I.ok.lJ,I.os,I.bare,I.base,I.loc,I.cell,I.free,I.kN,I.pin,I.hok,I.len⟩
theorem SP.lJ {D:Ends} {f:Flow} {s':Shared} (h:SP (X.wish E) pins D f s'):SP X pins D f s':=by
 cases f with
 | next=>obtain ⟨σ',H',I,q⟩:=h; exact ⟨σ',H',I.lJ,q⟩
 | brk=>obtain ⟨σ',H',I,q⟩:=h; exact ⟨σ',H',I.lJ,q⟩
 | cont=>obtain ⟨σ',H',I,q⟩:=h; exact ⟨σ',H',I.lJ,q⟩
 | ret u=>obtain ⟨v,σ',H',I,r,q⟩:=h; exact ⟨v,σ',H',I.lJ,r,q⟩
theorem BZ.UT {st:List Stmt} {t:TS} (h:BZ X.UT st t):BZ X st t:=fun pins s σ H D I hw =>
 wpAny_mono (h pins s σ H D (I.wish _) hw) (fun _ _ q=>q.lJ) fun _ _ z=>False.elim z
end
section
variable {X:Cx} {st:Stmt} {rest:List Stmt} {t u:TS} {e:Expr} {te:TE} {pos:Pos}
def aBi:TS:=fun D σ H=>D.nx σ H
def PM (t u:TS):TS:=fun D σ H=>t { D with nx:=u D } σ H
theorem UU:BZ X [] aBi:=fun _ _ σ H _ I h=>wpAny_execs_nil ⟨σ,H,I,h⟩
theorem wN (h1:PS X st t) (h2:BZ X rest u):BZ X (st::rest) (PM t u):=by
 intro pins s σ H D I h
 refine wpAny_execs_cons (eP (h1 pins s σ H { D with nx:=u D } I h) fun f s1 q=>?_)
 cases f with
 | next =>
  obtain ⟨σ',H',I',q⟩:=q
  exact h2 pins s1 σ' H' D I' q
 | ret v=>exact q
 | brk=>exact q
 | cont=>exact q
theorem JA (h1:PS X st t):BZ X [st] t:=by
 intro pins s σ H D I h
 refine wpAny_execs_cons (eP (h1 pins s σ H D I h) fun f s1 q=>?_)
 cases f with
 | next=>exact wpAny_execs_nil q
 | ret v=>exact q
 | brk=>exact q
 | cont=>exact q
theorem Inv.quiet {pins:List (Addr×Obj)} {σ:St} {H:Hp} {s:Shared} (I:Inv X pins σ H s):interactive X.env=false:=by simp [interactive,I.ok.kind]
def aBj (te:TE):TS:=fun D σ H=>te σ H fun _ H1=>D.nx σ H1
theorem B0 (he:PE X e te) (hs:swapsWith e none pos.line X.env=pure false:=by rfl):PS X (.Expr e pos) (aBj te):=by
 intro pins s σ H D I h
 exact wpAny_Expr_any (eP (he pins s σ H _ I h) fun v s1 ⟨x,H1,I1,r1,q1⟩=>⟨σ,H1,I1,q1⟩) I.quiet hs
def aBk (te:TE):TS:=fun D σ H=>te σ H D.rt
theorem GD (he:PE X e te):PS X (.Return (some e) pos) (aBk te):=by
 intro pins s σ H D I h
 exact wpAny_Return_some (eP (he pins s σ H _ I h) fun v s1 ⟨x,H1,I1,r1,q1⟩=>⟨x,σ,H1,I1,r1,q1⟩)
def aFr (c:TT) (t u:TS):TS:=fun D σ H=>c σ H fun b H1=>if b=true then t D σ H1 else u D σ H1
theorem aBl {c:Expr} {a b:List Stmt} {tc:TT} (hc:PT X c tc) (ha:BZ X a t) (hb:BZ X b u):PS X (.If c a b pos) (aFr tc t u):=by
 intro pins s σ H D I h
 refine wpAny_If (eP (hc pins s σ H _ I h) fun d s1 ⟨H1,I1,q1⟩=>?_)
 cases d with
 | true=>exact ha pins s1 σ H1 D I1 q1
 | false=>exact hb pins s1 σ H1 D I1 q1
end
abbrev TG:=V->St->Hp->(St->Hp->Prop)->Prop
abbrev ZJ:=List V->St->Hp->(St->Hp->Prop)->Prop
def PG (X:Cx) (target:Expr) (t:TG):Prop :=
 ∀ (pins:List (Addr×Obj)) (s:Shared) (σ:St) (H:Hp) (v:V) (u:Value) (Q:St->Hp->Prop),Inv X pins σ H s->RelV v u->t v σ H Q ->
  wpAny (model X.prog X.w) X.A (assign target X.env u) (fun _ s'=>∃ σ' H',Inv X pins σ' H' s'/\Q σ' H') X.xe s
def PGs (X:Cx) (ts:List Expr) (t:ZJ):Prop :=
 ∀ (pins:List (Addr×Obj)) (s:Shared) (σ:St) (H:Hp) (vs:List V) (us:List Value) (Q:St->Hp->Prop),Inv X pins σ H s->Vals vs us->t vs σ H Q ->
  wpAny (model X.prog X.w) X.A (assignInOrder ((assignEach ts X.env).map (·.2)) us) (fun _ s'=>∃ σ' H',Inv X pins σ' H' s'/\Q σ' H') X.xe s
abbrev ZK:=V->V->V->Hp->(Hp->Prop)->Prop
def aBm (X:Cx) (t:ZK):Prop :=
 ∀ (pins:List (Addr×Obj)) (s:Shared) (σ:St) (H:Hp) (o i v:V) (ov iv u:Value) (Q:Hp->Prop),Inv X pins σ H s->RelV o ov->RelV i iv->RelV v u->t o i v H Q ->
  wpAny (model X.prog X.w) X.A (setItem ov iv u) (fun _ s'=>∃ H',Inv X pins σ H' s'/\Q H') X.xe s
section
variable {X:Cx} {pos:Pos}
def PN (i:Nat):TG:=fun v σ H Q=>Q (σ.set i (some v)) H
theorem nZ {i:Nat} {x:Str} (hN:X.N.Nodup) (hi:X.N[i]? = some x) (hx:Loc X.env.scope x) (hf:X.fn x=true\/X.env.scope.names.lookup x=some .local:=by first | exact .inl rfl | exact .inr rfl | assumption):PG X (.Name x pos) (PN i):=by
 intro pins s σ H v u Q I r h
 exact wpAny_assign_Name (qL I hN hi hx r (fun s' I'=>⟨_,H,I',h⟩) hf)
def aFs:ZJ:=fun vs σ H Q=>vs=[]/\Q σ H
def aBn (t:TG) (u:ZJ):ZJ:=fun vs σ H Q=>∃ v r,vs=v::r/\t v σ H fun σ' H'=>u r σ' H' Q
theorem JB:PGs X [] aFs:=by
 intro pins s σ H vs us Q I r h
 obtain ⟨e,h⟩:=h
 subst e
 cases r
 exact assignInOrder_nil ⟨σ,H,I,h⟩
theorem qM {e:Expr} {es:List Expr} {t:TG} {u:ZJ} (h1:PG X e t) (h2:PGs X es u)
  (hs:(assignEach (e::es) X.env).map (·.2)=assign e X.env::(assignEach es X.env).map (·.2):=by rfl):PGs X (e::es) (aBn t u):=by
 intro pins s σ H vs us Q I r h
 obtain ⟨v,vr,e1,h⟩:=h
 subst e1
 cases r with
 | cons r rr =>
  rw [hs]
  refine assignInOrder_cons (eP (h1 pins s σ H _ _ _ I r h) fun _ s1 ⟨σ1,H1,I1,q1⟩=>?_)
  exact h2 pins s1 σ1 H1 _ _ Q I1 rr q1
def aFt (K:PySem.W.Frag) (n:Nat) (t:ZJ):TG:=fun v σ H Q=>∃ a xs,v=.ref a/\gC K H a xs/\xs.length=n/\t xs σ H Q
theorem PQ {es:List Expr} {k:Nat} {t:ZJ} {n:Nat} (hc:X.calm=true) (h:PGs X es t)
  (hn:(assignEach es X.env).length=n:=by rfl) (hst:(assignEach es X.env).findIdx? (·.1)=none:=by rfl):PG X (.Tuple es k pos) (aFt X.K n t):=by
 intro pins s σ H v u Q I r hw
 obtain ⟨a,xs,e1,hq,hl,hw⟩:=hw
 subst e1
 cases r
 obtain ⟨its,rv,ht,hz⟩:=I.tuple hq
 refine assign_Tuple_tuple (I.ok.hd hc) ht (by simp [hn,<- hl,rv.length]) hst fun h' hx=>?_
 have I1:Inv X pins σ H { s with heap:=h' }:=I.kept (t':=s.toks) fun b o e=>hx b o (Nat.ne_of_lt (Heap.lt_size e)) e
 exact h pins _ σ H xs _ Q I1 (by simpa using rv) hw
def aFu (to ti:TE) (t:ZK):TG:=fun v σ H Q=>to σ H fun o H1=>ti σ H1 fun i H2=>t o i v H2 fun H3=>Q σ H3
theorem ZL {o i:Expr} {to ti:TE} {t:ZK} (ho:PE X o to) (hi:PE X i ti) (hs:aBm X t)
  (ha:∀ v,assign (.Subscript o i pos) X.env v=(do
   let ov <- holding [v] (eval o X.env)
   let iv <- holding [v,ov] (eval i X.env)
   standAt pos
   holding [v,ov,iv] (setItem ov iv v)
   release [v,ov,iv] []):=by intro _; rfl):PG X (.Subscript o i pos) (aFu to ti t):=by
 intro pins s σ H v u Q I r h
 rw [ha]
 refine wpAny_bind (wpAny_holding (eP (ho pins s σ H _ I h) fun ov s1 ⟨x,H1,I1,r1,q1⟩=>?_))
 refine wpAny_bind (wpAny_holding (eP (hi pins s1 σ H1 _ I1 q1) fun iv s2 ⟨y,H2,I2,r2,q2⟩=>?_))
 refine wpAny_bind (wpAny_standAt (wpAny_bind (wpAny_holding (eP (hs pins s2 σ H2 x y v ov iv u _ I2 r1 r2 r q2) fun _ s3 ⟨H3,I3,q3⟩=>?_))))
 exact wpAny_release ⟨σ,H3,I3,q3⟩
def ZM (te:TE) (g:TG):TS:=fun D σ H=>te σ H fun x H1=>g x σ H1 D.nx
theorem PU {tg e:Expr} {te:TE} {g:TG} (he:PE X e te) (hg:PG X tg g) (hs:swapsWithSole [tg] e pos.line X.env=pure false:=by rfl) (hw:swappedStores [tg] e X.env=pure none:=by rfl)
  (h1:(assignEach [tg] X.env).map (·.2)=[assign tg X.env]:=by rfl):PS X (.Assign [tg] e pos) (ZM te g):=by
 intro pins s σ H D I h
 refine wpAny_Assign_stores (eP (he pins s σ H _ I h) fun v s1 ⟨x,H1,I1,r1,q1⟩=>?_) hs hw
 rw [h1]
 exact eP (hg pins s1 σ H1 x v _ I1 r1 q1) fun _ s2 q=>q
theorem sO {i:Nat} {x:Str} {e:Expr} {te:TE} {pos':Pos} (hN:X.N.Nodup) (hi:X.N[i]? = some x) (hx:Loc X.env.scope x) (he:PE X e te) (hs:swapsWith e (some (.Name x pos')) pos.line X.env=pure false:=by rfl) (hf:X.fn x=true\/X.env.scope.names.lookup x=some .local:=by first | exact .inl rfl | exact .inr rfl | assumption) :
  PS X (.Assign [.Name x pos'] e pos) (ZM te (PN i)):=by
 intro pins s σ H D I h
 refine wpAny_Assign_Name (eP (he pins s σ H _ I h) fun v s1 ⟨y,H1,I1,r1,q1⟩=>?_) hs
 exact qL I1 hN hi hx r1 (fun s2 I2=>⟨_,H1,I2,q1⟩) hf
def aFv (i j:Nat) (ta:TA):TS:=fun D σ H=>ta σ H fun vs H1=>∃ v w,vs=[v,w]/\D.nx ((σ.set i (some v)).set j (some w)) H1
theorem ZN {i j:Nat} {x y:Str} {a b:Expr} {ta:TA} {px py pt:Pos} {kt k2 ZO} (hc:X.calm=true) (hN:X.N.Nodup) (hi:X.N[i]? = some x) (hj:X.N[j]? = some y) (hij:i≠j)
  (hx:X.env.scope.names.lookup x=some .local) (hy:X.env.scope.names.lookup y=some .local) (ha:PA X [a,b] ta)
  (hw:swappedStores [.Tuple [.Name x px,.Name y py] kt pt] (.Tuple [a,b] k2 ZO) X.env=pure (some [x,y]))
  (hs:swapsWithSole [.Tuple [.Name x px,.Name y py] kt pt] (.Tuple [a,b] k2 ZO) pos.line X.env=pure false:=by rfl) :
  PS X (.Assign [.Tuple [.Name x px,.Name y py] kt pt] (.Tuple [a,b] k2 ZO) pos) (aFv i j ta):=by
 intro pins s σ H D I h
 rw [exec_Assign_arm]
 refine wpAny_bind (wpAny_standAt ?_)
 rw [hs]
 refine wpAny_bind (wpAny_pure ?_)
 rw [if_neg (by decide)]
 refine wpAny_bind (Tuple_ (eP (ha _ pins s σ H _ I h) fun us s1 ⟨vs,H1,I1,r1,q1⟩=>?_))
 obtain ⟨v,w,e1,q1⟩:=q1
 subst e1
 obtain ⟨u1,u2,rfl,rv,vX⟩:∃ u1 u2,us=[u1,u2]/\RelV v u1/\RelV w u2:=by
  cases r1 with
  | cons p q =>
   cases q with
   | cons p' q' =>
    cases q'
    exact ⟨_,_,rfl,p,p'⟩
 refine wpAny_newObj_type ?_ (by show 2<=sizeLine; decide)
 have I2:Inv X pins σ H1 { s1 with heap:=s1.heap.push { cls:=.type "tuple",data:=.seq [u1,u2].toArray } }:=I1.kept (t':=s1.toks) fun b o e=>Heap.get?_push_of_some _ e
 rw [hw]
 refine wpAny_bind (wpAny_pure ?_)
 show wpAny (model X.prog X.w) X.A (do rule "assign.swapped-stores"; let items <- unpackItems (.ref s1.heap.objs.size) 2 none; assignInOrder [fun v=>bindName X.env y v,fun v=>bindName X.env x v] items.reverse; pure Flow.next) _ _ _
 refine wpAny_bind (wpAny_rule (wpAny_bind (unpackItems_tuple (items:=#[u1,u2]) (I.ok.hd hc) (IsTup.new s1.heap _) fun h' hx'=>?_)))
 have I3:=I2.kept (h':=h') (t':=s1.toks) fun b o e=>hx' b o (Nat.ne_of_lt (Heap.lt_size e)) e
 show wpAny _ _ (assignInOrder [fun v=>bindName X.env y v,fun v=>bindName X.env x v] [u2,u1] >>= fun _=>pure Flow.next) _ _ _
 refine wpAny_bind (assignInOrder_cons (wpAny_bindName (qL I3 hN hj (.inl hy) vX (fun s2 I4=>?_) (.inr hy))))
 refine assignInOrder_cons (wpAny_bindName (qL I4 hN hi (.inl hx) rv (fun s3 I5=>assignInOrder_nil (wpAny_pure ?_)) (.inr hx)))
 rw [List.set_comm _ _ (Ne.symm hij)] at I5
 exact ⟨_,H1,I5,q1⟩
end
section
variable {X:Cx} {pos:Pos}
end
structure It where
 go:Nat->Hp->Prop
 yld:Nat->Hp->V->Hp->Prop
 stop:Nat->Hp->Prop
def pH (X:Cx) (pins:List (Addr×Obj)) (H:Hp) (b:Addr):Prop :=
 H b=none/\b≠X.env.locals/\b∉X.fs/\(b∈X.ex\/X.s₀.heap.objs.size<=b)/\(∀ x c,X.env.cells.lookup x=some c->c≠b) /\ ∀ p∈X.pn++pins,p.1≠b
theorem Inv.GF {X:Cx} {pins:List (Addr×Obj)} {σ:St} {H H':Hp} {s:Shared} {b:Addr} (I:Inv X pins σ H s) (hb:s.heap.objs.size<=b) (hn:H' b=none):pH X pins H' b:=by
 refine ⟨hn,Nat.ne_of_gt (Nat.lt_of_lt_of_le I.lt hb),I.aFm hb,.inr (Nat.le_trans I.sz hb),fun x c e z=>?_,fun p hp z=>?_⟩
 ·obtain ⟨v,q⟩:=I.cell x c e
  exact absurd (Nat.lt_of_lt_of_le q.lt (by rw [z]; exact hb)) (Nat.lt_irrefl _)
 ·exact absurd (Nat.lt_of_lt_of_le (Heap.lt_size (I.pin p hp).1) (by rw [z]; exact hb)) (Nat.lt_irrefl _)
structure Turn (P:Program) (w:World) (K:PySem.W.Frag) (tg:Expr) (J:It) (fp:List Addr) (it:Addr) (tn:Nat->Heap->Prop):Prop where
 mem:it∈fp
 obj:∀ i h,tn i h -> ∀ b∈fp,∃ o,h.get? b=some o /\ ∀ v,o.data≠.cell v
 keep:∀ i h h',tn i h->(∀ b∈fp,∀ o,h.get? b=some o->h'.get? b=some o)->tn i h'
 item:∀ (X:Cx),X.prog=P->X.w=w->X.K=K->X.calm=true -> ∀ (i:Nat) (pins:List (Addr×Obj)) (s:Shared) (σ:St) (H:Hp) (E:Value->Shared->Prop),Inv X pins σ H s->(∀ b∈fp,pH X pins H b)->tn i s.heap->J.go i H ->
  wpAny (model P w) X.A (pyNext (.ref it)) (fun r s1=>∃ u,r=some u /\
   wpAny (model P w) X.A (letOwnedTupleGo tg (.ref it) u) (fun _ s2=>∃ x H',Inv X pins σ H' s2/\RelV x u/\J.yld i H x H'/\tn (i+1) s2.heap /\ ∀ b∈fp,H' b=none) E s1) E s
 done:∀ (X:Cx),X.prog=P->X.w=w->X.K=K->X.calm=true -> ∀ (i:Nat) (pins:List (Addr×Obj)) (s:Shared) (σ:St) (H:Hp) (E:Value->Shared->Prop),Inv X pins σ H s->(∀ b∈fp,pH X pins H b)->tn i s.heap->J.stop i H ->
  wpAny (model P w) X.A (pyNext (.ref it)) (fun r s1=>r=none/\Inv X pins σ H s1) E s
 self:∀ (A:Around) (i:Nat) (s:Shared) (Q:Value->Shared->Prop) (E:Value->Shared->Prop),tn i s.heap->Q (.ref it) s->wpAny (model P w) A (pyIter (.ref it)) Q E s
abbrev TI:=St->Hp->(It->Hp->Prop)->Prop
def PIE (X:Cx) (pins:List (Addr×Obj)) (σ:St) (tg:Expr) (R:It->Hp->Prop) (itv:Value) (s2:Shared):Prop :=
 ∃ (it:Addr) (fp:List Addr) (tn:Nat->Heap->Prop) (J:It) (H':Hp),itv=.ref it/\Inv X pins σ H' s2/\Turn X.prog X.w X.K tg J fp it tn/\tn 0 s2.heap/\(∀ b∈fp,pH X pins H' b)/\R J H'
def PI (X:Cx) (tg iter:Expr) (wi:TI):Prop :=
 ∀ (pins:List (Addr×Obj)) (s:Shared) (σ:St) (H:Hp) (R:It->Hp->Prop),Inv X pins σ H s->wi σ H R ->
  wpAny (model X.prog X.w) X.A (eval iter X.env) (fun v s1=>wpAny (model X.prog X.w) X.A (pyIter v) (PIE X pins σ tg R) X.xe s1) X.xe s
theorem PV {M:Model} {A:Around} {E:Value->Shared->Prop} {s:Shared} {tg:Expr} {it:Addr} {u:Value} {o:Obj} {n:String} {vs:Array Value} {Q:Unit->Shared->Prop} (ho:s.heap.get? it=some o) (hc:o.cls=.type n) (hd:o.data=.fields vs)
  (hn:["enumerate", "zip", "dict_itemiterator", "dict_reverseitemiterator", "odict_iterator", "itertools.zip_longest", "itertools.pairwise"].contains n=false) (hQ:Q () s):wpAny M A (letOwnedTupleGo tg (.ref it) u) Q E s:=by
 unfold letOwnedTupleGo
 cases tg<;>first
  | exact wpAny_pure hQ
  | (cases u<;>first
    | exact wpAny_pure hQ
    | (refine wpAny_bind (wpAny_load ho ?_)
       rw [hc,hd]
       show wpAny M A (if (["enumerate", "zip", "dict_itemiterator", "dict_reverseitemiterator", "odict_iterator", "itertools.zip_longest", "itertools.pairwise"].contains n&&vs[0]? == some (rawInt _))=true then _ else _) Q E s
       rw [if_neg (by intro h; rw [hn,Bool.false_and] at h; cases h)]
       exact wpAny_pure hQ))
def Itl (K:PySem.W.Frag) (a:Addr):It :=
 ⟨fun i H=>∃ xs x,eV K H a xs/\xs[i]? = some x,fun i H x H'=>H' = H /\ ∀ xs,eV K H a xs->xs[i]? = some x,fun i H=>∃ xs,eV K H a xs/\xs.length<=i⟩
def Itt (K:PySem.W.Frag) (a:Addr):It :=
 ⟨fun i H=>∃ xs x,gC K H a xs/\xs[i]? = some x,fun i H x H'=>H' = H /\ ∀ xs,gC K H a xs->xs[i]? = some x,fun i H=>∃ xs,gC K H a xs/\xs.length<=i⟩
def Itr (lo:Int) (n:Nat):It:=⟨fun i _=>i<n,fun i H x H'=>H' = H/\x=.int (lo+i),fun i _=>n<=i⟩
theorem K8 {P:Program} {w:World} {K:PySem.W.Frag} {tg:Expr} (a it:Addr):Turn P w K tg (Itl K a) [it] it (fun i h=>h.IsListIter it a i) where
 mem:=by simp
 obj:=fun i h st b hb=>by
  have e:b=it:=by simpa using hb
  subst e
  obtain ⟨o,e,c,d⟩:=st
  exact ⟨o,e,fun v z=>by rw [d] at z; cases z⟩
 keep:=fun i h h' st k=>st.at fun o e=>k it (by simp) o e
 item:=by
  intro X hP hw hK hc i pins s σ H E I hf st hg
  subst hP hw hK
  obtain ⟨xs,x,hq,hx⟩:=hg
  obtain ⟨its,rv,p,hz⟩:=I.list hq
  obtain ⟨u,hu,ru⟩:=rv.get hx
  obtain ⟨f0,f1,f2,f3,f4,f5⟩:=hf it (by simp)
  refine wpAny_pyNext_list_item st p.isList (x:=u) (by simpa using hu) fun h' st' sb=>?_
  have I1:Inv X pins σ H { s with heap:=h' }:=I.turned (t':=s.toks) (fun b o hb e=>(sb.2 b hb).trans e) f0 f1 f3 f4 f5
  obtain ⟨o,e,c,d⟩:=id st'
  exact ⟨u,rfl,PV (s:={ s with heap:=h' }) e c d (by decide) ⟨x,H,I1,ru,⟨rfl,fun ys hy=>by rw [I.fK hy hq]; exact hx⟩,st',fun b hb=>(hf b hb).1⟩⟩
 done:=by
  intro X hP hw hK hc i pins s σ H E I hf st hg
  subst hP hw hK
  obtain ⟨xs,hq,hx⟩:=hg
  obtain ⟨its,rv,p,hz⟩:=I.list hq
  obtain ⟨f0,f1,f2,f3,f4,f5⟩:=hf it (by simp)
  have hl:=rv.length
  exact wpAny_pyNext_list_end (I.ok.hd hc) st p.isList (by simp; omega) fun h' eb=>⟨rfl,I.turned (t':=s.toks) (fun b o hb e=>eb b o hb e) f0 f1 f3 f4 f5⟩
 self:=fun _ _ _ _ _ st h=>wpAny_pyIter_listiter st h
theorem GG {P:Program} {w:World} {K:PySem.W.Frag} {tg:Expr} (a it:Addr):Turn P w K tg (Itt K a) [it] it (fun i h=>h.IsTupleIter it a i) where
 mem:=by simp
 obj:=fun i h st b hb=>by
  have e:b=it:=by simpa using hb
  subst e
  obtain ⟨o,e,c,d⟩:=st
  exact ⟨o,e,fun v z=>by rw [d] at z; cases z⟩
 keep:=fun i h h' st k=>st.at fun o e=>k it (by simp) o e
 item:=by
  intro X hP hw hK hc i pins s σ H E I hf st hg
  subst hP hw hK
  obtain ⟨xs,x,hq,hx⟩:=hg
  obtain ⟨its,rv,p,hz⟩:=I.tuple hq
  obtain ⟨u,hu,ru⟩:=rv.get hx
  obtain ⟨f0,f1,f2,f3,f4,f5⟩:=hf it (by simp)
  refine wpAny_pyNext_tuple_item st (show s.heap.IsTuple a its.toArray from p) (x:=u) (by simpa using hu) fun h' st' sb=>?_
  have I1:Inv X pins σ H { s with heap:=h' }:=I.turned (t':=s.toks) (fun b o hb e=>(sb.2 b hb).trans e) f0 f1 f3 f4 f5
  obtain ⟨o,e,c,d⟩:=id st'
  exact ⟨u,rfl,PV (s:={ s with heap:=h' }) e c d (by decide) ⟨x,H,I1,ru,⟨rfl,fun ys hy=>by rw [I.nY hy hq]; exact hx⟩,st',fun b hb=>(hf b hb).1⟩⟩
 done:=by
  intro X hP hw hK hc i pins s σ H E I hf st hg
  subst hP hw hK
  obtain ⟨xs,hq,hx⟩:=hg
  obtain ⟨its,rv,p,hz⟩:=I.tuple hq
  obtain ⟨f0,f1,f2,f3,f4,f5⟩:=hf it (by simp)
  have hl:=rv.length
  exact wpAny_pyNext_tuple_end (I.ok.hd hc) st (show s.heap.IsTuple a its.toArray from p) (by simp; omega) fun h' eb=>⟨rfl,I.turned (t':=s.toks) (fun b o hb e=>eb b o hb e) f0 f1 f3 f4 f5⟩
 self:=fun _ _ _ _ _ st h=>wpAny_pyIter_tupleiter st h
theorem GH {P:Program} {w:World} {K:PySem.W.Frag} {tg:Expr} (it:Addr) (lo:Int) (n:Nat):Turn P w K tg (Itr lo n) [it] it (fun i h=>IsRangeIter h it (lo+(i:Nat)*1) ((n:Int) - (i:Nat)) 1) where
 mem:=by simp
 obj:=fun i h st b hb=>by
  have e:b=it:=by simpa using hb
  subst e
  exact ⟨_,st,fun v z=>by
   have z':Data.fields _=Data.cell v:=z
   cases z'⟩
 keep:=fun i h h' st k=>k it (by simp) _ st
 item:=by
  intro X hP hw hK hc i pins s σ H E I hf st hg
  subst hP hw hK
  obtain ⟨f0,f1,f2,f3,f4,f5⟩:=hf it (by simp)
  have W:=Walks.range (prog:=X.prog) (w:=X.w) (I.ok.hd hc) it lo 1 n
  refine W.item i s _ _ hg st fun v h' tk hv st' kk=>?_
  obtain ⟨t,rfl⟩:=hv
  have I1:Inv X pins σ H { s with heap:=h',toks:=tk }:=I.turned (fun b o hb e=>kk b o (by simpa using hb) e) f0 f1 f3 f4 f5
  refine ⟨_,rfl,PV (s:={ s with heap:=h',toks:=tk }) (n := "range_iterator") st' rfl rfl (by decide) ⟨.int (lo+i),H,I1,⟨t,?_⟩,⟨rfl,rfl⟩,st',fun b hb=>(hf b hb).1⟩⟩
  rw [Int.mul_one]
 done:=by
  intro X hP hw hK hc i pins s σ H E I hf st hg
  subst hP hw hK
  obtain ⟨f0,f1,f2,f3,f4,f5⟩:=hf it (by simp)
  exact wpAny_pyNext_range_end (I.ok.hd hc) st (by have:n<=i:=hg; omega) fun h' eb=>⟨rfl,I.turned (t':=s.toks) (fun b o hb e=>eb b o hb e) f0 f1 f3 f4 f5⟩
 self:=fun _ _ _ _ _ st h=>wpAny_pyIter_rangeiter st h
end L2
namespace L2
open PySem PySem.Spec PyProof.Rows
section
variable {X:Cx} {tg:Expr}
theorem DT {pins:List (Addr×Obj)} {σ:St} {H:Hp} {s:Shared} {R:It->Hp->Prop} {E:Value->Shared->Prop} {lo hi:Int} {t u v:Tok} {tk:Nat} (I:Inv X pins σ H s) (h1:-(2 ^ 62)<=lo) (h2:lo<2 ^ 62) (h3:-(2 ^ 62)<=hi) (h4:hi<2 ^ 62)
  (q:R (Itr lo (hi - lo).toNat) H):wpAny (model X.prog X.w) X.A (pyIter (.ref s.heap.objs.size)) (PIE X pins σ tg R) E { s with heap:=s.heap.push { cls:=.type "range",data:=.fields #[.int lo t,.int hi u,.int 1 v] },toks:=tk }:=by
 refine wpAny_pyIter_range (IsRange.new ..) (small_one h1 h2 h3 h4) ?_
 have I1:Inv X pins σ H { s with heap:=s.heap.push { cls:=.type "range",data:=.fields #[.int lo t,.int hi u,.int 1 v] },toks:=tk }:=I.kept fun b o e=>Heap.get?_push_of_some _ e
 refine ⟨(s.heap.push { cls:=.type "range",data:=.fields #[.int lo t,.int hi u,.int 1 v] }).objs.size,[(s.heap.push { cls:=.type "range",data:=.fields #[.int lo t,.int hi u,.int 1 v] }).objs.size],_,_,H,rfl,
  I1.kept (t':=tk) fun b o e=>Heap.get?_push_of_some _ e,GH _ lo (hi - lo).toNat,?_,fun b hb=>?_,q⟩
 ·have e1:lo+((0:Nat):Int)*1=lo:=by simp
  have e2:(((hi - lo).toNat:Nat):Int) - ((0:Nat):Int)=Builtin.Range.rangeSize lo hi 1:=by rw [rangeSize_one]; split<;>omega
  show IsRangeIter _ _ (lo+((0:Nat):Int)*1) ((((hi - lo).toNat:Nat):Int) - ((0:Nat):Int)) 1
  rw [e1,e2]
  exact Heap.get?_push_size _ rfl
 ·have e:b=(s.heap.push { cls:=.type "range",data:=.fields #[.int lo t,.int hi u,.int 1 v] }).objs.size:=by simpa using hb
  subst e
  exact I1.GF (Nat.le_refl _) (I1.hok.fresh (Nat.le_refl _))
def aBp (ta:TA):TI:=fun σ H R=>ta σ H fun vs H1=>∃ j:Int,vs=[.int j] /\ -(2 ^ 62)<=j/\j<2 ^ 62/\R (Itr 0 j.toNat) H1
def aBq (ta:TA):TI:=fun σ H R=>ta σ H fun vs H1=>∃ i j:Int,vs=[.int i,.int j]/\(-(2 ^ 62)<=i/\i<2 ^ 62 /\ -(2 ^ 62)<=j/\j<2 ^ 62)/\R (Itr i (j - i).toNat) H1
theorem K9 {a:Expr} {ta:TA} {p pos:Pos} (hg:Gl X "range") (hm:X.mg "range" = none) (ha:PA X [a] ta) (hs:starEach [a] X.env=[(false,eval a X.env)]:=by rfl):PI X tg (.Call (.Name "range" p) [a] [] pos) (aBp ta):=by
 intro pins s σ H R I h
 refine Call_ (mR I hg hm boot_range (PyProof.Rows.callWith_type1 (eP (ha pos pins s σ H _ I h) fun us s1 ⟨vs,H1,I1,r1,q1⟩=>?_) hs rfl))
 obtain ⟨j,e,q1,q2,q⟩:=q1
 subst e
 cases r1 with
 | cons r rr =>
  cases rr
  obtain ⟨t,rfl⟩:=r
  exact call_range_1 (DT I1 (by omega) (by omega) q1 q2 (by simpa using q))
theorem LA {a b:Expr} {ta:TA} {p pos:Pos} (hg:Gl X "range") (hm:X.mg "range" = none) (ha:PA X [a,b] ta) (hs:starEach [a,b] X.env=[(false,eval a X.env),(false,eval b X.env)]:=by rfl) (hs2:starEach [b] X.env=[(false,eval b X.env)]:=by rfl) :
  PI X tg (.Call (.Name "range" p) [a,b] [] pos) (aBq ta):=by
 intro pins s σ H R I h
 refine Call_ (mR I hg hm boot_range (PyProof.Rows.callWith_type1 (eP (ha pos pins s σ H _ I h) fun us s1 ⟨vs,H1,I1,r1,q1⟩=>?_) (by rw [hs,hs2]) (by rw [hs2]; rfl)))
 obtain ⟨i,j,e,⟨q1,q2,q3,q4⟩,q⟩:=q1
 subst e
 cases r1 with
 | cons r rr =>
  cases rr with
  | cons r' rr =>
   cases rr
   obtain ⟨t,rfl⟩:=r
   obtain ⟨t',rfl⟩:=r'
   exact call_range_2 (DT I1 q1 q2 q3 q4 q)
def aFy (wi:TI) (g:TG) (tb:TS):TS:=fun D σ H=>wi σ H fun J H1=>∃ W:Nat->Nat->St->Hp->Prop,(∃ m,W 0 m σ H1) /\ ∀ i m σ H,W i m σ H ->
 (J.stop i H/\D.nx σ H)\/(J.go i H /\ ∃ N:St->Hp->Prop,(∀ σ' H',N σ' H' -> ∃ m',m'<m/\W (i+1) m' σ' H') /\ ∀ x H',J.yld i H x H'->g x σ H' fun σ2 H2=>tb { D with nx:=N,ct:=N,bk:=D.nx } σ2 H2)
def wQ (fp:List Addr) (h:Heap):List (Addr×Obj):=fp.filterMap fun b=>(h.get? b).map fun o=>(b,o)
theorem lK {fp:List Addr} {h:Heap} {b:Addr} {o:Obj} (hb:b∈fp) (e:h.get? b=some o):(b,o)∈wQ fp h:=List.mem_filterMap.mpr ⟨b,hb,by rw [e]; rfl⟩
theorem LB {fp:List Addr} {h:Heap} {p:Addr×Obj} (hp:p∈wQ fp h):p.1∈fp/\h.get? p.1=some p.2:=by
 obtain ⟨b,hb,e⟩:=List.mem_filterMap.mp hp
 cases q:h.get? b with
 | none=>rw [q] at e; cases e
 | some o =>
  rw [q] at e
  have e':(b,o)=p:=Option.some.inj e
  subst e'
  exact ⟨hb,q⟩
theorem Inv.pinned {pins:List (Addr×Obj)} {σ:St} {H:Hp} {s:Shared} {fp:List Addr} (I:Inv X pins σ H s) (hf:∀ b∈fp,pH X pins H b) (ho:∀ b∈fp,∃ o,s.heap.get? b=some o /\ ∀ v,o.data≠.cell v):Inv X (pins++wQ fp s.heap) σ H s :=
 I.IY fun p hp=>(List.mem_append.mp hp).elim (fun z=>I.pin p (List.mem_append_right _ z)) fun z=>by
  obtain ⟨hb,e⟩:=LB z
  obtain ⟨f0,f1,f2,_⟩:=hf p.1 hb
  obtain ⟨o,e',d⟩:=ho p.1 hb
  rw [e] at e'; cases e'
  exact ⟨e,f0,f1,f2,d⟩
theorem Inv.qN {pins pl:List (Addr×Obj)} {σ:St} {H:Hp} {s:Shared} (I:Inv X (pins++pl) σ H s):Inv X pins σ H s:=I.IY fun p hp=>I.pin p (List.mem_append_right _ (List.mem_append_left _ hp))
theorem ZP {iter:Expr} {body:List Stmt} {wi:TI} {g:TG} {tb:TS} {pos:Pos} (hp:PassesOwn (model X.prog X.w) X.A X.env X.xe) (hc:X.calm=true) (hi:PI X tg iter wi) (hg:PG X tg g) (hb:BZ X body tb)
  (hs:∀ x,foldedSetIterable iter X.env x=pure x:=by intro _; rfl):PS X (.For tg iter body [] pos) (aFy wi g tb):=by
 intro pins s σ H D I h
 refine wpAny_For (eP (hi pins s σ H _ I h) fun v s1 h1=>eP h1 fun itv s2 h2=>?_) hs
 obtain ⟨it,fp,tn,J,H2,e,I2,T,st2,f2,W,⟨m0,w0⟩,turn⟩:=h2
 subst e
 -- what stays true of the iterator's objects through the loop
 have stat:∀ {H':Hp},(∀ b∈fp,H' b=none) -> ∀ b∈fp,pH X pins H' b:=fun hn b hb=>⟨hn b hb,(f2 b hb).2⟩
 refine codeAny_forLoop_any (fun n s'=>∃ i σ' H',Inv X pins σ' H' s'/\tn i s'.heap/\(∀ b∈fp,H' b=none)/\W i n σ' H') ?_ m0 ⟨0,σ,H2,I2,st2,fun b hb=>(f2 b hb).1,w0⟩
 rintro n s3 ⟨i,σ3,H3,I3,st3,fr3,w3⟩
 rcases turn i n σ3 H3 w3 with ⟨stop,qn⟩ | ⟨go,N,hN,step⟩
 ·refine wpAny_passesOwn hp (eP (T.done X rfl rfl rfl hc i pins s3 σ3 H3 X.xe I3 (stat fr3) st3 stop) fun r s4 ⟨hr,I4⟩=>?_)
  subst hr
  exact wpAny_execs_nil ⟨σ3,H3,I4,qn⟩
 ·refine wpAny_passesOwn hp (eP (T.item X rfl rfl rfl hc i pins s3 σ3 H3 X.xe I3 (stat fr3) st3 go) fun r s4 ⟨u,hr,h4⟩=>?_)
  subst hr
  refine wpAny_passesOwn hp (eP h4 fun _ s5 ⟨x,H5,I5,r5,y5,st5,fr5⟩=>?_)
  have I5':=I5.pinned (stat fr5) (T.obj _ _ st5)
  refine wpAny_passesOwn hp (eP (hg _ s5 σ3 H5 x u _ I5' r5 (step x H5 y5)) fun _ s6 ⟨σ6,H6,I6,q6⟩=>?_)
  refine wpAny_passesOwn hp (eP (hb _ s6 σ6 H6 _ I6 q6) fun f s7 q7=>?_)
  have again:∀ {σ7:St} {H7:Hp},Inv X (pins++wQ fp s5.heap) σ7 H7 s7->N σ7 H7 -> ∃ m,m<n /\ ∃ i σ' H',Inv X pins σ' H' s7/\tn i s7.heap/\(∀ b∈fp,H' b=none)/\W i m σ' H':=fun {σ7 H7} I7 n7=>by
   obtain ⟨m',hm,w7⟩:=hN σ7 H7 n7
   refine ⟨m',hm,i+1,σ7,H7,I7.qN,T.keep _ _ _ st5 fun b hb o e=>(I7.pin (b,o) (List.mem_append_right _ (List.mem_append_right _ (lK hb e)))).1,fun b hb=>?_,w7⟩
   obtain ⟨o,e,d⟩:=T.obj _ _ st5 b hb
   exact (I7.pin (b,o) (List.mem_append_right _ (List.mem_append_right _ (lK hb e)))).2.1
  cases f with
  | next=>obtain ⟨σ7,H7,I7,n7⟩:=q7; exact again I7 n7
  | cont=>obtain ⟨σ7,H7,I7,n7⟩:=q7; exact again I7 n7
  | brk=>obtain ⟨σ7,H7,I7,q7⟩:=q7; exact ⟨σ7,H7,I7.qN,q7⟩
  | ret v=>obtain ⟨x7,σ7,H7,I7,r7,q7⟩:=q7; exact ⟨x7,σ7,H7,I7.qN,r7,q7⟩
end
end L2
namespace L2
open PySem PySem.Spec PyProof.Rows
abbrev R2:=V->V->Hp->VK->Prop
def kB (X:Cx) (f:Value->Value->Sem Value) (r:R2):Prop :=
 ∀ (pins:List (Addr×Obj)) (s:Shared) (σ:St) (H:Hp) (x y:V) (v u:Value) (Q:VK),Inv X pins σ H s->RelV x v->RelV y u->r x y H Q ->
  wpAny (model X.prog X.w) X.A (f v u) (EP X pins σ Q) X.xe s
def UnR (X:Cx) (f:Value->Sem Value) (r:V->Hp->VK->Prop):Prop :=
 ∀ (pins:List (Addr×Obj)) (s:Shared) (σ:St) (H:Hp) (x:V) (v:Value) (Q:VK),Inv X pins σ H s->RelV x v->r x H Q ->
  wpAny (model X.prog X.w) X.A (f v) (EP X pins σ Q) X.xe s
def gS (X:Cx) (f:Value) (r:List V->Hp->VK->Prop):Prop :=
 ∀ (pins:List (Addr×Obj)) (s:Shared) (σ:St) (H:Hp) (xs:List V) (us:List Value) (Q:VK),Inv X pins σ H s->Vals xs us->r xs H Q ->
  wpAny (model X.prog X.w) X.A (call f us) (EP X pins σ Q) X.xe s
def aGB (X:Cx) (r:V->Hp->(Bool->Hp->Prop)->Prop):Prop :=
 ∀ (pins:List (Addr×Obj)) (s:Shared) (σ:St) (H:Hp) (x:V) (v:Value) (Q:Bool->Hp->Prop),Inv X pins σ H s->RelV x v->r x H Q ->
  wpAny (model X.prog X.w) X.A (truthy v) (TP X pins σ Q) X.xe s
def tOp (r:R2) (ta tb:TE):TE:=fun σ H Q=>ta σ H fun x H1=>tb σ H1 fun y H2=>r x y H2 Q
def tUn (r:V->Hp->VK->Prop) (ta:TE):TE:=fun σ H Q=>ta σ H fun x H1=>r x H1 Q
def rI (C:Int->Int->Prop) (g:Int->Int->V):R2:=fun x y H Q=>∃ i j,x=.int i/\y=.int j/\C i j/\Q (g i j) H
def LC (g:Int->Int->V):R2:=fun x y H Q=>∃ i j,x=.int i/\y=.int j/\Q (g i j) H
def rU (g:Int->V):V->Hp->VK->Prop:=fun x H Q=>∃ i,x=.int i/\Q (g i) H
section
variable {X:Cx} {a b c:Expr} {ta tb tc:TE} {pos:Pos}
theorem ZQ (ha:PE X a ta) (hb:PE X b tb) {pins:List (Addr×Obj)} {s:Shared} {σ:St} {H:Hp} {R:V->V->Hp->Prop} (I:Inv X pins σ H s)
  (h:ta σ H fun x H1=>tb σ H1 fun y H2=>R x y H2) {Q:Value->Shared->Prop} {f:Value->Value->Sem Value}
  (hf:∀ v u s2 x y H2,Inv X pins σ H2 s2->RelV x v->RelV y u->R x y H2->wpAny (model X.prog X.w) X.A (f v u) Q X.xe s2) :
  wpAny (model X.prog X.w) X.A (eval a X.env) (fun v s₁=>wpAny (model X.prog X.w) X.A (eval b X.env) (fun u s₂=>wpAny (model X.prog X.w) X.A (f v u) Q X.xe s₂) X.xe s₁) X.xe s:=by
 refine eP (ha pins s σ H _ I h) fun v s1 hq1=>?_
 obtain ⟨x,H1,I1,r1,q1⟩:=hq1
 refine eP (hb pins s1 σ H1 _ I1 q1) fun u s2 hq2=>?_
 obtain ⟨y,H2,I2,r2,q2⟩:=hq2
 exact hf v u s2 x y H2 I2 r1 r2 q2
theorem PX {op:Operator} {r:R2} (ho:kB X (binaryOp op) r) (ha:PE X a ta) (hb:PE X b tb):PE X (.BinOp a op b pos) (tOp r ta tb):=by
 intro pins s σ H Q I h
 exact wpAny_BinOp (ZQ ha hb I h fun v u s2 x y H2 I2 rx ry q=>ho pins s2 σ H2 x y v u Q I2 rx ry q)
theorem aBt {op:UnaryOp} {r:V->Hp->VK->Prop} (ho:UnR X (unaryOp op) r) (ha:PE X a ta):PE X (.UnaryOp op a pos) (tUn r ta):=by
 intro pins s σ H Q I h
 exact UnaryOp_ (eP (ha pins s σ H _ I h) fun v s1 ⟨x,H1,I1,r1,q1⟩=>ho pins s1 σ H1 x v Q I1 r1 q1)
theorem opI {f:Value->Value->Sem Value} {C:Int->Int->Prop} {g:Int->Int->Int}
  (rule:∀ (i j:Int) (t u:Tok) (s:Shared) (Q:Value->Shared->Prop) (E:Value->Shared->Prop),C i j->Q (.int (g i j) s.toks) { s with toks:=s.toks+1 }->wpAny (model X.prog X.w) X.A (f (.int i t) (.int j u)) Q E s) :
  kB X f (rI C fun i j=>.int (g i j)):=by
 intro pins s σ H x y v u Q I rx ry h
 obtain ⟨i,j,rfl,rfl,hc,q⟩:=h
 obtain ⟨t,rfl⟩:=rx
 obtain ⟨t',rfl⟩:=ry
 exact rule i j t t' s _ _ hc ⟨.int (g i j),H,I.tok _,⟨_,rfl⟩,q⟩
theorem aBu {f:Value->Value->Sem Value} {g:Int->Int->Int}
  (rule:∀ (i j:Int) (t u:Tok) (s:Shared) (Q:Value->Shared->Prop) (E:Value->Shared->Prop),Q (.int (g i j) s.toks) { s with toks:=s.toks+1 }->wpAny (model X.prog X.w) X.A (f (.int i t) (.int j u)) Q E s) :
  kB X f (LC fun i j=>.int (g i j)):=by
 intro pins s σ H x y v u Q I rx ry h
 obtain ⟨i,j,rfl,rfl,q⟩:=h
 obtain ⟨t,rfl⟩:=rx
 obtain ⟨t',rfl⟩:=ry
 exact rule i j t t' s _ _ ⟨.int (g i j),H,I.tok _,⟨_,rfl⟩,q⟩
theorem UW {f:Value->Value->Sem Value} {g:Int->Int->Bool}
  (rule:∀ (i j:Int) (t u:Tok) (s:Shared) (Q:Value->Shared->Prop) (E:Value->Shared->Prop),Q (.bool (g i j)) s->wpAny (model X.prog X.w) X.A (f (.int i t) (.int j u)) Q E s) :
  kB X f (LC fun i j=>.bl (g i j)):=by
 intro pins s σ H x y v u Q I rx ry h
 obtain ⟨i,j,rfl,rfl,q⟩:=h
 obtain ⟨t,rfl⟩:=rx
 obtain ⟨t',rfl⟩:=ry
 exact rule i j t t' s _ _ ⟨.bl (g i j),H,I,rfl,q⟩
def aBv (i j:Int):Prop:=0<j/\j<1073741824
def aBw (i j:Int):Prop:=0<=j/\j<=1000000/\i.natAbs<2 ^ 64
def UX (i j:Int):Prop:=(-(2 ^ 64)<i/\i<2 ^ 64)\/(-(2 ^ 64)<j/\j<2 ^ 64)
theorem UX.ok {i j:Int} (h:UX i j):IntMulOk i j:=by
 rcases h with ⟨h1,h2⟩ | ⟨h1,h2⟩
 ·exact .of_left (intBits_le_64 h1 h2)
 ·exact .of_right (intBits_le_64 h1 h2)
theorem ZR:kB X (binaryOp .Add) (LC fun i j=>.int (i+j)):=aBu fun _ _ _ _ _ _ _ q=>add_int q
theorem ZS:kB X (binaryOp .Sub) (LC fun i j=>.int (i - j)):=aBu fun _ _ _ _ _ _ _ q=>sub_int q
theorem UY:kB X (binaryOp .FloorDiv) (rI aBv fun i j=>.int (i / j)):=opI fun i j _ _ _ _ _ hc q=>by
 have h1:(0:Int)<j:=hc.1
 have h2:j<1073741824:=hc.2
 exact floordiv_int (by omega) (by rw [Int.fdiv_eq_ediv_of_nonneg i (by omega)]; exact q) (.inl (PyProof.noPylong_small (by omega)))
theorem ZT:kB X (binaryOp .Mod) (rI (fun _ j=>0<j) fun i j=>.int (i % j)):=opI fun i j _ _ _ _ _ hc q=>by
 have h1:(0:Int)<j:=hc
 exact mod_int' (by omega) (by rw [Int.fmod_eq_emod_of_nonneg i (by omega)]; exact q)
theorem ZU:kB X (binaryOp .Pow) (rI aBw fun i j=>.int (i ^ j.toNat)):=opI fun _ _ _ _ _ _ _ hc q=>pow_int_small hc.1 hc.2.1 hc.2.2 q
theorem unI {f:Value->Sem Value} {g:Int->Int}
  (rule:∀ (i:Int) (t:Tok) (s:Shared) (Q:Value->Shared->Prop) (E:Value->Shared->Prop),Q (.int (g i) s.toks) { s with toks:=s.toks+1 }->wpAny (model X.prog X.w) X.A (f (.int i t)) Q E s) :
  UnR X f (rU fun i=>.int (g i)):=by
 intro pins s σ H x v Q I rx h
 obtain ⟨i,rfl,q⟩:=h
 obtain ⟨t,rfl⟩:=rx
 exact rule i t s _ _ ⟨.int (g i),H,I.tok _,⟨_,rfl⟩,q⟩
theorem ZV:UnR X (unaryOp .USub) (rU fun i=>.int (-i)):=unI fun _ _ _ _ _ q=>neg_int q
end
def ZW:V->V->Bool
 | .non,.non=>true | .non,.int _=>true | .int _,.non=>true | .non,.bl _=>true | .bl _,.non=>true | .non,.str _=>true | .str _,.non=>true
 | .int _,.int _=>true | .bl _,.bl _=>true | .str _,.str _=>true | .K6 _,.K6 _=>true
 | .int _,.str _=>true | .str _,.int _=>true | .bl _,.str _=>true | .str _,.bl _=>true
 | _,_=>false
def rEq:R2:=fun x y H Q=>ZW x y=true/\Q (.bl (decide (x=y))) H
def rNe:R2:=fun x y H Q=>ZW x y=true/\Q (.bl (!decide (x=y))) H
theorem B1 {i j:Int}:decide (V.int i=V.int j)=(i == j):=by
 rw [Bool.eq_iff_iff]
 simp
theorem GI {i j:Bool}:decide (V.bl i=V.bl j)=(i == j):=by
 rw [Bool.eq_iff_iff]
 simp
theorem B2 {i j:Str}:decide (V.str i=V.str j)=(i == j):=by
 rw [Bool.eq_iff_iff]
 simp
theorem JC {i j:Array UInt8}:decide (V.K6 i=V.K6 j)=(i.toList == j.toList):=by
 rw [Bool.eq_iff_iff]
 cases i
 cases j
 simp
section
variable {X:Cx} {a b c:Expr} {ta tb tc:TE} {pos:Pos}
theorem cJ {pins:List (Addr×Obj)} {σ:St} {H:Hp} {s:Shared} {Q:VK} {k k':Bool} (I:Inv X pins σ H s) (q:Q (.bl k) H) (e:k=k'):EP X pins σ Q (.bool k') s:=by
 subst e
 exact ⟨.bl k,H,I,rfl,q⟩
theorem XH:kB X (compareOp .Eq) rEq:=by
 intro pins s σ H x y v u Q I rx ry h
 obtain ⟨hs,q⟩:=h
 cases x with
 | non =>
  cases rx
  cases y with
  | non=>cases ry; exact PySem.EqNone.eq_none_none (cJ I q (by simp))
  | bl j=>cases ry; exact PySem.EqNone.eq_none_bool (cJ I q (by simp))
  | int j=>obtain ⟨t',rfl⟩:=ry; exact PySem.EqNone.eq_none_int (cJ I q (by simp))
  | str j=>obtain ⟨t',rfl⟩:=ry; exact PySem.EqNone.eq_none_str (cJ I q (by simp))
  | _=>exact absurd (show false=true from hs) Bool.false_ne_true
 | bl i =>
  cases rx
  cases y with
  | non=>cases ry; exact PySem.EqNone.eq_bool_none (cJ I q (by simp))
  | bl j=>cases ry; exact eq_bool (cJ I q GI)
  | str j=>obtain ⟨t',rfl⟩:=ry; exact PySem.EqMixed.eq_bool_str (cJ I q (by simp))
  | _=>exact absurd (show false=true from hs) Bool.false_ne_true
 | int i =>
  obtain ⟨t,rfl⟩:=rx
  cases y with
  | non=>cases ry; exact PySem.EqNone.eq_int_none (cJ I q (by simp))
  | int j=>obtain ⟨t',rfl⟩:=ry; exact eq_int (cJ I q B1)
  | str j=>obtain ⟨t',rfl⟩:=ry; exact PySem.EqMixed.eq_int_str (cJ I q (by simp))
  | _=>exact absurd (show false=true from hs) Bool.false_ne_true
 | str i =>
  obtain ⟨t,rfl⟩:=rx
  cases y with
  | non=>cases ry; exact PySem.EqNone.eq_str_none (cJ I q (by simp))
  | bl j=>cases ry; exact PySem.EqMixed.eq_str_bool (cJ I q (by simp))
  | int j=>obtain ⟨t',rfl⟩:=ry; exact PySem.EqMixed.eq_str_int (cJ I q (by simp))
  | str j=>obtain ⟨t',rfl⟩:=ry; exact eq_str (cJ I q B2)
  | _=>exact absurd (show false=true from hs) Bool.false_ne_true
 | K6 i =>
  obtain ⟨t,rfl⟩:=rx
  cases y with
  | K6 j=>obtain ⟨t',rfl⟩:=ry; exact PySem.W.eq_bytes (cJ I q JC)
  | _=>exact absurd (show false=true from hs) Bool.false_ne_true
 | _=>cases y<;>exact absurd (show false=true from hs) Bool.false_ne_true
theorem XI:kB X (compareOp .NotEq) rNe:=by
 intro pins s σ H x y v u Q I rx ry h
 obtain ⟨hs,q⟩:=h
 cases x with
 | non =>
  cases rx
  cases y with
  | non=>cases ry; exact PySem.EqNone.ne_none_none (cJ I q (by simp))
  | bl j=>cases ry; exact PySem.EqNone.ne_none_bool (cJ I q (by simp))
  | int j=>obtain ⟨t',rfl⟩:=ry; exact PySem.EqNone.ne_none_int (cJ I q (by simp))
  | str j=>obtain ⟨t',rfl⟩:=ry; exact PySem.EqNone.ne_none_str (cJ I q (by simp))
  | _=>exact absurd (show false=true from hs) Bool.false_ne_true
 | bl i =>
  cases rx
  cases y with
  | non=>cases ry; exact PySem.EqNone.ne_bool_none (cJ I q (by simp))
  | bl j=>cases ry; exact ne_bool (cJ I q (congrArg not GI))
  | str j=>obtain ⟨t',rfl⟩:=ry; exact PySem.EqMixed.ne_bool_str (cJ I q (by simp))
  | _=>exact absurd (show false=true from hs) Bool.false_ne_true
 | int i =>
  obtain ⟨t,rfl⟩:=rx
  cases y with
  | non=>cases ry; exact PySem.EqNone.ne_int_none (cJ I q (by simp))
  | int j=>obtain ⟨t',rfl⟩:=ry; exact ne_int (cJ I q (congrArg not B1))
  | str j=>obtain ⟨t',rfl⟩:=ry; exact PySem.EqMixed.ne_int_str (cJ I q (by simp))
  | _=>exact absurd (show false=true from hs) Bool.false_ne_true
 | str i =>
  obtain ⟨t,rfl⟩:=rx
  cases y with
  | non=>cases ry; exact PySem.EqNone.ne_str_none (cJ I q (by simp))
  | bl j=>cases ry; exact PySem.EqMixed.ne_str_bool (cJ I q (by simp))
  | int j=>obtain ⟨t',rfl⟩:=ry; exact PySem.EqMixed.ne_str_int (cJ I q (by simp))
  | str j=>obtain ⟨t',rfl⟩:=ry; exact ne_str (cJ I q (congrArg not B2))
  | _=>exact absurd (show false=true from hs) Bool.false_ne_true
 | K6 i =>
  obtain ⟨t,rfl⟩:=rx
  cases y with
  | K6 j=>obtain ⟨t',rfl⟩:=ry; exact PySem.W.ne_bytes (cJ I q (congrArg not JC))
  | _=>exact absurd (show false=true from hs) Bool.false_ne_true
 | _=>cases y<;>exact absurd (show false=true from hs) Bool.false_ne_true
theorem XJ:kB X (compareOp .Lt) (LC fun i j=>.bl (decide (i<j))):=UW fun _ _ _ _ _ _ _ q=>lt_int q
theorem aBx:kB X (compareOp .LtE) (LC fun i j=>.bl (decide (i<=j))):=UW fun _ _ _ _ _ _ _ q=>le_int q
theorem aBy:kB X (compareOp .Gt) (LC fun i j=>.bl (decide (j<i))):=UW fun _ _ _ _ _ _ _ q=>gt_int q
theorem aBz:kB X (compareOp .GtE) (LC fun i j=>.bl (decide (j<=i))):=UW fun _ _ _ _ _ _ _ q=>ge_int q
theorem PY:kB X (compareOp .Is) (fun x y H Q=>y=.non/\Q (.bl (decide (x=.non))) H):=by
 intro pins s σ H x y v u Q I rx ry h
 obtain ⟨rfl,q⟩:=h
 cases ry
 refine is_none_gen (cJ I q ?_)
 cases x<;>first
  | (cases rx; rfl)
  | (obtain ⟨t,rfl⟩:=rx; rfl)
theorem kB.or {f:Value->Value->Sem Value} {r r':R2} (h:kB X f r) (h':kB X f r'):kB X f (fun x y H Q=>r x y H Q\/r' x y H Q):=by
 intro pins s σ H x y v u Q I rx ry q
 rcases q with q | q
 ·exact h pins s σ H x y v u Q I rx ry q
 ·exact h' pins s σ H x y v u Q I rx ry q
theorem lM (b:Expr) {op:CmpOp} (h:op≠.In:=by decide) (h2:op≠.NotIn:=by decide):behindInMarks op b=false:=by
 have e1:(op == CmpOp.In)=false:=by cases op<;>first | rfl | exact absurd rfl h
 have e2:(op == CmpOp.NotIn)=false:=by cases op<;>first | rfl | exact absurd rfl h2
 cases b<;>simp [behindInMarks,e1,e2]
theorem UZ {op:CmpOp} {r:R2} (ho:kB X (compareOp op) r) (ha:PE X a ta) (hb:PE X b tb) (hm:behindInMarks op b=false):PE X (.Compare a [op] [b] pos) (tOp r ta tb):=by
 intro pins s σ H Q I h
 exact wpAny_Compare1 (ZQ ha hb I h fun v u s2 x y H2 I2 rx ry q=>ho pins s2 σ H2 x y v u Q I2 rx ry q) hm
def JD (t:TE):TT:=fun σ H Q=>t σ H fun x H'=>∃ k,x=.bl k/\Q k H'
theorem U0 {op:CmpOp} {r:R2} (ho:kB X (compareOp op) r) (ha:PE X a ta) (hb:PE X b tb) (hm:behindInMarks op b=false):PT X (.Compare a [op] [b] pos) (JD (tOp r ta tb)):=by
 intro pins s σ H Q I h
 refine wpAny_isTrue_Compare1 (eP (ha pins s σ H _ I h) fun v s1 ⟨x,H1,I1,r1,q1⟩=>eP (hb pins s1 σ H1 _ I1 q1) fun u s2 ⟨y,H2,I2,r2,q2⟩ =>
  eP (ho pins s2 σ H2 x y v u _ I2 r1 r2 q2) fun c s3 ⟨z,H3,I3,r3,k,e,q3⟩=>?_) hm
 subst e
 cases r3
 exact wpAny_truthy_bool ⟨H3,I3,q3⟩
def PZ (r r':R2) (ta tb tc:TE):TE:=fun σ H Q=>ta σ H fun x H1=>tb σ H1 fun y H2=>r x y H2 fun z H3=>∃ k,z=.bl k /\
 (if k=true then tc σ H3 fun w' H4=>r' y w' H4 Q else Q (.bl false) H3)
theorem P0 {op op':CmpOp} {r r':R2} (ho:kB X (compareOp op) r) (ho':kB X (compareOp op') r') (ha:PE X a ta) (hb:PE X b tb) (hc:PE X c tc)
  (hm:lastMarks [op,op'] [b,c]=false:=by with_unfolding_all rfl):PE X (.Compare a [op,op'] [b,c] pos) (PZ r r' ta tb tc):=by
 intro pins s σ H Q I h
 refine Compare_chain (eP (ha pins s σ H _ I h) fun v s1 ⟨x,H1,I1,r1,q1⟩=>chain_link (eP (hb pins s1 σ H1 _ I1 q1) fun u s2 ⟨y,H2,I2,r2,q2⟩ =>
  eP (ho pins s2 σ H2 x y v u _ I2 r1 r2 q2) fun d s3 ⟨z,H3,I3,r3,k,e,q3⟩=>?_)) hm
 subst e
 cases r3
 refine wpAny_truthy_bool ?_
 cases k with
 | false=>exact ite_ff ⟨.bl false,H3,I3,rfl,q3⟩
 | true=>exact ite_tt (chain_last (eP (hc pins s3 σ H3 _ I3 q3) fun w' s4 ⟨z',H4,I4,r4,q4⟩=>ho' pins s4 σ H4 y z' u w' Q I4 r2 r4 q4))
def aCA (K:PySem.W.Frag) (x:V) (H:Hp) (k:Bool):Prop :=
 match x with
 | .non=>k=false
 | .bl b=>k=b
 | .int i=>k=(i != 0)
 | .str y=>y.length<=sizeLine/\k=((y.length:Int) != 0)
 | .K6 y=>y.size<=sizeLine/\k=((y.size:Int) != 0)
 | .ref p=>(∃ xs,eV K H p xs/\k=!xs.isEmpty)\/(∃ xs,gC K H p xs/\k=!xs.isEmpty) \/ ∃ kvs,H p=some (.dK kvs)/\k=!kvs.isEmpty
 | _=>False
theorem GJ {κ:Type} {kvs:List (κ×V)} {vs:List (κ×Value)} (r:KV kvs vs):(!vs.isEmpty)=!kvs.isEmpty:=by
 cases r<;>rfl
theorem lN {xs:List V} {its:List Value} (r:Vals xs its):(!its.toArray.isEmpty)=!xs.isEmpty:=by
 cases r<;>simp
theorem wR:(sizeLine:Nat)<2 ^ 63:=by rw [sizeLine_eq]; decide
theorem ZX:aGB X (fun x H Q=>∃ k,aCA X.K x H k/\Q k H):=by
 intro pins s σ H x v Q I rx h
 obtain ⟨k,e,q⟩:=h
 have hl:=wR
 have hs:sizeLine=16777216:=sizeLine_eq
 cases x with
 | non =>
  cases rx
  have e':k=false:=e
  subst e'
  exact truthy_none ⟨H,I,q⟩
 | bl b =>
  cases rx
  have e':k=b:=e
  subst e'
  exact wpAny_truthy_bool ⟨H,I,q⟩
 | int i =>
  obtain ⟨t,rfl⟩:=rx
  have e':k=(i != 0):=e
  subst e'
  exact PySem.P.truthy_int ⟨H,I,q⟩
 | str y =>
  obtain ⟨t,rfl⟩:=rx
  obtain ⟨hy,e'⟩:y.length<=sizeLine/\k=((y.length:Int) != 0):=e
  subst e'
  exact PySem.P.truthy_str (by omega) ⟨H,I.tok _,q⟩
 | K6 y =>
  obtain ⟨t,rfl⟩:=rx
  obtain ⟨hy,e'⟩:y.size<=sizeLine/\k=((y.size:Int) != 0):=e
  subst e'
  exact PySem.W.truthy_bytes (by omega) ⟨H,I.tok _,q⟩
 | ref p =>
  cases rx
  have e':(∃ xs,eV X.K H p xs/\k=!xs.isEmpty)\/(∃ xs,gC X.K H p xs/\k=!xs.isEmpty) \/ ∃ kvs,H p=some (.dK kvs)/\k=!kvs.isEmpty:=e
  rcases e' with ⟨xs,hx,e'⟩ | ⟨xs,hx,e'⟩ | ⟨kvs,hx,e'⟩
  ·subst e'
   obtain ⟨its,r,pl,hz⟩:=I.list hx
   have hlen:=r.length
   exact wpAny_truthy_list pl.isList (by simp only [List.size_toArray]; omega) ⟨H,I.tok _,by rw [lN r]; exact q⟩
  ·subst e'
   obtain ⟨its,r,pl,hz⟩:=I.tuple hx
   have hlen:=r.length
   exact truthy_tuple pl (by simp only [List.size_toArray]; omega) ⟨H,I.tok _,by rw [lN r]; exact q⟩
  ·subst e'
   obtain ⟨hz,hS,vs,r,m⟩:kvs.length<=sizeLine/\(p == sysModules)=false /\ ∃ vs,KV kvs vs/\s.heap.DictOf (bB X.prog X.w) p vs:=I.hok p _ hx
   have hlen:kvs.length=vs.length:=Paired.length r
   exact wpAny_truthy_dict hS m (by omega) ⟨H,I.tok _,by rw [GJ r]; exact q⟩
 | _=>exact (show False from e).elim
theorem P1 (ha:PE X a ta) (he:∀ whole,isTrue a X.env whole=(do let v <- whole; standAt a.pos; holding [v] (truthy v))) :
  PT X a (fun σ H Q=>ta σ H fun x H'=>∃ k,aCA X.K x H' k/\Q k H'):=by
 intro pins s σ H Q I h
 exact isTrue_plain (eP (ha pins s σ H _ I h) fun v s1 ⟨x,H1,I1,r1,q1⟩=>ZX pins s1 σ H1 x v Q I1 r1 q1) (he _)
theorem GK:kB X (binaryOp .Add) (fun x y H Q=>∃ i j,x=.str i/\y=.str j/\i.length+j.length<=sizeLine/\Q (.str (i++j)) H):=by
 intro pins s σ H x y v u Q I rx ry h
 obtain ⟨i,j,rfl,rfl,hz,q⟩:=h
 obtain ⟨t,rfl⟩:=rx
 obtain ⟨t',rfl⟩:=ry
 exact add_str (fun t' tk=>⟨.str (i++j),H,I.tok _,⟨_,rfl⟩,q⟩) hz
theorem vals1 {x:V} {us:List Value} (r:Vals [x] us):∃ u,us=[u]/\RelV x u:=by
 cases r with
 | cons r1 r2=>cases r2; exact ⟨_,rfl,r1⟩
theorem vals2 {x y:V} {us:List Value} (r:Vals [x,y] us):∃ u w',us=[u,w']/\RelV x u/\RelV y w':=by
 cases r with
 | cons r1 r2 =>
  cases r2 with
  | cons r3 r4=>cases r4; exact ⟨_,_,rfl,r1,r3⟩
end
end L2
namespace L2
open PySem PySem.Spec PyProof.Rows
structure ZY (h:Heap) (x dx C:Addr) (mA:Str->Option Value):Prop where
 obj:h.get? x=some (PySem.W.instObj C dx)
 ns:h.Ns1 dx mA
 ne:dx≠x
theorem LD {h:Heap} {dx:Addr} {mA:Str->Option Value} (n:h.Ns1 dx mA):∃ od,h.get? dx=some od /\ ∀ name,PySem.W.lookIn name od=some (mA name):=by
 obtain ⟨o,es,ep,ho,hd,hk,_,hm⟩:=n
 refine ⟨o,ho,fun name=>?_⟩
 have e:=hm name
 unfold nsFind findBy at e
 rw [<- Array.find?_toList] at e
 unfold PySem.W.lookIn
 rw [hd]
 dsimp only
 split
 ·rename_i y q
  rw [q] at e
  exact congrArg some e
 ·rename_i q
  rw [q] at e
  have a:es.toList.any (·.refKey)=false:=by
   rw [List.any_eq_false]
   intro y hy
   obtain ⟨z,t,hkey⟩:=hk y (Array.mem_toList_iff.mp hy)
   simp [DictEntry.refKey,hkey]
  have a':¬ es.toList.any (·.refKey)=true:=by rw [a]; exact Bool.false_ne_true
  rw [if_neg a']
  exact congrArg some e
theorem ZY.look {h:Heap} {x dx C:Addr} {mA:Str->Option Value} (I:ZY h x dx C mA):∃ od,PySem.W.InstAt h x (PySem.W.instObj C dx) C (some od) /\ ∀ name,PySem.W.lookIn name od=some (mA name) :=
 let ⟨od,ho,hl⟩:=LD I.ns
 ⟨od,⟨I.obj,rfl,rfl,ho⟩,hl⟩
section
variable {prog:Program} {w:World} {A:Around} {E:Value->Shared->Prop} {s:Shared} {K:PySem.W.Frag} {x dx C f:Addr} {mA:Str->Option Value} {name:Str} {v:Value}
end
theorem mP.some_of {v:V} {o:Option Value} (r:mP (some v) o):∃ u,o=some u/\RelV v u:=by
 cases o with
 | none=>exact (show False from r).elim
 | some u=>exact ⟨u,rfl,r⟩
section
variable {P:Program} {w:World} {H H':Hp} {h h':Heap} {a C dx:Addr} {fs fs':List (Str×V)}
theorem U1 (hok:oD P w H h) (e:H a=some (.ins C dx fs)):∃ mA,ZY h a dx C mA/\(∀ f,mP (fs.lookup f) (mA f))/\PySem.Within mA (fs.map (·.1))/\fs.length<=1000/\H dx=some (.own a):=by
 obtain ⟨d,z,ne,ob,mA,n,r,q⟩:=(show eD P w H h a (.ins C dx fs) from hok a _ e)
 exact ⟨mA,⟨ob,n,ne⟩,r,q,z,d⟩
end
structure Cls (K:PySem.W.Frag) (C:Addr):Prop where
 pg:PySem.W.plainGet K C Str.empty=true
 hd:PySem.W.hasDictIn K C=true
 po:PySem.W.plainOver K C=true
 sa:PySem.W.findIn K (.ref C) "__setattr__" = some (some (.builtin "object.__setattr__"))
theorem Cls.get {K:PySem.W.Frag} {C:Addr} (c:Cls K C) (f:Str):PySem.W.plainGet K C f=true:=c.pg
structure Con (K:PySem.W.Frag) (C:Addr) (f:Str) (v:V) (u:Value):Prop where
 at_:PySem.W.findIn K (.ref C) f=some (some u)
 rel:RelV v u
 get:PySem.W.specialIn K u "__get__" = some none
 cp:PySem.W.copiedNames.contains f=false
section
variable {X:Cx} {pins:List (Addr×Obj)} {σ:St} {H:Hp} {s:Shared} {a C dx:Addr} {fs:List (Str×V)} {f:Str} {v:V} {A:Around} {E:Value->Shared->Prop}
end
section
variable {X:Cx} {o e value:Expr} {f:Str} {pos pos' tpos:Pos} {ta tv:TE}
end
section
variable {X:Cx} {pins:List (Addr×Obj)} {σ:St} {H:Hp} {s:Shared} {A:Around} {E:Value->Shared->Prop} {Q:Value->Shared->Prop} {c:Value} {b:Bool}
inductive qO (K:PySem.W.Frag) (H:Hp):V->Value->Prop where
 | non:qO K H .non (.type "NoneType")
 | bl (x:Bool):qO K H (.bl x) (.type "bool")
 | int (i:Int):qO K H (.int i) (.type "int")
 | str (x:Str):qO K H (.str x) (.type "str")
 | flt (x:UInt64):qO K H (.flt x) (.type "float")
 | lst {a:Addr} {xs:List V} (e:H a=some (.lst xs)):qO K H (.ref a) (.type "list")
 | DR {a:Addr} {o:Obj} {xs:List V} (e:H a=some (.DR o (.lst xs))):qO K H (.ref a) (.type "list")
 | tup {a:Addr} {xs:List V} (e:H a=some (.tup xs)):qO K H (.ref a) (.type "tuple")
 | dK {a:Addr} {kvs:List (Key×V)} (e:H a=some (.dK kvs)):qO K H (.ref a) (.type "dict")
 | dT {a:Addr} {kvs:List (List Key×V)} (e:H a=some (.dT kvs)):qO K H (.ref a) (.type "dict")
 | ins {a C dx:Addr} {fs:List (Str×V)} (e:H a=some (.ins C dx fs)) (cl:Cls K C) (ha:PySem.W.findIn K (.ref C) "__class__" = some (some (.builtin "object.__class__")))
   (hn:PySem.W.specialIn K (.builtin "object.__class__") "__get__" = some (some (.builtin "getset_descriptor.__get__"))) (htk:PySem.W.takesIn K (.builtin "object.__class__")=some true)
   (hm:PySem.W.mroIn K C (.type "object")=some true):qO K H (.ref a) (.ref C)
theorem LF {x:V} {u t:Value} (I:Inv X pins σ H s) (rx:RelV x u) (ty:qO X.K H x t) (e:PySem.W.kitOne X.K t c=some b) (h:∀ tk,Q (.bool b) { s with toks:=tk }) :
  wpAny (model X.prog X.w) A (call (.builtin "isinstance") [u,c]) Q E s:=by
 cases ty with
 | non=>cases (show u=Value.none from rx); exact PySem.W.kia_one PySem.W.kitx_none I.yH True.intro e (fun z=>nomatch z) h
 | bl y=>cases (show u=Value.bool y from rx); exact PySem.W.kia_one PySem.W.kitx_bool I.yH True.intro e (fun z=>nomatch z) h
 | int i=>obtain ⟨t,q⟩:=(show ∃ t,u=Value.int i t from rx); cases q; exact PySem.W.kia_one PySem.W.kitx_int I.yH True.intro e (fun z=>nomatch z) h
 | str y=>obtain ⟨t,q⟩:=(show ∃ t,u=Value.str y t from rx); cases q; exact PySem.W.kia_one PySem.W.kitx_str I.yH True.intro e (fun z=>nomatch z) h
 | flt y=>obtain ⟨t,q⟩:=(show ∃ t,u=Value.float y t from rx); cases q; exact PySem.W.kia_one PySem.W.kitx_float I.yH True.intro e (fun z=>nomatch z) h
 | @lst a xs ea =>
  cases (show u=Value.ref a from rx)
  obtain ⟨_,_,n,_,h1⟩:=(show eD X.prog X.w H s.heap a (.lst xs) from I.hok a _ ea)
  exact PySem.W.kia_one PySem.W.kitx_list I.yH ⟨_,h1,rfl⟩ e (fun z=>nomatch z) h
 | @DR a ob xs ea =>
  cases (show u=Value.ref a from rx)
  obtain ⟨_,_,_,n,_,h1⟩:=(show eD X.prog X.w H s.heap a (.DR ob (.lst xs)) from I.hok a _ ea)
  exact PySem.W.kia_one PySem.W.kitx_list I.yH ⟨_,h1,rfl⟩ e (fun z=>nomatch z) h
 | @tup a xs ea =>
  cases (show u=Value.ref a from rx)
  obtain ⟨_,_,_,p⟩:=(show eD X.prog X.w H s.heap a (.tup xs) from I.hok a _ ea)
  obtain ⟨o,h1,h2,_⟩:=p
  exact PySem.W.kia_one PySem.W.kitx_tuple I.yH ⟨o,h1,h2⟩ e (fun z=>nomatch z) h
 | @dK a kvs ea =>
  cases (show u=Value.ref a from rx)
  obtain ⟨_,_,vs,_,p⟩:=(show eD X.prog X.w H s.heap a (.dK kvs) from I.hok a _ ea)
  obtain ⟨o,es,ep,h1,h2,_⟩:=p
  exact PySem.W.kia_one PySem.W.kitx_dict I.yH ⟨o,h1,h2.1⟩ e (fun z=>nomatch z) h
 | @dT a kvs ea =>
  cases (show u=Value.ref a from rx)
  obtain ⟨_,_,xs,_,o,es,ep,h1,h2,_⟩:=(show eD X.prog X.w H s.heap a (.dT kvs) from I.hok a _ ea)
  exact PySem.W.kia_one PySem.W.kitx_dict I.yH ⟨o,h1,h2.1⟩ e (fun z=>nomatch z) h
 | @ins a C dx fs ea cl ha hn htk hm =>
  cases (show u=Value.ref a from rx)
  obtain ⟨mA,O,_⟩:=U1 I.hok ea
  obtain ⟨od,J,_⟩:=O.look
  exact PySem.W.kia_one (PySem.W.kitx_own (cl.get _) cl.hd ha hn htk hm) I.yH J e (fun z=>nomatch z) h
end
end L2
namespace L2
open PySem PySem.Spec PyProof.Rows
structure iO (k:Nat) (A:Around):Prop where
 hd:A.handled=none
 dp:A.depth+3*k+5<recursionLimit
 un:A.units+16*k+200<cLine
theorem iO.mono {j k:Nat} {A:Around} (r:iO k A) (h:j<=k):iO j A:=⟨r.hd,by have:=r.dp; omega,by have:=r.un; omega⟩
theorem iO.deeper {k:Nat} {A:Around} (r:iO (k+1) A) (env:Env):iO k (A.deeper env) :=
 ⟨r.hd,by have:=r.dp; show A.depth+1+3*k+5<_; omega,by have:=r.un; show A.units+3+16*k+200<_; omega⟩
theorem iO.depth {k:Nat} {A:Around} (r:iO k A):A.depth<recursionLimit:=by have:=r.dp; omega
def aCB:TA:=fun _ H Q=>Q [] H
def XM (ta:TE) (tr:TA):TA:=fun σ H Q=>ta σ H fun x H1=>tr σ H1 fun xs H2=>Q (x::xs) H2
section
variable {X:Cx} {e:Expr} {es:List Expr} {te:TE} {t:TA} {pos:Pos}
theorem sP:PA X [] aCB:=fun _ _ _ _ H Q I h=>Calls.spliced_nil ⟨[],H,I,.nil,h⟩
theorem iX (ha:PE X e te) (hr:PA X es t) (hs:starEach (e::es) X.env=(false,eval e X.env)::starEach es X.env:=by rfl):PA X (e::es) (XM te t):=by
 intro pos pins s σ H Q I h
 rw [hs]
 show wpAny _ _ (spliced ((false,eval e X.env)::backTo pos (starEach es X.env))) _ _ s
 refine Calls.spliced_cons (eP (ha pins s σ H _ I h) fun u s1 ⟨x,H1,I1,r1,q1⟩=>?_)
 exact eP (hr pos pins s1 σ H1 _ I1 q1) fun us s2 hq3=>by obtain ⟨xs,H2,I2,r2,q2⟩:=hq3; exact ⟨x::xs,H2,I2,.cons r1 r2,q2⟩
def aGC (t:TA):TE:=fun σ H Q=>t σ H fun xs H1=>xs.length<=sizeLine /\ ∀ p,H1 p=none->Q (.ref p) (upd H1 p (.tup xs))
def aGD (t:TA):TE:=fun σ H Q=>t σ H fun xs H1=>xs.length<=sizeLine /\ ∀ p,H1 p=none->Q (.ref p) (upd H1 p (.lst xs))
theorem P2 {x1} (h:PA X es t):PE X (.Tuple es x1 pos) (aGC t):=by
 intro pins s σ H Q I hq
 refine wpAny_Tuple_spliced (eP (h pos pins s σ H _ I hq) fun us s1 ⟨xs,H1,I1,r,z,q⟩=>⟨by rw [<- r.length]; exact z,?_⟩)
 have hf:H1 s1.heap.objs.size=none:=I1.hok.fresh (Nat.le_refl _)
 refine ⟨.ref s1.heap.objs.size,upd H1 s1.heap.objs.size (.tup xs),I1.laid (t':=s1.toks) (fun b u e=>Heap.get?_push_of_some _ e) (Nat.le_refl _) ?_,rfl,q _ hf⟩
 exact ⟨z,us,r,⟨_,Heap.get?_push_size _ rfl,rfl,_,rfl⟩⟩
theorem ZZ (h:PA X es t):PE X (.List es pos) (aGD t):=by
 intro pins s σ H Q I hq
 refine wpAny_List_spliced (eP (h pos pins s σ H _ I hq) fun us s1 ⟨xs,H1,I1,r,z,q⟩=>⟨by rw [<- r.length]; exact z,?_⟩)
 have hf:H1 s1.heap.objs.size=none:=I1.hok.fresh (Nat.le_refl _)
 refine ⟨.ref s1.heap.objs.size,upd H1 s1.heap.objs.size (.lst xs),I1.laid (t':=s1.toks) (fun b u e=>Heap.get?_push_of_some _ e) (Nat.le_refl _) ?_,rfl,q _ hf⟩
 exact ⟨z,us,0,r,Heap.get?_push_size _ rfl⟩
end
abbrev Sp:=List V->Hp->VK->XK->Prop
abbrev LG:=List Env->Hp->Shared->XK->Value->Shared->Prop
structure U2 (P:Program) (w:World) (K:PySem.W.Frag) (mg:Str->Option Value) (base:Heap) (A:Around) (outer:List Env) (s:Shared) (H:Hp):Prop where
 frames:A.frames=some outer
 mod:Mod K mg base
 bs:∀ b o,base.get? b=some o->s.heap.get? b=some o/\H b=none
 UO:base.objs.size<=s.heap.objs.size
 uE:s.heap.FunFrames base outer
 frf:∀ b∈frs outer,H b=none
 hok:oD P w H s.heap
 bare:AllBare s.gens
def CE (outer:List Env) (P:Program) (w:World) (H:Hp) (s:Shared) (Q:VK) (u:Value) (s':Shared):Prop :=
 ∃ v H',s'.os=s.os/\AllBare s'.gens/\Un (frs outer) [] H H' s.heap s'.heap/\oD P w H' s'.heap/\RelV v u/\Q v H'
def CR (CX:LG) (outer:List Env) (P:Program) (w:World) (H:Hp) (s:Shared) (Q:VK) (E:XK) (r:Result) (s':Shared):Prop :=
 match r with
 | .ok (.ret u)=>CE outer P w H s Q u s'
 | .ok _=>False
 | .error e=>CX outer H s E e s'
structure aN (P:Program) (w:World) (K:PySem.W.Frag) (mg:Str->Option Value) (base:Heap) (CX:LG) (k:Nat) (f:Addr) (fd:FuncData) (ps:List Str) (sp:Sp):Prop where
 len:∀ vs H Q E,sp vs H Q E->vs.length=ps.length
 run:∀ (A:Around) (outer:List Env) (s:Shared) (H:Hp) (args:Args) (us:List Value) (vs:List V) (Q:VK) (E:XK),iO k A->U2 P w K mg base A outer s H->BindsTo s fd args (ps.zip us)->Vals vs us->sp vs H Q E ->
  codeAny (model P w) A (.call (.ref f) args) (CR CX outer P w H s Q E) s
theorem aN.mono {P:Program} {w:World} {K:PySem.W.Frag} {mg:Str->Option Value} {base:Heap} {CX:LG} {j k:Nat} {f:Addr} {fd:FuncData} {ps:List Str} {sp:Sp} (F:aN P w K mg base CX j f fd ps sp) (h:j<=k) :
  aN P w K mg base CX k f fd ps sp:=⟨F.len,fun A outer s H args us vs Q E hr=>F.run A outer s H args us vs Q E (hr.mono h)⟩
section
variable {X:Cx} {pins:List (Addr×Obj)} {σ:St} {H:Hp} {s s':Shared}
theorem Inv.env0 (I:Inv X pins σ H s):U2 X.prog X.w X.K X.mg X.base X.A X.stack s H :=
 ⟨I.ok.frames,I.ok.mod,I.bs,Nat.le_trans I.ok.UO I.sz,I.stack,I.BY,I.hok,I.bare⟩
theorem Inv.after {Q:VK} {u:Value} (I:Inv X pins σ H s) (h:CE X.stack X.prog X.w H s Q u s'):EP X pins σ Q u s':=by
 obtain ⟨v,H',os,bare,un,hok,r,q⟩:=h
 obtain ⟨hh,g,d,t,os'⟩:=s'
 obtain rfl:os' = s.os:=os
 exact ⟨v,H',I.call (h':=hh) (g':=g) (d':=d) (t':=t) (ch:=[]) un hok bare (fun b z=>absurd z (by simp)),r,q⟩
end
def XN (sp:Sp) (XO:List V) (E:XK) (t:TA):TE:=fun σ H Q=>t σ H fun vs H1=>sp (vs++XO) H1 Q E
def Binds (K:PySem.W.Frag) (fd:FuncData) (ps:List Str) (ds:List Value):Prop :=
 ∀ (s:Shared) (us:List Value),K.In s.heap->(us++ds).length=ps.length->BindsTo s fd ⟨us,[]⟩ (ps.zip (us++ds))
theorem Binds.all {K:PySem.W.Frag} {fd:FuncData} {ps:List Str} (h:∀ us:List Value,us.length=ps.length->bindArgs fd ⟨us,[]⟩=pure (ps.zip us)):Binds K fd ps []:=fun s us _ hl=>by
 rw [List.append_nil] at hl ⊢
 exact .of_eq (h us hl)
def Passes (CX:LG) (X:Cx) (E:XK):Prop:=∀ (pins:List (Addr×Obj)) (σ:St) (H:Hp) (s:Shared) (e:Value) (s':Shared),Inv X pins σ H s->CX X.stack H s E e s'->X.xe e s'
section
variable {X:Cx} {CX:LG} {k:Nat} {f C:Addr} {fd:FuncData} {ps:List Str} {sp:Sp} {XO:List V} {ds:List Value} {E:XK} {x m:Str} {p pos apos:Pos} {e o:Expr} {es:List Expr} {ta:TE} {t:TA}
theorem Z0 {pins:List (Addr×Obj)} {σ:St} {H:Hp} {s:Shared} {Q:VK} {us:List Value} {vs:List V} (F:aN X.prog X.w X.K X.mg X.base CX k f fd ps sp) (hr:iO k X.A) (hb:Binds X.K fd ps ds) (hd:Vals XO ds) (hx:Passes CX X E)
  (I:Inv X pins σ H s) (r:Vals vs us) (h:sp (vs++XO) H Q E):wpAny (model X.prog X.w) X.A (call (.ref f) us) (EP X pins σ Q) X.xe s:=by
 have r2:Vals (vs++XO) (us++ds):=r.append hd
 have hl:(us++ds).length=ps.length:=by rw [<- r2.length]; exact F.len _ _ _ _ h
 refine wpAny_call (codeAny_mono (F.run X.A X.stack s H ⟨us,[]⟩ (us++ds) (vs++XO) Q E hr I.env0 (hb s us I.yH hl) r2 h) fun r s' hq=>?_)
 cases r with
 | error e=>exact hx pins σ H s e s' I hq
 | ok fl =>
  cases fl with
  | ret u=>exact I.after hq
  | next=>exact False.elim hq
  | brk=>exact False.elim hq
  | cont=>exact False.elim hq
theorem qP (F:aN X.prog X.w X.K X.mg X.base CX k f fd ps sp) (hr:iO k X.A) (hg:Gl X x) (hm:X.mg x=some (.ref f)) (hk:PySem.W.keepIn X.K (.ref f)=true) (hb:Binds X.K fd ps ds) (hd:Vals XO ds) (hx:Passes CX X E)
  (ha:PA X (e::es) t) (hdb:(x == ("__debug__" : Str))=false:=by decide) (he:starEach (e::es) X.env=(false,eval e X.env)::starEach es X.env:=by rfl) (hpl:(backTo pos (starEach es X.env)).any (·.1)=false:=by rfl) :
  PE X (.Call (.Name x p) (e::es) [] pos) (XN sp XO E t):=by
 intro pins s σ H Q I h
 refine wpAny_Call_Name_kw (I0 I hg hm ?_ hdb)
 refine PySem.W.callWith_K (h₀:=X.base) I.ok.mod.kin hk (eP (ha pos pins s σ H _ I h) fun us s1 ⟨vs,H1,I1,r,q⟩=>⟨I1.yH,?_⟩) he hpl
 exact Z0 F hr hb hd hx I1 r q
end
section
variable {X:Cx} {CX:LG} {k:Nat} {f C:Addr} {fd:FuncData} {ps ks:List Str} {sp:Sp} {E:XK} {x m:Str} {p pos apos kpos:Pos} {e o:Expr} {es:List Expr} {kws:List Keyword} {te ta:TE} {t tk:TA} {nm:Option Str}
structure aGE (K:PySem.W.Frag) (fd:FuncData) (ps ks:List Str) (g:List Value->List Value->List Value) (gV:List V->List V->List V):Prop where
 to:∀ (s:Shared) (us ws:List Value),K.In s.heap->(g us ws).length=ps.length->BindsTo s fd ⟨us,ks.zip ws⟩ (ps.zip (g us ws))
 rel:∀ {vs:List V} {us:List Value} {zs:List V} {ws:List Value},Vals vs us->Vals zs ws->Vals (gV vs zs) (g us ws)
variable {g:List Value->List Value->List Value} {gV:List V->List V->List V}
end
structure bD (N P:List Str) (sc:Scope):Prop where
 kind:sc.kind=.function
 co:sc.isCoroutine=false
 gen:sc.isGenerator=false
 nd:N.Nodup
 pre:N.take P.length=P
 par:∀ x∈P,sc.names.lookup x=some .local\/sc.names.lookup x=some .cell
 Z1:∀ y∈sc.names,y.2≠.free
theorem zV {kindOf:Str->Option NameKind} {x:Str}:∀ {binds:List (Str×Value)} {m:Str->Option Value},(∀ v,(x,v)∉binds)->bindL kindOf binds m x=m x
 | [],_,_=>rfl
 | (n,v)::r,m,h=>by
  unfold bindL
  rw [zV fun w hw=>h w (List.mem_cons_of_mem _ hw)]
  split
  ·have:x≠n:=by rintro rfl; exact h v List.mem_cons_self
   simp [this]
  ·rfl
theorem zW {kindOf:Str->Option NameKind} {x:Str}:∀ {binds:List (Str×Value)} {m:Str->Option Value},(∀ v,(x,v)∉binds)->bindC kindOf binds m x=m x
 | [],_,_=>rfl
 | (n,v)::r,m,h=>by
  unfold bindC
  rw [zW fun w hw=>h w (List.mem_cons_of_mem _ hw)]
  split
  ·rfl
  ·have:x≠n:=by rintro rfl; exact h v List.mem_cons_self
   simp [this]
theorem zX {kindOf:Str->Option NameKind} {x:Str} {v:Value}:∀ {P:List Str} {vs:List Value} {i:Nat} {m:Str->Option Value},P.Nodup->P[i]? = some x->vs[i]? = some v->kindOf x=some .local ->
  bindL kindOf (P.zip vs) m x=some v
 | [],_,_,_,_,h,_,_=>by simp at h
 | _::_,[],_,_,_,_,h,_=>by simp at h
 | p::P,w::vs,0,m,nd,h1,h2,hk=>by
  simp at h1 h2; subst h1; subst h2
  show bindL kindOf ((p,w)::P.zip vs) m p=_
  unfold bindL
  rw [zV fun v hv=>(List.nodup_cons.mp nd).1 (List.of_mem_zip hv).1,if_pos hk]
  simp
 | p::P,w::vs,i+1,m,nd,h1,h2,hk=>by
  show bindL kindOf ((p,w)::P.zip vs) m x=_
  unfold bindL
  exact zX (i:=i) (List.nodup_cons.mp nd).2 (by simpa using h1) (by simpa using h2) hk
theorem zY {kindOf:Str->Option NameKind} {x:Str} {v:Value}:∀ {P:List Str} {vs:List Value} {i:Nat} {m:Str->Option Value},P.Nodup->P[i]? = some x->vs[i]? = some v->kindOf x≠some .local ->
  bindC kindOf (P.zip vs) m x=some v
 | [],_,_,_,_,h,_,_=>by simp at h
 | _::_,[],_,_,_,_,h,_=>by simp at h
 | p::P,w::vs,0,m,nd,h1,h2,hk=>by
  simp at h1 h2; subst h1; subst h2
  show bindC kindOf ((p,w)::P.zip vs) m p=_
  unfold bindC
  rw [zW fun v hv=>(List.nodup_cons.mp nd).1 (List.of_mem_zip hv).1,if_neg hk]
  simp
 | p::P,w::vs,i+1,m,nd,h1,h2,hk=>by
  show bindC kindOf ((p,w)::P.zip vs) m x=_
  unfold bindC
  exact zY (i:=i) (List.nodup_cons.mp nd).2 (by simpa using h1) (by simpa using h2) hk
def start (N:List Str) (vs:List V):St:=vs.map some++List.replicate (N.length - vs.length) none
def qQ (CX:LG) (P:Program) (w:World) (K:PySem.W.Frag) (mg:Str->Option Value) (base:Heap) (N:List Str) (qual:Str) (scope:Scope) (f:Addr) (cd:Value) (A:Around) (outer:List Env) (s:Shared) (H:Hp) (E:XK):Cx where
 prog:=P
 w:=w
 K:=K
 mg:=mg
 base:=base
 A:=A.deeper (envOfC qual scope s.heap.objs.size f cd)
 N:=N
 s₀:=s
 H₀:=H
 env:=envOfC qual scope s.heap.objs.size f cd
 outer:=outer
 stack:=envOfC qual scope s.heap.objs.size f cd::outer
 ex:=[]
 calm:=true
 fn:=fun _=>true
 pn:=[]
 xe:=fun e s'=>wpAny (model P w) (A.deeper (envOfC qual scope s.heap.objs.size f cd)) (leaving (envOfC qual scope s.heap.objs.size f cd) e) (fun _ s''=>CX outer H s E e s'') (fun e' s''=>CX outer H s E e' s'') s'
theorem DU {sc:Scope} {n:Nat} {x:Str} (h:sc.names.lookup x=some .cell):∃ c,(cellsFrom n sc.names []).lookup x=some c:=by
 have q:=PySem.W.cellsFrom_some sc.names n [] (.inl h)
 exact Option.isSome_iff_exists.mp q
theorem LH {CX:LG} {P:Program} {w:World} {K:PySem.W.Frag} {mg:Str->Option Value} {base:Heap} {N ps:List Str} {qual:Str} {scope:Scope} {f:Addr} {cd:Value} {A:Around} {outer:List Env} {s s1:Shared} {H:Hp} {E:XK} {us:List Value} {vs:List V}
  (S:bD N ps scope) (hd:A.handled=none) (e0:U2 P w K mg base A outer s H) (hl:vs.length=ps.length) (r:Vals vs us)
  (x:InCallC s s.heap.objs.size (bindL (envOfC qual scope s.heap.objs.size f cd).kindOf (ps.zip us) fun _=>none) (cellsFrom (s.heap.objs.size+1) scope.names []) (bindC (envOfC qual scope s.heap.objs.size f cd).kindOf (ps.zip us) fun _=>none) s1) :
  Inv (qQ CX P w K mg base N qual scope f cd A outer s H E) [] (start N vs) H s1:=by
 have hpl:ps.length<=N.length:=by have:=congrArg List.length S.pre; rw [List.length_take] at this; omega
 obtain ⟨h1,tk,rfl,hk⟩:=x.done
 have noA:∀ b:Addr,b∉(qQ CX P w K mg base N qual scope f cd A outer s H E).ex:=fun b z=>absurd (show b∈([]:List Addr) from z) (by simp)
 refine ⟨⟨e0.mod,S.kind,rfl,rfl,Nat.le_refl _,fun y z c h1 h2=>?_,fun y hy=>?_,fun y c _ h=>?_,fun _=>hd,Around.frames_deeper e0.frames,.inr ⟨rfl,rfl⟩,fun b z=>absurd z (noA b),e0.bs,e0.UO,fun b _ _=>noA b,fun b z=>absurd z (noA b),e0.uE,e0.frf⟩,
  rfl,e0.bare,Un.kept hk,⟨_,x.toInCall.ns,fun i y v h1 h2 h3=>?_⟩,fun y c h=>⟨_,x.cell y c h⟩,e0.hok.fresh (Nat.le_refl _),fun y c h=>?_,fun p hp=>absurd (show p∈([]:List (Addr×Obj)) from hp) (by simp),e0.hok.kept hk,?_⟩
 ·exact name_of_addr x.apart (PySem.mem_of_lookup h1) (PySem.mem_of_lookup h2)
 ·have hy:scope.names.lookup y=some .cell\/scope.names.lookup y=some .free:=hy
  rcases hy with hy | hy
  ·exact DU hy
  ·exact absurd rfl (S.Z1 _ (PySem.mem_of_lookup hy))
 ·exact Nat.le_of_lt (x.above y c (PySem.mem_of_lookup h))
 ·have hi:i<vs.length:=by
   unfold start at h2
   by_cases hi:i<vs.length
   ·exact hi
   ·rw [List.getElem?_append_right (by simpa using hi)] at h2
    rw [List.getElem?_replicate] at h2
    split at h2<;>cases h2
  have ha:vs[i]? = some v:=by
   unfold start at h2
   rw [List.getElem?_append_left (by simpa using hi),List.getElem?_map] at h2
   cases e:vs[i]? with
   | none=>rw [e] at h2; cases h2
   | some a=>rw [e] at h2; cases h2; rfl
  obtain ⟨u,hu,rv⟩:=r.get ha
  have hp:ps[i]? = some y:=by
   rw [<- S.pre,List.getElem?_take_of_lt (by omega)]; exact h1
  have ndP:ps.Nodup:=by rw [<- S.pre]; exact S.nd.sublist (List.take_sublist _ _)
  refine ⟨u,rv,?_⟩
  rcases S.par y (List.mem_of_getElem? hp) with k | k
  ·exact .inl ⟨k,zX ndP hp hu k⟩
  ·obtain ⟨c,e⟩:=DU (n:=s.heap.objs.size+1) k
   refine .inr ⟨.inl k,c,e,?_⟩
   have q:=x.cell y c e
   rw [zY ndP hp hu (by show scope.names.lookup y≠_; rw [k]; decide)] at q
   exact q
 ·exact e0.hok.fresh (Nat.le_of_lt (x.above y c (PySem.mem_of_lookup h)))
 ·unfold start
  show _=N.length
  rw [List.length_append,List.length_map,List.length_replicate]
  omega
theorem XQ {CX:LG} {P:Program} {w:World} {K:PySem.W.Frag} {mg:Str->Option Value} {base:Heap} {k:Nat} {f:Addr} {name qual:Str} {params:Arguments} {body:List Stmt} {scope:Scope} {dV kV doc pm cdv ct oc:Value} {an od:Option Addr}
  {osl:Array (Option Value)} {N ps:List Str} {sp:Sp} (lk:K.lookup f=some ⟨oc,od,.func (PySem.W.fnOf name qual params body scope dV kV doc pm an cdv ct),osl⟩) (hcd:PySem.W.codeIn K cdv qual=true) (S:bD N ps scope)
  (len:∀ vs H Q E,sp vs H Q E->vs.length=ps.length)
  (hbody:∀ (A:Around) (outer:List Env) (s:Shared) (H:Hp) (vs:List V) (Q:VK) (E:XK),iO k (A.deeper (envOfC qual scope s.heap.objs.size f cdv))->sp vs H Q E ->
   ∃ t,BZ (qQ CX P w K mg base N qual scope f cdv A outer s H E) body t/\t { nx:=fun _ H'=>Q .non H',rt:=Q } (start N vs) H) :
  aN P w K mg base CX (k+1) f (PySem.W.fnOf name qual params body scope dV kV doc pm an cdv ct) ps sp:=by
 refine ⟨len,fun A outer s H args us vs Q E hr e0 hb r hsp=>?_⟩
 have hl:=len _ _ _ _ hsp
 have KX:K.In s.heap:=e0.mod.kin.keeps fun b o e=>(e0.bs b o e).1
 have lim:s.heap.NoLimit:=e0.mod.nolimit.keeps fun b o e=>(e0.bs b o e).1
 have hkind:∀ y∈ps.zip us,scope.names.lookup y.1=some .local\/(scope.names.lookup y.1=some .cell/\((cellsFrom (s.heap.objs.size+1) scope.names []).lookup y.1).isSome=true):=fun ⟨n,v⟩ hy=>by
  rcases S.par n (List.of_mem_zip hy).1 with q | q
  ·exact .inl q
  ·exact .inr ⟨q,PySem.W.cellsFrom_some _ _ _ (.inl q)⟩
 refine codeAny_call_function hr.depth (KX _ _ lk) rfl S.co S.gen rfl (PySem.W.codeRec_of KX hcd) (hb _ _ _ _ ?_)
 refine wpAny_newFunctionEnv_cells S.kind hkind fun env he s1 x=>?_
 subst he
 refine ⟨lim.keeps x.toInCall.keep,codeAny_func ?_⟩
 obtain ⟨t,ht,hq⟩:=hbody A outer s H vs Q E (hr.deeper _) hsp
 have I:Inv (qQ CX P w K mg base N qual scope f cdv A outer s H E) [] (start N vs) H s1:=LH S hr.hd e0 hl r x
 refine wpAny_mono (ht [] s1 (start N vs) H _ I hq) (fun fl s' hs=>?_) fun e s' hs=>hs
 have fin:∀ {σ':St} {H':Hp} {v:V} {u:Value},Inv (qQ CX P w K mg base N qual scope f cdv A outer s H E) [] σ' H' s'->RelV v u->Q v H'->CE outer P w H s Q u s' :=
  fun {σ' H' v u} J rv q=>⟨v,H',J.os,J.bare,J.base,J.hok,rv,q⟩
 cases fl with
 | ret u =>
  obtain ⟨v,σ',H',J,rv,q⟩:=hs
  exact fin J rv q
 | next =>
  obtain ⟨σ',H',J,q⟩:=hs
  exact fin (v:=V.non) (u:=Value.none) J rfl q
 | brk =>
  obtain ⟨_,_,_,q⟩:=hs
  exact False.elim q
 | cont =>
  obtain ⟨_,_,_,q⟩:=hs
  exact False.elim q
end L2
namespace L2
open PySem PySem.Spec PyProof.Rows
section
variable {X:Cx} {x:Str} {p pos:Pos} {e:Expr} {es:List Expr} {t:TA} {id T:String} {r:List V->Hp->VK->Prop}
def tCB (r:List V->Hp->VK->Prop) (t:TA):TE:=fun σ H Q=>t σ H fun vs H1=>r vs H1 Q
theorem mS (hc:gS X (.builtin id) r) (hg:Gl X x) (hm:X.mg x=none) (hv:bootBuiltins x=some (.builtin id)) (ha:PA X (e::es) t) (hn:x ≠ "__name__" := by decide) (hdb:(x == ("__debug__" : Str))=false:=by decide)
  (he:starEach (e::es) X.env=(false,eval e X.env)::starEach es X.env:=by rfl) (hpl:(backTo pos (starEach es X.env)).any (·.1)=false:=by rfl):PE X (.Call (.Name x p) (e::es) [] pos) (tCB r t):=by
 intro pins s σ H Q I h
 refine wpAny_Call_Name_kw (mR I hg hm hv ?_ hn hdb)
 exact PyProof.Rows.callWith_builtin1 (eP (ha pos pins s σ H _ I h) fun us s1 ⟨vs,H1,I1,r1,q1⟩=>hc pins s1 σ H1 vs us Q I1 r1 q1) he hpl
theorem n0 (hc:gS X (.type T) r) (hg:Gl X x) (hm:X.mg x=none) (hv:bootBuiltins x=some (.type T)) (ha:PA X (e::es) t) (hn:x ≠ "__name__" := by decide) (hdb:(x == ("__debug__" : Str))=false:=by decide)
  (he:starEach (e::es) X.env=(false,eval e X.env)::starEach es X.env:=by rfl) (hpl:(backTo pos (starEach es X.env)).any (·.1)=false:=by rfl):PE X (.Call (.Name x p) (e::es) [] pos) (tCB r t):=by
 intro pins s σ H Q I h
 refine wpAny_Call_Name_kw (mR I hg hm hv ?_ hn hdb)
 exact PyProof.Rows.callWith_type1 (eP (ha pos pins s σ H _ I h) fun us s1 ⟨vs,H1,I1,r1,q1⟩=>hc pins s1 σ H1 vs us Q I1 r1 q1) he hpl
end
end L2
namespace HT
open PySem PyProof.Rows
section
open PySem.SeqAt
open PySem.AutoSeq1 (wpAny_loadPart')
open PySem.MeetsSeq PySem.MeetsSeq2 PySem.MeetsSeq3
end
section
variable {prog:Program} {w:World} {A:Around} {E:Value->Shared->Prop} {s:Shared}
theorem U3 {t b:Addr} {vs ws:List Value} {Q:Value->Shared->Prop} (ht:IsTup s.heap t vs.toArray) (hb:IsTup s.heap b ws.toArray) (hv:vs≠[])
  (h1:ws=[]->Q (.ref t) s) (h2:ws≠[]->Q (.ref s.heap.objs.size) { s with heap:=s.heap.push { cls:=.type "tuple",data:=.seq (vs++ws).toArray } })
  (hsz:vs.length+ws.length<=sizeLine):wpAny (model prog w) A (binaryOp .Add (.ref t) (.ref b)) Q E s:=by
 obtain ⟨⟨cls,dd,data,sl⟩,ho,hc,n,hd⟩:=id ht
 obtain ⟨⟨cls2,dd2,data2,sl2⟩,ho2,hc2,n2,hd2⟩:=id hb
 simp only at hc hd hc2 hd2
 subst hc hd hc2 hd2
 have e:vs.toArray++ws.toArray=(vs++ws).toArray:=by simp
 by_cases hw:ws=[]
 ·exact concat_meets ⟨_,ho,rfl⟩ ⟨_,ho2,rfl⟩ noFill_tuple_add seq_tuple_add PySem.F.slot_tuple_add PySem.F.entry_tuple_add (PySem.F.args_tuple_add_2 _ _)
   (tuple_addW1 t b vs.toArray ws.toArray n n2 dd dd2 sl sl2 (by simpa using hv) (by simp [hw])) ⟨ho,ho2,h1 hw⟩
 ·refine concat_meets ⟨_,ho,rfl⟩ ⟨_,ho2,rfl⟩ noFill_tuple_add seq_tuple_add PySem.F.slot_tuple_add PySem.F.entry_tuple_add (PySem.F.args_tuple_add_2 _ _)
   (tuple_addW2 t b vs.toArray ws.toArray n n2 dd dd2 sl sl2 (by simpa using hv) (by simpa using hw) (by rw [List.size_toArray,List.size_toArray]; exact hsz)) ⟨ho,ho2,?_⟩
  rw [e]
  exact h2 hw
def gE (n d:Nat):Option Int->Nat
 | none=>d
 | some v=>if v<0 then (v+(n:Int)).toNat else min v.toNat n
theorem Z2 (n d:Nat) (hd:d<=n) (o:Option Int):gE n d o<=n:=by
 cases o with
 | none=>exact hd
 | some v =>
  show (if v<0 then (v+(n:Int)).toNat else min v.toNat n)<=n
  by_cases hv:v<0
  ·rw [if_pos hv]; omega
  ·rw [if_neg hv]; exact Nat.min_le_right _ _
theorem JE (v:Int) (n d:Nat):(if v<0 then max (v+(n:Int)) 0 else min v (n:Int))=((gE n d (some v):Nat):Int):=by
 show (if v<0 then max (v+(n:Int)) 0 else min v (n:Int))=(((if v<0 then (v+(n:Int)).toNat else min v.toNat n):Nat):Int)
 by_cases hv:v<0
 ·simp only [if_pos hv]; omega
 ·simp only [if_neg hv]; omega
theorem GL (lo hi:Option Int) (n:Nat):Builtin.Slice.sliceAdjust lo hi 1 (n:Int)=(((gE n 0 lo:Nat):Int),((gE n n hi:Nat):Int)):=by
 have h1:¬ ((1:Int)<0):=by omega
 unfold Builtin.Slice.sliceAdjust
 simp only [h1,if_false]
 refine Prod.ext ?_ ?_
 ·cases lo with
  | none=>rfl
  | some v=>exact JE v n 0
 ·cases hi with
  | none=>rfl
  | some v=>exact JE v n n
theorem GN (i j:Nat):Builtin.Slice.slicePlaces (i:Int) (j:Int) 1=j - i:=by
 unfold Builtin.Slice.slicePlaces
 have h1:(1:Int)>0:=by omega
 simp only [h1,if_true,Int.ediv_one]
 split<;>omega
theorem wU {v:Value} {o:Option Int} {Q:Option Int->Shared->Prop} (p:IsPart v o) (h:Q o s):wpAny (model prog w) A (Builtin.Slice.slicePartIndex v) Q E s:=by
 cases p with
 | none=>exact slicePart_none h
 | int i t=>exact slicePart_int h
theorem kO {sl:Addr} {vl vu:Value} {lo hi:Option Int} {n:Nat} {Q:Int×Int×Nat->Shared->Prop} (hs:s.heap.IsSliceOf sl vl vu .none) (pl:IsPart vl lo) (pu:IsPart vu hi)
  (h:Q (((gE n 0 lo:Nat):Int),1,gE n n hi - gE n 0 lo) s):wpAny (model prog w) A (Builtin.Slice.sliceApplied (.ref sl) (pure (n:Int))) Q E s:=by
 obtain ⟨os,hos,hcs,hds⟩:=id hs
 unfold Builtin.Slice.sliceApplied Builtin.Slice.sliceFields
 refine wpAny_bind (wpAny_bind (wpAny_field hos hds (x:=vl) rfl (wpAny_bind (wpAny_field hos hds (x:=vu) rfl (wpAny_bind (wpAny_field hos hds (x:=.none) rfl (wpAny_pure ?_)))))))
 refine wpAny_bind (slicePart_none ?_)
 show wpAny _ _ (if ((1:Int) == 0)=true then _ else _) _ _ s
 rw [if_neg (by decide)]
 refine wpAny_bind (wU pl (wpAny_bind (wU pu (wpAny_bind (wpAny_pure ?_)))))
 show wpAny _ _ (match Builtin.Slice.sliceAdjust lo hi 1 (n:Int) with | (lo,hi)=>pure (lo,(1:Int),Builtin.Slice.slicePlaces lo hi 1)) _ _ s
 rw [GL lo hi n]
 show wpAny _ _ (pure (((gE n 0 lo:Nat):Int),(1:Int),Builtin.Slice.slicePlaces ((gE n 0 lo:Nat):Int) ((gE n n hi:Nat):Int) 1)) _ _ s
 rw [GN]
 exact wpAny_pure h
theorem P4 (xs:Array Value) (i k:Nat):((List.range k).filterMap fun (m:Nat)=>xs[((i:Int)+(m:Int)*1).toNat]?).toArray=((xs.toList.drop i).take k).toArray:=by
 have e:(fun (m:Nat)=>xs[((i:Int)+(m:Int)*1).toNat]?)=fun m=>xs[i+m]?:=by
  funext m
  have:((i:Int)+(m:Int)*1).toNat=i+m:=by omega
  rw [this]
 rw [e]
 have:=pick_run xs i k
 rw [List.filterMap_map] at this
 have e2:((fun x=>xs[x]?)∘fun x=>i+x)=fun m=>xs[i+m]?:=rfl
 rw [e2] at this
 rw [this]
theorem qR {t sl:Addr} {items:Array Value} {vl vu:Value} {lo hi:Option Int} {Q:Value->Shared->Prop} (ht:IsTup s.heap t items) (hs:s.heap.IsSliceOf sl vl vu .none) (pl:IsPart vl lo) (pu:IsPart vu hi)
  (hw:¬ (gE items.size 0 lo=0/\gE items.size items.size hi=items.size))
  (h:Q (.ref s.heap.objs.size) { s with heap:=s.heap.push { cls:=.type "tuple",data:=.seq ((items.toList.drop (gE items.size 0 lo)).take (gE items.size items.size hi - gE items.size 0 lo)).toArray } })
  (hsz:items.size<=sizeLine):wpAny (model prog w) A (getItem (.ref t) (.ref sl)) Q E s:=by
 have JF:sizeOk (.seq ((items.toList.drop (gE items.size 0 lo)).take (gE items.size items.size hi - gE items.size 0 lo)).toArray):=by
  show ((items.toList.drop (gE items.size 0 lo)).take (gE items.size items.size hi - gE items.size 0 lo)).toArray.size<=sizeLine
  rw [List.size_toArray,List.length_take,List.length_drop,Array.length_toList]
  omega
 have hj:gE items.size items.size hi<=items.size:=Z2 _ _ (Nat.le_refl _) hi
 obtain ⟨os,hos,hcs,hds⟩:=id hs
 have hTs:s.TypeIs (.ref sl) "slice" := ⟨os,hos,hcs⟩
 unfold getItem
 try with_reducible refine wpAny_holding ?_
 first | refine wpAny_bind (wpAny_pure ?_) | skip
 refine wpAny_bind (wpAny_sequenceKey ht.typeIs (by decide) ?_)
 refine wpAny_bind (wpAny_callSpecial?_slot (name:=Str.ofString "__getitem__") ht.typeIs PyProof.Rows.slot_tuple_getitem
  (wpAny_call_entry PyProof.Rows.slot_tuple_getitem ht.typeIs entry_tuple_getitem ?_ (args_tuple_getitem _ _)))
 show wpAny _ _ (Builtin.Tuple.tupleItemsOf (.ref t) >>= _) _ _ s
 refine wpAny_bind (tupleItemsOf_ ht ?_)
 refine wpAny_bind (wpAny_typeOf hTs ?_)
 rw [if_pos (by decide)]
 refine wpAny_bind (kO hs pl pu ?_)
 have hno:¬ ((((gE items.size 0 lo:Nat):Int) == 0&&(1:Int) == 1&&(gE items.size items.size hi - gE items.size 0 lo) == items.size)=true):=by
  intro q
  rw [Bool.and_eq_true,Bool.and_eq_true] at q
  have q1:((gE items.size 0 lo:Nat):Int)=0:=eq_of_beq q.1.1
  have q2:gE items.size items.size hi - gE items.size 0 lo=items.size:=eq_of_beq q.2
  exact hw ⟨by omega,by omega⟩
 show wpAny _ _ (if (((gE items.size 0 lo:Nat):Int) == 0&&(1:Int) == 1&&(gE items.size items.size hi - gE items.size 0 lo) == items.size)=true then _ else _) _ _ s
 rw [if_neg hno,P4]
 first
  | exact wpAny_bind (m:=Builtin.Tuple.tupleExact _) (wpAny_newObj_type (wpAny_pure ⟨_,rfl,wpAny_pure h⟩) JF)
  | exact wpAny_bind (m:=Builtin.Tuple.tupleExact _) (wpAny_newObj_type (wpAny_bind (wpAny_pure (wpAny_pure ⟨_,rfl,wpAny_pure h⟩))) JF)
  | exact wpAny_bind (wpAny_bind (m:=Builtin.Tuple.tupleExact _) (wpAny_newObj_type (wpAny_pure (wpAny_pure ⟨_,rfl,wpAny_pure h⟩)) JF))
  | exact wpAny_bind (wpAny_bind (m:=Builtin.Tuple.tupleExact _) (wpAny_newObj_type (wpAny_pure ⟨_,rfl,wpAny_pure h⟩) JF))
end
end HT
namespace L2
open PySem PySem.Spec PyProof.Rows
abbrev TO:=St->Hp->(Option Int->Hp->Prop)->Prop
def PO (X:Cx) (e:Option Expr) (t:TO):Prop :=
 ∀ (pins:List (Addr×Obj)) (s:Shared) (σ:St) (H:Hp) (Q:Option Int->Hp->Prop),Inv X pins σ H s->t σ H Q ->
  wpAny (model X.prog X.w) X.A (evalPart e X.env) (fun u s'=>∃ o H',Inv X pins σ H' s'/\IsPart u o/\Q o H') X.xe s
def U4:TO:=fun _ H Q=>Q none H
def aCD (t:TE):TO:=fun σ H Q=>t σ H fun x H1=>∃ i,x=.int i/\Q (some i) H1
theorem intsAre_of {ns:List Int}:∀ {us:List Value},Vals (ns.map V.int) us->IntsAre us ns:=by
 induction ns with
 | nil=>intro us r; rw [List.map_nil] at r; cases r; exact .nil
 | cons n ns ih =>
  intro us r
  rw [List.map_cons] at r
  cases r with
  | cons r1 r2 =>
   obtain ⟨t,e⟩:=r1
   subst e
   exact .cons n t (ih r2)
section
variable {X:Cx} {e:Expr} {te:TE} {lo hi:Option Expr} {tl th:TO} {pos p2:Pos}
theorem U5:PO X none U4:=by
 intro pins s σ H Q I h
 rw [evalPart_none]
 exact wpAny_pure ⟨none,H,I,.none,h⟩
theorem U6 (h:PE X e te):PO X (some e) (aCD te):=by
 intro pins s σ H Q I hw
 rw [evalPart_some]
 refine eP (h pins s σ H _ I hw) fun u s1 hq4=>?_
 obtain ⟨x,H1,I1,r1,q1⟩:=hq4
 obtain ⟨i,rfl,q⟩:=q1
 obtain ⟨t,rfl⟩:=r1
 exact ⟨some i,H1,I1,.int i t,q⟩
def XR (X:Cx) (r:V->Option Int->Option Int->Hp->VK->Prop):Prop :=
 ∀ (pins:List (Addr×Obj)) (s:Shared) (σ:St) (H:Hp) (x:V) (v vl vu:Value) (lo hi:Option Int) (sl:Addr) (Q:VK),Inv X pins σ H s->RelV x v->s.heap.IsSliceOf sl vl vu .none->IsPart vl lo->IsPart vu hi->r x lo hi H Q ->
  ∃ T id,typeLookup (.type T) "__getitem__" = pure (some (.builtin id))/\s.TypeIs v T/\wpAny (model X.prog X.w) X.A (getItem v (.ref sl)) (EP X pins σ Q) X.xe s
theorem XR.or {r r':V->Option Int->Option Int->Hp->VK->Prop} (h:XR X r) (h':XR X r'):XR X (fun x lo hi H Q=>r x lo hi H Q\/r' x lo hi H Q):=by
 intro pins s σ H x v vl vu lo hi sl Q I rx hs pl pu q
 rcases q with q | q
 ·exact h pins s σ H x v vl vu lo hi sl Q I rx hs pl pu q
 ·exact h' pins s σ H x v vl vu lo hi sl Q I rx hs pl pu q
def tSl (r:V->Option Int->Option Int->Hp->VK->Prop) (te:TE) (tl th:TO):TE:=fun σ H Q=>te σ H fun x H1=>tl σ H1 fun l H2=>th σ H2 fun u H3=>r x l u H3 Q
theorem P5 {r:V->Option Int->Option Int->Hp->VK->Prop} (hr:XR X r) (he:PE X e te) (hl:PO X lo tl) (hu:PO X hi th):PE X (.Subscript e (.Slice lo hi none p2) pos) (tSl r te tl th):=by
 intro pins s σ H Q I h
 refine Subscript_ (eP (he pins s σ H _ I h) fun v s1 ⟨x,H1,I1,r1,q1⟩=>?_)
 refine wpAny_Slice (eP (hl pins s1 σ H1 _ I1 q1) fun vl s2 ⟨l,H2,I2,pl,q2⟩=>eP (hu pins s2 σ H2 _ I2 q2) fun vu s3 ⟨u,H3,I3,pu,q3⟩=>?_)
 rw [evalPart_none]
 refine wpAny_pure ?_
 have I4:Inv X pins σ H3 { s3 with heap:=s3.heap.push { cls:=.type "slice",data:=.fields #[vl,vu,.none] } }:=I3.kept (t':=s3.toks) fun b ob q=>Heap.get?_push_of_some _ q
 obtain ⟨T,id,hT,ht,hg⟩:=hr pins { s3 with heap:=s3.heap.push { cls:=.type "slice",data:=.fields #[vl,vu,.none] } } σ H3 x v vl vu l u s3.heap.objs.size Q I4 r1 (Heap.IsSliceOf.new ..) pl pu q3
 show wpAny (model X.prog X.w) X.A (subscriptTail e (.Slice lo hi none p2) v (.ref s3.heap.objs.size)) (EP X pins σ Q) X.xe { s3 with heap:=s3.heap.push { cls:=.type "slice",data:=.fields #[vl,vu,.none] } }
 exact tail_any (ops:=[.ref s3.heap.objs.size,v]) ht hT hg (by with_unfolding_all rfl)
def DW (xs:List V) (lo hi:Option Int):List V:=(xs.drop (HT.gE xs.length 0 lo)).take (HT.gE xs.length xs.length hi - HT.gE xs.length 0 lo)
theorem tT (xs:List V) (lo hi:Option Int):(DW xs lo hi).length<=xs.length:=by
 unfold DW
 rw [List.length_take,List.length_drop]
 omega
def aGF (K:PySem.W.Frag):V->Option Int->Option Int->Hp->VK->Prop:=fun x lo hi H Q=>∃ a xs,x=.ref a/\gC K H a xs /\
 ¬ (HT.gE xs.length 0 lo=0/\HT.gE xs.length xs.length hi=xs.length) /\ ∀ p,H p=none->Q (.ref p) (upd H p (.tup (DW xs lo hi)))
theorem Z3:XR X (aGF X.K):=by
 intro pins s σ H x v vl vu lo hi sl Q I rx hs pl pu h
 obtain ⟨a,xs,rfl,hx,hw,q⟩:=h
 cases rx
 obtain ⟨its,r,ht,hz⟩:=I.tuple hx
 have hlen:its.toArray.size=xs.length:=by rw [List.size_toArray]; exact r.length.symm
 refine ⟨"tuple",_,PyProof.Rows.slot_tuple_getitem.lookup,ht.typeIs,?_⟩
 refine HT.qR ht hs pl pu (by rw [hlen]; exact hw) ?_ (by rw [hlen]; exact hz)
 rw [hlen]
 refine ⟨.ref s.heap.objs.size,_,I.laid (t':=s.toks) (o:=.tup (DW xs lo hi)) (fun b ob q=>Heap.get?_push_of_some _ q) (Nat.le_refl _) ?_,rfl,q _ (I.hok.fresh (Nat.le_refl _))⟩
 exact ⟨Nat.le_trans (tT xs lo hi) hz,_,(r.drop (HT.gE xs.length 0 lo)).take (HT.gE xs.length xs.length hi - HT.gE xs.length 0 lo),IsTup.new _ _⟩
def aCE (K:PySem.W.Frag):R2:=fun x y H Q=>∃ a b xs ys,x=.ref a/\y=.ref b/\gC K H a xs/\gC K H b ys/\xs≠[]/\xs.length+ys.length<=sizeLine /\
 (ys=[]->Q (.ref a) H)/\(ys≠[] -> ∀ p,H p=none->Q (.ref p) (upd H p (.tup (xs++ys))))
theorem Vals.B3 {xs:List V} {us:List Value} (r:Vals xs us):us=[]↔xs=[]:=by
 cases r with
 | nil=>simp
 | cons _ _=>simp
theorem U7:kB X (binaryOp .Add) (aCE X.K):=by
 intro pins s σ H x y v u Q I rx ry h
 obtain ⟨a,b,xs,ys,rfl,rfl,ha,hb,hx,hz,q1,q2⟩:=h
 cases rx
 cases ry
 obtain ⟨its,r1,p1,_⟩:=I.tuple ha
 obtain ⟨its2,r2,p2,_⟩:=I.tuple hb
 refine HT.U3 p1 p2 (fun z=>hx (r1.B3.mp z)) (fun z=>⟨.ref a,H,I,rfl,q1 (r2.B3.mp z)⟩) (fun z=>?_) (by rw [<- r1.length,<- r2.length]; exact hz)
 refine ⟨.ref s.heap.objs.size,_,I.laid (t':=s.toks) (o:=.tup (xs++ys)) (fun b ob q=>Heap.get?_push_of_some _ q) (Nat.le_refl _) ?_,rfl,q2 (fun w=>z (r2.B3.mpr w)) _ (I.hok.fresh (Nat.le_refl _))⟩
 exact ⟨by rw [List.length_append]; exact hz,_,r1.append r2,IsTup.new _ _⟩
end
end L2
namespace L2
open PySem PySem.Spec PyProof.Rows
def LI (n:Nat) (i:Int):Option Nat:=if 0<=i then (if i<n then some i.toNat else none) else if -(n:Int)<=i then some (i+n).toNat else none
def uF {α:Type} (xs:List α) (i:Int):Option α:=(LI xs.length i).bind fun j=>xs[j]?
theorem B4 {n:Nat} {i:Int} {j:Nat} (h:LI n i=some j):seqIndex? i n=some j/\j<n /\ -(n:Int)<=i/\i<n:=by
 unfold LI at h
 by_cases h0:0<=i
 ·rw [if_pos h0] at h
  by_cases h1:i<n
  ·rw [if_pos h1] at h
   have e:i.toNat=j:=Option.some.inj h
   exact ⟨by rw [seqIndex_of h0 h1,e],by omega,by omega,h1⟩
  ·rw [if_neg h1] at h; cases h
 ·rw [if_neg h0] at h
  by_cases h1:-(n:Int)<=i
  ·rw [if_pos h1] at h
   have e:(i+n).toNat=j:=Option.some.inj h
   exact ⟨by rw [seqIndex_neg (by omega) h1,e],by omega,h1,by omega⟩
  ·rw [if_neg h1] at h; cases h
theorem JG {α:Type} {xs:List α} {i:Int} {v:α} (h:uF xs i=some v):∃ j,seqIndex? i xs.length=some j/\xs[j]? = some v/\j<xs.length /\ -(xs.length:Int)<=i/\i<xs.length:=by
 unfold uF at h
 cases e:LI xs.length i with
 | none=>rw [e] at h; cases h
 | some j =>
  rw [e] at h
  obtain ⟨h1,h2,h3,h4⟩:=B4 e
  exact ⟨j,h1,h,h2,h3,h4⟩
def B5 (b:Expr):Prop:=∀ o i,subscripted b false o i=operate [o,i] (getItem o i)
def Z4 (X:Cx) (r:R2):Prop :=
 ∀ (value slice:Expr) (pins:List (Addr×Obj)) (s:Shared) (σ:St) (H:Hp) (x y:V) (v u:Value) (Q:VK),Inv X pins σ H s->RelV x v->RelV y u->r x y H Q ->
  subscripted slice false v u=operate [v,u] (getItem v u)->wpAny (model X.prog X.w) X.A (subscriptTail value slice v u) (EP X pins σ Q) X.xe s
def MtR (X:Cx) (id:String) (r:V->List V->Hp->VK->Prop):Prop :=
 ∀ (pins:List (Addr×Obj)) (s:Shared) (σ:St) (H:Hp) (x:V) (xs:List V) (v:Value) (us:List Value) (Q:VK),Inv X pins σ H s->RelV x v->Vals xs us->r x xs H Q ->
  wpAny (model X.prog X.w) X.A (call (.builtin id) (v::us)) (EP X pins σ Q) X.xe s
section
variable {X:Cx} {a b:Expr} {ta tb:TE} {pos:Pos}
theorem Z4.or {r r':R2} (h:Z4 X r) (h':Z4 X r'):Z4 X (fun x y H Q=>r x y H Q\/r' x y H Q):=by
 intro value slice pins s σ H x y v u Q I rx ry q hs
 rcases q with q | q
 ·exact h value slice pins s σ H x y v u Q I rx ry q hs
 ·exact h' value slice pins s σ H x y v u Q I rx ry q hs
theorem aCF {r:R2} (hr:Z4 X r) (ha:PE X a ta) (hb:PE X b tb) (hs:B5 b):PE X (.Subscript a b pos) (tOp r ta tb):=by
 intro pins s σ H Q I h
 exact Subscript_ (ZQ ha hb I h fun v u s2 x y H2 I2 rx ry q=>hr a b pins s2 σ H2 x y v u Q I2 rx ry q (hs _ _))
def aCG (K:PySem.W.Frag):R2:=fun x y H Q=>∃ p xs i v,x=.ref p/\y=.int i/\eV K H p xs/\uF xs i=some v/\Q v H
def aCH (K:PySem.W.Frag):R2:=fun x y H Q=>∃ p xs i v,x=.ref p/\y=.int i/\gC K H p xs/\uF xs i=some v/\Q v H
theorem U8:Z4 X (aCG X.K):=by
 intro value slice pins s σ H x y v u Q I rx ry h hs
 obtain ⟨p,xs,i,z,rfl,rfl,hq,he,q⟩:=h
 cases rx
 obtain ⟨t,rfl⟩:=ry
 obtain ⟨its,r,pl,hz⟩:=I.list hq
 obtain ⟨j,h1,h2,h3,h4,h5⟩:=JG he
 obtain ⟨w,ew,vX⟩:=r.get h2
 have hl:=r.length
 have hn:=wR
 have fin:EP X pins σ Q w s:=⟨z,H,I,vX,q⟩
 by_cases h0:0<=i
 ·have hj:i.toNat=j:=by
   rw [seqIndex_of h0 h5] at h1
   exact Option.some.inj h1
  exact item_listR pl.isList h0 (by omega) (by rw [hj]; simpa using ew) fin hs
 ·have hj:(i+(its.toArray.size:Int)).toNat=j:=by
   rw [seqIndex_neg (by omega) h4] at h1
   rw [List.size_toArray,<- hl]
   exact Option.some.inj h1
  exact subscriptTail_builtinR (x:=w) pl.isList.typeIs slot_list_getitem.lookup
   (wpAny_getItem_list_neg (Q:=fun r s'=>r=w/\EP X pins σ Q r s') pl.isList (by omega) (by rw [List.size_toArray]<;>omega) (by omega) (by rw [hj]; simpa using ew) ⟨rfl,fin⟩) hs
theorem Z5:Z4 X (aCH X.K):=by
 intro value slice pins s σ H x y v u Q I rx ry h hs
 obtain ⟨p,xs,i,z,rfl,rfl,hq,he,q⟩:=h
 cases rx
 obtain ⟨t,rfl⟩:=ry
 obtain ⟨its,r,pl,hz⟩:=I.tuple hq
 obtain ⟨j,h1,h2,h3,h4,h5⟩:=JG he
 obtain ⟨w,ew,vX⟩:=r.get h2
 have hl:=r.length
 have hn:=wR
 have fin:EP X pins σ Q w s:=⟨z,H,I,vX,q⟩
 exact subscriptTail_builtinR (x:=w) pl.typeIs slot_tuple_getitem.lookup
  (getItem_tuple (j:=j) (Q:=fun r s'=>r=w/\EP X pins σ Q r s') pl (by omega) (by omega) (by rw [List.size_toArray,<- hl]; exact h1) (by simpa using ew) ⟨rfl,fin⟩) hs
theorem GO (its:List Value) (n j:Nat) (u:Value):Obj.mapSeq (·.setIfInBounds j u) { cls:=.type "list",data:=.seq its.toArray n }={ cls:=.type "list",data:=.seq (its.set j u).toArray n }:=by
 simp [Obj.mapSeq]
theorem Inv.lst {pins:List (Addr×Obj)} {σ:St} {H:Hp} {s:Shared} {p:Addr} {xs:List V} (I:Inv X pins σ H s) (h:H p=some (.lst xs)) :
  ∃ (its:List Value) (n:Nat),Vals xs its/\s.heap.get? p=some { cls:=.type "list",data:=.seq its.toArray n }/\xs.length<=sizeLine:=by
 obtain ⟨z,its,n,r,e⟩:=I.hok p _ h
 exact ⟨its,n,r,e,z⟩
theorem Inv.Z6 {pins:List (Addr×Obj)} {σ:St} {H:Hp} {s:Shared} {p:Addr} {xs ys:List V} {its its':List Value} {n n':Nat} {f:Obj->Obj} (I:Inv X pins σ H s) (h:H p=some (.lst xs))
  (ho:s.heap.get? p=some { cls:=.type "list",data:=.seq its.toArray n }) (hf:f { cls:=.type "list",data:=.seq its.toArray n }={ cls:=.type "list",data:=.seq its'.toArray n' }) (r:Vals ys its') (hz:ys.length<=sizeLine) (t:Nat) :
  Inv X pins σ (upd H p (.lst ys)) { s with heap:=s.heap.update p f,toks:=t }:=by
 have e:(s.heap.update p f).get? p=some { cls:=.type "list",data:=.seq its'.toArray n' }:=by
  rw [Heap.get?_update_self f ho (by rw [hf]<;>rfl),hf]
 refine I.write (x:=p) (e:=p) (by rw [h]; trivial) (.inl rfl) (fun b u hb q=>(Heap.get?_update_other _ _ (Ne.symm hb)).trans q) ⟨_,e⟩ ?_
 exact ⟨hz,its',n',r,e⟩
def aCI:V->V->V->Hp->(Hp->Prop)->Prop:=fun o i v H Q=>∃ p xs k j,o=.ref p/\i=.int k/\H p=some (.lst xs)/\LI xs.length k=some j/\Q (upd H p (.lst (xs.set j v)))
theorem set_list:aBm X aCI:=by
 intro pins s σ H o i v ov iv u Q I ro ri rv h
 obtain ⟨p,xs,k,j,rfl,rfl,hp,hj,q⟩:=h
 cases ro
 obtain ⟨t,rfl⟩:=ri
 obtain ⟨its,n,r,ho,hz⟩:=I.lst hp
 obtain ⟨h1,h2,h3,h4⟩:=B4 hj
 have hl:=r.length
 have hn:=wR
 have I':Inv X pins σ (upd H p (.lst (xs.set j v))) { s with heap:=s.heap.update p (Obj.mapSeq (·.setIfInBounds j u)) } :=
  I.Z6 hp ho (GO its n j u) (r.set rv j) (by rw [List.length_set]; exact hz) s.toks
 by_cases h0:0<=k
 ·have hk:k.toNat=j:=by
   rw [seqIndex_of h0 h4] at h1
   exact Option.some.inj h1
  exact PySem.W.ki_setAt ho h0 (by omega) (by rw [List.size_toArray,<- hl]; exact h4) (by rw [hk]; exact ⟨_,I',q⟩)
 ·have hk:(k+(its.toArray.size:Int)).toNat=j:=by
   rw [seqIndex_neg (by omega) h3] at h1
   rw [List.size_toArray,<- hl]
   exact Option.some.inj h1
  exact PySem.W.ki_setBack ho (by omega) (by rw [List.size_toArray,<- hl]; exact h3) (by omega) (by rw [hk]; exact ⟨_,I',q⟩)
theorem B6 (lo hi:Option Int) (n:Nat):(sliceBounds lo hi none n).1=((HT.gE n 0 lo:Nat):Int)/\(sliceBounds lo hi none n).2.1=((HT.gE n n hi:Nat):Int)/\(sliceBounds lo hi none n).2.2=1:=by
 refine ⟨?_,?_,rfl⟩
 ·cases lo with
  | none=>simp [sliceBounds,HT.gE]
  | some i =>
   simp only [sliceBounds,HT.gE,Option.getD_none,show (1:Int)>0 by decide,if_true]
   by_cases h:i<0
   ·simp only [h,if_true]<;>omega
   ·simp only [h,if_false]<;>omega
 ·cases hi with
  | none=>simp [sliceBounds,HT.gE]
  | some i =>
   simp only [sliceBounds,HT.gE,Option.getD_none,show (1:Int)>0 by decide,if_true]
   by_cases h:i<0
   ·simp only [h,if_true]<;>omega
   ·simp only [h,if_false]<;>omega
theorem yO (its:List Value) (lo hi:Option Int):slicePick its.toArray lo hi none=((its.drop (HT.gE its.length 0 lo)).take (HT.gE its.length its.length hi - HT.gE its.length 0 lo)).toArray:=by
 obtain ⟨h1,h2,h3⟩:=B6 lo hi its.toArray.size
 unfold slicePick
 rw [h1,h2,h3]
 simp only [sliceRange_one,pick_run,List.size_toArray]<;>rfl
def aGG (K:PySem.W.Frag):V->Option Int->Option Int->Hp->VK->Prop:=fun x lo hi H Q=>∃ a xs,x=.ref a/\eV K H a xs /\ ∀ p,H p=none->Q (.ref p) (upd H p (.lst (DW xs lo hi)))
theorem U9:XR X (aGG X.K):=by
 intro pins s σ H x v vl vu lo hi sl Q I rx hs pl pu h
 obtain ⟨a,xs,rfl,hx,q⟩:=h
 cases rx
 obtain ⟨its,r,ht,hz⟩:=I.list hx
 have hlen:=r.length
 refine ⟨"list",_,slot_list_getitem.lookup,ht.isList.typeIs,?_⟩
 refine wpAny_getItem_list_slice ht.isList hs pl pu .none (by simp) ?_ (by rw [List.size_toArray]<;>omega)
 rw [yO,<- hlen]
 refine ⟨.ref s.heap.objs.size,_,I.laid (t':=s.toks) (o:=.lst (DW xs lo hi)) (fun b ob q=>Heap.get?_push_of_some _ q) (Nat.le_refl _) ?_,rfl,q _ (I.hok.fresh (Nat.le_refl _))⟩
 exact ⟨Nat.le_trans (tT xs lo hi) hz,_,0,(r.drop (HT.gE xs.length 0 lo)).take (HT.gE xs.length xs.length hi - HT.gE xs.length 0 lo),Heap.get?_push_size _ rfl⟩
def qS:V->Bool
 | .non=>true
 | .bl _=>true
 | .int _=>true
 | .str _=>true
 | _=>false
def XS:V->V->Bool
 | .non,.non=>true
 | .bl a,.bl b=>a == b
 | .bl a,.int b=>(if a then 1 else 0) == b
 | .int a,.bl b=>a == (if b then 1 else 0)
 | .int a,.int b=>a == b
 | .str a,.str b=>a == b
 | _,_=>false
theorem Z7 {A:Around} {s:Shared} {y x:V} {u v:Value} (ry:RelV y u) (rx:RelV x v) (fy:qS y=true) (fx:qS x=true):SeqAt.EqAt A s u v (XS y x):=by
 cases y with
 | non =>
  cases ry
  cases x with
  | non=>cases rx; exact SeqAt.EqAt.same _
  | bl b=>cases rx; exact SeqAt.EqAt.none_bool b
  | int b=>obtain ⟨t,rfl⟩:=rx; exact SeqAt.EqAt.none_int b t
  | str b=>obtain ⟨t,rfl⟩:=rx; exact SeqAt.EqAt.none_str b t
  | _=>exact absurd (show false=true from fx) Bool.false_ne_true
 | bl a =>
  cases ry
  cases x with
  | non=>cases rx; exact SeqAt.EqAt.bool_none a
  | bl b=>cases rx; exact SeqAt.EqAt.bool_bool a b
  | int b=>obtain ⟨t,rfl⟩:=rx; exact SeqAt.EqAt.bool_int a b t
  | str b=>obtain ⟨t,rfl⟩:=rx; exact SeqAt.EqAt.bool_str a b t
  | _=>exact absurd (show false=true from fx) Bool.false_ne_true
 | int a =>
  obtain ⟨t',rfl⟩:=ry
  cases x with
  | non=>cases rx; exact SeqAt.EqAt.int_none a t'
  | bl b=>cases rx; exact SeqAt.EqAt.int_bool a t' b
  | int b=>obtain ⟨t,rfl⟩:=rx; exact SeqAt.EqAt.int_int a t' b t
  | str b=>obtain ⟨t,rfl⟩:=rx; exact SeqAt.EqAt.int_str a t' b t
  | _=>exact absurd (show false=true from fx) Bool.false_ne_true
 | str a =>
  obtain ⟨t',rfl⟩:=ry
  cases x with
  | non=>cases rx; exact SeqAt.EqAt.str_none a t'
  | bl b=>cases rx; exact SeqAt.EqAt.str_bool a t' b
  | int b=>obtain ⟨t,rfl⟩:=rx; exact SeqAt.EqAt.str_int a t' b t
  | str b=>obtain ⟨t,rfl⟩:=rx; exact SeqAt.EqAt.str_str a t' b t
  | _=>exact absurd (show false=true from fx) Bool.false_ne_true
 | _=>exact absurd (show false=true from fy) Bool.false_ne_true
def GP (x:V) (u:Value):Bool:=match u with
 | .none=>XS .non x
 | .bool b=>XS (.bl b) x
 | .int i _=>XS (.int i) x
 | .str z _=>XS (.str z) x
 | _=>false
theorem P6 {x y:V} {u:Value} (r:RelV y u) (f:qS y=true):GP x u=XS y x:=by
 cases y with
 | non=>cases r; rfl
 | bl b=>cases r; rfl
 | int i=>obtain ⟨t,rfl⟩:=r; rfl
 | str z=>obtain ⟨t,rfl⟩:=r; rfl
 | _=>exact absurd (show false=true from f) Bool.false_ne_true
theorem qT {x:V}:∀ {xs:List V} {us:List Value},Vals xs us->xs.all qS=true->us.any (GP x)=xs.any fun y=>XS y x
 | _,_,.nil,_=>rfl
 | y::xs,u::us,.cons r t,f=>by
  rw [List.all_cons,Bool.and_eq_true] at f
  rw [List.any_cons,List.any_cons,P6 r f.1,qT t f.2]
theorem mT {A:Around} {s:Shared} {x:V} {v:Value} (rx:RelV x v) (fx:qS x=true):∀ {xs:List V} {us:List Value},Vals xs us->xs.all qS=true -> ∀ u∈us,SeqAt.EqAt A s u v (GP x u)
 | _,_,.nil,_=>fun u hu=>by cases hu
 | y::xs,u::us,.cons r t,f=>fun u' hu=>by
  rw [List.all_cons,Bool.and_eq_true] at f
  rcases List.mem_cons.mp hu with rfl | hu
  ·rw [P6 r f.1]; exact Z7 r rx f.1 fx
  ·exact mT rx fx t f.2 u' hu
def inV (x:V) (xs:List V):Bool:=xs.any fun y=>XS y x
def rIn (K:PySem.W.Frag) (neg:Bool):R2:=fun x y H Q=>∃ p xs,y=.ref p/\(eV K H p xs\/gC K H p xs)/\qS x=true/\xs.all qS=true/\Q (.bl (if neg then !inV x xs else inV x xs)) H
theorem zZ:kB X (compareOp .In) (rIn X.K false):=by
 intro pins s σ H x y v u Q I rx ry h
 obtain ⟨p,xs,rfl,hq,fx,fs,q⟩:=h
 cases ry
 rcases hq with hq | hq
 ·obtain ⟨its,r,pl,hz⟩:=I.list hq
  refine SeqAt.in_listAt (GP x) pl.isList (fun w hw=>mT rx fx r fs w (by simpa using hw)) ⟨.bl _,H,I,rfl,?_⟩
  rw [show its.toArray.any (GP x)=its.any (GP x) by simp,qT r fs]
  exact q
 ·obtain ⟨its,r,pl,hz⟩:=I.tuple hq
  refine SeqAt.in_tupleAt (GP x) pl (fun w hw=>mT rx fx r fs w (by simpa using hw)) ⟨.bl _,H,I,rfl,?_⟩
  rw [show its.toArray.any (GP x)=its.any (GP x) by simp,qT r fs]
  exact q
theorem qU:kB X (compareOp .NotIn) (rIn X.K true):=by
 intro pins s σ H x y v u Q I rx ry h
 obtain ⟨p,xs,rfl,hq,fx,fs,q⟩:=h
 cases ry
 rcases hq with hq | hq
 ·obtain ⟨its,r,pl,hz⟩:=I.list hq
  refine SeqAt.notIn_listAt (GP x) pl.isList (fun w hw=>mT rx fx r fs w (by simpa using hw)) ⟨.bl _,H,I,rfl,?_⟩
  rw [show its.toArray.any (GP x)=its.any (GP x) by simp,qT r fs]
  exact q
 ·obtain ⟨its,r,pl,hz⟩:=I.tuple hq
  refine SeqAt.notIn_tupleAt (GP x) pl (fun w hw=>mT rx fx r fs w (by simpa using hw)) ⟨.bl _,H,I,rfl,?_⟩
  rw [show its.toArray.any (GP x)=its.any (GP x) by simp,qT r fs]
  exact q
theorem B7:gS X (.builtin "len") (fun xs H Q=>∃ p ys,xs=[.ref p]/\(eV X.K H p ys\/gC X.K H p ys)/\Q (.int ys.length) H):=by
 intro pins s σ H xs us Q I r h
 obtain ⟨p,ys,rfl,hq,q⟩:=h
 obtain ⟨u,rfl,rx⟩:=vals1 r
 cases rx
 have hn:=wR
 rcases hq with hq | hq
 ·obtain ⟨its,r',pl,hz⟩:=I.list hq
  have hlen:=r'.length
  exact Calls.call_len_list pl.isList (by simp only [List.size_toArray]<;>omega) ⟨.int ys.length,H,I.tok _,⟨s.toks+1,by rw [List.size_toArray,hlen]⟩,q⟩
 ·obtain ⟨its,r',pl,hz⟩:=I.tuple hq
  have hlen:=r'.length
  exact len_tuple pl (by simp only [List.size_toArray]<;>omega) ⟨.int ys.length,H,I.tok _,⟨s.toks+1,by rw [List.size_toArray,hlen]⟩,q⟩
theorem B8:gS X (.type "list") (fun xs H Q=>∃ p ys,xs=[.ref p]/\(eV X.K H p ys\/gC X.K H p ys) /\ ∀ l,H l=none->Q (.ref l) (upd H l (.lst ys))):=by
 intro pins s σ H xs us Q I r h
 obtain ⟨p,ys,rfl,hq,q⟩:=h
 obtain ⟨u,rfl,rx⟩:=vals1 r
 cases rx
 have fin:∀ (its:List Value),Vals ys its->ys.length<=sizeLine -> ∀ (h':Heap) (c':Nat),(∀ b o',s.heap.get? b=some o'->h'.get? b=some o') ->
   h'.get? s.heap.objs.size=some { cls:=.type "list",dict:=none,data:=.seq its.toArray c',slots:=#[] }->EP X pins σ Q (.ref s.heap.objs.size) { s with heap:=h' }:=fun its r' hz h' c' kp e =>
  ⟨.ref s.heap.objs.size,_,I.laid (t':=s.toks) kp (Nat.le_refl _) (show eD X.prog X.w _ h' _ (.lst ys) from ⟨hz,its,c',r',e⟩),rfl,q _ (I.hok.fresh (Nat.le_refl _))⟩
 rcases hq with hq | hq
 ·obtain ⟨its,r',pl,hz⟩:=I.list hq
  have hlen:=r'.length
  obtain ⟨o,ho,hc,n,hd⟩:=pl.isList
  exact call_list_seq p (.inl rfl) ho hc hd (fun h' c' kp e=>fin its r' hz h' c' kp e) (by simp only [List.size_toArray]<;>omega)
 ·obtain ⟨its,r',pl,hz⟩:=I.tuple hq
  have hlen:=r'.length
  obtain ⟨o,ho,hc,n,hd⟩:=pl
  exact call_list_seq p (.inr rfl) ho hc hd (fun h' c' kp e=>fin its r' hz h' c' kp e) (by simp only [List.size_toArray]<;>omega)
theorem yP:gS X (.type "tuple") (fun xs H Q=>∃ p ys,xs=[.ref p]/\((eV X.K H p ys /\ ∀ l,H l=none->Q (.ref l) (upd H l (.tup ys)))\/(gC X.K H p ys/\Q (.ref p) H))):=by
 intro pins s σ H xs us Q I r h
 obtain ⟨p,ys,rfl,h⟩:=h
 obtain ⟨u,rfl,rx⟩:=vals1 r
 cases rx
 rcases h with ⟨hq,q⟩ | ⟨hq,q⟩
 ·obtain ⟨its,r',pl,hz⟩:=I.list hq
  have hlen:=r'.length
  refine call_tuple_list pl.isList (fun h' kp=>?_) (by simp only [List.size_toArray]<;>omega)
  have I1:Inv X pins σ H { s with heap:=h' }:=I.kept (t':=s.toks) kp
  have I2:Inv X pins σ (upd H h'.objs.size (.tup ys)) { s with heap:=h'.push { cls:=.type "tuple",data:=.seq its.toArray } } :=
   I1.laid (t':=s.toks) (fun b o e=>Heap.get?_push_of_some _ e) (Nat.le_refl _) (show eD X.prog X.w _ _ _ (.tup ys) from ⟨hz,its,r',IsTup.new _ _⟩)
  exact ⟨.ref h'.objs.size,_,I2,rfl,q _ (I1.hok.fresh (Nat.le_refl _))⟩
 ·obtain ⟨its,r',pl,hz⟩:=I.tuple hq
  exact call_tuple_same pl ⟨.ref p,H,I,rfl,q⟩
def tyV (K:PySem.W.Frag) (T:String) (x:V) (H:Hp):Prop:=match x with
 | .str _=>T = "str"
 | .int _=>T = "int"
 | .ref p=>(T = "list" /\ ∃ xs,eV K H p xs)\/(T = "tuple" /\ ∃ o,K.lookup p=some o/\o.cls=.type "tuple" /\ o.dict=none) \/
   (T = "dict" /\ ((∃ kvs,H p=some (.dK kvs)) \/ ∃ kvs,H p=some (.dT kvs)))\/(T = "set" /\ ∃ S n,H p=some (.set S n))
 | _=>False
theorem Z8 {pins:List (Addr×Obj)} {σ:St} {H:Hp} {s:Shared} {T:String} {x:V} {v:Value} (I:Inv X pins σ H s) (r:RelV x v) (ty:tyV X.K T x H) :
  s.TypeIs v T /\ ∀ a,v=.ref a -> ∃ ob,s.heap.get? a=some ob/\ob.dict=none:=by
 cases x with
 | str z =>
  obtain ⟨t,rfl⟩:=r
  cases (show T = "str" from ty)
  exact ⟨typeIs_str s z t,fun _ e=>nomatch e⟩
 | int i =>
  obtain ⟨t,rfl⟩:=r
  cases (show T = "int" from ty)
  exact ⟨typeIs_int s i t,fun _ e=>nomatch e⟩
 | ref p =>
  cases r
  rcases ty with ⟨rfl,xs,hq⟩ | ⟨rfl,o,hk,hc,hd⟩ | ⟨rfl,hk⟩ | ⟨rfl,S,n,hk⟩
  ·obtain ⟨its,_,pl,_⟩:=I.list hq
   refine ⟨pl.isList.typeIs,fun a e=>?_⟩
   cases e
   obtain ⟨o,n,e,c,hd,_⟩:=pl
   exact ⟨o,e,hd⟩
  ·refine ⟨⟨o,I.yH p o hk,hc⟩,fun a e=>?_⟩
   cases e
   exact ⟨o,I.yH _ o hk,hd⟩
  ·have z:∃ o,s.heap.get? p=some o/\o.ExactDict:=by
    rcases hk with ⟨kvs,hk⟩ | ⟨kvs,hk⟩
    ·obtain ⟨_,_,_,_,o,_,_,e,ex,_⟩:=I.hok p _ hk
     exact ⟨o,e,ex⟩
    ·obtain ⟨_,_,_,_,o,_,_,e,ex,_⟩:=I.hok p _ hk
     exact ⟨o,e,ex⟩
   obtain ⟨o,e,ex⟩:=z
   refine ⟨⟨o,e,ex.1⟩,fun a e2=>?_⟩
   cases e2
   exact ⟨o,e,ex.2.1⟩
  ·obtain ⟨o,_,_,_,e,ex,_⟩:=I.hok p _ hk
   refine ⟨⟨o,e,ex.1⟩,fun a e2=>?_⟩
   cases e2
   exact ⟨o,e,ex.2.1⟩
 | _=>exact False.elim ty
def tBM (K:PySem.W.Frag) (T:String) (r:V->List V->Hp->VK->Prop) (to:TE) (t:TA):TE:=fun σ H Q=>to σ H fun x H1=>tyV K T x H1/\t σ H1 fun xs H2=>r x xs H2 Q
variable {o e:Expr} {es:List Expr} {to:TE} {t:TA} {name:Str} {apos cpos:Pos} {T id:String} {r:V->List V->Hp->VK->Prop}
theorem aCJ (pa:PlainAttrs T) (slot:Slot T name id) (hty:typeOf (.builtin id)=pure (.type "method_descriptor")) (hm:MtR X id r) (ho:PE X o to) (ha:PA X (e::es) t)
  (hbase:attributeBase o name X.env (eval o X.env)=eval o X.env:=by rfl)
  (hfew:((backTo cpos (starEach (e::es) X.env)).all (fun x=>!x.1)&&(backToKw cpos (keywordEach [] X.env)).all (fun x=>x.1.isSome)
   && decide ((e::es).length+([]:List Keyword).length+(if ([]:List Keyword).isEmpty then 0 else 1)<30))=true:=by rfl)
  (hline:(apos.endLine == cpos.line)=true:=by rfl) (hs:starEach (e::es) X.env=(false,eval e X.env)::starEach es X.env:=by rfl) (hplain:(backTo cpos (starEach es X.env)).any (·.1)=false:=by rfl) :
  PE X (.Call (.Attribute o name apos) (e::es) [] cpos) (tBM X.K T r to t):=by
 intro pins s σ H Q I h
 refine wpAny_Call_method_late hbase hfew hline rfl (eP (ho pins s σ H _ I h) fun v s1 ⟨x,H1,I1,r1,ty,q1⟩=>?_)
 obtain ⟨h1,h2⟩:=Z8 I1 r1 ty
 refine ⟨T,id,pa,slot,hty,h1,h2,?_⟩
 have hA:=ha cpos pins s1 σ H1 _ I1 q1
 rw [hs] at hA ⊢
 refine Calls.callWith_builtin (by show (false||(backTo cpos (starEach es X.env)).any (·.1))=false; rw [hplain]<;>rfl) (Calls.evalArgs_plain ?_)
 exact eP hA fun us s2 hq5=>by obtain ⟨vs,H2,I2,r2,q2⟩:=hq5; exact hm pins s2 σ H2 x vs v us Q I2 r1 r2 q2
end
end L2
namespace L2
open PySem PySem.Spec PyProof.Rows
def MtM (X:Cx) (id:String) (r:V->List V->Hp->VK->Prop):Prop :=
 ∀ (pins:List (Addr×Obj)) (s:Shared) (σ:St) (H:Hp) (x:V) (xs:List V) (v:Value) (us:List Value) (Q:VK),Inv X pins σ H s->RelV x v->Vals xs us->r x xs H Q ->
  wpAny (model X.prog X.w) X.A (call (.builtin id) (v::us)) (EP X pins σ Q) X.xe s
theorem Vals.one:∀ {x:V} {us:List Value},Vals [x] us -> ∃ u,us=[u]/\RelV x u
 | _,_,.cons r .nil=>⟨_,rfl,r⟩
theorem Vals.eraseIdx:∀ {xs:List V} {us:List Value} (i:Nat),Vals xs us->Vals (xs.eraseIdx i) (us.eraseIdx i)
 | _,_,_,.nil=>.nil
 | _,_,0,.cons _ t=>t
 | _,_,i+1,.cons r t=>.cons r (Vals.eraseIdx i t)
theorem Vals.rep {xs:List V} {us:List Value} (h:Vals xs us):∀ k:Nat,Vals (List.replicate k xs).flatten (List.replicate k us).flatten
 | 0=>.nil
 | k+1=>by
  rw [List.replicate_succ,List.replicate_succ,List.flatten_cons,List.flatten_cons]
  exact Vals.append h (Vals.rep h k)
theorem z0 {α:Type}:∀ (l:List α) (i:Nat),(l.eraseIdx i).length<=l.length
 | [],_=>Nat.le_refl _
 | _::_,0=>Nat.le_succ _
 | _::r,i+1=>Nat.succ_le_succ (z0 r i)
theorem foldl_rep (its:List Value):∀ (k:Nat) (acc:List Value),
  List.foldl (fun x1 x2=>x1++x2) acc.toArray (List.replicate k its.toArray)=(acc++(List.replicate k its).flatten).toArray
 | 0,acc=>by simp
 | k+1,acc=>by
  have e:acc.toArray++its.toArray=(acc++its).toArray:=by simp
  have e2:(acc++its)++(List.replicate k its).flatten=acc++(List.replicate (k+1) its).flatten:=by
   rw [List.replicate_succ,List.flatten_cons,List.append_assoc]
  rw [<- e2,<- foldl_rep its k (acc++its),<- e,List.replicate_succ,List.foldl_cons]
section
variable {X:Cx} {pins:List (Addr×Obj)} {σ:St} {H:Hp} {s:Shared} {l b:Addr} {xs ys zs:List V}
theorem Inv.Z9 {its its':List Value} {n:Nat} {f:Array Value->Array Value} {t':Nat} (I:Inv X pins σ H s) (hH:H l=some (.lst xs))
  (e:s.heap.get? l=some { cls:=.type "list",data:=.seq its.toArray n }) (hf:f its.toArray=its'.toArray) (hv:Vals ys its') (hz:ys.length<=sizeLine) :
  Inv X pins σ (upd H l (.lst ys)) { s with heap:=s.heap.update l (Obj.mapSeq f),toks:=t' }:=by
 have q:=PySem.IsL.update e f
 rw [hf] at q
 refine I.write (x:=l) (e:=l) (by rw [hH]; exact trivial) (.inl rfl) (fun b' u hb hu=>(Heap.get?_update_other s.heap (Obj.mapSeq f) (Ne.symm hb)).trans hu) ⟨_,q⟩ ?_
 exact ⟨hz,its',_,hv,q⟩
theorem Inv.aCK {its:List Value} {t':Nat} (I:Inv X pins σ H s) (hv:Vals ys its) (hz:ys.length<=sizeLine) :
  Inv X pins σ (upd H s.heap.objs.size (.lst ys)) { s with heap:=s.heap.push { cls:=.type "list",data:=.seq its.toArray },toks:=t' } :=
 I.laid (fun _ _ q=>Heap.get?_push_of_some _ q) (Nat.le_refl _) ⟨hz,its,0,hv,Heap.get?_push_size _ rfl⟩
theorem Inv.fresh (I:Inv X pins σ H s):H s.heap.objs.size=none:=I.hok.fresh (Nat.le_refl _)
theorem Inv.GQ (I:Inv X pins σ H s) (hH:H l=some (.lst xs)):xs.length<=sizeLine /\ ∃ (its:List Value) (n:Nat),Vals xs its/\xs.length=its.length/\s.heap.get? l=some { cls:=.type "list",data:=.seq its.toArray n }:=by
 obtain ⟨z,its,n,r,e⟩:=I.hok l _ hH
 exact ⟨z,its,n,r,r.length,e⟩
theorem DX {n:Nat} (h:n<=sizeLine):Builtin.List.listTooLong n=false:=by
 unfold Builtin.List.listTooLong
 exact decide_eq_false (by omega)
end
section
variable {X:Cx}
def JH:V->List V->Hp->VK->Prop:=fun x vs H Q=>∃ l xs y,x=.ref l/\vs=[y]/\H l=some (.lst xs)/\xs.length<sizeLine/\Q .non (upd H l (.lst (xs++[y])))
theorem AA:MtM X "list.append" JH:=by
 intro pins s σ H x vs v us Q I rx rv h
 obtain ⟨l,xs,y,rfl,rfl,hH,hz,q⟩:=h
 cases rx
 obtain ⟨u,rfl,ru⟩:=rv.one
 obtain ⟨z,its,n,r,hl,e⟩:=I.GQ hH
 refine call_meets F.slot_list_append ⟨_,e,rfl⟩ F.entry_list_append (F.args_list_append_2 _ _) (PySem.list_append l its.toArray n u (by rw [List.size_toArray]; omega)) ⟨e,?_⟩
 refine ⟨.non,_,I.Z9 (its':=its++[u]) hH e (by simp) (r.append (.cons ru .nil)) ?_,rfl,q⟩
 rw [List.length_append,List.length_singleton]
 omega
def JI:V->List V->Hp->VK->Prop:=fun x vs H Q=>∃ l b xs zs,x=.ref l/\vs=[.ref b]/\H l=some (.lst xs)/\H b=some (.lst zs)/\xs.length+zs.length<=sizeLine/\Q .non (upd H l (.lst (xs++zs)))
theorem LJ:MtM X "list.extend" JI:=by
 intro pins s σ H x vs v us Q I rx rv h
 obtain ⟨l,b,xs,zs,rfl,rfl,hH,hB,hz,q⟩:=h
 cases rx
 obtain ⟨u,rfl,ru⟩:=rv.one
 cases ru
 obtain ⟨z,its,n,r,hl,e⟩:=I.GQ hH
 obtain ⟨z2,its2,n2,r2,hl2,e2⟩:=I.GQ hB
 have hsz:its.toArray.size+its2.toArray.size<=sizeLine:=by rw [List.size_toArray,List.size_toArray]; omega
 have P7:¬ (!its.toArray.isEmpty&&Builtin.List.listTooLong (its.toArray.size+its2.toArray.size))=true:=by
  rw [DX hsz,Bool.and_false]
  exact Bool.false_ne_true
 refine call_meets F.slot_list_extend ⟨_,e,rfl⟩ F.entry_list_extend (F.args_list_extend_2 _ _)
  (AutoSeq1.list_extend_list_list_0 l its.toArray n b its2.toArray n2 P7 (by rw [List.size_toArray]; omega) (by omega)) ⟨e,e2,?_⟩
 refine ⟨.non,_,I.Z9 (its':=its++its2) hH e (by simp) (r.append r2) ?_,rfl,q⟩
 rw [List.length_append]
 omega
def P8:V->List V->Hp->VK->Prop:=fun x vs H Q=>∃ l xs i k y,x=.ref l/\vs=[.int i]/\H l=some (.lst xs) /\ -(2 ^ 63)<=i/\i<2 ^ 63/\seqIndex? i xs.length=some k/\xs[k]? = some y/\Q y (upd H l (.lst (xs.eraseIdx k)))
theorem P9:MtM X "list.pop" P8:=by
 intro pins s σ H x vs v us Q I rx rv h
 obtain ⟨l,xs,i,k,y,rfl,rfl,hH,h1,h2,hk,hy,q⟩:=h
 cases rx
 obtain ⟨u,rfl,ru⟩:=rv.one
 obtain ⟨t,rfl⟩:=ru
 obtain ⟨z,its,n,r,hl,e⟩:=I.GQ hH
 obtain ⟨w,hw,vX⟩:=r.get hy
 refine call_meets F.slot_list_pop ⟨_,e,rfl⟩ F.entry_list_pop (F.args_list_pop_2 _ _)
  (MeetsSeq.list_pop_at l its.toArray n i t k w (fitsIndex_both h1 h2) (by rw [List.size_toArray,<- hl]; exact hk) (by rw [<- Array.getElem?_toList]; exact hw) (by rw [List.size_toArray]; omega)) ⟨e,?_⟩
 refine ⟨y,_,I.Z9 (its':=its.eraseIdx k) hH e ?_ (r.eraseIdx k) ?_,vX,q⟩
 ·show its.toArray.eraseIdxIfInBounds k=(its.eraseIdx k).toArray
  rw [List.eraseIdxIfInBounds_toArray]
 ·have:=z0 xs k
  omega
def aCL:R2:=fun x y H Q=>∃ l b xs zs,x=.ref l/\y=.ref b/\H l=some (.lst xs)/\H b=some (.lst zs)/\xs.length+zs.length<=sizeLine /\ ∀ p,H p=none->Q (.ref p) (upd H p (.lst (xs++zs)))
theorem QA:kB X (binaryOp .Add) aCL:=by
 intro pins s σ H x y v u Q I rx ry h
 obtain ⟨l,b,xs,zs,rfl,rfl,hH,hB,hz,q⟩:=h
 cases rx
 cases ry
 obtain ⟨z,its,n,r,hl,e⟩:=I.GQ hH
 obtain ⟨z2,its2,n2,r2,hl2,e2⟩:=I.GQ hB
 refine PySem.P.add_list e e2 ?_ (by rw [List.size_toArray,List.size_toArray]; omega)
 have ea:its.toArray++its2.toArray=(its++its2).toArray:=by simp
 rw [ea]
 exact ⟨.ref _,_,I.aCK (t':=s.toks) (r.append r2) (by rw [List.length_append]; omega),rfl,q _ I.fresh⟩
def aGJ:R2:=fun x y H Q=>∃ l k xs,x=.ref l/\y=.int k/\H l=some (.lst xs) /\ -(2 ^ 63)<=k/\k<2 ^ 63/\xs.length*k.toNat<=sizeLine /\
 ∀ p,H p=none->Q (.ref p) (upd H p (.lst (List.replicate k.toNat xs).flatten))
theorem len_rep {α:Type} (xs:List α) (k:Nat):(List.replicate k xs).flatten.length=k*xs.length:=by
 induction k with
 | zero=>simp
 | succ k ih=>rw [List.replicate_succ,List.flatten_cons,List.length_append,ih,Nat.succ_mul,Nat.add_comm]
theorem aAA:kB X (binaryOp .Mult) aGJ:=by
 intro pins s σ H x y v u Q I rx ry h
 obtain ⟨l,k,xs,rfl,rfl,hH,h1,h2,hz,q⟩:=h
 cases rx
 obtain ⟨t,rfl⟩:=ry
 obtain ⟨z,its,n,r,hl,e⟩:=I.GQ hH
 have hlen:its.toArray.size*k.toNat<=sizeLine:=by rw [List.size_toArray,<- hl]; exact hz
 have hcap:¬ its.toArray.size*k.toNat>(2 ^ 63 - 1) / 8:=by
  have:(sizeLine:Nat)<=(2 ^ 63 - 1) / 8:=by decide
  omega
 have hfit:¬ (!Builtin.List.listFitsIndex k)=true:=by
  rw [fitsIndex_both h1 h2]
  exact Bool.false_ne_true
 have P7:¬ Builtin.List.listTooLong (its.toArray.size*k.toNat)=true:=by
  rw [DX hlen]
  exact Bool.false_ne_true
 have hnew:List.foldl (fun x1 x2=>x1++x2) #[] (List.replicate (if its.toArray.isEmpty=true then 0 else k.toNat) its.toArray)=(List.replicate k.toNat its).flatten.toArray:=by
  have f0:∀ m:Nat,List.foldl (fun x1 x2=>x1++x2) #[] (List.replicate m its.toArray)=(List.replicate m its).flatten.toArray:=fun m=>by
   have:=foldl_rep its m []
   rw [List.nil_append] at this
   exact this
  rw [f0]
  cases its with
  | nil=>simp
  | cons a r'=>rw [if_neg (by simp)]
 refine wpAny_binaryOp_repeat_ref (T := "list") (U := "int") (by decide) ⟨_,e,rfl⟩ (fun s'=>typeIs_int s' k t) noFill_list_mul F.fills_int_mul F.slot_int_rmul repeat_list F.slot_int_index.lookup
  (call_meets F.slot_int_rmul (typeIs_int s k t) F.entry_int_rmul (F.args_int_rmul_2 _ _) (int___rmul___int_list k t l its.toArray n)
   ⟨e,rfl,⟨_,e,rfl⟩,call_meets F.slot_list_mul ⟨_,e,rfl⟩ F.entry_list_mul (F.args_list_mul_2 _ _) (AutoListH.list___mul___list_int_3 l its.toArray n k t hfit hcap P7) ⟨e,?_⟩⟩)
 rw [hnew]
 exact ⟨.ref _,_,I.aCK (t':=s.toks) (r.rep k.toNat) (by rw [len_rep,Nat.mul_comm]; exact hz),rfl,q _ I.fresh⟩
end
section
variable {prog:Program} {w:World} {A:Around} {E:Value->Shared->Prop} {s:Shared}
set_option maxRecDepth 100000 in
end
section
variable {X:Cx}
end
end L2
namespace Att
open PySem PySem.W PySem.Calls PyProof.Rows
theorem uG {P:Params} {h:Heap}:∀ (ns:List Int) (vs:List Value),WellAll P h vs (ns.map WData.int)->IntsAre vs ns:=by
 intro ns
 induction ns with
 | nil =>
  intro vs w
  rw [List.map_nil] at w
  cases w
  exact .nil
 | cons n ns ih =>
  intro vs w
  rw [List.map_cons] at w
  cases w with
  | cons a b =>
   cases a
   exact .cons _ _ (ih _ b)
theorem LK {l:OpenLaw} {n:Nat} (hn:l.most=some n) {P:Params} {h:Heap} {args:List WData} {vals:List Value}
  (hpre:l.row.toRowW.claim.pre args=true) (hwl:WellAll P h vals args) :
  ∃ a vs ns,vals=[Value.ref a]/\args=[WData.list (ns.map WData.int)]/\h.get? a=some { cls:=.type "list",data:=.seq vs.toArray }/\IntsAre vs ns/\ns.length<=n:=by
 have hsh:WShape.hasAll [] args [.list .int]=true:=(pre_splitW hpre).1
 have hc:l.pre.holds [] { args:=args }=true:=(pre_splitW hpre).2
 obtain ⟨d,r,rfl,h1,h2⟩:=hasAllW_cons hsh
 obtain rfl:=hasAllW_nil h2
 obtain ⟨xs,rfl,h3⟩:=hasW_list h1
 obtain ⟨ns,rfl⟩:=items_int h3
 have hlen:ns.length<=n:=by
  unfold OpenLaw.pre at hc
  have h4:(WTm.not (.lt (.lit (.int (n:Int))) (.len (.arg 0)))).holds [] { args:=[.list (ns.map .int)] }=true:=by
   have h4:=(holds_andW hc).1
   rw [hn] at h4
   exact h4
  have h5:=condW_of h4 (w_not (w_lt w_lit (w_len_list (w_arg rfl))))
  rw [List.length_map] at h5
  refine Nat.le_of_not_lt fun q=>?_
  have q':(n:Int)<((ns.length:Nat):Int):=by omega
  first
   | (rw [decide_eq_true q'] at h5; exact absurd h5 (by decide))
   | (simp at h5; omega)
 cases hwl with
 | cons w1 w2 =>
  cases w2
  cases w1 with
  | list ho hall=>exact ⟨_,_,ns,rfl,rfl,ho,uG ns _ hall,hlen⟩
theorem LM (l:OpenLaw) (args:List WData):l.row.toRowW.claim.post args (.bool true) args=true :=
 postW_of (r:=l.row.toRowW) (X:=(true == true))
  (show WShape.has [] (.bool true) .bool=true by first | rfl | decide | simp [WShape.has,WShape.arms,WShape.armsAll])
  (show (WTm.eq .res (.lit (.bool true))).value [] { args:=args,res:=some (.bool true),after:=args }=some (.bool (true == true)) from w_eq_bool (w_res rfl) w_lit) rfl
theorem DY {l:OpenLaw} {n:Nat} {q:Program} {loose:List Str} {XP:(Str->Option Value)->Heap->Prop} {YP:World->Heap->Prop} {d:DefRec}
  (hn:l.most=some n) (hdf:d.params.defaults=[])
  (call:∀ (w:World) (s₀ s₁:Shared) (mg mb:Str->Option Value) (fa:Addr) (o:Obj) (pm cd doc:Value) (a:Addr) (vs:List Value) (ns:List Int),
   Ground q loose [] XP w s₀ mg mb s₁.heap->YP w s₁.heap ->
   s₁.heap.get? fa=some o->o.data=.func (docDef d.name d.params d.body d.scope pm cd doc)->s₁.heap.CodeRec cd d.name->mg d.name=some (.ref fa) ->
   s₁.heap.get? a=some { cls:=.type "list",data:=.seq vs.toArray }->IntsAre vs ns->ns.length<=n->s₁.gens=#[] ->
   codeAny (model l.prog w) callerA (.call (.ref fa) ⟨[.ref a],[]⟩) (fun r s'=>r=.ok (.ret (.bool true))/\OldK s₁.heap s'.heap/\s'.os=s₁.os/\AllBare s'.gens) s₁) :
  WalkO q loose XP YP l.row.toRowW d [] (fun f vs=>PySem.call f vs):=by
 intro w s₀ s₁ mg mb G Y fa o pm cd doc dV kV ho hd hcd hD hmg hg args vals as hpre hlay hrd hwl hlo
 obtain rfl:dV=.none:=Dflts.none hD hdf
 obtain rfl:kV=.none:=Dflts.noKw hD
 obtain ⟨a,vs,ns,rfl,rfl,hobj,hints,hlen⟩:=LK hn hpre hwl
 refine enter_call (codeAny_mono (call w s₀ s₁ mg mb fa o pm cd doc a vs ns G Y ho (fd_plain hd) hcd hmg hobj hints hlen hg) fun r s' hq=>?_)
 obtain ⟨rfl,h2,h3,h4⟩:=hq
 exact ⟨.inl ⟨.bool true,.bool true,[],rfl,fun _=>rfl,.bool true,LM l _,fun _=>⟨List.Pairwise.nil,fun _ hm=>(nomatch hm)⟩⟩,h2,h3,h4⟩
section
variable {prog:Program} {w:World} {A:Around} {E:Value->Shared->Prop} {s:Shared} {K:Frag}
end
end Att
namespace L2
open PySem PySem.Spec PyProof.Rows
theorem kP:∀ {vs:List Value} {ns:List Int},IntsAre vs ns->Vals (ns.map V.int) vs
 | _,_,.nil=>.nil
 | _,_,.cons n t h=>.cons ⟨t,rfl⟩ (kP h)
def Only (H:Hp):Prop:=∀ b,H b=none \/ ∃ o xs,H b=some (.DR o (.lst xs))
theorem QB {P:Program} {w:World} {K:PySem.W.Frag} {mg mb:Str->Option Value} {CX:LG} {k:Nat} {fa a:Addr} {fd:FuncData} {x:Str} {sp:Sp} {s₁:Shared} {vs:List Value} {ns:List Int}
  (KX:K.In s₁.heap) (hns:s₁.heap.Ns mainGlobals mg) (hb:s₁.heap.Ns builtinsNs mb) (hbb:∀ x:Str,x ≠ "__name__" -> mb x=bootBuiltins x) (hlim:s₁.heap.NoLimit) (hg:s₁.gens=#[])
  (ha:s₁.heap.get? a=some { cls:=.type "list",data:=.seq vs.toArray }) (hi:IntsAre vs ns) (hl:ns.length<=sizeLine) (hr:iO k callerA)
  (F:∀ base:Heap,K.In base->base.Ns mainGlobals mg->aN P w K mg base CX k fa fd [x] sp) (hbind:∀ (s:Shared) (u:Value),BindsTo s fd ⟨[u],[]⟩ [(x,u)])
  (hsp:∀ H:Hp,Only H->eV K H a (ns.map V.int)->sp [.ref a] H (fun v _=>v=.bl true) fun _ _ _=>False)
  (hCX:∀ H e s',CX [] H s₁ (fun _ _ _=>False) e s'->False) :
  codeAny (model P w) callerA (.call (.ref fa) ⟨[.ref a],[]⟩) (fun r s'=>r=.ok (.ret (.bool true))/\OldK s₁.heap s'.heap/\s'.os=s₁.os/\AllBare s'.gens) s₁:=by
 have rv:=kP hi
 have lenV:=hi.length
 -- from an abstract heap in which nothing but the script may be tracked
 have core:∀ H:Hp,Only H->eV K H a (ns.map V.int)->oD P w H s₁.heap->(∀ b,H b≠none->b=a)->(H a≠none->K.lookup a=none) ->
   codeAny (model P w) callerA (.call (.ref fa) ⟨[.ref a],[]⟩) (fun r s'=>r=.ok (.ret (.bool true))/\OldK s₁.heap s'.heap/\s'.os=s₁.os/\AllBare s'.gens) s₁:=by
  intro H hO hS hok hA hK
  have JJ:∀ {b:Addr} {o:Obj},s₁.heap.get? b=some o->H b=none->(BW s₁.heap H).get? b=some o:=fun e n=>PH e n
  have noA:∀ {b:Addr} {o:Obj} {es:Array DictEntry} {ep:Nat},s₁.heap.get? b=some o->o.data=.dict es ep->H b=none:=fun {b o es ep} e d=>by
   cases q:H b with
   | none=>rfl
   | some u =>
    have e':b=a:=hA b (by rw [q]; simp)
    subst e'
    rw [ha] at e; cases e
    have d':Data.seq vs.toArray _=Data.dict es ep:=d
    cases d'
  have nsK:∀ {b:Addr} {m:Str->Option Value},s₁.heap.Ns b m->(BW s₁.heap H).Ns b m:=fun {b m} ⟨o,es,ep,e,d,r⟩=>⟨o,es,ep,JJ e (noA e d),d,r⟩
  have hKb:K.In (BW s₁.heap H):=fun b o e=>JJ (KX b o e) (by
   cases q:H b with
   | none=>rfl
   | some u =>
    have e':b=a:=hA b (by rw [q]; simp)
    subst e'
    rw [hK (by rw [q]; simp)] at e; cases e)
  have hM:Mod K mg (BW s₁.heap H):=⟨hKb,nsK hns,⟨mb,nsK hb,hbb⟩,let ⟨mc,h1,h2⟩:=hlim; ⟨mc,nsK h1,h2⟩⟩
  have e0:U2 P w K mg (BW s₁.heap H) callerA [] s₁ H:=⟨rfl,hM,fun b o e=>UN e,Nat.le_of_eq (K7 _ _),trivial,fun b hb=>absurd (show b∈([]:List Addr) from hb) (by simp),hok,.of_eq hg⟩
  refine codeAny_mono ((F _ hKb (nsK hns)).run callerA [] s₁ H ⟨[.ref a],[]⟩ [.ref a] [.ref a] _ _ hr e0 (hbind s₁ (.ref a)) (.cons rfl .nil) (hsp H hO hS)) fun r s' h=>?_
  cases r with
  | error e=>exact (hCX H e s' h).elim
  | ok fl =>
   cases fl with
   | next=>exact False.elim h
   | brk=>exact False.elim h
   | cont=>exact False.elim h
   | ret u =>
    obtain ⟨v,H',os,bare,un,hok',r',q⟩:=h
    have q':v=.bl true:=q
    subst q'
    obtain rfl:u=Value.bool true:=r'
    refine ⟨rfl,OldK.of_keep fun b o e=>?_,os,bare⟩
    cases q:H b with
    | none=>exact un.keep b o e q (by intro z; exact absurd (show b∈([]:List Addr) from z) (by simp)) (by simp)
    | some u =>
     rcases hO b with z | ⟨ob,xs,z⟩
     ·rw [q] at z; cases z
     ·have z2:=un.qK b ob _ z
      obtain ⟨e1,_⟩:=hok b _ z
      obtain ⟨e2,_⟩:=hok' b _ z2
      rw [e] at e1; cases e1
      exact e2
 cases hk:K.lookup a with
 | some o =>
  -- the script is one of the module's own objects
  have e:=KX a o hk
  rw [ha] at e
  cases e
  refine core (fun _=>none) (fun _=>.inl rfl) (.inr ⟨_,vs.toArray,_,hk,rfl,rfl,rfl,by rw [List.size_toArray,lenV]; exact hl,by simpa using rv⟩) (fun b u z=>by have z':(none:Option HO)=some u:=z; cases z') (fun b z=>absurd rfl z) fun z=>absurd rfl z
 | none =>
  refine core (fun b=>if b=a then some (.DR { cls:=.type "list",data:=.seq vs.toArray } (.lst (ns.map V.int))) else none) (fun b=>?_) (.inl (.inr ⟨{ cls:=.type "list",data:=.seq vs.toArray },if_pos rfl⟩)) (fun b u z=>?_) (fun b z=>?_) fun _=>hk
  ·by_cases hb:b=a
   ·exact .inr ⟨_,_,if_pos hb⟩
   ·exact .inl (if_neg hb)
  ·by_cases hb:b=a
   ·have z':=(if_pos hb).symm.trans z
    cases z'
    subst hb
    exact ⟨ha,by rw [List.length_map]; exact hl,vs,_,rv,ha⟩
   ·have z':=(if_neg hb).symm.trans z
    cases z'
  ·by_cases hb:b=a
   ·exact hb
   ·exact absurd (if_neg hb) z
end L2
namespace L2
open PySem PySem.Spec PyProof.Rows
abbrev KOf {K:PySem.W.Frag} {h:Heap} (_:K.In h):PySem.W.Frag:=K
theorem VA {l:PySem.W.OpenLaw} {n k:Nat} {q:Program} {loose:List Str} {XP:(Str->Option Value)->Heap->Prop} {YP:World->Heap->Prop} {d:DefRec} {K:Params->PySem.W.Frag} {CX:World->LG} {sp:World->Sp} {x:Str}
  (hn:l.most=some n) (hn2:n<=sizeLine) (hdf:d.params.defaults=[]) (hr:iO k callerA)
  (hY:∀ (w:World) (h:Heap),YP w h->(K w.params).In h)
  (F:∀ (w:World) (mg:Str->Option Value) (fa:Addr) (h:Heap),(K w.params).In h->h.Ns mainGlobals mg->mg d.name=some (.ref fa) ->
   ∃ fd:FuncData,(∀ (s:Shared) (u:Value),BindsTo s fd ⟨[u],[]⟩ [(x,u)]) /\
    ∀ base:Heap,(K w.params).In base->base.Ns mainGlobals mg->aN l.prog w (K w.params) mg base (CX w) k fa fd [x] (sp w))
  (hsp:∀ (w:World) (H:Hp) (a:Addr) (ns:List Int),ns.length<=n->Only H->eV (K w.params) H a (ns.map V.int)->sp w [.ref a] H (fun v _=>v=.bl true) fun _ _ _=>False)
  (hCX:∀ (w:World) (H:Hp) (s:Shared) (e:Value) (s':Shared),CX w [] H s (fun _ _ _=>False) e s'->False) :
  PySem.W.WalkO q loose XP YP l.row.toRowW d [] (fun f vs=>PySem.call f vs):=by
 refine Att.DY hn hdf fun w s₀ s₁ mg mb fa o pm cd doc a vs ns G Y ho hd hcd hmg hobj hints hlen hg=>?_
 have KX:=hY w _ Y
 obtain ⟨fd,hb,hF⟩:=F w mg fa _ KX G.T.g hmg
 exact QB KX G.T.g G.T.b G.T.builtins G.T.nolimit hg hobj hints (Nat.le_trans hlen hn2) hr hF hb (fun H hO hS=>hsp w H a ns hlen hO hS) fun H e s'=>hCX w H s₁ e s'
end L2
namespace L2
open PySem PySem.Spec PyProof.Rows
def bF (s:Stmt):Arguments:=match s with
 | .FunctionDef _ a _ _ _ _ _ _ _ _=>a
 | _=>{ posonlyargs:=[],args:=[],vararg:=none,kwonlyargs:=[],kw_defaults:=[],kwarg:=none,defaults:=[] }
def aX (s:Stmt):List Stmt:=match s with
 | .FunctionDef _ _ b _ _ _ _ _ _ _=>b
 | _=>[]
def aH (s:Stmt):Scope:=match s with
 | .FunctionDef _ _ _ _ _ _ sc _ _ _=>sc
 | _=>{ kind:=.function,names:=[],isGenerator:=false,isCoroutine:=false }
abbrev dS:LG:=fun _ _ _ _ _ _=>False
abbrev E0:XK:=fun _ _ _=>False
theorem QC {X:Cx}:Passes dS X E0:=fun _ _ _ _ _ _ _ h=>h.elim
structure lY (K:PySem.W.Frag) (x qual:Str) (st:Stmt) (f:Addr) (fd:FuncData):Prop where
 ex:∃ (oc:Value) (od:Option Addr) (kV doc pm:Value) (an:Option Addr) (cdv ct:Value) (osl:Array (Option Value)),
  fd=PySem.W.fnOf x qual (bF st) (aX st) (aH st) .none kV doc pm an cdv ct/\K.lookup f=some ⟨oc,od,.func fd,osl⟩/\PySem.W.codeIn K cdv qual=true
 kp:PySem.W.keepIn K (.ref f)=true
section
variable {P:Program} {w:World} {K:PySem.W.Frag} {mg:Str->Option Value} {base:Heap}
theorem lY.ok {x qual:Str} {st:Stmt} {f:Addr} {fd:FuncData} {N ps:List Str} {k:Nat} {sp:Sp} (F:lY K x qual st f fd) (S:bD N ps (aH st)) (len:∀ vs H Q E,sp vs H Q E->vs.length=ps.length)
  (hbody:∀ (cdv:Value) (A:Around) (outer:List Env) (s:Shared) (H:Hp) (vs:List V) (Q:VK) (E:XK),iO k (A.deeper (envOfC qual (aH st) s.heap.objs.size f cdv))->sp vs H Q E ->
   ∃ t,BZ (qQ dS P w K mg base N qual (aH st) f cdv A outer s H E).UT (aX st) t/\t { nx:=fun _ H'=>Q .non H',rt:=Q } (start N vs) H):aN P w K mg base dS (k+1) f fd ps sp:=by
 obtain ⟨oc,od,kV,doc,pm,an,cdv,ct,osl,rfl,lk,hcd⟩:=F.ex
 refine XQ lk hcd S len fun A outer s H vs Q E hr hsp=>?_
 obtain ⟨t,h,q⟩:=hbody cdv A outer s H vs Q E hr hsp
 exact ⟨t,h.UT,q⟩
theorem lY.binds {x qual:Str} {st:Stmt} {f:Addr} {fd:FuncData} {ps:List Str} (F:lY K x qual st f fd)
  (h:∀ (kV doc pm:Value) (an:Option Addr) (cdv ct:Value) (us:List Value),us.length=ps.length->bindArgs (PySem.W.fnOf x qual (bF st) (aX st) (aH st) .none kV doc pm an cdv ct) ⟨us,[]⟩=pure (ps.zip us)):Binds K fd ps []:=by
 obtain ⟨oc,od,kV,doc,pm,an,cdv,ct,osl,rfl,lk,hcd⟩:=F.ex
 exact .all (h kV doc pm an cdv ct)
theorem dB {x qual:Str} {st:Stmt} {f:Addr} {oc:Value} {od an:Option Addr} {osl:Array (Option Value)} {kV doc pm cdv ct:Value} (l:K.lookup f=some ⟨oc,od,.func (PySem.W.fnOf x qual (bF st) (aX st) (aH st) .none kV doc pm an cdv ct),osl⟩)
  (c:PySem.W.codeIn K cdv qual=true) (k:PySem.W.keepIn K (.ref f)=true):lY K x qual st f (PySem.W.fnOf x qual (bF st) (aX st) (aH st) .none kV doc pm an cdv ct):=⟨⟨oc,od,kV,doc,pm,an,cdv,ct,osl,rfl,l,c⟩,k⟩
end
section
variable {X:Cx}
end
def Same (H H':Hp):Prop:=∀ b o,H b=some o->H' b=some o
theorem Same.refl (H:Hp):Same H H:=fun _ _ h=>h
theorem Same.trans {H H1 H2:Hp} (a:Same H H1) (b:Same H1 H2):Same H H2:=fun c o h=>b c o (a c o h)
theorem Same.free {H H':Hp} (e:Same H H') {l:Addr} (h:H' l=Option.none):H l=Option.none:=by
 cases q:H l with
 | none=>rfl
 | some o =>
  rw [e l o q] at h
  cases h
end L2
namespace L2
open PySem PySem.Spec PyProof.Rows
section
variable {κ:Type} [DecidableEq κ]
def gD (kvs:List (κ×V)) (k:κ):Option V:=(kvs.find? fun kv=>decide (kv.1=k)).map (·.2)
def putK (kvs:List (κ×V)) (k:κ) (v:V):List (κ×V) :=
 if (kvs.any fun kv=>decide (kv.1=k))=true then kvs.map (fun kv=>if kv.1=k then (kv.1,v) else kv) else kvs++[(k,v)]
theorem fC {p:κ×V} {r:List (κ×V)} {k:κ} (e:p.1=k):gD (p::r) k=some p.2:=by simp [gD,List.find?_cons,e]
theorem fD {p:κ×V} {r:List (κ×V)} {k:κ} (e:¬ p.1=k):gD (p::r) k=gD r k:=by simp [gD,List.find?_cons,e]
theorem mU (k:κ):∀ kvs:List (κ×V),(kvs.any fun kv=>decide (kv.1=k))=(gD kvs k).isSome
 | []=>rfl
 | p::r=>by
  rw [List.any_cons]
  by_cases e:p.1=k
  ·simp only [fC e,decide_eq_true e,Bool.true_or,Option.isSome_some]
  ·rw [fD e,decide_eq_false e,Bool.false_or]; exact mU k r
theorem DZ (k j:κ) (y:V):∀ kvs:List (κ×V),gD (kvs.map fun kv=>if kv.1=k then (kv.1,y) else kv) j=(gD kvs j).map fun x=>if j=k then y else x
 | []=>rfl
 | p::r=>by
  have ih:=DZ k j y r
  rw [List.map_cons]
  by_cases h:p.1=k
  ·rw [if_pos h]
   by_cases e:p.1=j
   ·rw [fC (p:=(p.1,y)) e,fC e,Option.map_some,if_pos (e.symm.trans h)]
   ·rw [fD (p:=(p.1,y)) e,fD e,ih]
  ·rw [if_neg h]
   by_cases e:p.1=j
   ·rw [fC (p:=p) e,fC e,Option.map_some,if_neg (fun z=>h (e.trans z))]
   ·rw [fD (p:=p) e,fD e,ih]
theorem AB (k j:κ) (y:V):∀ kvs:List (κ×V),gD kvs k=none->gD (kvs++[(k,y)]) j=if j=k then some y else gD kvs j
 | [],_=>by
  by_cases e:k=j
  ·rw [if_pos e.symm]; exact fC (p:=(k,y)) e
  ·rw [if_neg (fun z=>e z.symm)]; exact fD (p:=(k,y)) e
 | p::r,hn=>by
  rw [List.cons_append]
  have hk:¬ p.1=k:=fun z=>by rw [fC z] at hn; cases hn
  rw [fD hk] at hn
  have ih:=AB k j y r hn
  by_cases e:p.1=j
  ·rw [fC e,fC e,if_neg (fun z=>hk (e.trans z))]
  ·rw [fD e,fD e,ih]
theorem QD (kvs:List (κ×V)) (k j:κ) (y:V):gD (putK kvs k y) j=if j=k then some y else gD kvs j:=by
 unfold putK
 by_cases a:(kvs.any fun kv=>decide (kv.1=k))=true
 ·rw [if_pos a,DZ]
  rw [mU] at a
  by_cases e:j=k
  ·obtain ⟨x,hx⟩:=Option.isSome_iff_exists.mp a
   rw [if_pos e,e,hx,Option.map_some,if_pos rfl]
  ·rw [if_neg e]
   cases gD kvs j with
   | none=>rfl
   | some x=>rw [Option.map_some,if_neg e]
 ·rw [if_neg a]
  refine AB k j y kvs ?_
  rw [mU] at a
  cases q:gD kvs k with
  | none=>rfl
  | some x=>rw [q] at a; exact (a rfl).elim
theorem tU (kvs:List (κ×V)) (k:κ) (v:V):(putK kvs k v).length<=kvs.length+1:=by
 unfold putK
 split
 ·rw [List.length_map]; omega
 ·rw [List.length_append,List.length_cons,List.length_nil]; omega
theorem QE {kvs:List (κ×V)} {k:κ} (v:V) (h:gD kvs k=none):putK kvs k v=kvs++[(k,v)]:=by
 unfold putK
 rw [mU,h]
 exact if_neg (by decide)
theorem mP.n5 {o:Option V} {u:Option Value} (r:mP o u):o.isSome=u.isSome:=by
 cases o with
 | none=>cases u with
  | none=>rfl
  | some _=>exact (show False from r).elim
 | some _=>cases u with
  | none=>exact (show False from r).elim
  | some _=>rfl
theorem mP.getD {o:Option V} {u:Option Value} {d:V} {d':Value} (r:mP o u) (rd:RelV d d'):RelV (o.getD d) (u.getD d'):=by
 cases o with
 | none=>cases u with
  | none=>exact rd
  | some _=>exact (show False from r).elim
 | some _=>cases u with
  | none=>exact (show False from r).elim
  | some _=>exact r
theorem KV.val {kvs:List (κ×V)} {vs:List (κ×Value)} (r:KV kvs vs) (k:κ):mP (gD kvs k) (valueAt vs k):=by
 unfold KV at r
 induction r with
 | nil=>exact True.intro
 | @cons p q ps qs h t ih =>
  obtain ⟨h1,h2⟩:=h
  by_cases e:p.1=k
  ·have e':q.1=k:=h1.symm.trans e
   have b:valueAt (q::qs) k=some q.2:=by simp [valueAt,List.find?_cons,e']
   rw [fC e,b]; exact h2
  ·have e':¬ q.1=k:=fun z=>e (h1.trans z)
   have b:valueAt (q::qs) k=valueAt qs k:=by simp [valueAt,List.find?_cons,e']
   rw [fD e,b]; exact ih
theorem KV.any {kvs:List (κ×V)} {vs:List (κ×Value)} (r:KV kvs vs) (k:κ):(kvs.any fun kv=>decide (kv.1=k))=vs.any fun kv=>decide (kv.1=k):=by
 unfold KV at r
 induction r with
 | nil=>rfl
 | cons h t ih=>rw [List.any_cons,List.any_cons,ih,h.1]
theorem KV.repl {kvs:List (κ×V)} {vs:List (κ×Value)} (r:KV kvs vs) (k:κ) {y:V} {u:Value} (ry:RelV y u) :
  KV (kvs.map fun kv=>if kv.1=k then (kv.1,y) else kv) (vs.map fun kv=>if kv.1=k then (kv.1,u) else kv):=by
 unfold KV at r ⊢
 induction r with
 | nil=>exact .nil
 | @cons p q ps qs h t ih =>
  rw [List.map_cons,List.map_cons]
  refine .cons ?_ ih
  obtain ⟨h1,h2⟩:=h
  by_cases e:p.1=k
  ·rw [if_pos e,if_pos (h1.symm.trans e)]; exact ⟨h1,ry⟩
  ·rw [if_neg e,if_neg (fun z=>e (h1.trans z))]; exact ⟨h1,h2⟩
theorem KV.put {kvs:List (κ×V)} {vs:List (κ×Value)} (r:KV kvs vs) (k:κ) {y:V} {u:Value} (ry:RelV y u):KV (putK kvs k y) (stored vs k u):=by
 unfold putK stored
 rw [r.any k]
 by_cases e:(vs.any fun kv=>decide (kv.1=k))=true
 ·rw [if_pos e,if_pos e]; exact r.repl k ry
 ·rw [if_neg e,if_neg e]; exact Paired.snoc r ⟨rfl,ry⟩
theorem KV.length {kvs:List (κ×V)} {vs:List (κ×Value)} (r:KV kvs vs):kvs.length=vs.length:=Paired.length r
end
theorem tW {P:Program} {w:World} {k:Key} {u:Value} (r:RelV (kV k) u):(bB P w).is k u=true:=by
 cases k with
 | inl i=>obtain ⟨t,e⟩:=(show ∃ t,u=Value.int i t from r); subst e; exact DP P w i t
 | inr x=>obtain ⟨t,e⟩:=(show ∃ t,u=Value.str x t from r); subst e; exact DQ P w x t
theorem AD {P:Program} {w:World}:∀ {ks:List Key} {us:List Value},Vals (ks.map kV) us->ItemsAre (bB P w) ks us
 | [],_,r=>by rw [List.map_nil] at r; cases r; exact .nil
 | k::ks,_,r=>by
  rw [List.map_cons] at r
  cases r with
  | cons h t=>exact .cons (tW h) (AD t)
abbrev KT (H:Hp):List (List Key×V)->List (List Key×Addr×Value)->Prop:=Paired fun p q=>p.1=q.1/\H q.2.1=some (.tup (p.1.map kV))/\RelV p.2 q.2.2
theorem KT.val {H:Hp} {kvs:List (List Key×V)} {xs:List (List Key×Addr×Value)} (r:KT H kvs xs) (k:List Key):mP (gD kvs k) ((atKey xs k).map (·.2)):=by
 induction r with
 | nil=>exact True.intro
 | @cons p q ps qs h t ih =>
  obtain ⟨h1,_,h2⟩:=h
  by_cases e:p.1=k
  ·have e':q.1=k:=h1.symm.trans e
   have b:atKey (q::qs) k=some q.2:=by simp [atKey,List.find?_cons,e']
   rw [fC e,b]; exact h2
  ·have e':¬ q.1=k:=fun z=>e (h1.trans z)
   have b:atKey (q::qs) k=atKey qs k:=by simp [atKey,List.find?_cons,e']
   rw [fD e,b]; exact ih
theorem KT.repl {H:Hp} {kvs:List (List Key×V)} {xs:List (List Key×Addr×Value)} (r:KT H kvs xs) (k:List Key) {y:V} {u:Value} (ry:RelV y u) :
  KT H (kvs.map fun kv=>if kv.1=k then (kv.1,y) else kv) (xs.map (putAt k u)):=by
 induction r with
 | nil=>exact .nil
 | @cons p q ps qs h t ih =>
  rw [List.map_cons,List.map_cons]
  refine .cons ?_ ih
  obtain ⟨h1,h2,h3⟩:=h
  unfold putAt
  by_cases e:p.1=k
  ·rw [if_pos e,if_pos (h1.symm.trans e)]; exact ⟨h1,h2,ry⟩
  ·rw [if_neg e,if_neg (fun z=>e (h1.trans z))]; exact ⟨h1,h2,h3⟩
theorem KT.put {H:Hp} {kvs:List (List Key×V)} {xs:List (List Key×Addr×Value)} (r:KT H kvs xs) (k:List Key) {b:Addr} {y:V} {u:Value} (hb:H b=some (.tup (k.map kV))) (ry:RelV y u) :
  KT H (putK kvs k y) (storedH xs k b u):=by
 have e:(kvs.any fun kv=>decide (kv.1=k))=(atKey xs k).isSome:=by
  rw [mU,(r.val k).n5,Option.isSome_map]
 unfold putK storedH
 rw [e]
 by_cases q:(atKey xs k).isSome=true
 ·rw [if_pos q,if_pos q]; exact r.repl k ry
 ·rw [if_neg q,if_neg q]; exact Paired.snoc r ⟨rfl,hb,ry⟩
theorem KT.keeps {H H':Hp} {kvs:List (List Key×V)} {xs:List (List Key×Addr×Value)} (r:KT H kvs xs) (ht:∀ b ys,H b=some (.tup ys)->H' b=some (.tup ys)):KT H' kvs xs :=
 Paired.Y6 r fun _ _ z=>⟨z.1,ht _ _ z.2.1,z.2.2⟩
section
variable {P:Program} {w:World} {H:Hp} {h:Heap} {a:Addr}
theorem XT {u:HO} (ok:oD P w H h) (e:Rd H a u):eD P w H h a u:=e.ok ok
theorem QF {kvs:List (Key×V)} (ok:oD P w H h) (e:Rd H a (.dK kvs)):kvs.length<=sizeLine/\(a == sysModules)=false /\ ∃ vs,KV kvs vs/\h.DictOf (bB P w) a vs :=
 show eD P w H h a (.dK kvs) from XT ok e
theorem aCM {kvs:List (Key×V)} (ok:oD P w H h) (e:H a=some (.dK kvs)):kvs.length<=sizeLine/\(a == sysModules)=false /\ ∃ vs,KV kvs vs/\h.DictOf (bB P w) a vs:=QF ok (.inl e)
theorem B9 {ks:List Key} (ok:oD P w H h) (e:H a=some (.tup (ks.map kV))):(tupleKind (bB P w)).is h ks a:=by
 obtain ⟨_,its,r,o,h1,h2,n,h3⟩:=(show eD P w H h a (.tup (ks.map kV)) from ok a _ e)
 exact ⟨o,its.toArray,n,h1,h2,h3,by simpa using AD r⟩
theorem QG {kvs:List (List Key×V)} (ok:oD P w H h) (e:Rd H a (.dT kvs)):kvs.length<=sizeLine/\(a == sysModules)=false /\
  ∃ xs,KT H kvs xs/\h.DictOfH (tupleKind (bB P w)) a xs:=by
 obtain ⟨z,y,xs,r,o,es,ep,h1,h2,h3,h4,h5⟩:=(show eD P w H h a (.dT kvs) from XT ok e)
 refine ⟨z,y,xs,r,o,es,ep,h1,h2,h3,h4,fun x hx=>?_,h5⟩
 have all:∀ {l:List (List Key×V)} {m:List (List Key×Addr×Value)},KT H l m -> ∀ x∈m,(tupleKind (bB P w)).is h x.1 x.2.1:=by
  intro l m q
  induction q with
  | nil=>intro x hx; exact nomatch hx
  | @cons p q ps qs hq t ih =>
   intro x hx
   rcases List.mem_cons.mp hx with e | hx
   ·subst e
    exact B9 ok (by rw [<- hq.1]; exact hq.2.1)
   ·exact ih x hx
 exact all r x hx
theorem aCN {kvs:List (List Key×V)} (ok:oD P w H h) (e:H a=some (.dT kvs)):kvs.length<=sizeLine/\(a == sysModules)=false /\
  ∃ xs,KT H kvs xs/\h.DictOfH (tupleKind (bB P w)) a xs:=QG ok (.inl e)
end
def D0 (H:Hp) (a:Addr) (y:V) (r:Option V):Prop :=
 (∃ kvs k,Rd H a (.dK kvs)/\y=kV k/\r=gD kvs k) \/ ∃ kvs k b,Rd H a (.dT kvs)/\y=.ref b/\H b=some (.tup (k.map kV))/\r=gD kvs k
def GR (H:Hp) (a:Addr) (y v:V) (H':Hp):Prop :=
 (∃ kvs k,H a=some (.dK kvs)/\y=kV k/\kvs.length<sizeLine/\H' = upd H a (.dK (putK kvs k v))) \/
 ∃ kvs k b,H a=some (.dT kvs)/\y=.ref b/\H b=some (.tup (k.map kV))/\kvs.length<sizeLine/\H' = upd H a (.dT (putK kvs k v))
theorem D0.k {H:Hp} {a:Addr} {kvs:List (Key×V)} {k:Key} (e:H a=some (.dK kvs)):D0 H a (kV k) (gD kvs k):=.inl ⟨kvs,k,.inl e,rfl,rfl⟩
theorem D0.t {H:Hp} {a b:Addr} {kvs:List (List Key×V)} {k:List Key} (e:H a=some (.dT kvs)) (eb:H b=some (.tup (k.map kV))):D0 H a (.ref b) (gD kvs k):=.inr ⟨kvs,k,b,.inl e,rfl,eb,rfl⟩
theorem GR.k {H:Hp} {a:Addr} {kvs:List (Key×V)} {k:Key} {v:V} (e:H a=some (.dK kvs)) (hl:kvs.length<sizeLine):GR H a (kV k) v (upd H a (.dK (putK kvs k v))):=.inl ⟨kvs,k,e,rfl,hl,rfl⟩
theorem GR.t {H:Hp} {a b:Addr} {kvs:List (List Key×V)} {k:List Key} {v:V} (e:H a=some (.dT kvs)) (eb:H b=some (.tup (k.map kV))) (hl:kvs.length<sizeLine) :
  GR H a (.ref b) v (upd H a (.dT (putK kvs k v))):=.inr ⟨kvs,k,b,e,rfl,eb,hl,rfl⟩
section
variable {X:Cx} {pins:List (Addr×Obj)} {σ:St} {H:Hp} {s:Shared} {a:Addr} {y v:V} {u r:Value} {o:Option V} {A:Around} {E:Value->Shared->Prop}
theorem Inv.big (I:Inv X pins σ H s):sysModules<s.heap.objs.size:=by
 have h:mainGlobals<s.heap.objs.size:=(I.mod.glob.keeps I.bk).lt
 exact Nat.lt_trans (by decide) h
theorem LN {Q:Value->Shared->Prop} (hu:A.units+1<cLine) (I:Inv X pins σ H s) (g:D0 H a y (some v)) (ry:RelV y u) (h:∀ w' s',Inv X pins σ H s'->RelV v w'->Q w' s') :
  wpAny (model X.prog X.w) A (getItem (.ref a) u) Q E s:=by
 rcases g with ⟨kvs,k,e,ey,l⟩ | ⟨kvs,k,b,e,ey,eb,l⟩
 ·subst ey
  obtain ⟨z,hd,vs,rel,dd⟩:=QF I.hok e
  obtain ⟨w',hw,vX⟩:=mP.some_of (v:=v) (o:=valueAt vs k) (by rw [l]; exact rel.val k)
  exact wpAny_getItem_of (tW ry) dd.mapOf hw (h w' _ (I.tok _) vX)
 ·subst ey
  cases (show u=Value.ref b from ry)
  obtain ⟨z,hd,xs,rel,dd⟩:=QG I.hok e
  obtain ⟨w',hw,vX⟩:=mP.some_of (v:=v) (o:=(atKey xs k).map (·.2)) (by rw [l]; exact rel.val k)
  obtain ⟨p,hp,hp2⟩:=Option.map_eq_some_iff.mp hw
  refine wpAny_getItem_heap (tupleKind_room_in1 hu) (B9 I.hok eb) dd hp ?_
  rw [hp2]
  exact h w' _ (I.tok _) vX
theorem uS {h':Heap} {t':Nat} {ob:HO} (I:Inv X pins σ H s) (mu:Mut (H a)) (hs:Heap.SameBut a s.heap h') (he:∃ q,h'.get? a=some q) (new:eD X.prog X.w (upd H a ob) h' a ob) :
  Inv X pins σ (upd H a ob) { s with heap:=h',toks:=t' } :=
 I.write (x:=a) (e:=a) mu (.inl rfl) (fun b q hb z=>(hs.2 b hb).trans z) he new
theorem aAB {P:Program} {w:World} {H':Hp} {h':Heap} {kvs:List (Key×V)} {vs:List (Key×Value)} (z:kvs.length<=sizeLine) (hd:(a == sysModules)=false) (rel:KV kvs vs) (dd:h'.DictOf (bB P w) a vs) :
  eD P w H' h' a (.dK kvs):=⟨z,hd,vs,rel,dd⟩
theorem LO {H':Hp} {Q:Unit->Shared->Prop} (hu:A.units+1<cLine) (I:Inv X pins σ H s) (g:GR H a y v H') (ry:RelV y u) (rv:RelV v r) (h:∀ s',Inv X pins σ H' s'->Q () s') :
  wpAny (model X.prog X.w) A (setItem (.ref a) u r) Q E s:=by
 rcases g with ⟨kvs,k,e,ey,l,eH⟩ | ⟨kvs,k,b,e,ey,eb,l,eH⟩
 ·subst ey eH
  obtain ⟨z,hd,vs,rel,dd⟩:=aCM I.hok e
  have hz:vs.length<=sizeLine:=by rw [<- rel.length]; exact z
  have hl:(putK kvs k v).length<=sizeLine:=by have:=tU kvs k v; omega
  refine wpAny_setItem_pairs (hsz:=hz) (tW ry) dd fun h' XU hs=>h _ ?_
  have he:∃ q,h'.get? a=some q:=let ⟨q,_,_,hq,_⟩:=XU; ⟨q,hq⟩
  exact uS I (by rw [e]; exact True.intro) hs he (aAB hl hd (rel.put k rv) XU)
 ·subst ey eH
  cases (show u=Value.ref b from ry)
  obtain ⟨z,hd,xs,rel,dd⟩:=aCN I.hok e
  have hz:xs.length<=sizeLine:=by rw [<- Paired.length rel]; exact z
  have hl:(putK kvs k v).length<=sizeLine:=by have:=tU kvs k v; omega
  refine wpAny_setItem_heap (hsz:=hz) (tupleKind_room_in1 hu) (B9 I.hok eb) dd fun h' XU hs=>h _ ?_
  obtain ⟨q,es,ep,hq,h2,h3,h4,_,h5⟩:=XU
  refine uS I (by rw [e]; exact True.intro) hs ⟨q,hq⟩ ⟨hl,hd,_,(rel.put k eb rv).keeps fun c ys ec=>?_,q,es,ep,hq,h2,h3,h4,h5⟩
  rw [bR (XG ec e (fun z=>nomatch z))]
  exact ec
end
section
variable {X:Cx} {pins:List (Addr×Obj)} {σ:St} {H:Hp} {s:Shared} {a:Addr} {kvs:List (Key×V)} {k:Key} {u:Value} {A:Around} {E:Value->Shared->Prop}
end
def GS (i:Expr):Prop:=∀ ov iv,subscripted i false ov iv=operate [ov,iv] (getItem ov iv)
theorem JK {prog:Program} {w:World} {A:Around} {E:Value->Shared->Prop} {s:Shared} {env:Env} {value slice:Expr} {pos:Pos} {T id:String} {Q:Value->Shared->Prop}
  (hl:typeLookup (.type T) "__getitem__" = pure (some (.builtin id))) (hs:GS slice)
  (h:wpAny (model prog w) A (eval value env) (fun o s₁=>wpAny (model prog w) A (eval slice env) (fun i s₂=>s₂.TypeIs o T/\wpAny (model prog w) A (getItem o i) Q E s₂) E s₁) E s) :
  wpAny (model prog w) A (eval (.Subscript value slice pos) env) Q E s:=by
 refine Subscript_ (wpAny_mono h (fun o s₁ h₁=>wpAny_mono h₁ (fun i s₂ h₂=>?_) fun _ _ x=>x) fun _ _ x=>x)
 obtain ⟨hT,h₂⟩:=h₂
 unfold subscriptTail
 refine wpAny_bind ?_
 rw [getitemInPython_of_ne hT.not_modules]
 refine wpAny_bind (wpAny_specialOf hT hl ?_)
 have fin:wpAny (model prog w) A (subscripted slice false o i) (fun r s₃=>wpAny (model prog w) A (letTemporaryGo value o r >>= fun _=>pure r) Q E s₃) E s₂:=by
  rw [hs o i]
  exact wpAny_operating (wpAny_mono h₂ (fun r s₃ h₃=>wpAny_bind (wpAny_letTemporaryGo (wpAny_pure h₃))) fun _ _ x=>x)
 first
  | exact wpAny_pure (wpAny_bind fin)
  | exact wpAny_bind (wpAny_pure (wpAny_bind fin))
  | exact wpAny_bind fin
theorem D1 {X:Cx} {pins:List (Addr×Obj)} {σ:St} {H:Hp} {s:Shared} {a:Addr} {y:V} {o:Option V} (I:Inv X pins σ H s) (g:D0 H a y o):s.TypeIs (.ref a) "dict" := by
 rcases g with ⟨kvs,k,e,_,_⟩ | ⟨kvs,k,b,e,_,_,_⟩
 ·obtain ⟨_,_,vs,_,dd⟩:=QF I.hok e
  exact dd.typeIs
 ·obtain ⟨_,_,xs,_,dd⟩:=QG I.hok e
  exact dd.typeIs
def aCO (td ty:TE):TE:=fun σ H Q=>td σ H fun x H1=>ty σ H1 fun y H2=>∃ a v,x=.ref a/\D0 H2 a y (some v)/\Q v H2
def aCP (td ty tv:TE):TS:=fun D σ H=>tv σ H fun v H1=>td σ H1 fun x H2=>ty σ H2 fun y H3=>∃ a H4,x=.ref a/\GR H3 a y v H4/\D.nx σ H4
section
variable {X:Cx} {o i e value:Expr} {pos pos' tpos:Pos} {td ty tv:TE}
theorem VB (hu:X.A.units+1<cLine) (ho:PE X o td) (hi:PE X i ty) (hs:GS i):PE X (.Subscript o i pos) (aCO td ty):=by
 intro pins s σ H Q I h
 refine JK PySem.F.slot_dict_getitem.lookup hs (eP (ho pins s σ H _ I h) fun u s1 ⟨x,H1,I1,rx,q1⟩=>eP (hi pins s1 σ H1 _ I1 q1) fun iv s2 ⟨y,H2,I2,ry,a,v,ex,g,q2⟩=>?_)
 subst ex
 obtain rfl:u=Value.ref a:=rx
 exact ⟨D1 I2 g,LN hu I2 g ry fun w' s3 I3 vX=>⟨v,H2,I3,vX,q2⟩⟩
theorem VC (hu:X.A.units+1<cLine) (ho:PE X o td) (hi:PE X i ty) (hv:PE X value tv) (hs:swapsWith value (some (.Subscript o i pos')) pos.line X.env=pure false) :
  PS X (.Assign [.Subscript o i pos'] value pos) (aCP td ty tv):=by
 intro pins s σ H D I h
 refine wpAny_Assign_Subscript (eP (hv pins s σ H _ I h) fun r s1 ⟨v,H1,I1,rv,q1⟩=>eP (ho pins s1 σ H1 _ I1 q1) fun u s2 ⟨x,H2,I2,rx,q2⟩=>eP (hi pins s2 σ H2 _ I2 q2) fun iv s3 ⟨y,H3,I3,ry,a,H4,ex,g,q3⟩=>?_) hs
 subst ex
 obtain rfl:u=Value.ref a:=rx
 exact LO hu I3 g ry rv fun s4 I4=>⟨σ,H4,I4,q3⟩
end
theorem QH {P:Program} {w:World} {H:Hp} (h:Heap) (hb:sysModules<h.objs.size):eD P w H (h.push { cls:=.type "dict",data:=.dict #[] }) h.objs.size (.dK []) :=
 ⟨Nat.zero_le _,beq_eq_false_iff_ne.mpr (Ne.symm (Nat.ne_of_lt hb)),[],.nil,Heap.DictOf.new h⟩
def aAC:TE:=fun _ H Q=>∀ p,H p=none->Q (.ref p) (upd H p (.dK []))
section
variable {X:Cx} {pos:Pos}
theorem QI:PE X (.Dict [] [] pos) aAC:=fun pins s σ H Q I h =>
 wpAny_Dict_empty ⟨.ref s.heap.objs.size,_,I.laid (a:=s.heap.objs.size) (o:=.dK []) (t':=s.toks) (fun _ _ q=>Heap.get?_push_of_some _ q) (Nat.le_refl _) (QH s.heap I.big),rfl,h _ (I.hok.fresh (Nat.le_refl _))⟩
end
section
variable {X:Cx} {pins:List (Addr×Obj)} {σ:St} {H:Hp} {s:Shared} {a:Addr} {y d:V} {u r:Value} {o:Option V} {A:Around} {E:Value->Shared->Prop}
end
section
variable {X:Cx} {o e f:Expr} {apos cpos:Pos} {td ty tx:TE}
end
section
variable {X:Cx} {pins:List (Addr×Obj)} {σ:St} {H:Hp} {s:Shared} {a:Addr} {kvs:List (Key×V)} {A:Around} {E:Value->Shared->Prop}
end
section
variable {X:Cx} {pins:List (Addr×Obj)} {σ:St} {H:Hp} {s:Shared} {a:Addr} {y:V} {u:Value} {A:Around} {E:Value->Shared->Prop}
end
end L2
namespace L2
open PySem PySem.Spec PyProof.Rows
section
variable {X:Cx}
end
section
variable {κ:Type} [DecidableEq κ]
end
end L2
end
section
namespace L3
open PySem L2
def XW (K:PySem.W.Frag) (H:Hp) (a:Addr) (ns:List Int):Prop:=(∃ o,H a=some (.DR o (.lst (ns.map V.int))))\/eV K (fun _=>none) a (ns.map V.int)
mutual
def Dn (K:PySem.W.Frag) (S:Addr->Prop) (H:Hp):D->V->Prop
 | .non,v=>v=.non
 | .bl b,v=>v=.bl b
 | .int i,v=>v=.int i
 | .str x,v=>v=.str x
 | .tup ds,v=>∃ a xs,v=.ref a/\H a=some (.tup xs)/\aQ K S H ds xs
 | .lst ds,v=>∃ a xs,v=.ref a/\H a=some (.lst xs)/\S a/\aQ K S H ds xs
 | .lD ns,v=>∃ a,v=.ref a/\XW K H a ns
 | .jX ks ds,v=>∃ a xs,v=.ref a/\H a=some (.dK (ks.zip xs))/\S a/\ks.length=xs.length/\aQ K S H ds xs
 | .eL q ks ds,v=>∃ a o kvs,v=.ref a/\H a=some (.dX o kvs)/\S a/\(kvs.map (·.1)=ks/\q a o)/\aQ K S H ds (kvs.map (·.2.2))
 | .exc _ a,v=>v=.ref a
def aQ (K:PySem.W.Frag) (S:Addr->Prop) (H:Hp):List D->List V->Prop
 | [],xs=>xs=[]
 | d::ds,xs=>∃ v r,xs=v::r/\Dn K S H d v/\aQ K S H ds r
end
structure Fits (K:PySem.W.Frag) (S S':Addr->Prop) (H H':Hp):Prop where
 t:∀ a xs,H a=some (.tup xs)->H' a=some (.tup xs)
 s:∀ a ns,XW K H a ns->XW K H' a ns
 l:∀ a xs,H a=some (.lst xs)->S a->H' a=some (.lst xs)/\S' a
 d:∀ a xs,H a=some (.dK xs)->S a->H' a=some (.dK xs)/\S' a
 e:∀ a o xs,H a=some (.dX o xs)->S a->H' a=some (.dX o xs)/\S' a
section
variable {K:PySem.W.Frag} {S S':Addr->Prop} {H H':Hp}
mutual
theorem Dn.fits (f:Fits K S S' H H'):∀ (d:D) (v:V),Dn K S H d v->Dn K S' H' d v
 | .non,v,h=>by simpa only [Dn] using h
 | .bl b,v,h=>by simpa only [Dn] using h
 | .int i,v,h=>by simpa only [Dn] using h
 | .str x,v,h=>by simpa only [Dn] using h
 | .tup ds,v,h=>by
  simp only [Dn] at h ⊢
  obtain ⟨a,xs,e,q,r⟩:=h
  exact ⟨a,xs,e,f.t a xs q,aQ.fits f ds xs r⟩
 | .lst ds,v,h=>by
  simp only [Dn] at h ⊢
  obtain ⟨a,xs,e,q,s,r⟩:=h
  obtain ⟨q',s'⟩:=f.l a xs q s
  exact ⟨a,xs,e,q',s',aQ.fits f ds xs r⟩
 | .lD ns,v,h=>by
  simp only [Dn] at h ⊢
  obtain ⟨a,e,q⟩:=h
  exact ⟨a,e,f.s a ns q⟩
 | .jX ks ds,v,h=>by
  simp only [Dn] at h ⊢
  obtain ⟨a,xs,e,q,s,l,r⟩:=h
  obtain ⟨q',s'⟩:=f.d a _ q s
  exact ⟨a,xs,e,q',s',l,aQ.fits f ds xs r⟩
 | .eL _ ks ds,v,h=>by
  simp only [Dn] at h ⊢
  obtain ⟨a,o,kvs,e,q,s,l,r⟩:=h
  obtain ⟨q',s'⟩:=f.e a _ _ q s
  exact ⟨a,o,kvs,e,q',s',l,aQ.fits f ds _ r⟩
 | .exc _ _,v,h=>by simpa only [Dn] using h
theorem aQ.fits (f:Fits K S S' H H'):∀ (ds:List D) (xs:List V),aQ K S H ds xs->aQ K S' H' ds xs
 | [],xs,h=>by simpa only [aQ] using h
 | d::ds,xs,h=>by
  simp only [aQ] at h ⊢
  obtain ⟨v,r,e,h1,h2⟩:=h
  exact ⟨v,r,e,Dn.fits f d v h1,aQ.fits f ds r h2⟩
end
mutual
theorem Dn.LP:∀ (d:D) (v:V),d.FI=true->Dn K S H d v->Dn K S' H d v
 | .non,v,_,h=>by simpa only [Dn] using h
 | .bl b,v,_,h=>by simpa only [Dn] using h
 | .int i,v,_,h=>by simpa only [Dn] using h
 | .str x,v,_,h=>by simpa only [Dn] using h
 | .tup ds,v,hi,h=>by
  simp only [Dn] at h ⊢
  obtain ⟨a,xs,e,q,r⟩:=h
  exact ⟨a,xs,e,q,aQ.LP ds xs (by simpa only [D.FI] using hi) r⟩
 | .lst _,v,hi,h=>by simp only [D.FI] at hi; cases hi
 | .lD ns,v,_,h=>by simpa only [Dn] using h
 | .jX _ _,v,hi,h=>by simp only [D.FI] at hi; cases hi
 | .eL _ _ _,v,hi,h=>by simp only [D.FI] at hi; cases hi
 | .exc _ _,v,_,h=>by simpa only [Dn] using h
theorem aQ.LP:∀ (ds:List D) (xs:List V),uX ds=true->aQ K S H ds xs->aQ K S' H ds xs
 | [],xs,_,h=>by simpa only [aQ] using h
 | d::ds,xs,hi,h=>by
  simp only [uX,Bool.and_eq_true] at hi
  simp only [aQ] at h ⊢
  obtain ⟨v,r,e,h1,h2⟩:=h
  exact ⟨v,r,e,Dn.LP d v hi.1 h1,aQ.LP ds r hi.2 h2⟩
end
theorem Dn.FI {d:D} (hi:d.FI=true) {v:V} (h:Dn K S H d v):Dn K S' H d v:=Dn.LP d v hi h
theorem aQ.FI {ds:List D} (hi:uX ds=true) {xs:List V} (h:aQ K S H ds xs):aQ K S' H ds xs:=aQ.LP ds xs hi h
theorem eV.some {a:Addr} {xs:List V} (h:eV K (fun _=>none) a xs):eV K H a xs:=by
 rcases h with (h | ⟨o,h⟩) | h
 ·cases h
 ·cases h
 ·exact .inr h
theorem XW.sq {a:Addr} {ns:List Int} (h:XW K H a ns):eV K H a (ns.map V.int):=by
 rcases h with ⟨o,h⟩ | h
 ·exact .inl (.inr ⟨o,h⟩)
 ·exact eV.some h
def Wr (H:Hp) (p:Addr):Prop:=(∃ xs,H p=some (.lst xs))\/(∃ xs,H p=some (.dK xs)) \/ ∃ o xs,H p=some (.dX o xs)
theorem Wr.tup {p a:Addr} {o:HO} {xs:List V} (w:Wr H p) (h:H a=some (.tup xs)):upd H p o a=some (.tup xs):=by
 rw [bR]
 ·exact h
 ·intro e
  subst e
  rcases w with ⟨ys,w⟩ | ⟨ys,w⟩ | ⟨_,ys,w⟩<;>rw [h] at w<;>cases w
theorem Wr.lD {p a:Addr} {o:HO} {ns:List Int} (w:Wr H p) (h:XW K H a ns):XW K (upd H p o) a ns:=by
 rcases h with ⟨ob,h⟩ | h
 ·refine .inl ⟨ob,?_⟩
  rw [bR]
  ·exact h
  ·intro e
   subst e
   rcases w with ⟨ys,w⟩ | ⟨ys,w⟩ | ⟨_,ys,w⟩<;>rw [h] at w<;>cases w
 ·exact .inr h
theorem Fits.same (e:Same H H'):Fits K S S H H' :=
 ⟨fun a xs h=>e _ _ h,fun a ns h=>h.elim (fun ⟨o,h⟩=>.inl ⟨o,e _ _ h⟩) .inr,fun a xs h s=>⟨e _ _ h,s⟩,fun a xs h s=>⟨e _ _ h,s⟩,fun a _ xs h s=>⟨e _ _ h,s⟩⟩
theorem Fits.mono (m:∀ a,S a->S' a):Fits K S S' H H :=
 ⟨fun _ _ h=>h,fun _ _ h=>h,fun a _ h s=>⟨h,m a s⟩,fun a _ h s=>⟨h,m a s⟩,fun a _ _ h s=>⟨h,m a s⟩⟩
theorem Fits.fresh {p:Addr} (hp:H p=none):Fits K S (fun a=>S a/\a≠p) H H :=
 ⟨fun _ _ h=>h,fun _ _ h=>h,fun a _ h s=>⟨h,s,bX h hp⟩,fun a _ h s=>⟨h,s,bX h hp⟩,fun a _ _ h s=>⟨h,s,bX h hp⟩⟩
theorem Fits.upd {p:Addr} {o:HO} (w:Wr H p) (hs:¬ S p):Fits K S S H (upd H p o):=by
 have ne:∀ a,S a->a≠p:=fun a s e=>hs (e▸s)
 exact ⟨fun a xs h=>w.tup h,fun a ns h=>w.lD h,fun a xs h s=>⟨by rw [bR (ne a s)]; exact h,s⟩,fun a xs h s=>⟨by rw [bR (ne a s)]; exact h,s⟩,fun a _ xs h s=>⟨by rw [bR (ne a s)]; exact h,s⟩⟩
theorem Fits.trans {S'':Addr->Prop} {H'':Hp} (a:Fits K S S' H H') (b:Fits K S' S'' H' H''):Fits K S S'' H H'' :=
 ⟨fun x xs h=>b.t x xs (a.t x xs h),fun x ns h=>b.s x ns (a.s x ns h),fun x xs h s=>let ⟨h1,s1⟩:=a.l x xs h s; b.l x xs h1 s1,fun x xs h s=>let ⟨h1,s1⟩:=a.d x xs h s; b.d x xs h1 s1,fun x o xs h s=>let ⟨h1,s1⟩:=a.e x o xs h s; b.e x o xs h1 s1⟩
theorem aM {p:Addr} {o:HO} (hp:H p=none):Same H (upd H p o):=fun b u h=>by rw [bR (bX h hp)]; exact h
theorem aQ.len:∀ {ds:List D} {xs:List V},aQ K S H ds xs->ds.length=xs.length
 | [],xs,h=>by simp only [aQ] at h; subst h; rfl
 | d::ds,xs,h=>by
  simp only [aQ] at h
  obtain ⟨v,r,e,_,h2⟩:=h
  subst e
  simp [aQ.len h2]
theorem aQ.get:∀ {ds:List D} {xs:List V} {i:Nat} {d:D},aQ K S H ds xs->ds[i]? = some d -> ∃ v,xs[i]? = some v/\Dn K S H d v
 | [],xs,i,d,h,e=>by simp at e
 | d::ds,xs,i,d',h,e=>by
  simp only [aQ] at h
  obtain ⟨v,r,e1,h1,h2⟩:=h
  subst e1
  cases i with
  | zero=>simp at e; subst e; exact ⟨v,by simp,h1⟩
  | succ i =>
   obtain ⟨u,e2,q⟩:=aQ.get (i:=i) (d:=d') h2 (by simpa using e)
   exact ⟨u,by simpa using e2,q⟩
theorem aQ.nil:aQ K S H [] []:=by simp only [aQ]
theorem aQ.cons {d:D} {ds:List D} {v:V} {xs:List V} (h:Dn K S H d v) (t:aQ K S H ds xs):aQ K S H (d::ds) (v::xs):=by
 simp only [aQ]; exact ⟨v,xs,rfl,h,t⟩
theorem aQ.bI {d:D} {ds:List D} {xs:List V} (h:aQ K S H (d::ds) xs):∃ v r,xs=v::r/\Dn K S H d v/\aQ K S H ds r:=by
 simpa only [aQ] using h
theorem aQ.append:∀ {ds es:List D} {xs ys:List V},aQ K S H ds xs->aQ K S H es ys->aQ K S H (ds++es) (xs++ys)
 | [],es,xs,ys,h,g=>by simp only [aQ] at h; subst h; exact g
 | d::ds,es,xs,ys,h,g=>by
  obtain ⟨v,r,e,h1,h2⟩:=h.bI
  subst e
  exact aQ.cons h1 (aQ.append h2 g)
theorem aQ.one {d:D} {v:V} (h:Dn K S H d v):aQ K S H [d] [v]:=aQ.cons h aQ.nil
theorem aQ.take:∀ {ds:List D} {xs:List V} (n:Nat),aQ K S H ds xs->aQ K S H (ds.take n) (xs.take n)
 | _,_,0,_=>by simp [aQ.nil]
 | [],xs,n+1,h=>by simp only [aQ] at h; subst h; simp [aQ.nil]
 | d::ds,xs,n+1,h=>by
  obtain ⟨v,r,e,h1,h2⟩:=h.bI
  subst e
  simpa using aQ.cons h1 (aQ.take n h2)
theorem aQ.drop:∀ {ds:List D} {xs:List V} (n:Nat),aQ K S H ds xs->aQ K S H (ds.drop n) (xs.drop n)
 | _,_,0,h=>by simpa using h
 | [],xs,n+1,h=>by simp only [aQ] at h; subst h; simp [aQ.nil]
 | d::ds,xs,n+1,h=>by
  obtain ⟨v,r,e,h1,h2⟩:=h.bI
  subst e
  simpa using aQ.drop n h2
theorem aQ.set:∀ {ds:List D} {xs:List V} {d:D} {v:V} (n:Nat),Dn K S H d v->aQ K S H ds xs->aQ K S H (ds.set n d) (xs.set n v)
 | [],xs,d,v,n,h,g=>by simp only [aQ] at g; subst g; simp [aQ.nil]
 | d::ds,xs,d',v',n,h,g=>by
  obtain ⟨v,r,e,h1,h2⟩:=g.bI
  subst e
  cases n with
  | zero=>exact aQ.cons h h2
  | succ n=>exact aQ.cons h1 (aQ.set n h h2)
theorem aQ.erase:∀ {ds:List D} {xs:List V} (n:Nat),aQ K S H ds xs->aQ K S H (ds.eraseIdx n) (xs.eraseIdx n)
 | [],xs,n,g=>by simp only [aQ] at g; subst g; simp [aQ.nil]
 | d::ds,xs,n,g=>by
  obtain ⟨v,r,e,h1,h2⟩:=g.bI
  subst e
  cases n with
  | zero=>exact h2
  | succ n=>exact aQ.cons h1 (aQ.erase n h2)
theorem aQ.ints:∀ {ns:List Int} {xs:List V},aQ K S H (ns.map D.int) xs↔xs=ns.map V.int
 | [],xs=>by simp [aQ]
 | n::ns,xs=>by
  rw [List.map_cons,List.map_cons]
  constructor
  ·intro h
   obtain ⟨v,r,e,h1,h2⟩:=h.bI
   simp only [Dn] at h1
   rw [e,h1,aQ.ints.mp h2]
  ·intro e
   rw [e]
   exact aQ.cons (by simp only [Dn]) (aQ.ints.mpr rfl)
theorem nR:∀ ns:List Int,uX (ns.map D.int)=true
 | []=>rfl
 | n::ns=>by rw [List.map_cons,uX,nR ns]; rfl
end
def Sl (K:PySem.W.Frag) (S:Addr->Prop) (H:Hp) (ρ:bN) (σ:St):Prop:=∀ (i:Nat) (d:D),ρ[i]? = some (some d) -> ∃ v,σ[i]? = some (some v)/\Dn K S H d v
theorem Sl.fits {K:PySem.W.Frag} {S S':Addr->Prop} {H H':Hp} {ρ:bN} {σ:St} (f:Fits K S S' H H') (h:Sl K S H ρ σ):Sl K S' H' ρ σ:=fun i d e =>
 let ⟨v,e1,q⟩:=h i d e; ⟨v,e1,Dn.fits f d v q⟩
def wV (K:PySem.W.Frag) (S:Addr->Prop) (H:Hp) (d:D) (p:Addr):Prop :=
 match d with
 | .lst ds=>∃ xs,H p=some (.lst xs)/\aQ K S H ds xs
 | .jX ks ds=>∃ xs,H p=some (.dK (ks.zip xs))/\ks.length=xs.length/\aQ K S H ds xs
 | .eL q ks ds=>∃ o kvs,H p=some (.dX o kvs)/\(kvs.map (·.1)=ks/\q p o)/\aQ K S H ds (kvs.map (·.2.2))
 | _=>False
def SO (S:Addr->Prop) (w:Nat->Addr) (ρ:aR):Addr->Prop:=fun a=>S a /\ ∀ (i:Nat) (d:D),ρ[i]? = some (Sv.ow d)->a≠w i
structure ST (K:PySem.W.Frag) (H₀:Hp) (S:Addr->Prop) (w:Nat->Addr) (σ:St) (H:Hp) (ρ:aR) (G:List (D×V)):Prop where
 fc:∀ a,H₀ a=none->S a
 sm:Same H₀ H
 own:∀ (i:Nat) (d:D),ρ[i]? = some (Sv.ow d)->σ[i]? = some (some (.ref (w i)))/\H₀ (w i)=none/\wV K (SO S w ρ) H d (w i)
 inj:∀ (i j:Nat) (d e:D),ρ[i]? = some (Sv.ow d)->ρ[j]? = some (Sv.ow e)->w i=w j->i=j
 ro:∀ (i:Nat) (d:D),ρ[i]? = some (Sv.ro d) -> ∃ v,σ[i]? = some (some v)/\Dn K (SO S w ρ) H d v
 gh:∀ g∈G,Dn K (SO S w ρ) H g.1 g.2
section
variable {K:PySem.W.Frag} {H₀ H H':Hp} {S S':Addr->Prop} {w:Nat->Addr} {σ:St} {ρ:aR} {G:List (D×V)}
theorem wV.wr {d:D} {p:Addr} (h:wV K S H d p):Wr H p:=by
 cases d with
 | lst ds=>obtain ⟨xs,e,_⟩:=h; exact .inl ⟨_,e⟩
 | jX ks ds=>obtain ⟨xs,e,_⟩:=h; exact .inr (.inl ⟨_,e⟩)
 | eL q0 ks ds=>obtain ⟨o,kvs,e,_⟩:=h; exact .inr (.inr ⟨_,_,e⟩)
 | _=>exact False.elim h
theorem wV.dn {d:D} {p:Addr} (h:wV K S H d p) (hs:S' p) (m:∀ a,S a->S' a):Dn K S' H d (.ref p):=by
 cases d with
 | lst ds=>obtain ⟨xs,e,q⟩:=h; simp only [Dn]; exact ⟨p,xs,rfl,e,hs,aQ.fits (.mono m) ds xs q⟩
 | jX ks ds=>obtain ⟨xs,e,l,q⟩:=h; simp only [Dn]; exact ⟨p,xs,rfl,e,hs,l,aQ.fits (.mono m) ds xs q⟩
 | eL q0 ks ds=>obtain ⟨o,kvs,e,l,q⟩:=h; simp only [Dn]; exact ⟨p,o,kvs,rfl,e,hs,l,aQ.fits (.mono m) ds _ q⟩
 | _=>exact False.elim h
theorem wV.fits {d:D} {p:Addr} (f:Fits K S S' H H') (hp:∀ o,H p=some o->H' p=some o) (h:wV K S H d p):wV K S' H' d p:=by
 cases d with
 | lst ds=>obtain ⟨xs,e,q⟩:=h; exact ⟨xs,hp _ e,aQ.fits f ds xs q⟩
 | jX ks ds=>obtain ⟨xs,e,l,q⟩:=h; exact ⟨xs,hp _ e,l,aQ.fits f ds xs q⟩
 | eL q0 ks ds=>obtain ⟨o,kvs,e,l,q⟩:=h; exact ⟨o,kvs,hp _ e,l,aQ.fits f ds _ q⟩
 | _=>exact False.elim h
theorem ST.NR (h:ST K H₀ S w σ H ρ G):∀ a,H a=none->S a:=fun a e=>h.fc a (h.sm.free e)
theorem ST.LQ (h:ST K H₀ S w σ H ρ G):∀ a,H a=none->SO S w ρ a:=fun a e=>⟨h.NR a e,fun i d q z=>by
 have wr:=(h.own i d q).2.2.wr
 subst z
 rcases wr with ⟨xs,k⟩ | ⟨xs,k⟩ | ⟨_,xs,k⟩<;>rw [e] at k<;>cases k⟩
theorem yQ {i:Nat} {d:D} (h:(cC ρ)[i]? = some (some d)):ρ[i]? = some (Sv.ro d)\/ρ[i]? = some (Sv.ow d):=by
 unfold cC at h
 rw [List.getElem?_map] at h
 cases e:ρ[i]? with
 | none=>rw [e] at h; cases h
 | some s =>
  rw [e] at h
  cases s with
  | no=>cases h
  | ro d'=>cases h; exact .inl rfl
  | ow d'=>cases h; exact .inr rfl
theorem CA {i:Nat} {d:D} (h:(iT ρ)[i]? = some (some d)):ρ[i]? = some (Sv.ro d):=by
 unfold iT at h
 rw [List.getElem?_map] at h
 cases e:ρ[i]? with
 | none=>rw [e] at h; cases h
 | some s =>
  rw [e] at h
  cases s with
  | no=>cases h
  | ro d'=>cases h; rfl
  | ow d'=>cases h
theorem ST.all (h:ST K H₀ S w σ H ρ G):Sl K S H (cC ρ) σ:=fun i d e=>by
 rcases yQ e with e | e
 ·obtain ⟨v,e1,q⟩:=h.ro i d e
  exact ⟨v,e1,Dn.fits (.mono fun _ z=>z.1) d v q⟩
 ·obtain ⟨e1,e2,q⟩:=h.own i d e
  exact ⟨_,e1,q.dn (h.fc _ e2) fun _ z=>z.1⟩
theorem ST.rd (h:ST K H₀ S w σ H ρ G):Sl K (SO S w ρ) H (iT ρ) σ:=fun i d e=>h.ro i d (CA e)
theorem ST.same (h:ST K H₀ S w σ H ρ G) (e:Same H H'):ST K H₀ S w σ H' ρ G :=
 ⟨h.fc,h.sm.trans e,fun i d q=>let ⟨a,b,c⟩:=h.own i d q; ⟨a,b,c.fits (.same e) fun o z=>e _ o z⟩,h.inj,fun i d q=>let ⟨v,a,b⟩:=h.ro i d q; ⟨v,a,Dn.fits (.same e) d v b⟩,fun g hg=>Dn.fits (.same e) _ _ (h.gh g hg)⟩
theorem SO.mono {ρ':aR} (hw:∀ (i:Nat) (d:D),ρ'[i]? = some (Sv.ow d) -> ∃ e,ρ[i]? = some (Sv.ow e)):∀ a,SO S w ρ a->SO S w ρ' a:=fun a hq6=>by obtain ⟨s,n⟩:=hq6; exact ⟨s,fun i d e=>let ⟨d',e'⟩:=hw i d e; n i d' e'⟩
theorem get_set {α:Type} {l:List α} {i j:Nat} {x y:α} (h:(l.set i x)[j]? = some y):(j=i/\y=x/\i<l.length)\/(j≠i/\l[j]? = some y):=by
 by_cases e:j=i
 ·subst e
  by_cases hl:j<l.length
  ·rw [List.getElem?_set_self hl] at h
   exact .inl ⟨rfl,(Option.some.inj h).symm,hl⟩
  ·rw [List.getElem?_eq_none (by simp; omega)] at h
   cases h
 ·rw [List.getElem?_set_ne (Ne.symm e)] at h
  exact .inr ⟨e,h⟩
theorem ST.lO {i:Nat} {d:D} {v:V} (h:ST K H₀ S w σ H ρ G) (hi:i<σ.length) (q:Dn K (SO S w ρ) H d v):ST K H₀ S w (σ.set i (some v)) H (ρ.set i (.ro d)) G:=by
 have hw:∀ (j:Nat) (e:D),(ρ.set i (.ro d))[j]? = some (Sv.ow e)->j≠i/\ρ[j]? = some (Sv.ow e):=fun j e he=>by
  rcases get_set he with ⟨_,z,_⟩ | z
  ·cases z
  ·exact z
 have m:∀ a,SO S w ρ a->SO S w (ρ.set i (.ro d)) a:=SO.mono fun j e he=>⟨e,(hw j e he).2⟩
 refine ⟨h.fc,h.sm,fun j e he=>?_,fun j k d' e' h1 h2=>h.inj j k d' e' (hw j d' h1).2 (hw k e' h2).2,fun j e he=>?_,fun g hg=>Dn.fits (.mono m) _ _ (h.gh g hg)⟩
 ·obtain ⟨hj,he'⟩:=hw j e he
  obtain ⟨a,b,c⟩:=h.own j e he'
  exact ⟨by rw [List.getElem?_set_ne (Ne.symm hj)]; exact a,b,c.fits (.mono m) fun _ z=>z⟩
 ·rcases get_set he with ⟨hj,z,_⟩ | ⟨hj,z⟩
  ·cases z
   subst hj
   exact ⟨v,List.getElem?_set_self hi,Dn.fits (.mono m) d v q⟩
  ·obtain ⟨u,a,b⟩:=h.ro j e z
   exact ⟨u,by rw [List.getElem?_set_ne (Ne.symm hj)]; exact a,Dn.fits (.mono m) e u b⟩
def freeze (ρ:aR) (i:Nat):aR:=match ρ[i]? with
 | some (.ow d)=>ρ.set i (.ro d)
 | _=>ρ
theorem ST.frozen {i:Nat} (h:ST K H₀ S w σ H ρ G):ST K H₀ S w σ H (freeze ρ i) G:=by
 unfold freeze
 cases e:ρ[i]? with
 | none=>exact h
 | some s =>
  cases s with
  | no=>exact h
  | ro d=>exact h
  | ow d =>
   dsimp only
   obtain ⟨a,b,c⟩:=h.own i d e
   have hi:i<σ.length:=(List.getElem?_eq_some_iff.mp a).1
   have hw:∀ (j:Nat) (e:D),(ρ.set i (.ro d))[j]? = some (Sv.ow e)->j≠i/\ρ[j]? = some (Sv.ow e):=fun j e he=>by
    rcases get_set he with ⟨_,z,_⟩ | z
    ·cases z
    ·exact z
   have m:∀ a,SO S w ρ a->SO S w (ρ.set i (.ro d)) a:=SO.mono fun j e he=>⟨e,(hw j e he).2⟩
   refine ⟨h.fc,h.sm,fun j f hf=>?_,fun j k d' e' h1 h2=>h.inj j k d' e' (hw j d' h1).2 (hw k e' h2).2,fun j f hf=>?_,fun g hg=>Dn.fits (.mono m) _ _ (h.gh g hg)⟩
   ·obtain ⟨a,b,c⟩:=h.own j f (hw j f hf).2
    exact ⟨a,b,c.fits (.mono m) fun _ z=>z⟩
   ·rcases get_set hf with ⟨hj,z,_⟩ | ⟨hj,z⟩
    ·cases z
     subst hj
     refine ⟨_,a,c.dn ⟨h.fc _ b,fun k f' hk z=>?_⟩ m⟩
     obtain ⟨hk1,hk2⟩:=hw k f' hk
     exact hk1 (h.inj _ _ _ _ e hk2 z).symm
    ·obtain ⟨u,a,b⟩:=h.ro j f z
     exact ⟨u,a,Dn.fits (.mono m) f u b⟩
theorem ST.GU {i:Nat} {d:D} {p:Addr} (h:ST K H₀ S w σ H ρ G) (hi:i<σ.length) (e:Same H H') (hp:H p=none) (q:wV K (fun a=>SO S w ρ a/\a≠p) H' d p) :
  ST K H₀ S (fun j=>if j=i then p else w j) (σ.set i (some (.ref p))) H' (ρ.set i (.ow d)) G:=by
 have h0:H₀ p=none:=h.sm.free hp
 have hw:∀ (j:Nat) (e:D),j≠i->(ρ.set i (.ow d))[j]? = some (Sv.ow e)->ρ[j]? = some (Sv.ow e):=fun j e hj he=>by
  rcases get_set he with ⟨z,_,_⟩ | ⟨_,z⟩
  ·exact absurd z hj
  ·exact z
 have m:∀ a,(SO S w ρ a/\a≠p)->SO S (fun j=>if j=i then p else w j) (ρ.set i (.ow d)) a:=fun a ⟨⟨s,n⟩,ne⟩=>⟨s,fun j f hf=>by
  show a≠(if j=i then p else w j)
  by_cases hj:j=i
  ·rw [if_pos hj]; exact ne
  ·rw [if_neg hj]; exact n j f (hw j f hj hf)⟩
 have F:Fits K (SO S w ρ) (SO S (fun j=>if j=i then p else w j) (ρ.set i (.ow d))) H H':=((Fits.fresh hp).trans (.mono m)).trans (.same e)
 have wp:∀ (j:Nat) (f:D),ρ[j]? = some (Sv.ow f)->w j≠p:=fun j f hf z=>by
  have wr:=(h.own j f hf).2.2.wr
  rw [z] at wr
  rcases wr with ⟨xs,k⟩ | ⟨xs,k⟩ | ⟨_,xs,k⟩<;>rw [hp] at k<;>cases k
 refine ⟨h.fc,h.sm.trans e,fun j f hf=>?_,fun j k d' e' h1 h2 z=>?_,fun j f hf=>?_,fun g hg=>Dn.fits F _ _ (h.gh g hg)⟩
 ·by_cases hj:j=i
  ·subst hj
   rcases get_set hf with ⟨_,z,_⟩ | ⟨z,_⟩
   ·cases z
    rw [if_pos rfl]
    exact ⟨List.getElem?_set_self hi,h0,q.fits (.mono m) fun _ z=>z⟩
   ·exact absurd rfl z
  ·rw [if_neg hj]
   obtain ⟨a,b,c⟩:=h.own j f (hw j f hj hf)
   exact ⟨by rw [List.getElem?_set_ne (Ne.symm hj)]; exact a,b,c.fits F fun o z=>e _ o z⟩
 ·have z:(if j=i then p else w j)=(if k=i then p else w k):=z
  by_cases hj:j=i
  ·by_cases hk:k=i
   ·rw [hj,hk]
   ·rw [if_pos hj,if_neg hk] at z
    exact absurd z.symm (wp k e' (hw k e' hk h2))
  ·by_cases hk:k=i
   ·rw [if_neg hj,if_pos hk] at z
    exact absurd z (wp j d' (hw j d' hj h1))
   ·rw [if_neg hj,if_neg hk] at z
    exact h.inj j k d' e' (hw j d' hj h1) (hw k e' hk h2) z
 ·rcases get_set hf with ⟨_,z,_⟩ | ⟨hj,z⟩
  ·cases z
  ·obtain ⟨u,a,b⟩:=h.ro j f z
   exact ⟨u,by rw [List.getElem?_set_ne (Ne.symm hj)]; exact a,Dn.fits F f u b⟩
theorem ST.write {i:Nat} {d d':D} {o:HO} (h:ST K H₀ S w σ H ρ G) (e:ρ[i]? = some (Sv.ow d)) (q:wV K (SO S w ρ) (upd H (w i) o) d' (w i)):ST K H₀ S w σ (upd H (w i) o) (ρ.set i (.ow d')) G:=by
 obtain ⟨a0,b0,c0⟩:=h.own i d e
 have so:SO S w (ρ.set i (.ow d'))=SO S w ρ:=by
  funext a
  refine propext ⟨fun ⟨s,n⟩=>⟨s,fun j f hf=>?_⟩,fun ⟨s,n⟩=>⟨s,fun j f hf=>?_⟩⟩
  ·by_cases hj:j=i
   ·subst hj
    exact n j d' (by rw [List.getElem?_set_self (List.getElem?_eq_some_iff.mp e).1])
   ·exact n j f (by rw [List.getElem?_set_ne (Ne.symm hj)]; exact hf)
  ·by_cases hj:j=i
   ·subst hj; exact n j d e
   ·exact n j f (by rw [List.getElem?_set_ne (Ne.symm hj)] at hf; exact hf)
 have nS:¬ SO S w ρ (w i):=fun ⟨_,n⟩=>n i d e rfl
 have F:Fits K (SO S w ρ) (SO S w ρ) H (upd H (w i) o):=.upd c0.wr nS
 refine ⟨h.fc,fun b u hb=>?_,fun j f hf=>?_,fun j k d1 e1 h1 h2 z=>?_,fun j f hf=>?_,fun g hg=>by rw [so]; exact Dn.fits F _ _ (h.gh g hg)⟩
 ·rw [bR (bX hb b0)]
  exact h.sm b u hb
 ·rw [so]
  rcases get_set hf with ⟨hj,z,_⟩ | ⟨hj,z⟩
  ·cases z
   subst hj
   exact ⟨a0,b0,q⟩
  ·obtain ⟨a,b,c⟩:=h.own j f z
   exact ⟨a,b,c.fits F fun ob hob=>by rw [bR fun y=>hj (h.inj _ _ _ _ z e y)]; exact hob⟩
 ·have g1:∃ d2,ρ[j]? = some (Sv.ow d2):=by
   rcases get_set h1 with ⟨hj,_,_⟩ | ⟨_,z⟩
   ·subst hj; exact ⟨d,e⟩
   ·exact ⟨_,z⟩
  have g2:∃ d2,ρ[k]? = some (Sv.ow d2):=by
   rcases get_set h2 with ⟨hj,_,_⟩ | ⟨_,z⟩
   ·subst hj; exact ⟨d,e⟩
   ·exact ⟨_,z⟩
  obtain ⟨_,g1⟩:=g1
  obtain ⟨_,g2⟩:=g2
  exact h.inj j k _ _ g1 g2 z
 ·rw [so]
  rcases get_set hf with ⟨_,z,_⟩ | ⟨hj,z⟩
  ·cases z
  ·obtain ⟨u,a,b⟩:=h.ro j f z
   exact ⟨u,a,Dn.fits F f u b⟩
theorem ST.ghost (h:ST K H₀ S w σ H ρ G) {G':List (D×V)} (hg:∀ g∈G',Dn K (SO S w ρ) H g.1 g.2):ST K H₀ S w σ H ρ G':=⟨h.fc,h.sm,h.own,h.inj,h.ro,hg⟩
end
end L3
end
section
namespace L3
open PySem PySem.Spec PyProof.Rows L2
abbrev WE:=bN->(D->Prop)->Prop
abbrev WT:=bN->(Bool->Prop)->Prop
abbrev WA:=bN->(List D->Prop)->Prop
def lift (K:PySem.W.Frag) (t:WE):TE:=fun σ H Q=>∃ (S:Addr->Prop) (ρ:bN) (Q3:D->Prop),(∀ a,H a=none->S a)/\Sl K S H ρ σ/\t ρ Q3 /\ ∀ v H' d,Same H H'->Dn K S H' d v->Q3 d->Q v H'
def liftT (K:PySem.W.Frag) (t:WT):TT:=fun σ H Q=>∃ (S:Addr->Prop) (ρ:bN) (Q3:Bool->Prop),(∀ a,H a=none->S a)/\Sl K S H ρ σ/\t ρ Q3 /\ ∀ b H',Same H H'->Q3 b->Q b H'
def QJ (K:PySem.W.Frag) (t:WA):TA:=fun σ H Q=>∃ (S:Addr->Prop) (ρ:bN) (Q3:List D->Prop),(∀ a,H a=none->S a)/\Sl K S H ρ σ/\t ρ Q3 /\ ∀ vs H' ds,Same H H'->aQ K S H' ds vs->Q3 ds->Q vs H'
def QK (K:PySem.W.Frag) (t:WE):TE:=fun σ H Q=>∃ (S:Addr->Prop) (ρ:bN) (Q3:D->Prop),(∀ a,H a=none->S a)/\Sl K S H ρ σ/\t ρ Q3 /\
 ∀ p xs H' ds,H p=none->H' p=some (.lst xs)->Same H H'->aQ K (fun a=>S a/\a≠p) H' ds xs->Q3 (.lst ds)->Q (.ref p) H'
def cZ (X:Cx) (e:Expr) (t:WE):Prop:=PE X e (lift X.K t)
def D2 (X:Cx) (e:Expr) (t:WE):Prop:=PE X e (QK X.K t)
def yI (X:Cx) (e:Expr) (t:WT):Prop:=PT X e (liftT X.K t)
def wW (X:Cx) (es:List Expr) (t:WA):Prop:=PA X es (QJ X.K t)
section
variable {X:Cx}
theorem imp {e:Expr} {t t':TE} (h:PE X e t) (f:∀ σ H Q,t' σ H Q->t σ H Q):PE X e t':=fun pins s σ H Q I q=>h pins s σ H Q I (f σ H Q q)
theorem QL {e:Expr} {t t':TT} (h:PT X e t) (f:∀ σ H Q,t' σ H Q->t σ H Q):PT X e t':=fun pins s σ H Q I q=>h pins s σ H Q I (f σ H Q q)
theorem GV {e:List Expr} {t t':TA} (h:PA X e t) (f:∀ σ H Q,t' σ H Q->t σ H Q):PA X e t':=fun pos pins s σ H Q I q=>h pos pins s σ H Q I (f σ H Q q)
theorem bH {H H':Hp} {S:Addr->Prop} (fc:∀ a,H a=none->S a) (s:Same H H'):∀ a,H' a=none->S a:=fun a e=>fc a (s.free e)
theorem D2.pe {e:Expr} {t:WE} (h:D2 X e t):cZ X e t:=imp h fun σ H Q hq7=>by
 obtain ⟨S,ρ,Q3,fc,sl,ht,k⟩:=hq7
 exact ⟨S,ρ,Q3,fc,sl,ht,fun p xs H' ds hp hp' s dn q=>k _ H' _ s (by simp only [Dn]; exact ⟨p,xs,rfl,hp',fc p hp,aQ.fits (.mono fun _ z=>z.1) ds xs dn⟩) q⟩
def VD (i:Nat):WE:=fun ρ Q=>match ρ[i]? with
 | some (some d)=>Q d
 | _=>False
def wC (d:D):WE:=fun _ Q=>Q d
theorem QM {K:PySem.W.Frag} {i:Nat} {σ:L2.St} {H:Hp} {Q:VK} (h:lift K (VD i) σ H Q):UQ i σ H Q:=by
 obtain ⟨S,ρ,Q3,fc,sl,ht,k⟩:=h
 unfold VD at ht
 split at ht
 ·rename_i d e
  obtain ⟨v,e1,q⟩:=sl i d e
  exact ⟨v,e1,k v H d (Same.refl H) q ht⟩
 ·exact ht.elim
theorem x3 (i:Nat) {x:Str} {pos:Pos} (hN:X.N[i]? = some x:=by rfl) (hv:BX X.env.scope x:=by first | exact Or.inl rfl | exact Or.inr (Or.inl rfl) | exact Or.inr (Or.inr rfl)) (hd:(x == ("__debug__" : Str))=false:=by decide)
  (hcd:(x == ("__classdict__" : Str))=false:=by decide):cZ X (.Name x pos) (VD i):=imp (pG hN hv hd hcd) fun _ _ _=>QM
theorem CB {K:PySem.W.Frag} {d:D} {v:V} {σ:L2.St} {H:Hp} {Q:VK} (hd:∀ S H,Dn K S H d v) (h:lift K (wC d) σ H Q):tC v σ H Q:=by
 obtain ⟨S,ρ,Q3,fc,sl,ht,k⟩:=h
 exact k v H d (Same.refl H) (hd S H) ht
theorem i3 {i:Int} {j pos}:cZ X (.Constant (.int i) j pos) (wC (.int i)):=imp Y8 fun _ _ _=>CB (fun _ _=>by simp only [Dn])
theorem b3 {b:Bool} {j pos}:cZ X (.Constant (.bool b) j pos) (wC (.bl b)):=imp aBb fun _ _ _=>CB (fun _ _=>by simp only [Dn])
theorem n3 {j pos}:cZ X (.Constant .none j pos) (wC .non):=imp Y9 fun _ _ _=>CB (fun _ _=>by simp only [Dn])
theorem s3 {x:Str} {j pos}:cZ X (.Constant (.str x) j pos) (wC (.str x)):=imp ZA fun _ _ _=>CB (fun _ _=>by simp only [Dn])
abbrev F2:=D->D->(D->Prop)->Prop
def gH (f:F2) (ta tb:WE):WE:=fun ρ Q=>ta ρ fun x=>tb ρ fun y=>f x y Q
def O3 (K:PySem.W.Frag) (r:R2) (f:F2):Prop:=∀ (S:Addr->Prop) (H:Hp) (x y:V) (dx dy:D) (Q3:D->Prop) (Q:VK),(∀ a,H a=none->S a)->Dn K S H dx x->Dn K S H dy y->f dx dy Q3 ->
 (∀ v H' d,Same H H'->Dn K S H' d v->Q3 d->Q v H')->r x y H Q
theorem qV {K:PySem.W.Frag} {r:R2} {f:F2} {ta tb:WE} {σ:L2.St} {H:Hp} {Q:VK} (h3:O3 K r f) (h:lift K (gH f ta tb) σ H Q):tOp r (lift K ta) (lift K tb) σ H Q:=by
 obtain ⟨S,ρ,Q3,fc,sl,ht,k⟩:=h
 refine ⟨S,ρ,_,fc,sl,ht,fun v H1 d s1 d1 q1=>?_⟩
 refine ⟨S,ρ,_,bH fc s1,Sl.fits (.same s1) sl,q1,fun u H2 d2 s2 d2' q2=>?_⟩
 exact h3 S H2 v u d d2 Q3 Q (bH fc (s1.trans s2)) (Dn.fits (.same s2) _ _ d1) d2' q2 fun v' H' d' s' dn' q'=>k v' H' d' ((s1.trans s2).trans s') dn' q'
theorem op3 {a b:Expr} {op:Operator} {pos:Pos} {r:R2} {f:F2} {ta tb:WE} (ho:kB X (binaryOp op) r) (h3:O3 X.K r f) (ha:cZ X a ta) (hb:cZ X b tb):cZ X (.BinOp a op b pos) (gH f ta tb) :=
 imp (PX ho ha hb) fun _ _ _=>qV h3
def LR (C:Int->Int->Prop) (g:Int->Int->D):F2
 | .int i,.int j,Q=>C i j/\Q (g i j)
 | _,_,_=>False
theorem CC {K:PySem.W.Frag} {C:Int->Int->Prop} {g:Int->Int->Int}:O3 K (rI C fun i j=>.int (g i j)) (LR C fun i j=>.int (g i j)):=by
 intro S H x y dx dy Q3 Q fc hx hy hf k
 cases dx<;>cases dy<;>try exact hf.elim
 simp only [Dn] at hx hy
 exact ⟨_,_,hx,hy,hf.1,k _ H _ (Same.refl H) (by simp only [Dn]) hf.2⟩
def wZ (g:Int->Int->D):F2
 | .int i,.int j,Q=>Q (g i j)
 | _,_,_=>False
theorem VE {K:PySem.W.Frag} {g:Int->Int->Int}:O3 K (LC fun i j=>.int (g i j)) (wZ fun i j=>.int (g i j)):=by
 intro S H x y dx dy Q3 Q fc hx hy hf k
 cases dx<;>cases dy<;>try exact hf.elim
 simp only [Dn] at hx hy
 exact ⟨_,_,hx,hy,k _ H _ (Same.refl H) (by simp only [Dn]) hf⟩
def aGM:F2:=wZ fun i j=>.int (i - j)
def aGN:F2:=LR (fun _ j=>0<j) fun i j=>.int (i % j)
def aGO:F2:=LR aBv fun i j=>.int (i / j)
def aGP:F2:=LR aBw fun i j=>.int (i ^ j.toNat)
section
variable {a b:Expr} {pos:Pos} {ta tb:WE}
theorem aGQ (ha:cZ X a ta) (hb:cZ X b tb):cZ X (.BinOp a .Sub b pos) (gH aGM ta tb):=op3 ZS VE ha hb
theorem aGR (ha:cZ X a ta) (hb:cZ X b tb):cZ X (.BinOp a .Mod b pos) (gH aGN ta tb):=op3 ZT CC ha hb
theorem aGS (ha:cZ X a ta) (hb:cZ X b tb):cZ X (.BinOp a .FloorDiv b pos) (gH aGO ta tb):=op3 UY CC ha hb
theorem aGT (ha:cZ X a ta) (hb:cZ X b tb):cZ X (.BinOp a .Pow b pos) (gH aGP ta tb):=op3 ZU CC ha hb
end
def XX (K:PySem.W.Frag):R2:=fun x y H Q=>∃ a b xs ys,x=.ref a/\y=.ref b/\gC K H a xs/\gC K H b ys/\xs.length+ys.length<=sizeLine /\
 (xs=[]->Q (.ref b) H)/\(xs≠[]->ys=[]->Q (.ref a) H)/\(xs≠[]->ys≠[] -> ∀ p,H p=none->Q (.ref p) (upd H p (.tup (xs++ys))))
theorem QN {prog:Program} {w:World} {A:Around} {E:Value->Shared->Prop} {s:Shared} {t b:Addr} {ws:List Value} {Q:Value->Shared->Prop} (ht:IsTup s.heap t #[]) (hb:IsTup s.heap b ws.toArray)
  (h1:Q (.ref b) s):wpAny (model prog w) A (binaryOp .Add (.ref t) (.ref b)) Q E s:=by
 obtain ⟨⟨cls,dd,data,sl⟩,ho,hc,n,hd⟩:=id ht
 obtain ⟨⟨cls2,dd2,data2,sl2⟩,ho2,hc2,n2,hd2⟩:=id hb
 simp only at hc hd hc2 hd2
 subst hc hd hc2 hd2
 exact concat_meets ⟨_,ho,rfl⟩ ⟨_,ho2,rfl⟩ noFill_tuple_add seq_tuple_add PySem.F.slot_tuple_add PySem.F.entry_tuple_add (PySem.F.args_tuple_add_2 _ _)
   (tuple_addW0 t b #[] ws.toArray n n2 dd dd2 sl sl2 (by simp)) ⟨ho,ho2,h1⟩
theorem QO:kB X (binaryOp .Add) (XX X.K):=by
 intro pins s σ H x y v u Q I rx ry h
 obtain ⟨a,b,xs,ys,rfl,rfl,ha,hb,hz,q0,q1,q2⟩:=h
 by_cases hx:xs=[]
 ·cases rx
  cases ry
  subst hx
  obtain ⟨its,r1,p1,_⟩:=I.tuple ha
  obtain ⟨its2,r2,p2,_⟩:=I.tuple hb
  cases r1
  exact QN p1 p2 ⟨.ref b,H,I,rfl,q0 rfl⟩
 ·exact U7 pins s σ H _ _ v u Q I rx ry ⟨a,b,xs,ys,rfl,rfl,ha,hb,hx,hz,q1 hx,q2 hx⟩
def aAD:F2
 | .int i,.int j,Q=>Q (.int (i+j))
 | .lst a,.lst b,Q=>a.length+b.length<=sizeLine/\Q (.lst (a++b))
 | .tup a,.tup b,Q=>a.length+b.length<=sizeLine/\Q (.tup (a++b))
 | .str a,.str b,Q=>a.length+b.length<=sizeLine/\Q (.str (a++b))
 | _,_,_=>False
def aCQ (K:PySem.W.Frag):R2:=fun x y H Q=>(LC fun i j=>.int (i+j)) x y H Q\/(aCL x y H Q\/(XX K x y H Q \/ ∃ i j,x=.str i/\y=.str j/\i.length+j.length<=sizeLine/\Q (.str (i++j)) H))
theorem aAE {K:PySem.W.Frag}:O3 K (aCQ K) aAD:=by
 intro S H x y dx dy Q3 Q fc hx hy hf k
 cases dx with
 | int i =>
  cases dy with
  | int j=>simp only [Dn] at hx hy; exact .inl ⟨_,_,hx,hy,k _ H _ (Same.refl H) (by simp only [Dn]) hf⟩
  | _=>exact hf.elim
 | str i =>
  cases dy with
  | str j=>simp only [Dn] at hx hy; exact .inr (.inr (.inr ⟨_,_,hx,hy,hf.1,k _ H _ (Same.refl H) (by simp only [Dn]) hf.2⟩))
  | _=>exact hf.elim
 | lst ds =>
  cases dy with
  | lst es =>
   simp only [Dn] at hx hy
   obtain ⟨a,xs,rfl,ha,sa,da⟩:=hx
   obtain ⟨b,ys,rfl,hb,sb,db⟩:=hy
   refine .inr (.inl ⟨a,b,xs,ys,rfl,rfl,ha,hb,by rw [<- da.len,<- db.len]; exact hf.1,fun p hp=>k _ _ _ (aM hp) ?_ hf.2⟩)
   simp only [Dn]
   exact ⟨p,_,rfl,bA,fc p hp,aQ.fits (.same (aM hp)) _ _ (da.append db)⟩
  | _=>exact hf.elim
 | tup ds =>
  cases dy with
  | tup es =>
   simp only [Dn] at hx hy
   obtain ⟨a,xs,rfl,ha,da⟩:=hx
   obtain ⟨b,ys,rfl,hb,db⟩:=hy
   refine .inr (.inr (.inl ⟨a,b,xs,ys,rfl,rfl,gC.of ha,gC.of hb,by rw [<- da.len,<- db.len]; exact hf.1,fun e=>?_,fun _ e=>?_,fun _ _ p hp=>?_⟩))
   ·subst e
    have e2:ds=[]:=List.length_eq_zero_iff.mp da.len
    subst e2
    exact k _ H _ (Same.refl H) (by simp only [Dn]; exact ⟨b,ys,rfl,hb,db⟩) hf.2
   ·subst e
    have e2:es=[]:=List.length_eq_zero_iff.mp db.len
    subst e2
    have q:=hf.2
    rw [List.append_nil] at q
    exact k _ H _ (Same.refl H) (by simp only [Dn]; exact ⟨a,xs,rfl,ha,da⟩) q
   ·refine k _ _ _ (aM hp) ?_ hf.2
    simp only [Dn]
    exact ⟨p,_,rfl,bA,aQ.fits (.same (aM hp)) _ _ (da.append db)⟩
  | _=>exact hf.elim
 | _=>cases dy<;>exact hf.elim
theorem VF:kB X (binaryOp .Add) (aCQ X.K):=kB.or ZR (kB.or QA (kB.or QO GK))
theorem aGU {a b:Expr} {pos:Pos} {ta tb:WE} (ha:cZ X a ta) (hb:cZ X b tb):cZ X (.BinOp a .Add b pos) (gH aAD ta tb):=op3 VF aAE ha hb
def aCR:F2
 | .lst a,.lst b,Q=>a.length+b.length<=sizeLine/\Q (.lst (a++b))
 | _,_,_=>False
theorem aCS {a b:Expr} {pos:Pos} {ta tb:WE} (ha:cZ X a ta) (hb:cZ X b tb):D2 X (.BinOp a .Add b pos) (gH aCR ta tb):=imp (PX QA ha hb) fun σ H Q h=>by
 obtain ⟨S,ρ,Q3,fc,sl,ht,k⟩:=h
 refine ⟨S,ρ,_,fc,sl,ht,fun v H1 d s1 d1 q1=>?_⟩
 refine ⟨S,ρ,_,bH fc s1,Sl.fits (.same s1) sl,q1,fun u H2 d2 s2 d2' q2=>?_⟩
 cases d<;>cases d2<;>try exact q2.elim
 simp only [Dn] at d1 d2'
 obtain ⟨a,xs,rfl,ha,sa,da⟩:=d1
 obtain ⟨b,ys,rfl,hb,sb,db⟩:=d2'
 have da':=aQ.fits (.same s2) _ _ da
 refine ⟨a,b,xs,ys,rfl,rfl,s2 _ _ ha,hb,by rw [<- da.len,<- db.len]; exact q2.1,fun p hp=>k p _ _ _ ((s1.trans s2).free hp) bA ((s1.trans s2).trans (aM hp)) ?_ q2.2⟩
 exact aQ.fits ((Fits.fresh hp).trans (.same (aM hp))) _ _ (da'.append db)
def aGW:WA:=fun _ Q=>Q []
def aCT (ta:WE) (t:WA):WA:=fun ρ Q=>ta ρ fun d=>t ρ fun ds=>Q (d::ds)
theorem aGX:wW X [] aGW:=GV sP fun σ H Q hq8=>by obtain ⟨S,ρ,Q3,fc,sl,ht,k⟩:=hq8; exact k [] H [] (Same.refl H) aQ.nil ht
theorem aCU {e:Expr} {es:List Expr} {te:WE} {t:WA} (ha:cZ X e te) (hr:wW X es t) (hs:starEach (e::es) X.env=(false,eval e X.env)::starEach es X.env:=by rfl):wW X (e::es) (aCT te t) :=
 GV (iX ha hr hs) fun σ H Q hq9=>by
  obtain ⟨S,ρ,Q3,fc,sl,ht,k⟩:=hq9
  refine ⟨S,ρ,_,fc,sl,ht,fun v H1 d s1 d1 q1=>?_⟩
  refine ⟨S,ρ,_,bH fc s1,Sl.fits (.same s1) sl,q1,fun us H2 ds s2 d2 q2=>?_⟩
  exact k _ H2 _ (s1.trans s2) (aQ.cons (Dn.fits (.same s2) _ _ d1) d2) q2
def aGZ (t:WA):WE:=fun ρ Q=>t ρ fun ds=>ds.length<=sizeLine/\Q (.tup ds)
def aG0 (t:WA):WE:=fun ρ Q=>t ρ fun ds=>ds.length<=sizeLine/\Q (.lst ds)
theorem aG1 {es:List Expr} {t:WA} {x1} {pos:Pos} (h:wW X es t):cZ X (.Tuple es x1 pos) (aGZ t):=imp (P2 h) fun σ H Q aG2=>by
 obtain ⟨S,ρ,Q3,fc,sl,ht,k⟩:=aG2
 refine ⟨S,ρ,_,fc,sl,ht,fun vs H1 ds s1 d1 q1=>⟨by rw [<- d1.len]; exact q1.1,fun p hp=>k _ _ _ (s1.trans (aM hp)) ?_ q1.2⟩⟩
 simp only [Dn]
 exact ⟨p,_,rfl,bA,aQ.fits (.same (aM hp)) _ _ d1⟩
theorem aG3 {es:List Expr} {t:WA} {pos:Pos} (h:wW X es t):D2 X (.List es pos) (aG0 t):=imp (ZZ h) fun σ H Q aG4=>by
 obtain ⟨S,ρ,Q3,fc,sl,ht,k⟩:=aG4
 refine ⟨S,ρ,_,fc,sl,ht,fun vs H1 ds s1 d1 q1=>⟨by rw [<- d1.len]; exact q1.1,fun p hp=>k p vs _ ds (s1.free hp) bA (s1.trans (aM hp)) ?_ q1.2⟩⟩
 exact aQ.fits ((Fits.fresh hp).trans (.same (aM hp))) _ _ d1
end
section
variable {X:Cx}
def mV (t:WE):WT:=fun ρ Q=>t ρ fun d=>match d with
 | .bl b=>Q b
 | _=>False
theorem LS {K:PySem.W.Frag} {t:WE} {σ:L2.St} {H:Hp} {Q:Bool->Hp->Prop} (h:liftT K (mV t) σ H Q):JD (lift K t) σ H Q:=by
 obtain ⟨S,ρ,Q3,fc,sl,ht,k⟩:=h
 refine ⟨S,ρ,_,fc,sl,ht,fun v H1 d s1 d1 q1=>?_⟩
 cases d with
 | bl b=>simp only [Dn] at d1; exact ⟨b,d1,k b H1 s1 q1⟩
 | _=>exact q1.elim
theorem GW {t t':TE} {σ:L2.St} {H:Hp} {Q:Bool->Hp->Prop} (f:∀ σ H Q,t' σ H Q->t σ H Q) (h:JD t' σ H Q):JD t σ H Q:=f σ H _ h
theorem QP {a b:Expr} {op:CmpOp} {pos:Pos} {r:R2} {f:F2} {ta tb:WE} (ho:kB X (compareOp op) r) (h3:O3 X.K r f) (ha:cZ X a ta) (hb:cZ X b tb) (hm:behindInMarks op b=false):cZ X (.Compare a [op] [b] pos) (gH f ta tb) :=
 imp (UZ ho ha hb hm) fun _ _ _=>qV h3
theorem tX {a b:Expr} {op:CmpOp} {pos:Pos} {r:R2} {f:F2} {ta tb:WE} (ho:kB X (compareOp op) r) (h3:O3 X.K r f) (ha:cZ X a ta) (hb:cZ X b tb) (hm:behindInMarks op b=false):yI X (.Compare a [op] [b] pos) (mV (gH f ta tb)) :=
 QL (U0 ho ha hb hm) fun _ _ _ h=>GW (fun _ _ _=>qV h3) (LS h)
theorem w4 {K:PySem.W.Frag} {g:Int->Int->Bool}:O3 K (LC fun i j=>.bl (g i j)) (wZ fun i j=>.bl (g i j)):=by
 intro S H x y dx dy Q3 Q fc hx hy hf k
 cases dx<;>cases dy<;>try exact hf.elim
 simp only [Dn] at hx hy
 exact ⟨_,_,hx,hy,k _ H _ (Same.refl H) (by simp only [Dn]) hf⟩
def QQ:D->D->Bool
 | .non,.non=>true | .non,.int _=>true | .int _,.non=>true | .non,.bl _=>true | .bl _,.non=>true | .non,.str _=>true | .str _,.non=>true
 | .int _,.int _=>true | .bl _,.bl _=>true | .str _,.str _=>true | .int _,.str _=>true | .str _,.int _=>true | .bl _,.str _=>true | .str _,.bl _=>true
 | _,_=>false
def eqS:D->D->Bool
 | .non,.non=>true
 | .int i,.int j=>decide (i=j)
 | .bl i,.bl j=>decide (i=j)
 | .str i,.str j=>decide (i=j)
 | _,_=>false
def VG:F2:=fun x y Q=>QQ x y=true/\Q (.bl (eqS x y))
def VH:F2:=fun x y Q=>QQ x y=true/\Q (.bl (!eqS x y))
theorem JL {K:PySem.W.Frag} {S:Addr->Prop} {H:Hp} {x y:V} {dx dy:D} (hx:Dn K S H dx x) (hy:Dn K S H dy y) (h:QQ dx dy=true):ZW x y=true/\decide (x=y)=eqS dx dy:=by
 cases dx<;>first
  | (exact absurd (show false=true from h) Bool.false_ne_true)
  | skip
 all_goals (cases dy<;>first
  | (exact absurd (show false=true from h) Bool.false_ne_true)
  | (simp only [Dn] at hx hy; subst hx; subst hy; exact ⟨rfl,by first | exact B1 | exact GI | exact B2 | exact decide_eq_false (fun h=>by cases h) | exact decide_eq_true rfl⟩))
theorem QR {K:PySem.W.Frag}:O3 K rEq VG:=by
 intro S H x y dx dy Q3 Q fc hx hy hf k
 obtain ⟨h1,h2⟩:=JL hx hy hf.1
 exact ⟨h1,k _ H _ (Same.refl H) (by simp only [Dn]; rw [h2]) hf.2⟩
theorem QS {K:PySem.W.Frag}:O3 K rNe VH:=by
 intro S H x y dx dy Q3 Q fc hx hy hf k
 obtain ⟨h1,h2⟩:=JL hx hy hf.1
 exact ⟨h1,k _ H _ (Same.refl H) (by simp only [Dn]; rw [h2]) hf.2⟩
def allI:List D->Bool
 | []=>true
 | .int _::r=>allI r
 | _::_=>false
def yR (i:Int):List D->Bool
 | []=>false
 | .int j::r=>j == i||yR i r
 | _::r=>yR i r
theorem AE:∀ ns:List Int,allI (ns.map D.int)=true
 | []=>rfl
 | n::ns=>by rw [List.map_cons]; exact AE ns
theorem AG (i:Int):∀ ns:List Int,yR i (ns.map D.int)=ns.contains i
 | []=>rfl
 | n::ns=>by
  rw [List.map_cons,yR,AG i ns,List.contains_cons]
  congr 1
  exact Bool.beq_comm
theorem CD:∀ {ds:List D},allI ds=true -> ∃ ns:List Int,ds=ns.map D.int
 | [],_=>⟨[],rfl⟩
 | .int n::r,h=>by
  obtain ⟨ns,e⟩:=CD (ds:=r) h
  exact ⟨n::ns,by rw [e]; rfl⟩
 | .non::r,h=>absurd (show false=true from h) Bool.false_ne_true
 | .bl _::r,h=>absurd (show false=true from h) Bool.false_ne_true
 | .str _::r,h=>absurd (show false=true from h) Bool.false_ne_true
 | .tup _::r,h=>absurd (show false=true from h) Bool.false_ne_true
 | .lst _::r,h=>absurd (show false=true from h) Bool.false_ne_true
 | .lD _::r,h=>absurd (show false=true from h) Bool.false_ne_true
 | .jX _ _::r,h=>absurd (show false=true from h) Bool.false_ne_true
 | .eL _ _ _::r,h=>absurd (show false=true from h) Bool.false_ne_true
def inF (neg:Bool):F2
 | .int i,.tup ds,Q=>allI ds=true/\Q (.bl (if neg then !yR i ds else yR i ds))
 | .int i,.lst ds,Q=>allI ds=true/\Q (.bl (if neg then !yR i ds else yR i ds))
 | _,_,_=>False
theorem w8 (i:Int):∀ ns:List Int,inV (.int i) (ns.map V.int)=yR i (ns.map D.int)
 | []=>rfl
 | n::ns=>by
  have e:=w8 i ns
  unfold inV at e ⊢
  rw [List.map_cons,List.map_cons,List.any_cons,yR,e]
  rfl
theorem sQ:∀ ns:List Int,(ns.map V.int).all qS=true
 | []=>rfl
 | n::ns=>by rw [List.map_cons,List.all_cons,sQ ns]; rfl
theorem JM {K:PySem.W.Frag} {neg:Bool}:O3 K (rIn K neg) (inF neg):=by
 intro S H x y dx dy Q3 Q fc hx hy hf k
 cases dx with
 | int i =>
  simp only [Dn] at hx
  subst hx
  cases dy with
  | tup ds =>
   simp only [Dn] at hy
   obtain ⟨a,xs,rfl,ha,da⟩:=hy
   obtain ⟨h1,h2⟩:=hf
   obtain ⟨ns,rfl⟩:=CD h1
   have e:=aQ.ints.mp da
   subst e
   refine ⟨a,_,rfl,.inr (gC.of ha),rfl,sQ ns,k _ H _ (Same.refl H) ?_ h2⟩
   simp only [Dn]
   rw [w8]
  | lst ds =>
   simp only [Dn] at hy
   obtain ⟨a,xs,rfl,ha,_,da⟩:=hy
   obtain ⟨h1,h2⟩:=hf
   obtain ⟨ns,rfl⟩:=CD h1
   have e:=aQ.ints.mp da
   subst e
   refine ⟨a,_,rfl,.inl (eV.of ha),rfl,sQ ns,k _ H _ (Same.refl H) ?_ h2⟩
   simp only [Dn]
   rw [w8]
  | _=>exact hf.elim
 | _=>cases dy<;>exact hf.elim
section
variable {a b:Expr} {pos:Pos} {ta tb:WE}
def ltF:F2:=wZ fun i j=>.bl (decide (i<j))
def gtF:F2:=wZ fun i j=>.bl (decide (i>j))
def geF:F2:=wZ fun i j=>.bl (decide (i >= j))
theorem aG6 (ha:cZ X a ta) (hb:cZ X b tb):cZ X (.Compare a [.Eq] [b] pos) (gH VG ta tb):=QP XH QR ha hb (lM _)
theorem aG7 (ha:cZ X a ta) (hb:cZ X b tb):cZ X (.Compare a [.NotEq] [b] pos) (gH VH ta tb):=QP XI QS ha hb (lM _)
theorem in3 (ha:cZ X a ta) (hb:cZ X b tb) (hm:behindInMarks .In b=false:=by with_unfolding_all rfl):cZ X (.Compare a [.In] [b] pos) (gH (inF false) ta tb):=QP zZ JM ha hb hm
theorem aG8 (ha:cZ X a ta) (hb:cZ X b tb) (hm:behindInMarks .NotIn b=false:=by with_unfolding_all rfl):cZ X (.Compare a [.NotIn] [b] pos) (gH (inF true) ta tb):=QP qU JM ha hb hm
theorem aG9 (ha:cZ X a ta) (hb:cZ X b tb):yI X (.Compare a [.Lt] [b] pos) (mV (gH ltF ta tb)):=tX XJ w4 ha hb (lM _)
theorem aGa (ha:cZ X a ta) (hb:cZ X b tb):yI X (.Compare a [.Gt] [b] pos) (mV (gH gtF ta tb)):=tX aBy w4 ha hb (lM _)
theorem aGb (ha:cZ X a ta) (hb:cZ X b tb):yI X (.Compare a [.GtE] [b] pos) (mV (gH geF ta tb)):=tX aBz w4 ha hb (lM _)
theorem aCV (ha:cZ X a ta) (hb:cZ X b tb):yI X (.Compare a [.Eq] [b] pos) (mV (gH VG ta tb)):=tX XH QR ha hb (lM _)
theorem aCW (ha:cZ X a ta) (hb:cZ X b tb):yI X (.Compare a [.NotEq] [b] pos) (mV (gH VH ta tb)):=tX XI QS ha hb (lM _)
theorem aGc (ha:cZ X a ta) (hb:cZ X b tb) (hm:behindInMarks .In b=false:=by with_unfolding_all rfl):yI X (.Compare a [.In] [b] pos) (mV (gH (inF false) ta tb)):=tX zZ JM ha hb hm
theorem aCX (ha:cZ X a ta) (hb:cZ X b tb) (hm:behindInMarks .NotIn b=false:=by with_unfolding_all rfl):yI X (.Compare a [.NotIn] [b] pos) (mV (gH (inF true) ta tb)):=tX qU JM ha hb hm
end
def isD:D->Bool
 | .non=>true
 | _=>false
def VI:F2:=fun x y Q=>isD y=true/\Q (.bl (isD x))
theorem QT {K:PySem.W.Frag}:O3 K (fun x y H Q=>y=.non/\Q (.bl (decide (x=.non))) H) VI:=by
 intro S H x y dx dy Q3 Q fc hx hy hf k
 obtain ⟨h1,h2⟩:=hf
 cases dy<;>try exact absurd (show false=true from h1) Bool.false_ne_true
 simp only [Dn] at hy
 refine ⟨hy,k _ H _ (Same.refl H) ?_ h2⟩
 cases dx<;>simp only [Dn] at hx ⊢
 all_goals first
  | (subst hx; simp [isD])
  | (obtain ⟨a,xs,rfl,_⟩:=hx; simp [isD])
  | (obtain ⟨a,_,xs,rfl,_⟩:=hx; simp [isD])
  | (obtain ⟨a,rfl,_⟩:=hx; simp [isD])
theorem aCY {a b:Expr} {pos:Pos} {ta tb:WE} (ha:cZ X a ta) (hb:cZ X b tb):yI X (.Compare a [.Is] [b] pos) (mV (gH VI ta tb)):=tX PY QT ha hb (lM _)
theorem aGd {a b:Expr} {pos:Pos} {ta tb:WE} (ha:cZ X a ta) (hb:cZ X b tb):cZ X (.Compare a [.Is] [b] pos) (gH VI ta tb):=QP PY QT ha hb (lM _)
def aCZ (t:WT):WT:=fun ρ Q=>t ρ fun b=>Q (!b)
def aC0 (t u:WT):WT:=fun ρ Q=>t ρ fun b=>if b=true then u ρ Q else Q false
def aGe (t u:WT):WT:=fun ρ Q=>t ρ fun b=>if b=true then Q true else u ρ Q
def NS (X:Cx) (e:Expr) (t:WT):Prop:=PW X e (liftT X.K t)
theorem aAF {e:Expr} {t t':TT} (h:PW X e t) (f:∀ σ H Q,t' σ H Q->t σ H Q):PW X e t':=fun wh pins s σ H Q I q=>h wh pins s σ H Q I (f σ H Q q)
section
variable {a b:Expr} {rest:List Expr} {pos:Pos} {ta tb:WT}
theorem NS.pt {e:Expr} {t:WT} (h:NS X e t):yI X e t:=PW.pt h
theorem aC1 (ha:yI X a ta):yI X (.UnaryOp .Not a pos) (aCZ ta):=QL (ZF ha) fun σ H Q aGf=>by obtain ⟨S,ρ,Q3,fc,sl,ht,k⟩:=aGf; exact ⟨S,ρ,_,fc,sl,ht,fun b H1 s1 q1=>k (!b) H1 s1 q1⟩
theorem aGg (ha:yI X a ta):NS X (.BoolOp .And [a] pos) ta:=US ha
theorem or1 (ha:yI X a ta):NS X (.BoolOp .Or [a] pos) ta:=ZD ha
theorem aC2 (ha:yI X a ta) (hb:NS X (.BoolOp .And (b::rest) pos) tb):NS X (.BoolOp .And (a::b::rest) pos) (aC0 ta tb):=aAF (ZE ha hb) fun σ H Q aGh=>by
 obtain ⟨S,ρ,Q3,fc,sl,ht,k⟩:=aGh
 refine ⟨S,ρ,_,fc,sl,ht,fun c H1 s1 q1=>?_⟩
 cases c with
 | true=>rw [if_pos rfl] at q1 ⊢; exact ⟨S,ρ,Q3,bH fc s1,Sl.fits (.same s1) sl,q1,fun b' H2 s2 q2=>k b' H2 (s1.trans s2) q2⟩
 | false=>rw [if_neg Bool.false_ne_true] at q1 ⊢; exact k false H1 s1 q1
theorem aGi (ha:yI X a ta) (hb:NS X (.BoolOp .Or (b::rest) pos) tb):NS X (.BoolOp .Or (a::b::rest) pos) (aGe ta tb):=aAF (aBe ha hb) fun σ H Q aGj=>by
 obtain ⟨S,ρ,Q3,fc,sl,ht,k⟩:=aGj
 refine ⟨S,ρ,_,fc,sl,ht,fun c H1 s1 q1=>?_⟩
 cases c with
 | false=>rw [if_neg Bool.false_ne_true] at q1 ⊢; exact ⟨S,ρ,Q3,bH fc s1,Sl.fits (.same s1) sl,q1,fun b' H2 s2 q2=>k b' H2 (s1.trans s2) q2⟩
 | true=>rw [if_pos rfl] at q1 ⊢; exact k true H1 s1 q1
end
def aGk (ta tb:WE):WE:=fun ρ Q=>ta ρ fun x=>match x with
 | .bl true=>tb ρ Q
 | .bl false=>Q (.bl false)
 | _=>False
def wOr (ta tb:WE):WE:=fun ρ Q=>ta ρ fun x=>match x with
 | .bl true=>Q (.bl true)
 | .bl false=>tb ρ Q
 | _=>False
def aGl (ta:WE):WE:=fun ρ Q=>ta ρ fun x=>match x with
 | .bl b=>Q (.bl (!b))
 | _=>False
def wIf (t:WT) (ta tb:WE):WE:=fun ρ Q=>t ρ fun b=>if b=true then ta ρ Q else tb ρ Q
section
variable {a b c:Expr} {rest:List Expr} {pos:Pos} {ta tb:WE} {tc:WT}
theorem aGm {op} (ha:cZ X a ta):cZ X (.BoolOp op [a] pos) ta:=ZG ha
theorem aGn (ha:cZ X a ta) (hb:cZ X (.BoolOp .And (b::rest) pos) tb):cZ X (.BoolOp .And (a::b::rest) pos) (aGk ta tb):=imp (ZH ha hb) fun σ H Q aGo=>by
 obtain ⟨S,ρ,Q3,fc,sl,ht,k⟩:=aGo
 refine ⟨S,ρ,_,fc,sl,ht,fun v H1 d s1 d1 q1=>?_⟩
 cases d with
 | bl c =>
  simp only [Dn] at d1
  refine ⟨c,d1,?_⟩
  cases c with
  | true=>rw [if_pos rfl]; exact ⟨S,ρ,Q3,bH fc s1,Sl.fits (.same s1) sl,q1,fun v' H2 d' s2 d2 q2=>k v' H2 d' (s1.trans s2) d2 q2⟩
  | false=>rw [if_neg Bool.false_ne_true]; exact k _ H1 (.bl false) s1 (by simp only [Dn]) q1
 | _=>exact q1.elim
theorem or3 (ha:cZ X a ta) (hb:cZ X (.BoolOp .Or (b::rest) pos) tb):cZ X (.BoolOp .Or (a::b::rest) pos) (wOr ta tb):=imp (aBh ha hb) fun σ H Q aGp=>by
 obtain ⟨S,ρ,Q3,fc,sl,ht,k⟩:=aGp
 refine ⟨S,ρ,_,fc,sl,ht,fun v H1 d s1 d1 q1=>?_⟩
 cases d with
 | bl c =>
  simp only [Dn] at d1
  refine ⟨c,d1,?_⟩
  cases c with
  | false=>rw [if_neg Bool.false_ne_true]; exact ⟨S,ρ,Q3,bH fc s1,Sl.fits (.same s1) sl,q1,fun v' H2 d' s2 d2 q2=>k v' H2 d' (s1.trans s2) d2 q2⟩
  | true=>rw [if_pos rfl]; exact k _ H1 (.bl true) s1 (by simp only [Dn]) q1
 | _=>exact q1.elim
theorem aGq (ha:cZ X a ta):cZ X (.UnaryOp .Not a pos) (aGl ta):=imp (ZI ha) fun σ H Q aGr=>by
 obtain ⟨S,ρ,Q3,fc,sl,ht,k⟩:=aGr
 refine ⟨S,ρ,_,fc,sl,ht,fun v H1 d s1 d1 q1=>?_⟩
 cases d with
 | bl c=>simp only [Dn] at d1; exact ⟨c,d1,k _ H1 (.bl (!c)) s1 (by simp only [Dn]) q1⟩
 | _=>exact q1.elim
theorem if3 (hc:yI X c tc) (ha:cZ X a ta) (hb:cZ X b tb):cZ X (.IfExp c a b pos) (wIf tc ta tb):=imp (PK hc ha hb) fun σ H Q aGs=>by
 obtain ⟨S,ρ,Q3,fc,sl,ht,k⟩:=aGs
 refine ⟨S,ρ,_,fc,sl,ht,fun c H1 s1 q1=>?_⟩
 cases c with
 | true=>rw [if_pos rfl] at q1 ⊢; exact ⟨S,ρ,Q3,bH fc s1,Sl.fits (.same s1) sl,q1,fun v' H2 d' s2 d2 q2=>k v' H2 d' (s1.trans s2) d2 q2⟩
 | false=>rw [if_neg Bool.false_ne_true] at q1 ⊢; exact ⟨S,ρ,Q3,bH fc s1,Sl.fits (.same s1) sl,q1,fun v' H2 d' s2 d2 q2=>k v' H2 d' (s1.trans s2) d2 q2⟩
def aGt (ta:WE):WE:=fun ρ Q=>ta ρ fun x=>match x with
 | .int i=>Q (.int (-i))
 | _=>False
theorem aGu (ha:cZ X a ta):cZ X (.UnaryOp .USub a pos) (aGt ta):=imp (aBt ZV ha) fun σ H Q aGv=>by
 obtain ⟨S,ρ,Q3,fc,sl,ht,k⟩:=aGv
 refine ⟨S,ρ,_,fc,sl,ht,fun v H1 d s1 d1 q1=>?_⟩
 cases d with
 | int i=>simp only [Dn] at d1; exact ⟨i,d1,k _ H1 (.int (-i)) s1 (by simp only [Dn]) q1⟩
 | _=>exact q1.elim
end
def GX (f g:F2) (ta tb tc:WE):WE:=fun ρ Q=>ta ρ fun x=>tb ρ fun y=>f x y fun z=>match z with
 | .bl true=>tc ρ fun u=>g y u Q
 | .bl false=>Q (.bl false)
 | _=>False
theorem GY {K:PySem.W.Frag} {r r':R2} {f g:F2} {ta tb tc:WE} {σ:L2.St} {H:Hp} {Q:VK} (h1:O3 K r f) (h2:O3 K r' g) (h:lift K (GX f g ta tb tc) σ H Q):PZ r r' (lift K ta) (lift K tb) (lift K tc) σ H Q:=by
 obtain ⟨S,ρ,Q3,fc,sl,ht,k⟩:=h
 refine ⟨S,ρ,_,fc,sl,ht,fun v H1 d s1 d1 q1=>?_⟩
 refine ⟨S,ρ,_,bH fc s1,Sl.fits (.same s1) sl,q1,fun u H2 e s2 e1 q2=>?_⟩
 refine h1 S H2 v u d e _ _ (bH fc (s1.trans s2)) (Dn.fits (.same s2) _ _ d1) e1 q2 fun z H3 dz s3 dz1 q3=>?_
 cases dz with
 | bl c =>
  simp only [Dn] at dz1
  refine ⟨c,dz1,?_⟩
  cases c with
  | false=>rw [if_neg Bool.false_ne_true]; exact k _ H3 (.bl false) ((s1.trans s2).trans s3) (by simp only [Dn]) q3
  | true =>
   rw [if_pos rfl]
   refine ⟨S,ρ,_,bH fc ((s1.trans s2).trans s3),Sl.fits (.same ((s1.trans s2).trans s3)) sl,q3,fun w' H4 dw s4 dw1 q4=>?_⟩
   exact h2 S H4 u w' e dw Q3 Q (bH fc (((s1.trans s2).trans s3).trans s4)) (Dn.fits (.same (s3.trans s4)) _ _ e1) dw1 q4 fun v' H5 d' s5 d5 q5=>k v' H5 d' ((((s1.trans s2).trans s3).trans s4).trans s5) d5 q5
 | _=>exact q3.elim
theorem aAG {a b c:Expr} {op op':CmpOp} {pos:Pos} {r r':R2} {f g:F2} {ta tb tc:WE} (ho:kB X (compareOp op) r) (ho':kB X (compareOp op') r') (h1:O3 X.K r f) (h2:O3 X.K r' g) (ha:cZ X a ta) (hb:cZ X b tb) (hc:cZ X c tc)
  (hm:lastMarks [op,op'] [b,c]=false:=by with_unfolding_all rfl):cZ X (.Compare a [op,op'] [b,c] pos) (GX f g ta tb tc):=imp (P0 ho ho' ha hb hc hm) fun _ _ _=>GY h1 h2
def ixF:F2
 | .lst ds,.int i,Q=>(match uF ds i with | some d=>Q d | none=>False)
 | .tup ds,.int i,Q=>(match uF ds i with | some d=>Q d | none=>False)
 | .lD ns,.int i,Q=>(match uF ns i with | some n=>Q (.int n) | none=>False)
 | _,_,_=>False
theorem aQ.at {K:PySem.W.Frag} {S:Addr->Prop} {H:Hp} {ds:List D} {xs:List V} {i:Int} {d:D} (h:aQ K S H ds xs) (e:uF ds i=some d):∃ v,uF xs i=some v/\Dn K S H d v:=by
 unfold uF at e ⊢
 rw [<- h.len]
 cases q:LI ds.length i with
 | none=>rw [q] at e; cases e
 | some j =>
  rw [q] at e
  obtain ⟨v,e1,dn⟩:=h.get (i:=j) (d:=d) e
  exact ⟨v,e1,dn⟩
theorem VJ {α β:Type} (f:α->β) (xs:List α) (i:Int):uF (xs.map f) i=(uF xs i).map f:=by
 unfold uF
 rw [List.length_map]
 cases LI xs.length i with
 | none=>rfl
 | some j=>simp
theorem aC3 {K:PySem.W.Frag}:O3 K (fun x y H Q=>aCG K x y H Q\/aCH K x y H Q) ixF:=by
 intro S H x y dx dy Q3 Q fc hx hy hf k
 cases dx with
 | lst ds =>
  cases dy with
  | int i =>
   simp only [Dn] at hx hy
   obtain ⟨a,xs,rfl,ha,sa,da⟩:=hx
   have hf:(match uF ds i with | some d=>Q3 d | none=>False):=hf
   cases e:uF ds i with
   | none=>rw [e] at hf; exact hf.elim
   | some d =>
    rw [e] at hf
    obtain ⟨v,e1,dv⟩:=da.at e
    exact .inl ⟨a,xs,i,v,rfl,hy,eV.of ha,e1,k v H d (Same.refl H) dv hf⟩
  | _=>exact hf.elim
 | tup ds =>
  cases dy with
  | int i =>
   simp only [Dn] at hx hy
   obtain ⟨a,xs,rfl,ha,da⟩:=hx
   have hf:(match uF ds i with | some d=>Q3 d | none=>False):=hf
   cases e:uF ds i with
   | none=>rw [e] at hf; exact hf.elim
   | some d =>
    rw [e] at hf
    obtain ⟨v,e1,dv⟩:=da.at e
    exact .inr ⟨a,xs,i,v,rfl,hy,(gC.of ha),e1,k v H d (Same.refl H) dv hf⟩
  | _=>exact hf.elim
 | lD ns =>
  cases dy with
  | int i =>
   simp only [Dn] at hx hy
   obtain ⟨a,rfl,ha⟩:=hx
   have hf:(match uF ns i with | some n=>Q3 (.int n) | none=>False):=hf
   cases e:uF ns i with
   | none=>rw [e] at hf; exact hf.elim
   | some n =>
    rw [e] at hf
    exact .inl ⟨a,_,i,.int n,rfl,hy,ha.sq,by rw [VJ,e]; rfl,k _ H (.int n) (Same.refl H) (by simp only [Dn]) hf⟩
  | _=>exact hf.elim
 | _=>cases dy<;>exact hf.elim
theorem ix3 {a b:Expr} {pos:Pos} {ta tb:WE} (ha:cZ X a ta) (hb:cZ X b tb) (hs:B5 b:=by intro _ _; rfl):cZ X (.Subscript a b pos) (gH ixF ta tb) :=
 imp (aCF (U8.or Z5) ha hb hs) fun _ _ _=>qV aC3
abbrev F1:=List D->(D->Prop)->Prop
def LU (f:F1) (t:WA):WE:=fun ρ Q=>t ρ fun ds=>f ds Q
def C3 (K:PySem.W.Frag) (r:List V->Hp->VK->Prop) (f:F1):Prop:=∀ (S:Addr->Prop) (H:Hp) (xs:List V) (ds:List D) (Q3:D->Prop) (Q:VK),(∀ a,H a=none->S a)->aQ K S H ds xs->f ds Q3 ->
 (∀ v H' d,Same H H'->Dn K S H' d v->Q3 d->Q v H')->r xs H Q
def C3F (K:PySem.W.Frag) (r:List V->Hp->VK->Prop) (f:F1):Prop:=∀ (S:Addr->Prop) (H:Hp) (xs:List V) (ds:List D) (Q3:D->Prop) (Q:VK),(∀ a,H a=none->S a)->aQ K S H ds xs->f ds Q3 ->
 (∀ p ys H' es,H p=none->H' p=some (.lst ys)->Same H H'->aQ K (fun a=>S a/\a≠p) H' es ys->Q3 (.lst es)->Q (.ref p) H')->r xs H Q
theorem JN {K:PySem.W.Frag} {r:List V->Hp->VK->Prop} {f:F1} {t:WA} {σ:L2.St} {H:Hp} {Q:VK} (h3:C3 K r f) (h:lift K (LU f t) σ H Q):tCB r (QJ K t) σ H Q:=by
 obtain ⟨S,ρ,Q3,fc,sl,ht,k⟩:=h
 refine ⟨S,ρ,_,fc,sl,ht,fun vs H1 ds s1 d1 q1=>?_⟩
 exact h3 S H1 vs ds Q3 Q (bH fc s1) d1 q1 fun v H' d s' d' q'=>k v H' d (s1.trans s') d' q'
theorem D3 {K:PySem.W.Frag} {r:List V->Hp->VK->Prop} {f:F1} {t:WA} {σ:L2.St} {H:Hp} {Q:VK} (h3:C3F K r f) (h:QK K (LU f t) σ H Q):tCB r (QJ K t) σ H Q:=by
 obtain ⟨S,ρ,Q3,fc,sl,ht,k⟩:=h
 refine ⟨S,ρ,_,fc,sl,ht,fun vs H1 ds s1 d1 q1=>?_⟩
 exact h3 S H1 vs ds Q3 Q (bH fc s1) d1 q1 fun p ys H' es hp hp' s' d' q'=>k p ys H' es (s1.free hp) hp' (s1.trans s') d' q'
theorem CF {x:Str} {p pos:Pos} {e:Expr} {es:List Expr} {t:WA} {id:String} {r:List V->Hp->VK->Prop} {f:F1} (hc:gS X (.builtin id) r) (h3:C3 X.K r f) (hv:bootBuiltins x=some (.builtin id)) (hg:Gl X x) (hm:X.mg x=none) (ha:wW X (e::es) t) (hn:x ≠ "__name__" := by decide) (hdb:(x == ("__debug__" : Str))=false:=by decide)
  (he:starEach (e::es) X.env=(false,eval e X.env)::starEach es X.env:=by rfl) (hpl:(backTo pos (starEach es X.env)).any (·.1)=false:=by rfl):cZ X (.Call (.Name x p) (e::es) [] pos) (LU f t) :=
 imp (mS hc hg hm hv ha hn hdb he hpl) fun _ _ _=>JN h3
theorem VL {x:Str} {p pos:Pos} {e:Expr} {es:List Expr} {t:WA} {id:String} {r:List V->Hp->VK->Prop} {f:F1} (hc:gS X (.builtin id) r) (h3:C3F X.K r f) (hv:bootBuiltins x=some (.builtin id)) (hg:Gl X x) (hm:X.mg x=none) (ha:wW X (e::es) t) (hn:x ≠ "__name__" := by decide) (hdb:(x == ("__debug__" : Str))=false:=by decide)
  (he:starEach (e::es) X.env=(false,eval e X.env)::starEach es X.env:=by rfl) (hpl:(backTo pos (starEach es X.env)).any (·.1)=false:=by rfl):D2 X (.Call (.Name x p) (e::es) [] pos) (LU f t) :=
 imp (mS hc hg hm hv ha hn hdb he hpl) fun _ _ _=>D3 h3
theorem VM {x:Str} {p pos:Pos} {e:Expr} {es:List Expr} {t:WA} {T:String} {r:List V->Hp->VK->Prop} {f:F1} (hc:gS X (.type T) r) (h3:C3 X.K r f) (hv:bootBuiltins x=some (.type T)) (hg:Gl X x) (hm:X.mg x=none) (ha:wW X (e::es) t) (hn:x ≠ "__name__" := by decide) (hdb:(x == ("__debug__" : Str))=false:=by decide)
  (he:starEach (e::es) X.env=(false,eval e X.env)::starEach es X.env:=by rfl) (hpl:(backTo pos (starEach es X.env)).any (·.1)=false:=by rfl):cZ X (.Call (.Name x p) (e::es) [] pos) (LU f t) :=
 imp (n0 hc hg hm hv ha hn hdb he hpl) fun _ _ _=>JN h3
theorem QU {x:Str} {p pos:Pos} {e:Expr} {es:List Expr} {t:WA} {T:String} {r:List V->Hp->VK->Prop} {f:F1} (hc:gS X (.type T) r) (h3:C3F X.K r f) (hv:bootBuiltins x=some (.type T)) (hg:Gl X x) (hm:X.mg x=none) (ha:wW X (e::es) t) (hn:x ≠ "__name__" := by decide) (hdb:(x == ("__debug__" : Str))=false:=by decide)
  (he:starEach (e::es) X.env=(false,eval e X.env)::starEach es X.env:=by rfl) (hpl:(backTo pos (starEach es X.env)).any (·.1)=false:=by rfl):D2 X (.Call (.Name x p) (e::es) [] pos) (LU f t) :=
 imp (n0 hc hg hm hv ha hn hdb he hpl) fun _ _ _=>D3 h3
def GZ:F1
 | [.lst ds],Q=>Q (.int ds.length)
 | [.tup ds],Q=>Q (.int ds.length)
 | [.lD ns],Q=>Q (.int ns.length)
 | _,_=>False
theorem aAH {K:PySem.W.Frag}:C3 K (fun xs H Q=>∃ p ys,xs=[.ref p]/\(eV K H p ys\/gC K H p ys)/\Q (.int ys.length) H) GZ:=by
 intro S H xs ds Q3 Q fc hd hf k
 match ds,hf with
 | [.lst es],hf =>
  obtain ⟨v,r,rfl,h1,h2⟩:=hd.bI
  simp only [aQ] at h2
  subst h2
  simp only [Dn] at h1
  obtain ⟨a,ys,rfl,ha,sa,da⟩:=h1
  exact ⟨a,ys,rfl,.inl (eV.of ha),k _ H _ (Same.refl H) (by simp only [Dn]; rw [da.len]) hf⟩
 | [.tup es],hf =>
  obtain ⟨v,r,rfl,h1,h2⟩:=hd.bI
  simp only [aQ] at h2
  subst h2
  simp only [Dn] at h1
  obtain ⟨a,ys,rfl,ha,da⟩:=h1
  exact ⟨a,ys,rfl,.inr (gC.of ha),k _ H _ (Same.refl H) (by simp only [Dn]; rw [da.len]) hf⟩
 | [.lD ns],hf =>
  obtain ⟨v,r,rfl,h1,h2⟩:=hd.bI
  simp only [aQ] at h2
  subst h2
  simp only [Dn] at h1
  obtain ⟨a,rfl,ha⟩:=h1
  exact ⟨a,_,rfl,.inl ha.sq,k _ H _ (Same.refl H) (by simp only [Dn]; rw [List.length_map]) hf⟩
theorem aGx {p pos:Pos} {e:Expr} {t:WA} (hm:X.mg "len" = none) (ha:wW X [e] t) (hg:Gl X "len" := by rfl)
  (he:starEach [e] X.env=(false,eval e X.env)::starEach [] X.env:=by rfl):cZ X (.Call (.Name "len" p) [e] [] pos) (LU GZ t):=CF B7 aAH PySem.boot_len hg hm ha (by decide) (by decide) he (by rfl)
def G0:F1
 | [.lst ds],Q=>Q (.tup ds)
 | [.tup ds],Q=>Q (.tup ds)
 | _,_=>False
theorem QV {K:PySem.W.Frag}:C3 K (fun xs H Q=>∃ p ys,xs=[.ref p]/\((eV K H p ys /\ ∀ l,H l=none->Q (.ref l) (upd H l (.tup ys)))\/(gC K H p ys/\Q (.ref p) H))) G0:=by
 intro S H xs ds Q3 Q fc hd hf k
 match ds,hf with
 | [.lst es],hf =>
  obtain ⟨v,r,rfl,h1,h2⟩:=hd.bI
  simp only [aQ] at h2
  subst h2
  simp only [Dn] at h1
  obtain ⟨a,ys,rfl,ha,sa,da⟩:=h1
  refine ⟨a,ys,rfl,.inl ⟨eV.of ha,fun l hl=>k _ _ _ (aM hl) ?_ hf⟩⟩
  simp only [Dn]
  exact ⟨l,ys,rfl,bA,aQ.fits (.same (aM hl)) _ _ da⟩
 | [.tup es],hf =>
  obtain ⟨v,r,rfl,h1,h2⟩:=hd.bI
  simp only [aQ] at h2
  subst h2
  have h1':=h1
  simp only [Dn] at h1
  obtain ⟨a,ys,rfl,ha,da⟩:=h1
  exact ⟨a,ys,rfl,.inr ⟨(gC.of ha),k _ H _ (Same.refl H) h1' hf⟩⟩
theorem aAI {p pos:Pos} {e:Expr} {t:WA} (hm:X.mg "tuple" = none) (hv:bootBuiltins "tuple" = some (.type "tuple")) (ha:wW X [e] t) (hg:Gl X "tuple" := by rfl)
  (he:starEach [e] X.env=(false,eval e X.env)::starEach [] X.env:=by rfl):cZ X (.Call (.Name "tuple" p) [e] [] pos) (LU G0 t):=VM yP QV hv hg hm ha (by decide) (by decide) he (by rfl)
def QW:F1
 | [.lst ds],Q=>Q (.lst ds)
 | [.tup ds],Q=>Q (.lst ds)
 | _,_=>False
theorem VN {K:PySem.W.Frag}:C3F K (fun xs H Q=>∃ p ys,xs=[.ref p]/\(eV K H p ys\/gC K H p ys) /\ ∀ l,H l=none->Q (.ref l) (upd H l (.lst ys))) QW:=by
 intro S H xs ds Q3 Q fc hd hf k
 match ds,hf with
 | [.lst es],hf =>
  obtain ⟨v,r,rfl,h1,h2⟩:=hd.bI
  simp only [aQ] at h2
  subst h2
  simp only [Dn] at h1
  obtain ⟨a,ys,rfl,ha,sa,da⟩:=h1
  exact ⟨a,ys,rfl,.inl (eV.of ha),fun l hl=>k l ys _ es hl bA (aM hl) (aQ.fits ((Fits.fresh hl).trans (.same (aM hl))) _ _ da) hf⟩
 | [.tup es],hf =>
  obtain ⟨v,r,rfl,h1,h2⟩:=hd.bI
  simp only [aQ] at h2
  subst h2
  simp only [Dn] at h1
  obtain ⟨a,ys,rfl,ha,da⟩:=h1
  exact ⟨a,ys,rfl,.inr (gC.of ha),fun l hl=>k l ys _ es hl bA (aM hl) (aQ.fits ((Fits.fresh hl).trans (.same (aM hl))) _ _ da) hf⟩
theorem aC4 {p pos:Pos} {e:Expr} {t:WA} (hm:X.mg "list" = none) (hv:bootBuiltins "list" = some (.type "list")) (ha:wW X [e] t) (hg:Gl X "list" := by rfl)
  (he:starEach [e] X.env=(false,eval e X.env)::starEach [] X.env:=by rfl):D2 X (.Call (.Name "list" p) [e] [] pos) (LU QW t):=QU B8 VN hv hg hm ha (by decide) (by decide) he (by rfl)
abbrev Spec:=List D->(D->Prop)->Prop
def sp3 (K:PySem.W.Frag) (R:Spec):Sp:=fun vs H Q _=>∃ (S:Addr->Prop) (ds:List D) (Q3:D->Prop),(∀ a,H a=none->S a)/\aQ K S H ds vs/\R ds Q3 /\ ∀ v H' d,Same H H'->Dn K S H' d v->Q3 d->Q v H'
theorem aC5 {k:Nat} {f:Addr} {fd:FuncData} {ps:List Str} {R:Spec} {x:Str} {p pos:Pos} {e:Expr} {es:List Expr} {t:WA} (F:aN X.prog X.w X.K X.mg X.base dS k f fd ps (sp3 X.K R)) (hr:iO k X.A) (hm:X.mg x=some (.ref f)) (hk:PySem.W.keepIn X.K (.ref f)=true) (hb:Binds X.K fd ps [])
  (ha:wW X (e::es) t) (hg:Gl X x:=by rfl) (hdb:(x == ("__debug__" : Str))=false:=by decide) (he:starEach (e::es) X.env=(false,eval e X.env)::starEach es X.env:=by rfl) (hpl:(backTo pos (starEach es X.env)).any (·.1)=false:=by rfl) :
  cZ X (.Call (.Name x p) (e::es) [] pos) (LU R t):=imp (qP F hr hg hm hk hb .nil QC ha hdb he hpl) fun σ H Q aGy=>by
 obtain ⟨S,ρ,Q3,fc,sl,ht,k⟩:=aGy
 refine ⟨S,ρ,_,fc,sl,ht,fun vs H1 ds s1 d1 q1=>?_⟩
 show sp3 X.K R (vs++[]) H1 Q E0
 rw [List.append_nil]
 exact ⟨S,ds,Q3,bH fc s1,d1,q1,fun v H' d s' d' q'=>k v H' d (s1.trans s') d' q'⟩
end
structure DE where
 nx:aR->Prop
 rt:D->Prop
 bk:aR->Prop:=fun _=>False
 ct:aR->Prop:=fun _=>False
 ex:Str->Prop:=fun _=>False
abbrev WS:=DE->aR->Prop
structure CG (X:Cx) (pins:List (Addr×Obj)) (H:Hp) (s:Shared) (e:Addr) (cls a0:Value) (P:List Addr):Prop where
 mem:e∈P
 free:∀ q∈P,H q=none
 new:∀ q∈P,X.s₀.heap.get? q=none
 fld:∀ q∈P,∃ o vs,s.heap.get? q=some o/\o.data=.fields vs
 pin:∀ q∈P,∀ p∈X.pn++pins,p.1≠q
 tr:(∃ oe vs,s.heap.get? e=some oe/\oe.cls=cls/\oe.data=.fields vs/\vs[1]? = some .none/\vs[0]? = some a0) \/
  (∃ oe vs T oT ts,s.heap.get? e=some oe/\(oe.cls=cls/\vs[0]? = some a0)/\oe.data=.fields vs/\vs[1]? = some (.ref T)/\T∈P/\T≠e/\s.heap.get? T=some oT/\oT.data=.fields ts/\ts[3]? = some .none)
def XC (X:Cx) (c:Str) (H:Hp):Prop:=∃ C:Addr,X.mg c=some (.ref C) /\ ∀ (pins:List (Addr×Obj)) (σ:L2.St) (s:Shared) (e:Addr) (a0:Value) (P:List Addr),Inv X pins σ H s->CG X pins H s e (.ref C) a0 P->X.xe (.ref e) s
structure aAJ (K:PySem.W.Frag) (xc:Str->Hp->Prop) (n:Nat) (H₀:Hp) (S:Addr->Prop) (G:List (D×V)) (E:DE) (B:Ends):Prop where
 nx:∀ w σ H ρ,σ.length=n->ST K H₀ S w σ H ρ G->E.nx ρ->B.nx σ H
 rt:∀ v H d,Same H₀ H->Dn K S H d v->E.rt d->B.rt v H
 bk:∀ w σ H ρ,σ.length=n->ST K H₀ S w σ H ρ G->E.bk ρ->B.bk σ H
 ct:∀ w σ H ρ,σ.length=n->ST K H₀ S w σ H ρ G->E.ct ρ->B.ct σ H
 ex:∀ c H,Same H₀ H->E.ex c->xc c H
def AH (K:PySem.W.Frag) (xc:Str->Hp->Prop) (n:Nat) (t:WS):TS:=fun B σ H=>∃ (H₀:Hp) (S:Addr->Prop) (w:Nat->Addr) (ρ:aR) (G:List (D×V)) (E:DE),σ.length=n/\ST K H₀ S w σ H ρ G/\t E ρ/\aAJ K xc n H₀ S G E B
def FG (X:Cx) (st:Stmt) (t:WS):Prop:=PS X st (AH X.K (XC X) X.N.length t)
def w9 (X:Cx) (st:List Stmt) (t:WS):Prop:=BZ X st (AH X.K (XC X) X.N.length t)
section
variable {X:Cx}
theorem jY {e:Stmt} {t t':TS} (h:PS X e t) (f:∀ B σ H,t' B σ H->t B σ H):PS X e t':=fun pins s σ H B I q=>h pins s σ H B I (f B σ H q)
theorem D4 {e:List Stmt} {t t':TS} (h:BZ X e t) (f:∀ B σ H,t' B σ H->t B σ H):BZ X e t':=fun pins s σ H B I q=>h pins s σ H B I (f B σ H q)
def aC6:WS:=fun E ρ=>E.nx ρ
def aAK (t u:WS):WS:=fun E ρ=>t { E with nx:=u E } ρ
theorem aGz:w9 X [] aC6:=D4 UU fun B σ H aHA=>by obtain ⟨H₀,S,w,ρ,G,E,hl,st,ht,ok⟩:=aHA; exact ok.nx w σ H ρ hl st ht
theorem aHB {st:Stmt} {rest:List Stmt} {t u:WS} (h1:FG X st t) (h2:w9 X rest u):w9 X (st::rest) (aAK t u):=D4 (wN h1 h2) fun B σ H aHC=>by
 obtain ⟨H₀,S,w,ρ,G,E,hl,sT,ht,ok⟩:=aHC
 exact ⟨H₀,S,w,ρ,G,{ E with nx:=u E },hl,sT,ht,⟨fun w' σ' H' ρ' hl' st' q=>⟨H₀,S,w',ρ',G,E,hl',st',q,ok⟩,ok.rt,ok.bk,ok.ct,ok.ex⟩⟩
theorem aC7 {st:Stmt} {t:WS} (h1:FG X st t):w9 X [st] t:=D4 (JA h1) fun _ _ _ h=>h
def aHD (t:WE):WS:=fun E ρ=>t (cC ρ) E.rt
theorem aHE {e:Expr} {t:WE} {pos:Pos} (h:cZ X e t):FG X (.Return (some e) pos) (aHD t):=jY (GD h) fun B σ H aHF=>by
 obtain ⟨H₀,S,w,ρ,G,E,hl,st,ht,ok⟩:=aHF
 exact ⟨S,cC ρ,E.rt,st.NR,st.all,ht,fun v H' d s' d' q'=>ok.rt v H' d (st.sm.trans s') d' q'⟩
def aHG (c:WT) (t u:WS):WS:=fun E ρ=>c (cC ρ) fun b=>if b=true then t E ρ else u E ρ
theorem aHH {c:Expr} {a b:List Stmt} {pos:Pos} {tc:WT} {t u:WS} (hc:yI X c tc) (ha:w9 X a t) (hb:w9 X b u):FG X (.If c a b pos) (aHG tc t u):=jY (aBl hc ha hb) fun B σ H aHI=>by
 obtain ⟨H₀,S,w,ρ,G,E,hl,st,ht,ok⟩:=aHI
 refine ⟨S,cC ρ,_,st.NR,st.all,ht,fun d H1 s1 q1=>?_⟩
 cases d with
 | true=>rw [if_pos rfl] at q1 ⊢; exact ⟨H₀,S,w,ρ,G,E,hl,st.same s1,q1,ok⟩
 | false=>rw [if_neg Bool.false_ne_true] at q1 ⊢; exact ⟨H₀,S,w,ρ,G,E,hl,st.same s1,q1,ok⟩
def aAL (i:Nat) (t:WE):WS:=fun E ρ=>t (iT ρ) fun d=>E.nx (ρ.set i (.ro d))
def aHJ (i:Nat) (t:WE):WS:=fun E ρ=>t (iT ρ) fun d=>E.nx (ρ.set i (.ow d))
section
variable {i:Nat} {x:Str} {e:Expr} {t:WE} {pos pos':Pos}
theorem jO {N:List Str} {i:Nat} {x:Str} (h:N[i]? = some x):i<N.length:=(List.getElem?_eq_some_iff.mp h).1
theorem aHK (hN:X.N.Nodup) (he:cZ X e t) (hi:X.N[i]? = some x:=by rfl) (hx:Loc X.env.scope x:=by first | exact .inl rfl | exact .inr rfl) (hs:swapsWith e (some (.Name x pos')) pos.line X.env=pure false:=by rfl) (hf:X.fn x=true\/X.env.scope.names.lookup x=some .local:=by first | exact .inl rfl | exact .inr rfl) :
  FG X (.Assign [.Name x pos'] e pos) (aAL i t):=jY (sO hN hi hx he hs hf) fun B σ H aHL=>by
 obtain ⟨H₀,S,w,ρ,G,E,hl,st,ht,ok⟩:=aHL
 exact ⟨_,iT ρ,_,st.LQ,st.rd,ht,fun v H' d s' d' q'=>ok.nx w _ H' _ (by rw [List.length_set]; exact hl) ((st.same s').lO (by rw [hl]; exact jO hi) d') q'⟩
theorem aHM (hN:X.N.Nodup) (he:D2 X e t) (hi:X.N[i]? = some x:=by rfl) (hx:Loc X.env.scope x:=by first | exact .inl rfl | exact .inr rfl) (hs:swapsWith e (some (.Name x pos')) pos.line X.env=pure false:=by rfl) (hf:X.fn x=true\/X.env.scope.names.lookup x=some .local:=by first | exact .inl rfl | exact .inr rfl) :
  FG X (.Assign [.Name x pos'] e pos) (aHJ i t):=jY (sO hN hi hx he hs hf) fun B σ H aHN=>by
 obtain ⟨H₀,S,w,ρ,G,E,hl,st,ht,ok⟩:=aHN
 exact ⟨_,iT ρ,_,st.LQ,st.rd,ht,fun p xs H' ds hp hp' s' d' q'=>ok.nx _ _ H' _ (by rw [List.length_set]; exact hl) (st.GU (d:=.lst ds) (by rw [hl]; exact jO hi) s' hp ⟨xs,hp',d'⟩) q'⟩
end
def kC (N:List Str) (ds:List D):aR:=ds.map Sv.ro++List.replicate (N.length - ds.length) Sv.no
theorem D5 {K:PySem.W.Frag} {H:Hp} {S:Addr->Prop} {N:List Str} {ds:List D} {vs:List V} (fc:∀ a,H a=none->S a) (h:aQ K S H ds vs):ST K H S (fun _=>0) (L2.start N vs) H (kC N ds) []:=by
 have no:∀ (i:Nat) (d:D),(kC N ds)[i]?≠some (Sv.ow d):=fun i d e=>by
  unfold kC at e
  by_cases hi:i<ds.length
  ·rw [List.getElem?_append_left (by simpa using hi),List.getElem?_map] at e
   cases q:ds[i]? with
   | none=>rw [q] at e; cases e
   | some a=>rw [q] at e; cases e
  ·rw [List.getElem?_append_right (by simpa using hi),List.getElem?_replicate] at e
   split at e<;>cases e
 have so:∀ a,S a->SO S (fun _=>0) (kC N ds) a:=fun a s=>⟨s,fun i d e=>absurd e (no i d)⟩
 refine ⟨fc,Same.refl H,fun i d e=>absurd e (no i d),fun i j d e h1=>absurd h1 (no i d),fun i d e=>?_,fun g hg=>nomatch hg⟩
 unfold kC at e
 by_cases hi:i<ds.length
 ·rw [List.getElem?_append_left (by simpa using hi),List.getElem?_map] at e
  cases q:ds[i]? with
  | none=>rw [q] at e; cases e
  | some a =>
   rw [q] at e
   cases e
   obtain ⟨v,e1,dv⟩:=h.get q
   refine ⟨v,?_,Dn.fits (.mono so) _ _ dv⟩
   unfold L2.start
   have hv:i<vs.length:=(List.getElem?_eq_some_iff.mp e1).1
   rw [List.getElem?_append_left (by simpa using hv),List.getElem?_map,e1]
   rfl
 ·rw [List.getElem?_append_right (by simpa using hi),List.getElem?_replicate] at e
  split at e<;>cases e
theorem aHO {P:Program} {w:World} {K:PySem.W.Frag} {mg:Str->Option Value} {base:Heap} {x qual:Str} {st:Stmt} {f:Addr} {fd:FuncData} {N ps:List Str} {k:Nat} {R:Spec} (F:lY K x qual st f fd) (S:bD N ps (aH st)) (len:∀ ds Q,R ds Q->ds.length=ps.length)
  (hbody:∀ (cdv:Value) (A:Around) (outer:List Env) (s:Shared) (H:Hp) (E:XK),iO k (A.deeper (envOfC qual (aH st) s.heap.objs.size f cdv)) ->
   ∃ t:WS,w9 (qQ dS P w K mg base N qual (aH st) f cdv A outer s H E).UT (aX st) t /\ ∀ ds Q,R ds Q->t { nx:=fun _=>Q .non,rt:=Q } (kC N ds)):aN P w K mg base dS (k+1) f fd ps (sp3 K R):=by
 refine F.ok S (fun vs H Q E h=>?_) fun cdv A outer s H vs Q E hr h=>?_
 ·obtain ⟨S',ds,Q3,fc,dn,r,_⟩:=h
  rw [<- dn.len]
  exact len ds Q3 r
 ·obtain ⟨t,ht,hq⟩:=hbody cdv A outer s H E hr
  obtain ⟨S',ds,Q3,fc,dn,r,kk⟩:=h
  refine ⟨_,ht,H,S',fun _=>0,kC N ds,[],{ nx:=fun _=>Q3 .non,rt:=Q3 },?_,D5 fc dn,hq ds Q3 r,⟨fun w' σ' H' ρ' _ st' q=>?_,fun v H' d s' d' q=>kk v H' d s' d' q,fun _ _ _ _ _ _ q=>q,fun _ _ _ _ _ _ q=>q,fun _ _ _ q=>q.elim⟩⟩
  ·have hl:=len ds Q3 r
   have hl2:=dn.len
   have hp:ps.length<=N.length:=by have:=congrArg List.length S.pre; rw [List.length_take] at this; omega
   unfold L2.start
   show _=N.length
   rw [List.length_append,List.length_map,List.length_replicate]
   omega
  ·exact kk .non H' .non st'.sm (by simp only [Dn]) q
end
abbrev WX:=aR->(aR->D->Prop)->Prop
def QX (K:PySem.W.Frag) (n:Nat) (t:WX):TE:=fun σ H Q=>∃ (H₀:Hp) (S:Addr->Prop) (w:Nat->Addr) (ρ:aR) (G:List (D×V)) (Q3:aR->D->Prop),σ.length=n/\ST K H₀ S w σ H ρ G/\t ρ Q3 /\
 ∀ w' v H' ρ' d,ST K H₀ S w' σ H' ρ' G->Dn K (SO S w' ρ') H' d v->Q3 ρ' d->Q v H'
def FH (X:Cx) (e:Expr) (t:WX):Prop:=PE X e (QX X.K X.N.length t)
def aC8 (t:WE):WX:=fun ρ Q=>t (cC ρ) fun d=>d.FI=true/\Q ρ d
def aAM (t:WE):WX:=fun ρ Q=>t (iT ρ) fun d=>Q ρ d
section
variable {X:Cx}
theorem px3 {e:Expr} {t:WE} (h:cZ X e t):FH X e (aC8 t):=imp h fun σ H Q aHP=>by
 obtain ⟨H₀,S,w,ρ,G,Q3,hl,st,ht,k⟩:=aHP
 exact ⟨S,cC ρ,_,st.NR,st.all,ht,fun v H' d s' d' q'=>k w v H' ρ d (st.same s') (Dn.FI q'.1 d') q'.2⟩
theorem aHQ {e:Expr} {t:WE} (h:cZ X e t):FH X e (aAM t):=imp h fun σ H Q aHR=>by
 obtain ⟨H₀,S,w,ρ,G,Q3,hl,st,ht,k⟩:=aHR
 exact ⟨_,iT ρ,_,st.LQ,st.rd,ht,fun v H' d s' d' q'=>k w v H' ρ d (st.same s') d' q'⟩
def aC9 (t:WX):WS:=fun E ρ=>t ρ fun ρ' _=>E.nx ρ'
theorem aCa {e:Expr} {t:WX} {pos:Pos} (he:FH X e t) (hs:swapsWith e none pos.line X.env=pure false:=by rfl):FG X (.Expr e pos) (aC9 t):=jY (B0 he hs) fun B σ H aHS=>by
 obtain ⟨H₀,S,w,ρ,G,E,hl,st,ht,ok⟩:=aHS
 exact ⟨H₀,S,w,ρ,G,_,hl,st,ht,fun w' v H' ρ' d st' d' q'=>ok.nx w' _ H' _ hl st' q'⟩
def wM1 (i:Nat) (f:List D->D->(List D->D->Prop)->Prop) (t:WX):WX:=fun ρ Q=>(match ρ[i]? with | some (.ow (.lst _))=>True | _=>False)/\t ρ fun ρ' d=>match ρ'[i]? with
 | some (.ow (.lst ds))=>f ds d fun ds' r=>Q (ρ'.set i (.ow (.lst ds'))) r
 | _=>False
def M3 (K:PySem.W.Frag) (r:V->List V->Hp->VK->Prop) (f:List D->D->(List D->D->Prop)->Prop):Prop:=∀ (S:Addr->Prop) (H:Hp) (p:Addr) (xs:List V) (ds:List D) (y:V) (d:D) (Q3:List D->D->Prop) (Q:VK),
 H p=some (.lst xs)->aQ K S H ds xs->Dn K S H d y->f ds d Q3->(∀ ys ds' v d',aQ K S H ds' ys->Dn K S H d' v->Q3 ds' d'->Q v (upd H p (.lst ys)))->r (.ref p) [y] H Q
theorem VO {K:PySem.W.Frag} {n i:Nat} {r:V->List V->Hp->VK->Prop} {f:List D->D->(List D->D->Prop)->Prop} {t:WX} {σ:L2.St} {H:Hp} {Q:VK} (h3:M3 K r f) (h:QX K n (wM1 i f t) σ H Q) :
  tBM K "list" r (UQ i) (XM (QX K n t) aCB) σ H Q:=by
 obtain ⟨H₀,S,w,ρ,G,Q3,hl,st,⟨h0,ht⟩,k⟩:=h
 split at h0
 ·rename_i ds e
  obtain ⟨a,b,c⟩:=st.own i _ e
  obtain ⟨xs,hp,dn⟩:=c
  refine ⟨_,a,.inl ⟨rfl,xs,eV.of hp⟩,H₀,S,w,ρ,G,_,hl,st,ht,fun w' v H' ρ' d st' d' q'=>?_⟩
  split at q'
  ·rename_i ds' e'
   obtain ⟨a',b',c'⟩:=st'.own i _ e'
   obtain ⟨xs',hp',dn'⟩:=c'
   have ew:w i=w' i:=by
    have z:=a.symm.trans a'
    have z1:=Option.some.inj (Option.some.inj z)
    injection z1
   rw [ew]
   refine h3 _ H' (w' i) xs' ds' v d _ Q hp' dn' d' q' fun ys ds2 v2 d2 JO dv2 q2=>?_
   have nS:¬ SO S w' ρ' (w' i):=fun ⟨_,z⟩=>z i _ e' rfl
   have F:Fits K (SO S w' ρ') (SO S w' ρ') H' (upd H' (w' i) (.lst ys)):=.upd (.inl ⟨_,hp'⟩) nS
   have so:∀ a,SO S w' ρ' a->SO S w' (ρ'.set i (.ow (.lst ds2))) a:=SO.mono fun j f hf=>by
    rcases get_set hf with ⟨hj,_,_⟩ | ⟨_,z⟩
    ·subst hj; exact ⟨_,e'⟩
    ·exact ⟨_,z⟩
   exact k w' v2 _ _ d2 (st'.write (d':=.lst ds2) e' ⟨ys,bA,aQ.fits F _ _ JO⟩) (Dn.fits (F.trans (.mono so)) _ _ dv2) q2
  ·exact q'.elim
 ·exact h0.elim
theorem m1 {i:Nat} {x:Str} {id:String} {name:Str} {e:Expr} {p apos cpos:Pos} {r:V->List V->Hp->VK->Prop} {f:List D->D->(List D->D->Prop)->Prop} {t:WX} (slot:Slot "list" name id) (hty:typeOf (.builtin id)=pure (.type "method_descriptor")) (hm:MtR X id r) (h3:M3 X.K r f) (he:FH X e t)
  (hN:X.N[i]? = some x:=by rfl) (hv:BX X.env.scope x:=by first | exact Or.inl rfl | exact Or.inr (Or.inl rfl) | exact Or.inr (Or.inr rfl)) (hd:(x == ("__debug__" : Str))=false:=by decide) (hcd:(x == ("__classdict__" : Str))=false:=by decide)
  (hbase:attributeBase (.Name x p) name X.env (eval (.Name x p) X.env)=eval (.Name x p) X.env:=by rfl)
  (hfew:((backTo cpos (starEach [e] X.env)).all (fun x=>!x.1)&&(backToKw cpos (keywordEach [] X.env)).all (fun x=>x.1.isSome)
   && decide ([e].length+([]:List Keyword).length+(if ([]:List Keyword).isEmpty then 0 else 1)<30))=true:=by rfl)
  (hline:(apos.endLine == cpos.line)=true:=by rfl) (hs:starEach [e] X.env=(false,eval e X.env)::starEach [] X.env:=by rfl) :
  FH X (.Call (.Attribute (.Name x p) name apos) [e] [] cpos) (wM1 i f t) :=
 imp (aCJ PySem.F.plainAttrs_list slot hty hm (pG hN hv hd hcd) (iX he sP hs) hbase hfew hline hs (by rfl)) fun _ _ _ h=>VO h3 h
def aAN:List D->D->(List D->D->Prop)->Prop:=fun ds d Q=>ds.length<sizeLine/\Q (ds++[d]) .non
theorem aAO {K:PySem.W.Frag}:M3 K JH aAN:=by
 intro S H p xs ds y d Q3 Q hp dn dy hf k
 exact ⟨p,xs,y,rfl,rfl,hp,by rw [<- dn.len]; exact hf.1,k _ _ _ _ (dn.append (aQ.one dy)) (by simp only [Dn]) hf.2⟩
def aAP:List D->D->(List D->D->Prop)->Prop
 | ds,.int k,Q=>(-(2 ^ 63)<=k/\k<2 ^ 63)/\(match LI ds.length k with | some j=>(match ds[j]? with | some d=>Q (ds.eraseIdx j) d | none=>False) | none=>False)
 | _,_,_=>False
theorem aAQ {K:PySem.W.Frag}:M3 K P8 aAP:=by
 intro S H p xs ds y d Q3 Q hp dn dy hf k
 cases d with
 | int i =>
  simp only [Dn] at dy
  subst dy
  obtain ⟨⟨h1,h2⟩,hf⟩:=hf
  split at hf
  ·rename_i j ej
   split at hf
   ·rename_i dd ed
    obtain ⟨v,ev,dv⟩:=dn.get ed
    obtain ⟨g1,_⟩:=B4 ej
    exact ⟨p,xs,i,j,v,rfl,rfl,hp,h1,h2,by rw [<- dn.len]; exact g1,ev,k _ _ _ _ (dn.erase j) dv hf⟩
   ·exact hf.elim
  ·exact hf.elim
 | _=>exact hf.elim
section
variable {i:Nat} {x:Str} {e:Expr} {p apos cpos:Pos} {t:WX}
theorem aHT (he:FH X e t) (hN:X.N[i]? = some x:=by rfl) (hv:BX X.env.scope x:=by first | exact Or.inl rfl | exact Or.inr (Or.inl rfl) | exact Or.inr (Or.inr rfl)) (hd:(x == ("__debug__" : Str))=false:=by decide) (hcd:(x == ("__classdict__" : Str))=false:=by decide)
  (hbase:attributeBase (.Name x p) "append" X.env (eval (.Name x p) X.env)=eval (.Name x p) X.env:=by rfl)
  (hfew:((backTo cpos (starEach [e] X.env)).all (fun x=>!x.1)&&(backToKw cpos (keywordEach [] X.env)).all (fun x=>x.1.isSome)
   && decide ([e].length+([]:List Keyword).length+(if ([]:List Keyword).isEmpty then 0 else 1)<30))=true:=by rfl)
  (hline:(apos.endLine == cpos.line)=true:=by rfl) (hs:starEach [e] X.env=(false,eval e X.env)::starEach [] X.env:=by rfl) :
  FH X (.Call (.Attribute (.Name x p) "append" apos) [e] [] cpos) (wM1 i aAN t):=m1 PySem.F.slot_list_append PySem.F.type_list_append AA aAO he hN hv hd hcd hbase hfew hline hs
theorem aHU (he:FH X e t) (hN:X.N[i]? = some x:=by rfl) (hv:BX X.env.scope x:=by first | exact Or.inl rfl | exact Or.inr (Or.inl rfl) | exact Or.inr (Or.inr rfl)) (hd:(x == ("__debug__" : Str))=false:=by decide) (hcd:(x == ("__classdict__" : Str))=false:=by decide)
  (hbase:attributeBase (.Name x p) "pop" X.env (eval (.Name x p) X.env)=eval (.Name x p) X.env:=by rfl)
  (hfew:((backTo cpos (starEach [e] X.env)).all (fun x=>!x.1)&&(backToKw cpos (keywordEach [] X.env)).all (fun x=>x.1.isSome)
   && decide ([e].length+([]:List Keyword).length+(if ([]:List Keyword).isEmpty then 0 else 1)<30))=true:=by rfl)
  (hline:(apos.endLine == cpos.line)=true:=by rfl) (hs:starEach [e] X.env=(false,eval e X.env)::starEach [] X.env:=by rfl) :
  FH X (.Call (.Attribute (.Name x p) "pop" apos) [e] [] cpos) (wM1 i aAP t):=m1 PySem.F.slot_list_pop PySem.F.type_list_pop P9 aAQ he hN hv hd hcd hbase hfew hline hs
end
def aAR (ρ:aR) (i:Nat):Prop:=match ρ[i]? with
 | some (.ow (.lst _))=>True
 | _=>False
def aHV (i:Nat) (t:WX) (tk:WE):WS:=fun E ρ=>t ρ fun ρ' d=>aAR ρ' i/\tk (cC ρ') fun k=>match ρ'[i]?,k with
 | some (.ow (.lst ds)),.int k=>(match LI ds.length k with | some j=>E.nx (ρ'.set i (.ow (.lst (ds.set j d)))) | none=>False)
 | _,_=>False
theorem put3 {i:Nat} {x:Str} {e k:Expr} {t:WX} {tk:WE} {pos pos' p:Pos} (he:FH X e t) (hk:cZ X k tk)
  (hN:X.N[i]? = some x:=by rfl) (hv:BX X.env.scope x:=by first | exact Or.inl rfl | exact Or.inr (Or.inl rfl) | exact Or.inr (Or.inr rfl)) (hd:(x == ("__debug__" : Str))=false:=by decide) (hcd:(x == ("__classdict__" : Str))=false:=by decide)
  (ha:∀ v,assign (.Subscript (.Name x p) k pos') X.env v=(do
   let ov <- holding [v] (eval (.Name x p) X.env)
   let iv <- holding [v,ov] (eval k X.env)
   standAt pos'
   holding [v,ov,iv] (setItem ov iv v)
   release [v,ov,iv] []):=by intro _; rfl)
  (hs:swapsWithSole [.Subscript (.Name x p) k pos'] e pos.line X.env=pure false:=by rfl) (hw:swappedStores [.Subscript (.Name x p) k pos'] e X.env=pure none:=by rfl)
  (h1:(assignEach [.Subscript (.Name x p) k pos'] X.env).map (·.2)=[assign (.Subscript (.Name x p) k pos') X.env]:=by rfl) :
  FG X (.Assign [.Subscript (.Name x p) k pos'] e pos) (aHV i t tk):=jY (PU he (ZL (pG hN hv hd hcd) hk set_list ha) hs hw h1) fun B σ H aHW=>by
 obtain ⟨H₀,S,w,ρ,G,E,hl,st,ht,ok⟩:=aHW
 refine ⟨H₀,S,w,ρ,G,_,hl,st,ht,fun w' v H' ρ' d st' d' q'=>?_⟩
 obtain ⟨q0,q'⟩:=q'
 unfold aAR at q0
 split at q0
 ·rename_i ds0 e0
  obtain ⟨a0,_,_⟩:=st'.own i _ e0
  refine ⟨_,a0,S,cC ρ',_,st'.NR,st'.all,q',fun kv H2 dk s2 dk2 q2=>?_⟩
  split at q2
  ·rename_i ds k' e1
   simp only [Dn] at dk2
   split at q2
   ·rename_i j ej
    have st2:=st'.same s2
    obtain ⟨a,b,c⟩:=st2.own i _ e1
    obtain ⟨xs,hp,dn⟩:=c
    have nS:¬ SO S w' ρ' (w' i):=fun ⟨_,z⟩=>z i _ e1 rfl
    have F:Fits X.K (SO S w' ρ') (SO S w' ρ') H2 (upd H2 (w' i) (.lst (xs.set j v))):=.upd (.inl ⟨_,hp⟩) nS
    exact ⟨w' i,xs,k',j,rfl,dk2,hp,by rw [<- dn.len]; exact ej,ok.nx w' σ _ _ hl (st2.write (d':=.lst (ds.set j d)) e1 ⟨_,bA,aQ.fits F _ _ (dn.set j (Dn.fits (.same s2) _ _ d'))⟩) q2⟩
   ·exact q2.elim
  ·exact q2.elim
 ·exact q0.elim
end
structure Wlk (K:PySem.W.Frag) (J:It) (ds:List D) (G:List (D×V)):Prop where
 go:∀ (S:Addr->Prop) (H:Hp),(∀ a,H a=none->S a)->(∀ g∈G,Dn K S H g.1 g.2) -> ∀ (i:Nat) (d:D),ds[i]? = some d->J.go i H /\ ∀ x H',J.yld i H x H'->Same H H'/\Dn K S H' d x
 stop:∀ (S:Addr->Prop) (H:Hp),(∀ g∈G,Dn K S H g.1 g.2) -> ∀ i:Nat,ds.length=i->J.stop i H
abbrev WI:=bN->(List D->Prop)->Prop
def XY (K:PySem.W.Frag) (t:WI):TI:=fun σ H R=>∃ (S:Addr->Prop) (ρ:bN) (Q3:List D->Prop),(∀ a,H a=none->S a)/\Sl K S H ρ σ/\t ρ Q3 /\
 ∀ J H' ds G,Same H H'->(∀ g∈G,Dn K S H' g.1 g.2)->Wlk K J ds G->Q3 ds->R J H'
def QY (X:Cx) (tg iter:Expr) (t:WI):Prop:=PI X tg iter (XY X.K t)
section
variable {X:Cx} {tg:Expr}
theorem LV {e:Expr} {t t':TI} (h:PI X tg e t) (f:∀ σ H R,t' σ H R->t σ H R):PI X tg e t':=fun pins s σ H R I q=>h pins s σ H R I (f σ H R q)
def aCb (t:WE):WI:=fun ρ Q=>t ρ fun d=>match d with
 | .lst ds=>Q ds
 | .tup ds=>Q ds
 | _=>False
theorem QZ {K:PySem.W.Frag} {a:Addr} {ds:List D}:Wlk K (Itl K a) ds [(.lst ds,.ref a)] where
 go:=fun S H fc hg i d e=>by
  have h:=hg _ (List.mem_singleton.mpr rfl)
  simp only [Dn] at h
  obtain ⟨b,xs,eb,hb,sb,dn⟩:=h
  injection eb with eb
  subst eb
  obtain ⟨v,ev,dv⟩:=dn.get e
  refine ⟨⟨xs,v,eV.of hb,ev⟩,fun x H' y=>?_⟩
  obtain ⟨e1,y⟩:=y
  subst e1
  have ex:=y xs (eV.of hb)
  rw [ev] at ex
  cases ex
  exact ⟨Same.refl _,dv⟩
 stop:=fun S H hg i hi=>by
  have h:=hg _ (List.mem_singleton.mpr rfl)
  simp only [Dn] at h
  obtain ⟨b,xs,eb,hb,sb,dn⟩:=h
  injection eb with eb
  subst eb
  exact ⟨xs,eV.of hb,by rw [<- dn.len]; exact Nat.le_of_eq hi⟩
theorem VP {K:PySem.W.Frag} {a:Addr} {ds:List D}:Wlk K (Itt K a) ds [(.tup ds,.ref a)] where
 go:=fun S H fc hg i d e=>by
  have h:=hg _ (List.mem_singleton.mpr rfl)
  simp only [Dn] at h
  obtain ⟨b,xs,eb,hb,dn⟩:=h
  injection eb with eb
  subst eb
  obtain ⟨v,ev,dv⟩:=dn.get e
  refine ⟨⟨xs,v,(gC.of hb),ev⟩,fun x H' y=>?_⟩
  obtain ⟨e1,y⟩:=y
  subst e1
  have ex:=y xs (gC.of hb)
  rw [ev] at ex
  cases ex
  exact ⟨Same.refl _,dv⟩
 stop:=fun S H hg i hi=>by
  have h:=hg _ (List.mem_singleton.mpr rfl)
  simp only [Dn] at h
  obtain ⟨b,xs,eb,hb,dn⟩:=h
  injection eb with eb
  subst eb
  exact ⟨xs,(gC.of hb),by rw [<- dn.len]; exact Nat.le_of_eq hi⟩
theorem aAU {l:Expr} {tl:TE} (hl:PE X l tl):PI X tg l (fun σ H R=>tl σ H fun x H1=>∃ a,x=.ref a/\(((∃ xs,eV X.K H1 a xs)/\R (Itl X.K a) H1)\/((∃ xs,gC X.K H1 a xs)/\R (Itt X.K a) H1))):=by
 intro pins s σ H R I h
 refine eP (hl pins s σ H _ I h) fun v s1 aHX=>?_
 obtain ⟨x,H1,I1,r1,q1⟩:=aHX
 obtain ⟨a,e,q⟩:=q1
 subst e
 cases r1
 rcases q with ⟨⟨xs,hq⟩,q⟩ | ⟨⟨xs,hq⟩,q⟩
 ·obtain ⟨its,rv,p,hz⟩:=I1.list hq
  refine wpAny_pyIter_list p.isList ?_
  refine ⟨s1.heap.objs.size,[s1.heap.objs.size],_,_,H1,rfl,I1.kept (t':=s1.toks) fun b o e=>Heap.get?_push_of_some _ e,K8 a _,⟨_,Heap.get?_push_size _ rfl,rfl,rfl⟩,fun b hb=>?_,q⟩
  have e:b=s1.heap.objs.size:=by simpa using hb
  subst e
  exact I1.GF (Nat.le_refl _) (I1.hok.fresh (Nat.le_refl _))
 ·obtain ⟨its,rv,p,hz⟩:=I1.tuple hq
  refine wpAny_pyIter_tuple (show s1.heap.IsTuple a its.toArray from p) ?_
  refine ⟨s1.heap.objs.size,[s1.heap.objs.size],_,_,H1,rfl,I1.kept (t':=s1.toks) fun b o e=>Heap.get?_push_of_some _ e,GG a _,⟨_,Heap.get?_push_size _ rfl,rfl,rfl⟩,fun b hb=>?_,q⟩
  have e:b=s1.heap.objs.size:=by simpa using hb
  subst e
  exact I1.GF (Nat.le_refl _) (I1.hok.fresh (Nat.le_refl _))
theorem aCc {l:Expr} {t:WE} (h:cZ X l t):QY X tg l (aCb t):=LV (aAU h) fun σ H R aHY=>by
 obtain ⟨S,ρ,Q3,fc,sl,ht,k⟩:=aHY
 refine ⟨S,ρ,_,fc,sl,ht,fun v H1 d s1 d1 q1=>?_⟩
 cases d with
 | lst ds =>
  have d1':=d1
  simp only [Dn] at d1
  obtain ⟨a,xs,rfl,ha,sa,da⟩:=d1
  exact ⟨a,rfl,.inl ⟨⟨xs,eV.of ha⟩,k _ H1 ds [(.lst ds,.ref a)] s1 (fun g hg=>by cases List.mem_singleton.mp hg; exact d1') QZ q1⟩⟩
 | tup ds =>
  have d1':=d1
  simp only [Dn] at d1
  obtain ⟨a,xs,rfl,ha,da⟩:=d1
  exact ⟨a,rfl,.inr ⟨⟨xs,(gC.of ha)⟩,k _ H1 ds [(.tup ds,.ref a)] s1 (fun g hg=>by cases List.mem_singleton.mp hg; exact d1') VP q1⟩⟩
 | _=>exact q1.elim
def sR (lo:Int) (n:Nat):List Int:=(List.range n).map fun k:Nat=>lo+(k:Int)
theorem tY (lo:Int) (n:Nat):(sR lo n).length=n:=by simp [sR]
theorem Q0 {lo:Int} {n i:Nat}:(sR lo n)[i]? = if i<n then some (lo+(i:Int)) else none:=by
 unfold sR
 rw [List.getElem?_map]
 by_cases h:i<n
 ·rw [if_pos h,List.getElem?_range h]; rfl
 ·rw [if_neg h,List.getElem?_eq_none (by simpa using h)]; rfl
theorem AI {K:PySem.W.Frag} {lo:Int} {n:Nat}:Wlk K (Itr lo n) ((sR lo n).map D.int) [] where
 go:=fun S H fc hg i d e=>by
  rw [List.getElem?_map,Q0] at e
  by_cases h:i<n
  ·rw [if_pos h] at e
   cases e
   refine ⟨h,fun x H' y=>?_⟩
   obtain ⟨e1,e2⟩:=y
   subst e1
   exact ⟨Same.refl _,by simp only [Dn]; exact e2⟩
  ·rw [if_neg h] at e; cases e
 stop:=fun S H hg i hi=>by rw [List.length_map,tY] at hi; exact Nat.le_of_eq hi
def aAV (t:WA):WI:=fun ρ Q=>t ρ fun ds=>match ds with
 | [.int j]=>(-(2 ^ 62)<=j/\j<2 ^ 62)/\Q ((sR 0 j.toNat).map D.int)
 | _=>False
def VQ (t:WA):WI:=fun ρ Q=>t ρ fun ds=>match ds with
 | [.int i,.int j]=>(-(2 ^ 62)<=i/\i<2 ^ 62 /\ -(2 ^ 62)<=j/\j<2 ^ 62)/\Q ((sR i (j - i).toNat).map D.int)
 | _=>False
theorem aAW {a:Expr} {t:WA} {p pos:Pos} (hm:X.mg "range" = none) (ha:wW X [a] t) (hg:Gl X "range" := by rfl) (hs:starEach [a] X.env=[(false,eval a X.env)]:=by rfl):QY X tg (.Call (.Name "range" p) [a] [] pos) (aAV t) :=
 LV (K9 hg hm ha hs) fun σ H R aHZ=>by
  obtain ⟨S,ρ,Q3,fc,sl,ht,k⟩:=aHZ
  refine ⟨S,ρ,_,fc,sl,ht,fun vs H1 ds s1 d1 q1=>?_⟩
  split at q1
  ·rename_i j
   obtain ⟨v,r,rfl,h1,h2⟩:=d1.bI
   simp only [aQ] at h2
   subst h2
   simp only [Dn] at h1
   subst h1
   exact ⟨j,rfl,q1.1.1,q1.1.2,k _ H1 _ [] s1 (fun g hg=>nomatch hg) AI q1.2⟩
  ·exact q1.elim
theorem VR {a b:Expr} {t:WA} {p pos:Pos} (hm:X.mg "range" = none) (ha:wW X [a,b] t) (hg:Gl X "range" := by rfl) (hs:starEach [a,b] X.env=[(false,eval a X.env),(false,eval b X.env)]:=by rfl) (hs2:starEach [b] X.env=[(false,eval b X.env)]:=by rfl):QY X tg (.Call (.Name "range" p) [a,b] [] pos) (VQ t) :=
 LV (LA hg hm ha hs hs2) fun σ H R aH0=>by
  obtain ⟨S,ρ,Q3,fc,sl,ht,k⟩:=aH0
  refine ⟨S,ρ,_,fc,sl,ht,fun vs H1 ds s1 d1 q1=>?_⟩
  split at q1
  ·rename_i i j
   obtain ⟨v,r,rfl,h1,h2⟩:=d1.bI
   obtain ⟨v2,r2,rfl,h3,h4⟩:=h2.bI
   simp only [aQ] at h4
   subst h4
   simp only [Dn] at h1 h3
   subst h1 h3
   exact ⟨i,j,rfl,q1.1,k _ H1 _ [] s1 (fun g hg=>nomatch hg) AI q1.2⟩
  ·exact q1.elim
abbrev WG:=D->aR->(aR->Prop)->Prop
def aCd (K:PySem.W.Frag) (n:Nat) (g:WG):TG:=fun v σ H Q=>∃ (H₀:Hp) (S:Addr->Prop) (w:Nat->Addr) (ρ:aR) (G:List (D×V)) (d:D) (Q3:aR->Prop),σ.length=n/\ST K H₀ S w σ H ρ G/\Dn K (SO S w ρ) H d v/\g d ρ Q3 /\
 ∀ σ' H' ρ',σ'.length=n->ST K H₀ S w σ' H' ρ' G->Q3 ρ'->Q σ' H'
def VS (X:Cx) (tg:Expr) (g:WG):Prop:=PG X tg (aCd X.K X.N.length g)
theorem LW {e:Expr} {t t':TG} (h:PG X e t) (f:∀ v σ H Q,t' v σ H Q->t v σ H Q):PG X e t':=fun pins s σ H v u Q I r q=>h pins s σ H v u Q I r (f v σ H Q q)
def gN (i:Nat):WG:=fun d ρ Q=>Q (ρ.set i (.ro d))
theorem aCe {i:Nat} {x:Str} {pos:Pos} (hN:X.N.Nodup) (hi:X.N[i]? = some x:=by rfl) (hx:Loc X.env.scope x:=by first | exact .inl rfl | exact .inr rfl) (hf:X.fn x=true\/X.env.scope.names.lookup x=some .local:=by first | exact .inl rfl | exact .inr rfl):VS X (.Name x pos) (gN i) :=
 LW (nZ hN hi hx hf) fun v σ H Q aH1=>by obtain ⟨H₀,S,w,ρ,G,d,Q3,hl,st,dn,hg,k⟩:=aH1; exact k _ H _ (by rw [List.length_set]; exact hl) (st.lO (by rw [hl]; exact jO hi) dn) hg
def g2 (i j:Nat):WG:=fun d ρ Q=>match d with
 | .tup [d1,d2]=>Q ((ρ.set i (.ro d1)).set j (.ro d2))
 | _=>False
theorem aCf {i j:Nat} {x y:Str} {k:Nat} {pos px py:Pos} (hc:X.calm=true) (hN:X.N.Nodup) (hi:X.N[i]? = some x:=by rfl) (hj:X.N[j]? = some y:=by rfl) (hx:Loc X.env.scope x:=by first | exact .inl rfl | exact .inr rfl) (hy:Loc X.env.scope y:=by first | exact .inl rfl | exact .inr rfl)
  (hf:X.fn x=true\/X.env.scope.names.lookup x=some .local:=by first | exact .inl rfl | exact .inr rfl) (hf2:X.fn y=true\/X.env.scope.names.lookup y=some .local:=by first | exact .inl rfl | exact .inr rfl)
  (hn:(assignEach [.Name x px,.Name y py] X.env).length=2:=by rfl) (hst:(assignEach [.Name x px,.Name y py] X.env).findIdx? (·.1)=none:=by rfl)
  (hs1:(assignEach [.Name x px,.Name y py] X.env).map (·.2)=assign (.Name x px) X.env::(assignEach [.Name y py] X.env).map (·.2):=by rfl) (hs2:(assignEach [.Name y py] X.env).map (·.2)=assign (.Name y py) X.env::(assignEach [] X.env).map (·.2):=by rfl) :
  VS X (.Tuple [.Name x px,.Name y py] k pos) (g2 i j) :=
 LW (PQ (n:=2) hc (qM (nZ hN hi hx hf) (qM (nZ hN hj hy hf2) JB hs2) hs1) hn hst) fun v σ H Q aH2=>by
  obtain ⟨H₀,S,w,ρ,G,d,Q3,hl,st,dn,hg,k⟩:=aH2
  unfold g2 at hg
  split at hg
  ·rename_i d1 d2
   simp only [Dn] at dn
   obtain ⟨a,xs,rfl,ha,da⟩:=dn
   obtain ⟨v1,r1,rfl,h1,h2⟩:=da.bI
   obtain ⟨v2,r2,rfl,h3,h4⟩:=h2.bI
   simp only [aQ] at h4
   subst h4
   refine ⟨a,_,rfl,(gC.of ha),rfl,v1,[v2],rfl,v2,[],rfl,rfl,?_⟩
   have st1:=st.lO (i:=i) (by rw [hl]; exact jO hi) h1
   have m:∀ a,SO S w ρ a->SO S w (ρ.set i (.ro d1)) a:=SO.mono fun n f hf=>by
    rcases get_set hf with ⟨_,z,_⟩ | ⟨_,z⟩
    ·cases z
    ·exact ⟨_,z⟩
   have st2:=st1.lO (i:=j) (d:=d2) (v:=v2) (by rw [List.length_set,hl]; exact jO hj) (Dn.fits (.mono m) _ _ h3)
   exact k _ H _ (by rw [List.length_set,List.length_set]; exact hl) st2 hg
  ·exact hg.elim
def aH3 (ti:WI) (g:WG) (tb:WS):WS:=fun E ρ=>ti (iT ρ) fun ds=>∃ Inv:Nat->aR->Prop,Inv 0 ρ /\
 (∀ (i:Nat) (d:D) (ρ':aR),ds[i]? = some d->Inv i ρ'->g d ρ' fun ρ2=>tb { E with nx:=Inv (i+1),ct:=Inv (i+1),bk:=E.nx } ρ2) /\ ∀ ρ',Inv ds.length ρ'->E.nx ρ'
theorem aH4 {iter:Expr} {body:List Stmt} {ti:WI} {g:WG} {tb:WS} {pos:Pos} (hc:X.calm=true) (hp:PassesOwn (model X.prog X.w) X.A X.env X.xe) (hi:QY X tg iter ti) (hg:VS X tg g) (hb:w9 X body tb)
  (hs:∀ x,foldedSetIterable iter X.env x=pure x:=by intro _; rfl):FG X (.For tg iter body [] pos) (aH3 ti g tb):=jY (ZP hp hc hi hg hb hs) fun B σ H aH5=>by
 obtain ⟨H₀,S,w,ρ,G,E,hl,st,ht,ok⟩:=aH5
 refine ⟨_,iT ρ,_,st.LQ,st.rd,ht,fun J H1 ds G1 s1 hg1 wk q1=>?_⟩
 obtain ⟨Iv,h0,turn,fin⟩:=q1
 have stG:∀ {w σ H ρ},ST X.K H₀ S w σ H ρ (G1++G)->ST X.K H₀ S w σ H ρ G:=fun st=>st.ghost fun g hg=>st.gh g (List.mem_append_right _ hg)
 refine ⟨fun i m σ H=>m=ds.length - i/\i<=ds.length/\σ.length=X.N.length /\ ∃ w ρ,ST X.K H₀ S w σ H ρ (G1++G)/\Iv i ρ,
  ⟨_,rfl,Nat.zero_le _,hl,w,ρ,(st.same s1).ghost fun g hg=>(List.mem_append.mp hg).elim (fun z=>hg1 g z) fun z=>(st.same s1).gh g z,h0⟩,?_⟩
 rintro i m σ2 H2 ⟨rfl,hi2,hl2,w2,ρ2,st2,iv⟩
 by_cases hlt:i<ds.length
 ·refine .inr ?_
  obtain ⟨g1,g2⟩:=wk.go _ H2 st2.LQ (fun g hg=>st2.gh g (List.mem_append_left _ hg)) i ds[i] (by simp [hlt])
  refine ⟨g1,fun σ' H'=>σ'.length=X.N.length /\ ∃ w ρ,ST X.K H₀ S w σ' H' ρ (G1++G)/\Iv (i+1) ρ,fun σ' H' ⟨hl',w',ρ',st',iv'⟩=>⟨ds.length - (i+1),by omega,rfl,hlt,hl',w',ρ',st',iv'⟩,fun x H' y=>?_⟩
  obtain ⟨s3,dx⟩:=g2 x H' y
  refine ⟨H₀,S,w2,ρ2,G1++G,ds[i],_,hl2,st2.same s3,dx,turn i ds[i] ρ2 (by simp [hlt]) iv,fun σ4 H4 ρ4 hl4 st4 q4=>?_⟩
  exact ⟨H₀,S,w2,ρ4,G1++G,_,hl4,st4,q4,⟨fun w' σ' H' ρ' hl' st' q=>⟨hl',w',ρ',st',q⟩,fun v H' d s' d' q=>ok.rt v H' d s' d' q,fun w' σ' H' ρ' hl' st' q=>ok.nx w' σ' H' ρ' hl' (stG st') q,fun w' σ' H' ρ' hl' st' q=>⟨hl',w',ρ',st',q⟩,ok.ex⟩⟩
 ·have e:i=ds.length:=by omega
  subst e
  exact .inl ⟨wk.stop _ H2 (fun g hg=>st2.gh g (List.mem_append_left _ hg)) _ rfl,ok.nx w2 σ2 H2 ρ2 hl2 (stG st2) (fin ρ2 iv)⟩
end
theorem G2 {scope:Scope} {env:Env} (h:∀ x∈scope.names,x.2=.free -> ∃ c,env.cells.lookup x.1=some c) :
  ∃ cl,closureFor scope env=pure cl/\(∀ x∈scope.names,x.2=.free->cl.lookup x.1=env.cells.lookup x.1) /\ ∀ x c,cl.lookup x=some c->env.cells.lookup x=some c:=by
 have go:∀ (l:List (Str×NameKind)) (acc:List (Str×Addr)),(∀ x∈l,x.2=.free -> ∃ c,env.cells.lookup x.1=some c)->(∀ x c,acc.lookup x=some c->env.cells.lookup x=some c) ->
   ∃ cl,(forIn l acc fun (x:Str×NameKind) (cs:List (Str×Addr))=>(match x with | (name,kind)=>if (kind == NameKind.free)=true then (do let c <- cellOf env name; pure (ForInStep.yield ((name,c)::cs))) else pure (ForInStep.yield cs):Sem (ForInStep (List (Str×Addr)))))=pure cl /\
    (∀ x c,acc.lookup x=some c->cl.lookup x=some c)/\(∀ x∈l,x.2=.free->cl.lookup x.1=env.cells.lookup x.1) /\ ∀ x c,cl.lookup x=some c->env.cells.lookup x=some c:=by
  intro l
  induction l with
  | nil=>intro acc _ ha; exact ⟨acc,by rw [List.forIn_nil],fun _ _ z=>z,fun x hx=>(nomatch hx),ha⟩
  | cons y l ih =>
   intro acc hf ha
   by_cases hk:y.2=.free
   ·obtain ⟨c,hc⟩:=hf y List.mem_cons_self hk
    have ha':∀ x c',((y.1,c)::acc).lookup x=some c'->env.cells.lookup x=some c':=fun x c' hx=>by
     rw [List.lookup_cons] at hx
     split at hx
     ·rename_i e
      cases hx
      rw [eq_of_beq e]; exact hc
     ·exact ha x c' hx
    obtain ⟨cl,e,h1,h2,h3⟩:=ih ((y.1,c)::acc) (fun x hx=>hf x (List.mem_cons_of_mem _ hx)) ha'
    refine ⟨cl,?_,fun x c' hx=>?_,fun x hx hfx=>?_,h3⟩
    ·rw [List.forIn_cons,<- e]
     have e1:(y.2 == NameKind.free)=true:=by rw [hk]; rfl
     have e2:cellOf env y.1=pure c:=by unfold cellOf; rw [hc]
     obtain ⟨yn,yk⟩:=y
     dsimp only at e1 e2 ⊢
     rw [if_pos e1,e2]
     rfl
    ·by_cases hxy:x=y.1
     ·subst hxy
      have e3:((y.1,c)::acc).lookup y.1=some c:=by simp
      have e4:=ha _ _ hx
      rw [hc] at e4
      cases e4
      exact h1 _ _ e3
     ·refine h1 x c' ?_
      rw [List.lookup_cons]
      have:(x == y.1)=false:=by simpa using hxy
      rw [this]; exact hx
    ·rcases List.mem_cons.mp hx with rfl | hx
     ·rw [hc]; exact h1 _ _ (by simp)
     ·exact h2 x hx hfx
   ·obtain ⟨cl,e,h1,h2,h3⟩:=ih acc (fun x hx=>hf x (List.mem_cons_of_mem _ hx)) ha
    refine ⟨cl,?_,h1,fun x hx hfx=>?_,h3⟩
    ·rw [List.forIn_cons,<- e]
     have e1:¬ (y.2 == NameKind.free)=true:=by simpa using hk
     obtain ⟨yn,yk⟩:=y
     dsimp only at e1 ⊢
     rw [if_neg e1]
     rfl
    ·rcases List.mem_cons.mp hx with rfl | hx
     ·exact absurd hfx hk
     ·exact h2 x hx hfx
 obtain ⟨cl,e,_,h2,h3⟩:=go scope.names [] h (fun x c z=>by simp at z)
 refine ⟨cl,?_,h2,h3⟩
 have e':=congrArg (fun t=>t >>= fun r=>(pure r:Sem (List (Str×Addr)))) e
 exact e'
theorem gX:∀ (l:List (Str×NameKind)) (n:Nat) (own cl:List (Str×Addr)),cellsFrom n l (own++cl)=cellsFrom n l own++cl
 | [],_,_,_=>rfl
 | (x,k)::r,n,own,cl=>by
  unfold cellsFrom
  split
  ·exact gX r (n+1) ((x,n)::own) cl
  ·exact gX r n own cl
theorem jP:∀ (l:List (Str×NameKind)) (n:Nat) (own:List (Str×Addr)) (p:Str×Addr),p∈cellsFrom n l own->p∈own\/(p.1,NameKind.cell)∈l
 | [],_,_,_,h=>.inl h
 | (x,k)::r,n,own,p,h=>by
  unfold cellsFrom at h
  split at h
  ·rename_i hk
   rcases jP r _ _ p h with h | h
   ·rcases List.mem_cons.1 h with rfl | h
    ·exact .inr (by rw [<- eq_of_beq hk]; exact List.mem_cons_self)
    ·exact .inl h
   ·exact .inr (List.mem_cons_of_mem _ h)
  ·rcases jP r _ _ p h with h | h
   ·exact .inl h
   ·exact .inr (List.mem_cons_of_mem _ h)
theorem kD:∀ (l:List (Str×NameKind)) (n:Nat) (own:List (Str×Addr)) (x:Str),((∃ c,own.lookup x=some c)\/(x,NameKind.cell)∈l) -> ∃ c,(cellsFrom n l own).lookup x=some c
 | [],_,_,_,h=>h.elim id fun z=>(nomatch z)
 | (y,k)::r,n,own,x,h=>by
  unfold cellsFrom
  split
  ·refine kD r _ _ x ?_
   by_cases e:x=y
   ·exact .inl ⟨n,by rw [e,List.lookup_cons,beq_self_eq_true]⟩
   ·rcases h with ⟨c,h⟩ | h
    ·exact .inl ⟨c,by rw [List.lookup_cons,beq_eq_false_iff_ne.mpr e]; exact h⟩
    ·rcases List.mem_cons.mp h with z | z
     ·exact absurd (Prod.mk.inj z).1 e
     ·exact .inr z
  ·rename_i hk
   refine kD r _ _ x (h.imp_right fun z=>?_)
   rcases List.mem_cons.mp z with z | z
   ·rw [<- (Prod.mk.inj z).2] at hk; exact absurd rfl hk
   ·exact z
theorem LX {M:Model} {A:Around} {E:Value->Shared->Prop} {s:Shared} {sc:Scope} {g:Addr} {cl:List (Str×Addr)} {q:Str} {f:Option Addr} {code:Value} {env:Env} {bl:Addr} {Q:Env->Shared->Prop}
  (h:∀ h4:Heap,h4.Ns s.heap.objs.size (fun _=>none)->(∀ b o,s.heap.get? b=some o->h4.get? b=some o)->CellsOk h4 (s.heap.objs.size+1) (cellsFrom (s.heap.objs.size+1) sc.names []) ->
   Q (newEnv sc s.heap.objs.size g (cellsFrom (s.heap.objs.size+1) sc.names cl) q f code (some env) bl) { s with heap:=h4 }) :
  wpAny M A (newFunctionEnv sc g cl [] q f code (some env) bl) Q E s:=by
 unfold newFunctionEnv
 refine wpAny_bind (wpAny_alloc (wpAny_bind (wpAny_layCells _ (fun x k c=>by cases e:k == NameKind.cell<;>simp [e]) _ _ _ _ ?_)))
 have hz:∀ o:Obj,(s.heap.push o).objs.size=s.heap.objs.size+1:=fun o=>Heap.size_push ..
 have ok:=fun o=>cellsFrom_ok sc.names (s.heap.push o) (s.heap.objs.size+1) [] ⟨fun _ _ z=>(nomatch z),.nil⟩ (by rw [hz]; exact Nat.le_refl _)
 simp only [hz] at ok ⊢
 rw [List.forIn_nil]
 exact wpAny_bind (wpAny_pure (wpAny_pure (h _ ((Heap.Ns.new s.heap _).keeps (pushCells_keeps _ _)) (fun b o e=>pushCells_keeps _ _ b o (Heap.get?_push_of_some _ e)) (ok _))))
def blk (X:Cx) (N:List Str) (sc:Scope) (cl:List (Str×Addr)) (C:Addr) (pn:List (Addr×Obj)) (ex:List Addr) (s₀:Shared) (H₀:Hp):Cx :=
 { X with N:=N,s₀:=s₀,H₀:=H₀,env:=compEnvC sc cl C X.env,outer:=X.stack,stack:=X.stack,ex:=ex,fn:=fun x=>sc.names.lookup x == some NameKind.cell,pn:=pn,xe:=fun _ _=>False }
def D6 (nl:Nat) (fr:List Nat) (σ:L2.St):L2.St:=List.replicate nl none++fr.map fun j=>(σ[j]?).join
structure D7 (X:Cx) (ls fs:List Str) (fr:List Nat) (sc:Scope):Prop where
 kind:sc.kind=.function
 nd:(ls++fs).Nodup
 uniq:∀ x∈sc.names,sc.names.lookup x.1=some x.2
 free:∀ x∈sc.names,x.2=.free->X.env.kindOf x.1=some .cell\/X.env.kindOf x.1=some .free
 slot:∀ (k:Nat) (x:Str),fs[k]? = some x -> ∃ j,fr[k]? = some j/\X.N[j]? = some x/\(x,NameKind.free)∈sc.names/\sc.names.lookup x=some .free
 GZ:fr.length=fs.length
section
variable {X:Cx}
theorem tZ (t:Str->NameKind->NameKind) (x:Str):∀ l:List (Str×NameKind),(l.map fun p=>(p.1,t p.1 p.2)).lookup x=(l.lookup x).map (t x)
 | []=>rfl
 | (n,k)::r=>by
  rw [List.map_cons,List.lookup_cons,List.lookup_cons]
  by_cases hx:(x == n)=true
  ·rw [hx,eq_of_beq hx]; rfl
  ·rw [Bool.not_eq_true] at hx
   rw [hx]
   exact tZ t x r
theorem xA {sc:Scope} {env:Env} {x:Str} {l:List (Str×NameKind)}:(l.map fun (n,k)=>if (k == NameKind.free&&env.scope.kind == .function&&env.kindOf n == some .cell) then (n,NameKind.cell) else (n,k)).lookup x =
  (l.lookup x).map fun k=>if (k == NameKind.free&&env.scope.kind == .function&&env.kindOf x == some .cell) then NameKind.cell else k:=by
 rw [<- tZ (fun y k=>if (k == NameKind.free&&env.scope.kind == .function&&env.kindOf y == some .cell) then NameKind.cell else k) x l]
 refine congrArg (List.lookup x) (List.map_congr_left fun p _=>?_)
 dsimp only
 split<;>rfl
theorem ne_size {b c:Addr} {h:Heap} {o:Obj} (e:h.get? b=some o) (hc:c=h.objs.size):b≠c:=fun z=>Nat.lt_irrefl _ (by have q:=Heap.lt_size e; rw [z,hc] at q; exact q)
theorem D8 {b c:Addr} {n:Nat} (h:b<n) (hc:n<=c):b≠c:=fun z=>Nat.lt_irrefl c (Nat.lt_of_lt_of_le (z▸h) hc)
theorem VT {ls fs:List Str} {fr:List Nat} {sc:Scope} {cl:List (Str×Addr)} {C:Addr} {pins:List (Addr×Obj)} {ex:List Addr} {σ:L2.St} {H:Hp} {s s4:Shared} (B:D7 X ls fs fr sc) (I:Inv X pins σ H s)
  (hcl:∀ x∈sc.names,x.2=.free->cl.lookup x.1=X.env.cells.lookup x.1) (CH:∀ x c,cl.lookup x=some c->X.env.cells.lookup x=some c\/(C<c/\s4.heap.IsCell c none)) (aCg:∀ x∈sc.names,x.2=.cell -> ∃ c,cl.lookup x.1=some c/\C<c)
  (hinj:∀ x y c,cl.lookup x=some c->cl.lookup y=some c->x=y) (hex:∀ b∈ex,pH X pins H b/\b<s.heap.objs.size)
  (hC:C=s.heap.objs.size) {m:Str->Option Value} (hn:s4.heap.Ns C m) (hk:∀ b o,s.heap.get? b=some o->s4.heap.get? b=some o) (ho:s4.os=s.os) (hg:s4.gens=s.gens) :
  Inv (blk X (ls++fs) sc cl C (X.pn++pins) ex s H) [] (D6 ls.length fr σ) H s4:=by
 have ltC:∀ {b:Addr} {o:Obj},s.heap.get? b=some o->b≠C:=fun e=>ne_size e hC
 have aMp:∀ x c,cl.lookup x=some c->c≠C:=fun x c e=>by
  rcases CH x c e with e | ⟨e,_⟩
  ·obtain ⟨v,o,ho,_⟩:=I.cell x c e
   exact ltC ho
  ·exact Nat.ne_of_gt e
 have kOf:∀ x,(compEnvC sc cl C X.env).kindOf x=(sc.names.lookup x).map fun k=>if (k == NameKind.free&&X.env.scope.kind == .function&&X.env.kindOf x == some .cell) then NameKind.cell else k:=fun x=>xA (sc:=sc)
 have okX:(blk X (ls++fs) sc cl C (X.pn++pins) ex s H).Ok:=by
  refine ⟨I.ok.mod,B.kind,I.ok.glob,I.ok.blt,(by show s.heap.objs.size<=C; rw [hC]; exact Nat.le_refl _),hinj,fun x hx=>?_,fun x c hf hl=>?_,I.ok.hd,I.ok.frames,.inl rfl,fun b hb=>?_,fun b o e=>I.bs b o e,Nat.le_trans I.ok.UO I.sz,fun b o e hb=>?_,fun b hb=>?_,I.stack,I.BY⟩
  ·-- a cell or free name of the block
   have hx':∃ k,sc.names.lookup x=some k/\((if (k == NameKind.free&&X.env.scope.kind == .function&&X.env.kindOf x == some .cell) then NameKind.cell else k)=.cell\/(if (k == NameKind.free&&X.env.scope.kind == .function&&X.env.kindOf x == some .cell) then NameKind.cell else k)=.free):=by
    have hx:(compEnvC sc cl C X.env).kindOf x=some .cell\/(compEnvC sc cl C X.env).kindOf x=some .free:=hx
    rw [kOf] at hx
    cases e:sc.names.lookup x with
    | none=>rw [e] at hx; rcases hx with hx | hx<;>cases hx
    | some k=>rw [e] at hx; exact ⟨k,rfl,hx.imp (fun z=>Option.some.inj z) fun z=>Option.some.inj z⟩
   obtain ⟨k,e,hk'⟩:=hx'
   have hm:=PySem.mem_of_lookup e
   by_cases kf:k=.free
   ·subst kf
    have q:=hcl _ hm rfl
    obtain ⟨c,hc⟩:=I.ok.has x (B.free _ hm rfl)
    exact ⟨c,q.trans hc⟩
   ·have e2:(k == NameKind.free)=false:=by simpa using kf
    rw [e2] at hk'
    simp only [Bool.false_and,Bool.false_eq_true,if_false] at hk'
    rcases hk' with z | z
    ·obtain ⟨c,hc,_⟩:=aCg _ hm z
     exact ⟨c,hc⟩
    ·exact absurd z kf
  ·-- an own cell is new
   obtain ⟨c',hc',hlt⟩:=aCg _ (PySem.mem_of_lookup (eq_of_beq hf)) rfl
   have hc':cl.lookup x=some c':=hc'
   have hl:cl.lookup x=some c:=hl
   rw [hl] at hc'
   cases hc'
   rw [hC] at hlt
   exact Nat.le_of_lt hlt
  ·refine ⟨D8 (hex b hb).2 (Nat.le_of_eq hC.symm),fun x c e=>?_⟩
   rcases CH x c e with e | ⟨e,_⟩
   ·exact (hex b hb).1.2.2.2.2.1 x c e
   ·exact Ne.symm (D8 (hex b hb).2 (by rw [<- hC]; exact Nat.le_of_lt e))
  ·obtain ⟨⟨_,_,_,f3,_,_⟩,_⟩:=hex b hb
   rcases f3 with f3 | f3
   ·exact I.ok.PJ b o e f3
   ·exact absurd (Nat.lt_of_lt_of_le (Heap.lt_size e) (Nat.le_trans I.ok.UO f3)) (Nat.lt_irrefl _)
  ·intro z
   obtain ⟨⟨_,f1,f2,_,_,_⟩,_⟩:=hex b hb
   rcases List.mem_cons.mp (I.pF b z) with z | z
   ·exact f1 z
   ·exact f2 z
 refine ⟨okX,ho,by rw [hg]; exact I.bare,Un.kept hk,⟨m,hn,fun i x v h1 h2 h3=>?_⟩,fun x c e=>?_,?_,fun x c e=>?_,fun p hp=>?_,I.hok.kept hk,?_⟩
 ·-- a name with a value is one from around
  have hi:¬ i<ls.length:=fun hi=>by
   unfold D6 at h2
   rw [List.getElem?_append_left (by simpa using hi),List.getElem?_replicate,if_pos hi] at h2
   cases h2
  have e1:fs[i - ls.length]? = some x:=by
   have h1:(ls++fs)[i]? = some x:=h1
   rw [List.getElem?_append_right (by omega)] at h1
   exact h1
  obtain ⟨j,ej,eN,hm,hlk⟩:=B.slot _ _ e1
  have e2:(σ[j]?).join=some v:=by
   unfold D6 at h2
   rw [List.getElem?_append_right (by simpa using hi),List.getElem?_map,List.length_replicate,ej] at h2
   exact Option.some.inj h2
  have e3:σ[j]? = some (some v):=by
   cases q:σ[j]? with
   | none=>rw [q] at e2; cases e2
   | some o=>rw [q] at e2; rw [show o=some v from e2]
  have hfr:=B.free _ hm rfl
  have vis:BX X.env.scope x:=.inr hfr
  obtain ⟨mm,hnm,hl⟩:=I.loc
  obtain ⟨u,r,l⟩:=hl j x v eN e3 vis
  refine ⟨u,r,?_⟩
  rcases l with ⟨k1,_⟩ | ⟨k1,c,ec,zc⟩
  ·have k1:X.env.kindOf x=some .local:=k1
   rcases hfr with z | z<;>rw [k1] at z<;>cases z
  ·refine .inr ⟨?_,c,(hcl _ hm rfl).trans ec,?_⟩
   ·show (compEnvC sc cl C X.env).kindOf x=some .cell\/(compEnvC sc cl C X.env).kindOf x=some .free
    rw [kOf,hlk]
    dsimp only [Option.map]
    split
    ·exact .inl rfl
    ·exact .inr rfl
   ·obtain ⟨oc,hoc,hd⟩:=zc
    exact ⟨oc,hk _ _ hoc,hd⟩
 ·rcases CH x c e with e | ⟨_,e⟩
  ·obtain ⟨v,oc,hoc,hd⟩:=I.cell x c e
   exact ⟨v,oc,hk _ _ hoc,hd⟩
  ·exact ⟨none,e⟩
 ·show H C=none
  rw [hC]; exact I.hok.fresh (Nat.le_refl _)
 ·rcases CH x c e with e | ⟨e,_⟩
  ·exact I.kN x c e
  ·exact I.hok.fresh (by rw [<- hC]; exact Nat.le_of_lt e)
 ·have hp:p∈(X.pn++pins)++[]:=hp
  rw [List.append_nil] at hp
  obtain ⟨e,n,ne,nf,d⟩:=I.pin p hp
  refine ⟨hk _ _ e,n,ltC e,fun z=>?_,d⟩
  rcases List.mem_cons.mp (I.pF _ z) with z | z
  ·exact ne z
  ·exact nf z
 ·show (D6 ls.length fr σ).length=(ls++fs).length
  unfold D6
  rw [List.length_append,List.length_append,List.length_replicate,List.length_map,B.GZ]
theorem Q2 {ls fs:List Str} {sc:Scope} {cl:List (Str×Addr)} {C:Addr} {pins IZ:List (Addr×Obj)} {ex:List Addr} {σ σ':L2.St} {H H':Hp} {s s':Shared} {h':Heap} (I:Inv X pins σ H s)
  (J:Inv (blk X (ls++fs) sc cl C (X.pn++pins) ex s H) IZ σ' H' s') (hex:∀ b∈ex,pH X pins H b) (hC:C=s.heap.objs.size) (hs:Heap.SameBut C s'.heap h'):Inv X pins σ H' { s' with heap:=h' }:=by
 have ltC:∀ {b:Addr} {o:Obj},s.heap.get? b=some o->b≠C:=fun e=>ne_size e hC
 have fr:H' C=none:=J.free
 have un:Un (frs X.stack) ex H H' s.heap s'.heap:=J.base
 refine I.call' (s':={ s' with heap:=h' }) (ch:=ex) J.os ⟨fun b o e n hb hx=>(hs.2 b (ltC e)).trans (un.keep b o e n hb hx),fun b o e n hb hx=>?_,un.free,fun b o e hx=>?_,un.tups,un.qK,un.sN⟩ ?_ J.bare fun b hb=>?_
 ·obtain ⟨sl,q⟩:=un.slot b o e n hb hx
  exact ⟨sl,(hs.2 b (ltC e)).trans q⟩
 ·obtain ⟨o',q⟩:=un.there b o e hx
  exact ⟨o',(hs.2 b (ltC e)).trans q⟩
 ·intro b ob e
  refine (J.hok b ob e).stay (fun c u hc q=>(hs.2 c ?_).trans q) (fun _ q=>q) fun _ _ q=>q
  intro z
  rcases hc with hc | hc
  ·rw [z] at hc; rw [<- hc,fr] at e; cases e
  ·rw [z,fr] at hc; cases hc
 ·obtain ⟨_,f1,_,f3,f4,f5⟩:=hex b hb
  exact ⟨f3,f1,f4,f5⟩
abbrev aAX (ifs:List Expr) (env:Env):Sem Bool:=forIn ifs true fun c r=>if r=true then (do let b <- isTrue c env (eval c env); pure (ForInStep.yield b)) else pure (ForInStep.yield r)
abbrev Calm (prog:Program) (w:World) (A:Around) {α:Type} (t:Sem α) (Q:α->Shared->Prop) (s:Shared):Prop:=wpAny (model prog w) A t Q (fun _ _=>False) s
theorem mW {prog:Program} {w:World} {A:Around} {R:Result->Shared->Prop} {s:Shared} {el tg src:Expr} {ifs:List Expr} {bs:Scope} {at_:Pos} {it acc:Value} {env:Env} (Iv:Nat->Shared->Prop)
  (turn:∀ n s,Iv n s->Calm prog w A (pyNext it) (fun got s1=>match got with
   | none=>R (.ok .next) s1
   | some v=>Calm prog w A (letOwnedTupleGo tg it v) (fun _ s2=>Calm prog w A (assign tg env v) (fun _ s3=>Calm prog w A (aAX ifs env) (fun ok s4 =>
     if ok=true then Calm prog w A (eval el env) (fun x s5=>Calm prog w A (call (.builtin "list.append") [acc,x]) (fun _ s6=>∃ m,m<n/\Iv m s6) s5) s4 else ∃ m,m<n/\Iv m s4) s3) s2) s1) s)
  (n:Nat) (h:Iv n s):codeAny (model prog w) A (.compLoop (.ListComp el [⟨tg,src,ifs,0⟩] bs at_) 0 it acc env) R s:=by
 have no:∀ {α:Type} {E:Value->Shared->Prop} {t:Sem α} {Q Q':α->Shared->Prop} {s:Shared},Calm prog w A t Q s->(∀ a s,Q a s->Q' a s)->wpAny (model prog w) A t Q' E s:=fun h f=>wpAny_mono h f fun _ _ z=>z.elim
 refine codeAny_loop rfl Iv (fun n s hI=>?_) n h
 refine wpAny_noted (m:=compTurn (.ListComp el [⟨tg,src,ifs,0⟩] bs at_) 0 it acc env) ?_
 rw [compTurn_list]
 refine wpAny_bind (wpAny_standAt (wpAny_bind (no (turn n s hI) fun got s1 h1=>?_)))
 match got,h1 with
 | none,h1=>exact wpAny_pure h1
 | some v,h1 =>
  refine wpAny_bind (no h1 fun _ _ h2=>wpAny_bind (no h2 fun _ _ h3=>wpAny_bind (no h3 fun ok s4 h4=>?_)))
  match ok,h4 with
  | false,h4=>exact wpAny_pure (And.intro rfl h4)
  | true,h4=>exact wpAny_bind (wpAny_bind (no h4 fun _ _ h5=>wpAny_bind (no h5 fun _ _ h6=>wpAny_pure (wpAny_pure (And.intro rfl h6)))))
abbrev TFk:=L2.St->Hp->(Bool->Hp->Prop)->Prop
def PIf (X:Cx) (ifs:List Expr) (t:TFk):Prop :=
 ∀ (pins:List (Addr×Obj)) (s:Shared) (σ:L2.St) (H:Hp) (Q:Bool->Hp->Prop),Inv X pins σ H s->t σ H Q ->
  wpAny (model X.prog X.w) X.A (forIn ifs true fun c r=>if r=true then do let ok <- isTrue c X.env (eval c X.env); pure (ForInStep.yield ok) else pure (ForInStep.yield r)) (TP X pins σ Q) X.xe s
theorem VU:PIf X [] (fun _ H Q=>Q true H):=fun pins s σ H Q I h=>by
 rw [List.forIn_nil]
 exact wpAny_pure ⟨H,I,h⟩
theorem aAY {c:Expr} {t:TT} (h:PT X c t):PIf X [c] t:=fun pins s σ H Q I hw=>by
 rw [List.forIn_cons]
 refine wpAny_bind ?_
 rw [if_pos rfl]
 refine wpAny_bind (eP (h pins s σ H Q I hw) fun b s1 q=>wpAny_pure ?_)
 dsimp only
 rw [List.forIn_nil]
 exact wpAny_pure q
def JP (nl:Nat) (fr:List Nat) (wi:TI) (g:TG) (tf:TFk) (te:TE):TE:=fun σ H Q=>wi σ H fun J H1=>∀ acc,H1 acc=none -> ∃ W:Nat->Nat->Hp->List V->Prop,(∃ m,W 0 m (upd H1 acc (.lst [])) []) /\
 ∀ i m H ys,W i m H ys->H acc=some (.lst ys)/\((J.stop i H/\Q (.ref acc) H)\/(J.go i H /\ ∀ x H',J.yld i H x H'->g x (D6 nl fr σ) H' fun σ2 H2=>(σ2.drop nl=fr.map fun j=>(σ[j]?).join)/\tf σ2 H2 fun b H3 =>
  if b=true then te σ2 H3 fun y H4=>H4 acc=some (.lst ys)/\ys.length<sizeLine /\ ∃ m',m'<m/\W (i+1) m' (upd H4 acc (.lst (ys++[y]))) (ys++[y]) else ∃ m',m'<m/\W (i+1) m' H3 ys))
theorem D9 {ls fs:List Str} {fr:List Nat} {sc:Scope} {tg iter elt:Expr} {ifs:List Expr} {pos p2:Pos} {wi:TI} {g:TG} {tf:TFk} {te:TE} {pins:List (Addr×Obj)} {σ:L2.St} {H:Hp} {s:Shared} {Qe:VK} {use:Option (Value->Sem Unit)} {Qv:Value->Shared->Prop}
  (hc:X.calm=true) (B:D7 X ls fs fr sc) (hi:PI X tg iter wi) (hg:∀ cl C pn ex s H,PG (blk X (ls++fs) sc cl C pn ex s H) tg g) (hf:∀ cl C pn ex s H,PIf (blk X (ls++fs) sc cl C pn ex s H) ifs tf) (he:∀ cl C pn ex s H,PE (blk X (ls++fs) sc cl C pn ex s H) elt te)
  (hs:∀ x,foldedSetIterable iter X.env x=pure x) (I:Inv X pins σ H s) (h:JP ls.length fr wi g tf te σ H Qe)
  (fin:∀ acc C s' H',Inv X pins σ H' s'->(∃ m,s'.heap.Ns C m)->pH X pins H' C->Qe (.ref acc) H'->compPost (model X.prog X.w) X.A X.xe use Qv (.ref acc) C (.ok .next) s') :
  wpAny (model X.prog X.w) X.A (comprehension (.ListComp elt [⟨tg,iter,ifs,0⟩] sc pos) sc X.env p2 (newList []) false (eval iter X.env) use) Qv X.xe s:=by
 obtain ⟨cl,ecl,hcl,CH⟩:=G2 (scope:=sc) (env:=X.env) fun x hx hf=>I.ok.has x.1 (B.free x hx hf)
 refine wpAny_comprehension_free (g:=⟨tg,iter,ifs,0⟩) (gs:=[]) rfl hs ecl B.kind (fun x hx e=>(B.uniq x hx).trans (congrArg some e)) ?_
 refine eP (hi pins s σ H _ I h) fun v s1 h1=>eP h1 fun itv s2 h2=>?_
 obtain ⟨it,fp,tn,J,H2,e,I2,T,st2,f2,h2⟩:=h2
 subst e
 refine wpAny_newObj_type ?_ (by show ([]:List Value).toArray.size<=sizeLine; simp)
 have hacc:H2 s2.heap.objs.size=none:=I2.hok.fresh (Nat.le_refl _)
 have I3:Inv X pins σ (upd H2 s2.heap.objs.size (.lst [])) { s2 with heap:=s2.heap.push { cls:=.type "list",data:=.seq ([]:List Value).toArray } } :=
  I2.laid (t':=s2.toks) (fun b o e=>Heap.get?_push_of_some _ e) (Nat.le_refl _) ⟨by simp,[],0,.nil,Heap.get?_push_size _ rfl⟩
 have hfp:∀ b∈fp,b<s2.heap.objs.size:=fun b hb=>by obtain ⟨o,e,_⟩:=T.obj _ _ st2 b hb; exact Heap.lt_size e
 obtain ⟨W,⟨m0,w0⟩,turn⟩:=h2 _ hacc
 generalize EA:s2.heap.objs.size=acc at hacc I3 w0 turn ⊢
 have aH6:∀ b∈fp,b≠acc:=fun b hb=>D8 (hfp b hb) (Nat.le_of_eq EA)
 have f3:∀ b∈fp,pH X pins (upd H2 acc (.lst [])) b:=fun b hb=>⟨by rw [bR (aH6 b hb)]; exact (f2 b hb).1,(f2 b hb).2⟩
 generalize hs3:({ s2 with heap:=s2.heap.push { cls:=.type "list",data:=.seq ([]:List Value).toArray } }:Shared)=s3 at I3
 have hsz3:s3.heap.objs.size=acc+1:=by rw [<- hs3]; show (s2.heap.push _).objs.size=_; rw [Heap.size_push,EA]
 have st3:tn 0 s3.heap:=T.keep _ _ _ st2 fun b hb o e=>by rw [<- hs3]; exact Heap.get?_push_of_some _ e
 refine LX fun h4 hn4 hk4 co=>?_
 generalize hC:s3.heap.objs.size=C at hn4 co ⊢
 have eC:cellsFrom (C+1) sc.names cl=cellsFrom (C+1) sc.names []++cl:=gX sc.names (C+1) [] cl
 generalize hcs:cellsFrom (C+1) sc.names []=cs at co eC
 have own:∀ x c,cs.lookup x=some c->(x,NameKind.cell)∈sc.names/\C<c/\h4.IsCell c none:=fun x c e=>by
  have m:=PySem.mem_of_lookup e
  refine ⟨?_,(co.empty x c m).2,(co.empty x c m).1⟩
  rw [<- hcs] at m
  rcases jP _ _ _ _ m with z | z
  ·cases z
  ·exact z
 generalize hdl:cellsFrom (C+1) sc.names cl=dl at eC ⊢
 have two:∀ x c,dl.lookup x=some c->cs.lookup x=some c\/(cs.lookup x=none/\cl.lookup x=some c):=fun x c e=>by
  rw [eC,List.lookup_append] at e
  cases q:cs.lookup x with
  | none=>rw [q] at e; exact .inr ⟨rfl,e⟩
  | some d=>rw [q] at e; exact .inl e
 have aH7:∀ x∈sc.names,x.2=.free->dl.lookup x.1=X.env.cells.lookup x.1:=fun x hx e=>by
  rw [<- hcl x hx e,eC,List.lookup_append]
  cases q:cs.lookup x.1 with
  | none=>rfl
  | some d =>
   have z:=B.uniq _ (own _ _ q).1
   rw [B.uniq x hx,e] at z
   cases z
 have aCi:∀ x c,dl.lookup x=some c->X.env.cells.lookup x=some c\/(C<c/\h4.IsCell c none):=fun x c e=>by
  rcases two x c e with e | ⟨_,e⟩
  ·exact .inr (own x c e).2
  ·exact .inl (CH x c e)
 have aH8:∀ x∈sc.names,x.2=.cell -> ∃ c,dl.lookup x.1=some c/\C<c:=fun x hx e=>by
  obtain ⟨c,hc⟩:=kD sc.names (C+1) [] x.1 (.inr (by rw [<- e]; exact hx))
  rw [hcs] at hc
  exact ⟨c,by rw [eC,List.lookup_append,hc]; rfl,(own _ _ hc).2.1⟩
 have low:∀ x c,cl.lookup x=some c->c<C:=fun x c e=>by
  obtain ⟨v,o,ho,_⟩:=I3.cell x c (CH x c e)
  rw [<- hC]; exact Heap.lt_size ho
 have aH9:∀ x y c,dl.lookup x=some c->dl.lookup y=some c->x=y:=fun x y c e e'=>by
  rcases two x c e with e | ⟨_,e⟩<;>rcases two y c e' with e' | ⟨_,e'⟩
  ·exact name_of_addr co.apart (PySem.mem_of_lookup e) (PySem.mem_of_lookup e')
  ·exact absurd (own _ _ e).2.1 (Nat.lt_asymm (low _ _ e'))
  ·exact absurd (own _ _ e').2.1 (Nat.lt_asymm (low _ _ e))
  ·exact I3.ok.inj x y c (CH x c e) (CH y c e')
 have I4:Inv (blk X (ls++fs) sc dl C (X.pn++pins) fp s3 (upd H2 acc (.lst []))) [] (D6 ls.length fr σ) (upd H2 acc (.lst [])) { s3 with heap:=h4 } :=
  VT B I3 aH7 aCi aH8 aH9 (fun b hb=>⟨f3 b hb,by rw [hsz3,<- EA]; exact Nat.lt_succ_of_lt (hfp b hb)⟩) hC.symm hn4 hk4 rfl rfl
 generalize hX:blk X (ls++fs) sc dl C (X.pn++pins) fp s3 (upd H2 acc (.lst []))=Y at I4
 have pY:Y.prog=X.prog:=by rw [<- hX]; rfl
 have wY:Y.w=X.w:=by rw [<- hX]; rfl
 have kY:Y.K=X.K:=by rw [<- hX]; rfl
 have AY:Y.A=X.A:=by rw [<- hX]; rfl
 have cY:Y.calm=true:=by rw [<- hX]; exact hc
 have eY:Y.env=compEnvC sc dl C X.env:=by rw [<- hX]; rfl
 have xY:Y.xe=fun _ _=>False:=by rw [<- hX]; rfl
 have Q4:∀ {H':Hp},(∀ b∈fp,H' b=none) -> ∀ b∈fp,pH Y [] H' b:=fun hn b hb=>by
  rw [<- hX]
  obtain ⟨_,f1,f2',_,f4,f5⟩:=f3 b hb
  refine ⟨hn b hb,fun z=>?_,fun z=>?_,.inl hb,fun x c e=>?_,fun p hp=>f5 p ?_⟩
  ·exact absurd z (D8 (hfp b hb) (by rw [<- hC,hsz3,EA]; exact Nat.le_succ _))
  ·rcases List.mem_cons.mp (I3.pF b z) with z | z
   ·exact f1 z
   ·exact f2' z
  ·rcases aCi x c e with e | ⟨e,_⟩
   ·exact f4 x c e
   ·exact Ne.symm (D8 (hfp b hb) (by rw [EA]; exact Nat.le_of_lt (Nat.lt_trans (by rw [<- hC,hsz3]; exact Nat.lt_succ_self _) e)))
  ·have hp:p∈(X.pn++pins)++[]:=hp
   rw [List.append_nil] at hp; exact hp
 have st4:tn 0 h4:=T.keep _ _ _ st3 fun b hb o e=>hk4 b o e
 have loop:∀ s5:Shared,(∃ i H',Inv Y [] (D6 ls.length fr σ) H' s5/\tn i s5.heap/\(∀ b∈fp,H' b=none) /\ ∃ m ys,W i m H' ys)->codeAny (model X.prog X.w) X.A (.compLoop (.ListComp elt [⟨tg,iter,ifs,0⟩] sc pos) 0 (.ref it) (.ref acc) (compEnvC sc dl C X.env)) (compPost (model X.prog X.w) X.A X.xe use Qv (.ref acc) C) s5:=by
  rintro s5 ⟨i,H',I5,st5,fr5,m,ys,w5⟩
  refine mW (fun n s'=>∃ i H' ys,Inv Y [] (D6 ls.length fr σ) H' s'/\tn i s'.heap/\(∀ b∈fp,H' b=none)/\W i n H' ys) ?_ m ⟨i,H',ys,I5,st5,fr5,w5⟩
  rintro n s6 ⟨i,H6,ys,I6,st6,fr6,w6⟩
  obtain ⟨ha6,alt⟩:=turn i n H6 ys w6
  rcases alt with ⟨stop,qn⟩ | ⟨go,step⟩
  ·have q:=T.done Y pY wY kY cY i [] s6 _ H6 (fun _ _=>False) I6 (Q4 fr6) st6 stop
   rw [AY] at q
   refine eP q fun r s7 aHa=>?_
   obtain ⟨hr,I7⟩:=aHa
   subst hr
   have fr7:H6 C=none:=by
    have:=I7.free
    rw [eY] at this
    exact this
   refine fin acc C s7 H6 ?_ ?_ (I3.GF (Nat.le_of_eq hC) fr7) qn
   ·rw [<- hX] at I7
    exact Q2 I3 I7 (fun b hb=>f3 b hb) hC.symm (.refl ..)
   ·obtain ⟨m,hm,_⟩:=I7.loc
    rw [eY] at hm
    exact ⟨m,hm⟩
  ·have q:=T.item Y pY wY kY cY i [] s6 _ H6 (fun _ _=>False) I6 (Q4 fr6) st6 go
   rw [AY] at q
   refine eP q fun r s7 aHb=>?_
   obtain ⟨u,hr,h7⟩:=aHb
   subst hr
   refine eP h7 fun _ s8 aHc=>?_
   obtain ⟨x,H8,I8,r8,y8,st8,fr8⟩:=aHc
   have I8':=I8.pinned (Q4 fr8) (T.obj _ _ st8)
   have hgY:=hg dl C (X.pn++pins) fp s3 (upd H2 acc (.lst []))
   have hfY:=hf dl C (X.pn++pins) fp s3 (upd H2 acc (.lst []))
   have heY:=he dl C (X.pn++pins) fp s3 (upd H2 acc (.lst []))
   rw [hX] at hgY hfY heY
   have q8:=hgY _ s8 _ H8 x u _ I8' r8 (step x H8 y8)
   rw [pY,wY,AY,eY,xY] at q8
   refine eP q8 fun _ s9 aHe=>?_
   obtain ⟨σ9,H9,I9,hσ9,q9⟩:=aHe
   have q10:=hfY _ s9 σ9 H9 _ I9 q9
   rw [pY,wY,AY,eY,xY] at q10
   refine eP q10 fun ok s10 aHf=>?_
   obtain ⟨H10,I10,q10⟩:=aHf
   have bl:∀ {H7:Hp} {s7:Shared},Inv Y ([]++wQ fp s8.heap) σ9 H7 s7->(∃ m',m'<n /\ ∃ ys',W (i+1) m' H7 ys') -> ∃ m,m<n /\ ∃ i H' ys,Inv Y [] (D6 ls.length fr σ) H' s7/\tn i s7.heap/\(∀ b∈fp,H' b=none)/\W i m H' ys:=fun {H7 s7} I7 ⟨m',hm,ys',w7⟩=>by
    refine ⟨m',hm,i+1,H7,ys',?_,T.keep _ _ _ st8 fun b hb o e=>(I7.pin (b,o) (List.mem_append_right _ (List.mem_append_right _ (lK hb e)))).1,fun b hb=>?_,w7⟩
    ·refine I7.qN.weak ?_ fun k v e=>?_
     ·rw [I7.len,<- I6.len]
     ·by_cases hk:k<ls.length
      ·unfold D6 at e
       rw [List.getElem?_append_left (by simpa using hk),List.getElem?_replicate,if_pos hk] at e
       cases e
      ·have e2:(σ9.drop ls.length)[k - ls.length]? = some (some v):=by
        rw [hσ9]
        unfold D6 at e
        rw [List.getElem?_append_right (by simpa using hk),List.length_replicate] at e
        exact e
       rw [List.getElem?_drop] at e2
       rw [show ls.length+(k - ls.length)=k by omega] at e2
       exact e2
    ·obtain ⟨o,e,d⟩:=T.obj _ _ st8 b hb
     exact (I7.pin (b,o) (List.mem_append_right _ (List.mem_append_right _ (lK hb e)))).2.1
   cases ok with
   | false =>
    rw [if_neg Bool.false_ne_true] at q10 ⊢
    obtain ⟨m',hm,w'⟩:=q10
    exact bl I10 ⟨m',hm,ys,w'⟩
   | true =>
    rw [if_pos rfl] at q10 ⊢
    have q11:=heY _ s10 σ9 H10 _ I10 q10
    rw [pY,wY,AY,eY,xY] at q11
    refine eP q11 fun yv s11 aHg=>?_
    obtain ⟨y,H11,I11,r11,aA0,aHh,m',hm,w'⟩:=aHg
    have q12:=(AA (X:=Y)) _ s11 σ9 H11 (.ref acc) [y] (.ref acc) [yv] (fun _ H'=>H' = upd H11 acc (.lst (ys++[y]))) I11 rfl (.cons r11 .nil) ⟨acc,ys,y,rfl,rfl,aA0,aHh,rfl⟩
    rw [pY,wY,AY,xY] at q12
    refine eP q12 fun _ s12 aHi=>?_
    obtain ⟨_,H12,I12,_,e12⟩:=aHi
    subst e12
    exact bl I12 ⟨m',hm,_,w'⟩
 have L0:=loop _ ⟨0,_,I4,st4,fun b hb=>(f3 b hb).1,m0,[],w0⟩
 refine codeAny_compStart_list L0 (T.self _ 0 _ _ _ st4 L0)
theorem VV {ls fs:List Str} {fr:List Nat} {sc:Scope} {tg iter elt:Expr} {ifs:List Expr} {pos:Pos} {wi:TI} {g:TG} {tf:TFk} {te:TE}
  (hc:X.calm=true) (B:D7 X ls fs fr sc) (hi:PI X tg iter wi) (hg:∀ cl C pn ex s H,PG (blk X (ls++fs) sc cl C pn ex s H) tg g) (hf:∀ cl C pn ex s H,PIf (blk X (ls++fs) sc cl C pn ex s H) ifs tf) (he:∀ cl C pn ex s H,PE (blk X (ls++fs) sc cl C pn ex s H) elt te)
  (hs:∀ x,foldedSetIterable iter X.env x=pure x:=by intro _; rfl):PE X (.ListComp elt [⟨tg,iter,ifs,0⟩] sc pos) (JP ls.length fr wi g tf te):=by
 intro pins s σ H Q I h
 rw [eval_ListComp]
 refine D9 (use:=none) hc B hi hg hf he hs I h fun acc C s' H' I' hm fp q=>?_
 obtain ⟨m,hm⟩:=hm
 obtain ⟨f0,f1,_,f3,f4,f5⟩:=fp
 exact ⟨m,hm,fun h' hsb=>⟨.ref acc,H',I'.turned (t':=s'.toks) (fun b o hb e=>(hsb.2 b hb).trans e) f0 f1 f3 f4 f5,rfl,q⟩⟩
theorem G3 {i:Nat} {x:Str} {ls fs:List Str} {fr:List Nat} {sc:Scope} {tg iter elt:Expr} {ifs:List Expr} {pos spos pos':Pos} {wi:TI} {g:TG} {tf:TFk} {te:TE} (hN:X.N.Nodup) (hx0:X.N[i]? = some x) (hx:X.env.scope.names.lookup x=some .local)
  (hc:X.calm=true) (B:D7 X ls fs fr sc) (hi:PI X tg iter wi) (hg:∀ cl C pn ex s H,PG (blk X (ls++fs) sc cl C pn ex s H) tg g) (hf:∀ cl C pn ex s H,PIf (blk X (ls++fs) sc cl C pn ex s H) ifs tf) (he:∀ cl C pn ex s H,PE (blk X (ls++fs) sc cl C pn ex s H) elt te)
  (hsw:swapsWith (.ListComp elt [⟨tg,iter,ifs,0⟩] sc pos) (some (.Name x pos')) spos.line X.env=pure true)
  (hs:∀ x,foldedSetIterable iter X.env x=pure x:=by intro _; rfl):PS X (.Assign [.Name x pos'] (.ListComp elt [⟨tg,iter,ifs,0⟩] sc pos) spos) (ZM (JP ls.length fr wi g tf te) (PN i)):=by
 intro pins s σ H D I h
 rw [exec_Assign_Name_used _ _ _ _ hsw]; refine wpAny_bind (wpAny_standAt (wpAny_bind ?_))
 show wpAny _ X.A (do let _ <- comprehension (.ListComp elt [⟨tg,iter,ifs,0⟩] sc pos) sc X.env _ (newList []) false (eval iter X.env) (some (assign (.Name x pos') X.env))) _ _ s
 refine wpAny_bind (wpAny_mono (D9 (use:=some (assign (.Name x pos') X.env)) (Qv:=fun _ s'=>SP X pins D .next s') hc B hi hg hf he hs I h fun acc C s' H' I' hm fp q=>?_) (fun _ s' hq=>wpAny_pure (wpAny_pure hq)) fun _ _ e=>e)
 obtain ⟨m,hm⟩:=hm
 obtain ⟨f0,f1,_,f3,f4,f5⟩:=fp
 refine wpAny_assign_Name (zU I' hN hx0 (.inl hx) (v:=.ref acc) rfl (fun s'' I'' hsb=>?_) (.inr hx))
 obtain ⟨a,hsb,ha⟩:=hsb
 have haC:a≠C:=by
  rcases ha with rfl | ha
  ·exact Ne.symm f1
  ·exact f4 x a ha
 exact ⟨m,hm.sameBut hsb (Ne.symm haC),fun h' hs'=>⟨_,H',I''.turned (t':=s''.toks) (fun b o hb e=>(hs'.2 b hb).trans e) f0 f1 f3 f4 f5,q⟩⟩
end
def chk (outer:List (Str×NameKind)) (sc:Scope) (N ls fs:List Str) (fr:List Nat):Bool :=
 (sc.kind == .function)&&decide (ls++fs).Nodup&&sc.names.all (fun x=>decide (sc.names.lookup x.1=some x.2)) &&
 sc.names.all (fun x=>decide (x.2=.free->(outer.lookup x.1=some .cell\/outer.lookup x.1=some .free)))&&decide (fr.length=fs.length) &&
 (fs.zip fr).all (fun x=>decide (N[x.2]? = some x.1)&&sc.names.contains (x.1,NameKind.free)&&decide (sc.names.lookup x.1=some .free))
theorem sS {X:Cx} {ls fs:List Str} {fr:List Nat} {sc:Scope} (h:chk X.env.scope.names sc X.N ls fs fr=true):D7 X ls fs fr sc:=by
 unfold chk at h
 simp only [Bool.and_eq_true,List.all_eq_true,decide_eq_true_eq] at h
 obtain ⟨⟨⟨⟨⟨h1,h2⟩,h3⟩,h5⟩,h6⟩,h7⟩:=h
 refine ⟨eq_of_beq h1,h2,h3,h5,fun k x e=>?_,h6⟩
 have hk:k<fs.length:=(List.getElem?_eq_some_iff.mp e).1
 have hm:(x,fr[k]'(by omega))∈fs.zip fr:=by
  have:(fs.zip fr)[k]? = some (x,fr[k]'(by omega)):=by
   rw [List.getElem?_zip_eq_some]
   exact ⟨e,by simp⟩
  exact List.mem_of_getElem? this
 obtain ⟨⟨a,b⟩,c⟩:=h7 _ hm
 exact ⟨fr[k]'(by omega),by simp,a,by simpa using b,c⟩
abbrev GE:=D->bN->(bN->Prop)->Prop
def CI (K:PySem.W.Frag) (nl n:Nat) (g:GE):TG:=fun v σ H Q=>∃ (S:Addr->Prop) (ρ:bN) (d:D) (Q3:bN->Prop),σ.length=n/\(∀ a,H a=none->S a)/\Sl K S H ρ σ/\Dn K S H d v/\g d ρ Q3 /\
 ∀ σ' ρ',Sl K S H ρ' σ'->σ'.drop nl=σ.drop nl->Q3 ρ'->Q σ' H
def PG4 (X:Cx) (nl:Nat) (tg:Expr) (g:GE):Prop:=PG X tg (CI X.K nl X.N.length g)
theorem Sl.set {K:PySem.W.Frag} {S:Addr->Prop} {H:Hp} {ρ:bN} {σ:L2.St} {i:Nat} {d:D} {v:V} (h:Sl K S H ρ σ) (hi:i<σ.length) (q:Dn K S H d v):Sl K S H (ρ.set i (some d)) (σ.set i (some v)):=fun j e he=>by
 rcases get_set he with ⟨hj,z,_⟩ | ⟨hj,z⟩
 ·cases z
  subst hj
  exact ⟨v,List.getElem?_set_self hi,q⟩
 ·obtain ⟨u,a,b⟩:=h j e z
  exact ⟨u,by rw [List.getElem?_set_ne (Ne.symm hj)]; exact a,b⟩
def hN (i:Nat):GE:=fun d ρ Q=>Q (ρ.set i (some d))
def h2 (i j:Nat):GE:=fun d ρ Q=>match d with
 | .tup [d1,d2]=>Q ((ρ.set i (some d1)).set j (some d2))
 | _=>False
theorem drop_set {α:Type} {l:List α} {i n:Nat} {x:α} (h:i<n):(l.set i x).drop n=l.drop n:=by
 rw [List.drop_set,if_pos h]
section
variable {X:Cx}
theorem aCj {nl i:Nat} {x:Str} {pos:Pos} (nd:X.N.Nodup) (hil:i<nl) (hi:X.N[i]? = some x:=by rfl) (hx:Loc X.env.scope x:=by first | exact .inl rfl | exact .inr rfl) (hfx:X.fn x=true\/X.env.scope.names.lookup x=some .local:=by first | exact .inr rfl | exact .inl rfl):PG4 X nl (.Name x pos) (hN i) :=
 LW (nZ nd hi hx hfx) fun v σ H Q aHj=>by obtain ⟨S,ρ,d,Q3,hl,fc,sl,dn,hg,k⟩:=aHj; exact k _ _ (sl.set (by rw [hl]; exact jO hi) dn) (drop_set hil) hg
theorem aCk {nl i j:Nat} {x y:Str} {kk:Nat} {pos px py:Pos} (hc:X.calm=true) (nd:X.N.Nodup) (hil:i<nl) (hjl:j<nl) (hi:X.N[i]? = some x:=by rfl) (hj:X.N[j]? = some y:=by rfl) (hx:Loc X.env.scope x:=by first | exact .inl rfl | exact .inr rfl) (hfx:X.fn x=true\/X.env.scope.names.lookup x=some .local:=by first | exact .inr rfl | exact .inl rfl) (hy:Loc X.env.scope y:=by first | exact .inl rfl | exact .inr rfl) (hfy:X.fn y=true\/X.env.scope.names.lookup y=some .local:=by first | exact .inr rfl | exact .inl rfl)
  (hn:(assignEach [.Name x px,.Name y py] X.env).length=2:=by rfl) (hst:(assignEach [.Name x px,.Name y py] X.env).findIdx? (·.1)=none:=by rfl)
  (hs1:(assignEach [.Name x px,.Name y py] X.env).map (·.2)=assign (.Name x px) X.env::(assignEach [.Name y py] X.env).map (·.2):=by rfl) (hs2:(assignEach [.Name y py] X.env).map (·.2)=assign (.Name y py) X.env::(assignEach [] X.env).map (·.2):=by rfl) :
  PG4 X nl (.Tuple [.Name x px,.Name y py] kk pos) (h2 i j) :=
 LW (PQ (n:=2) hc (qM (nZ nd hi hx hfx) (qM (nZ nd hj hy hfy) JB hs2) hs1) hn hst) fun v σ H Q aHl=>by
  obtain ⟨S,ρ,d,Q3,hl,fc,sl,dn,hg,k⟩:=aHl
  unfold h2 at hg
  split at hg
  ·rename_i d1 d2
   simp only [Dn] at dn
   obtain ⟨a,xs,rfl,ha,da⟩:=dn
   obtain ⟨v1,r1,rfl,h1,h2⟩:=da.bI
   obtain ⟨v2,r2,rfl,h3,h4⟩:=h2.bI
   simp only [aQ] at h4
   subst h4
   refine ⟨a,_,rfl,(gC.of ha),rfl,v1,[v2],rfl,v2,[],rfl,rfl,?_⟩
   exact k _ _ ((sl.set (by rw [hl]; exact jO hi) h1).set (by rw [List.length_set,hl]; exact jO hj) h3) (by rw [drop_set hjl,drop_set hil]) hg
  ·exact hg.elim
def Q5 (X:Cx) (ifs:List Expr) (t:WT):Prop:=PIf X ifs (liftT X.K t)
def aCl:WT:=fun _ Q=>Q true
theorem aHm:Q5 X [] aCl:=fun pins s σ H Q I aHn=>by obtain ⟨S,ρ,Q3,fc,sl,ht,k⟩:=aHn; exact VU pins s σ H Q I (k true H (Same.refl H) ht)
theorem aCm {c:Expr} {t:WT} (h:yI X c t):Q5 X [c] t:=aAY h
def qW (g:GE) (tf:WT) (te:WE) (ρ:bN):List D->List D->(D->Prop)->Prop
 | [],acc,Q=>Q (.lst acc)
 | d::r,acc,Q=>g d ρ fun ρ2=>tf ρ2 fun b=>if b=true then te ρ2 fun y=>acc.length<sizeLine/\qW g tf te ρ r (acc++[y]) Q else qW g tf te ρ r acc Q
def benv (nl:Nat) (fr:List Nat) (ρ:bN):bN:=List.replicate nl none++fr.map fun j=>(ρ[j]?).join
def JQ (nl:Nat) (fr:List Nat) (ti:WI) (g:GE) (tf:WT) (te:WE):WE:=fun ρ Q=>ti ρ fun ds=>qW g tf te (benv nl fr ρ) ds [] Q
theorem VW {K:PySem.W.Frag} {S:Addr->Prop} {H:Hp} {ρ:bN} {σ:L2.St} {nl:Nat} {fr:List Nat} (h:Sl K S H ρ σ):Sl K S H (benv nl fr ρ) (D6 nl fr σ):=fun i d e=>by
 unfold benv at e
 unfold D6
 by_cases hi:i<nl
 ·rw [List.getElem?_append_left (by simpa using hi),List.getElem?_replicate,if_pos hi] at e
  cases e
 ·rw [List.getElem?_append_right (by simpa using hi),List.getElem?_map,List.length_replicate] at e ⊢
  cases q:fr[i - nl]? with
  | none=>rw [q] at e; cases e
  | some j =>
   rw [q] at e
   have e1:(ρ[j]?).join=some d:=Option.some.inj e
   have e2:ρ[j]? = some (some d):=by
    cases z:ρ[j]? with
    | none=>rw [z] at e1; cases e1
    | some o=>rw [z] at e1; rw [show o=some d from e1]
   obtain ⟨v,ev,dv⟩:=h j d e2
   exact ⟨v,by show some ((σ[j]?).join)=_; rw [ev]; rfl,dv⟩
theorem AJ {K:PySem.W.Frag} {nl n:Nat} {fr:List Nat} {ti:WI} {g:GE} {tf:WT} {te:WE} {σ:L2.St} {H:Hp} {Q:VK} (hn:nl+fr.length=n) (h:QK K (JQ nl fr ti g tf te) σ H Q):JP nl fr (XY K ti) (CI K nl n g) (liftT K tf) (lift K te) σ H Q:=by
 obtain ⟨S,ρ,Q3,fc,sl,ht,k⟩:=h
 refine ⟨S,ρ,_,fc,sl,ht,fun J H1 ds G s1 hG wk q1=>?_⟩
 intro acc hacc
 have h0:H acc=none:=s1.free hacc
 have fc1:=bH fc s1
 have ok:∀ {H2:Hp},Same H1 H2->(∃ ys,H2 acc=some (.lst ys))->(∀ a,H2 a=none->S a/\a≠acc)/\Sl K (fun a=>S a/\a≠acc) H2 (benv nl fr ρ) (D6 nl fr σ) /\ ∀ g∈G,Dn K (fun a=>S a/\a≠acc) H2 g.1 g.2:=fun {H2} s2 hy=>by
  refine ⟨fun a e=>⟨bH fc1 s2 a e,fun z=>?_⟩,?_,fun g hg=>Dn.fits ((Fits.fresh hacc).trans (.same s2)) _ _ (hG g hg)⟩
  ·subst z
   obtain ⟨ys,hy⟩:=hy
   rw [e] at hy; cases hy
  ·exact VW (Sl.fits ((Fits.fresh h0).trans (.same (s1.trans s2))) sl)
 refine ⟨fun i m H2 ys=>m=ds.length - i/\i<=ds.length/\Same H1 H2/\H2 acc=some (.lst ys) /\ ∃ aD,aQ K (fun a=>S a/\a≠acc) H2 aD ys/\qW g tf te (benv nl fr ρ) (ds.drop i) aD Q3,
  ⟨_,rfl,Nat.zero_le _,aM hacc,bA,[],aQ.nil,q1⟩,?_⟩
 rintro i m H2 ys ⟨rfl,hi,s2,hy,aD,dn,cw⟩
 obtain ⟨fc2,sl2,gh2⟩:=ok s2 ⟨ys,hy⟩
 refine ⟨hy,?_⟩
 by_cases hlt:i<ds.length
 ·refine .inr ?_
  obtain ⟨g1,g2⟩:=wk.go _ H2 fc2 gh2 i ds[i] (by simp [hlt])
  refine ⟨g1,fun x H' y=>?_⟩
  obtain ⟨s3,dx⟩:=g2 x H' y
  rw [List.drop_eq_getElem_cons hlt,qW] at cw
  refine ⟨fun a=>S a/\a≠acc,benv nl fr ρ,ds[i],_,?_,bH fc2 s3,Sl.fits (.same s3) sl2,dx,cw,fun σ' ρ' sl' hd q'=>?_⟩
  ·unfold D6; rw [List.length_append,List.length_replicate,List.length_map]; exact hn
  ·refine ⟨by rw [hd]; unfold D6; rw [List.drop_append_of_le_length (by simp),List.drop_replicate]; simp,fun a=>S a/\a≠acc,ρ',_,bH fc2 s3,sl',q',fun b H3 s4 q4=>?_⟩
   cases b with
   | false =>
    rw [if_neg Bool.false_ne_true] at q4 ⊢
    exact ⟨_,by omega,rfl,hlt,(s2.trans s3).trans s4,(s3.trans s4) _ _ hy,aD,aQ.fits (.same (s3.trans s4)) _ _ dn,q4⟩
   | true =>
    rw [if_pos rfl] at q4 ⊢
    refine ⟨fun a=>S a/\a≠acc,ρ',_,bH fc2 (s3.trans s4),Sl.fits (.same s4) sl',q4,fun v H4 d s5 d5 q5=>?_⟩
    have hy4:H4 acc=some (.lst ys):=((s3.trans s4).trans s5) _ _ hy
    have F:Fits K (fun a=>S a/\a≠acc) (fun a=>S a/\a≠acc) H4 (upd H4 acc (.lst (ys++[v]))):=.upd (.inl ⟨_,hy4⟩) fun z=>z.2 rfl
    refine ⟨hy4,by rw [<- dn.len]; exact q5.1,_,by omega,rfl,hlt,fun b u hb=>?_,bA,aD++[d],aQ.fits F _ _ ((aQ.fits (.same ((s3.trans s4).trans s5)) _ _ dn).append (aQ.one d5)),q5.2⟩
    rw [bR (bX hb hacc)]
    exact (((s2.trans s3).trans s4).trans s5) _ _ hb
 ·have e:i=ds.length:=by omega
  subst e
  rw [List.drop_length,qW] at cw
  exact .inl ⟨wk.stop _ H2 gh2 _ rfl,k acc ys H2 aD h0 hy (s1.trans s2) dn cw⟩
theorem aCn {ls fs:List Str} {fr:List Nat} {sc:Scope} {tg iter elt:Expr} {ifs:List Expr} {pos:Pos} {ti:WI} {g:GE} {tf:WT} {te:WE} (hc:X.calm=true) (hi:QY X tg iter ti)
  (hg:∀ cl C pn ex s H,(blk X (ls++fs) sc cl C pn ex s H).N.Nodup->PG4 (blk X (ls++fs) sc cl C pn ex s H) ls.length tg g) (hf:∀ cl C pn ex s H,Q5 (blk X (ls++fs) sc cl C pn ex s H) ifs tf) (he:∀ cl C pn ex s H,cZ (blk X (ls++fs) sc cl C pn ex s H) elt te)
  (B:chk X.env.scope.names sc X.N ls fs fr=true:=by rfl) (hs:∀ x,foldedSetIterable iter X.env x=pure x:=by intro _; rfl):D2 X (.ListComp elt [⟨tg,iter,ifs,0⟩] sc pos) (JQ ls.length fr ti g tf te) :=
 imp (VV (g:=CI X.K ls.length (ls++fs).length g) (tf:=liftT X.K tf) (te:=lift X.K te) hc (sS B) hi (fun cl C pn ex s H=>hg cl C pn ex s H (sS B).nd) hf he hs) fun σ H Q h=>AJ (n:=(ls++fs).length) (by rw [List.length_append,(sS B).GZ]) h
theorem LY {i:Nat} {x:Str} {ls fs:List Str} {fr:List Nat} {sc:Scope} {tg iter elt:Expr} {ifs:List Expr} {pos spos pos':Pos} {ti:WI} {g:GE} {tf:WT} {te:WE} (nd:X.N.Nodup) (hc:X.calm=true) (hi:QY X tg iter ti)
  (hg:∀ cl C pn ex s H,(blk X (ls++fs) sc cl C pn ex s H).N.Nodup->PG4 (blk X (ls++fs) sc cl C pn ex s H) ls.length tg g) (hf:∀ cl C pn ex s H,Q5 (blk X (ls++fs) sc cl C pn ex s H) ifs tf) (he:∀ cl C pn ex s H,cZ (blk X (ls++fs) sc cl C pn ex s H) elt te)
  (hx0:X.N[i]? = some x:=by rfl) (hx:X.env.scope.names.lookup x=some .local:=by rfl) (hsw:swapsWith (.ListComp elt [⟨tg,iter,ifs,0⟩] sc pos) (some (.Name x pos')) spos.line X.env=pure true:=by rfl)
  (B:chk X.env.scope.names sc X.N ls fs fr=true:=by rfl) (hs:∀ x,foldedSetIterable iter X.env x=pure x:=by intro _; rfl):FG X (.Assign [.Name x pos'] (.ListComp elt [⟨tg,iter,ifs,0⟩] sc pos) spos) (aAL i (JQ ls.length fr ti g tf te)) :=
 jY (G3 (g:=CI X.K ls.length (ls++fs).length g) (tf:=liftT X.K tf) (te:=lift X.K te) nd hx0 hx hc (sS B) hi (fun cl C pn ex s H=>hg cl C pn ex s H (sS B).nd) hf he hsw hs) fun Bd σ H aHo=>by
 obtain ⟨H₀,S,w,ρ,G,E,hl,st,ht,ok⟩:=aHo
 exact AJ (n:=(ls++fs).length) (by rw [List.length_append,(sS B).GZ]) ⟨_,iT ρ,_,st.LQ,st.rd,ht,fun p xs H' ds hp hp' s' d' q'=>ok.nx w _ H' _ (by rw [List.length_set]; exact hl) ((st.same s').lO (d:=.lst ds) (by rw [hl]; exact jO hx0) (by simp only [Dn]; exact ⟨p,xs,rfl,hp',st.LQ p hp,aQ.fits (.mono fun _ z=>z.1) _ _ d'⟩)) q'⟩
end
section
variable {X:Cx}
def tyD:D->String
 | .non => "NoneType"
 | .bl _ => "bool"
 | .int _ => "int"
 | .str _ => "str"
 | .tup _ => "tuple"
 | .lst _ => "list"
 | .lD _ => "list"
 | .jX _ _ => "dict"
 | .eL _ _ _ => "dict"
 | .exc _ _ => "NoneType"
inductive G4:String->Prop
 | t:G4 "tuple"
 | b:G4 "bool"
 | i:G4 "int"
 | s:G4 "str"
def isT (T:String) (d:D):Bool:=tyD d == T||(T == "int" && tyD d == "bool")
def aHp (K:PySem.W.Frag) (T:String):List V->Hp->VK->Prop:=fun xs H Q=>∃ x t b,xs=[x,.ty T]/\(qO K H x t\/(t=.type "tuple" /\ ∃ a ys,x=.ref a/\gC K H a ys)\/(t=.type "list" /\ ∃ a ys,x=.ref a/\eV K H a ys))/\PySem.W.kitOne K t (.type T)=some b/\Q (.bl b) H
theorem Q6 {T:String}:gS X (.builtin "isinstance") (aHp X.K T):=by
 intro pins s σ H xs us Q I r h
 obtain ⟨x,t,b,rfl,ty,e,q⟩:=h
 obtain ⟨u,w',rfl,r1,r2⟩:=vals2 r
 obtain rfl:w' = Value.type T:=r2
 rcases ty with ty | ⟨rfl,a,ys,rfl,hq⟩ | ⟨rfl,a,ys,rfl,hq⟩
 ·exact LF I r1 ty e fun tk=>⟨.bl b,H,I.tok tk,rfl,q⟩
 ·cases r1
  obtain ⟨its,_,p,_⟩:=I.tuple hq
  obtain ⟨o,h1,h2,_⟩:=p
  exact PySem.W.kia_one PySem.W.kitx_tuple I.yH ⟨o,h1,h2⟩ e (fun z=>nomatch z) fun tk=>⟨.bl b,H,I.tok tk,rfl,q⟩
 ·cases r1
  obtain ⟨its,_,p,_⟩:=I.list hq
  obtain ⟨o,n,h1,h2,_⟩:=p
  exact PySem.W.kia_one PySem.W.kitx_list I.yH ⟨o,h1,h2⟩ e (fun z=>nomatch z) fun tk=>⟨.bl b,H,I.tok tk,rfl,q⟩
def XZ:D->Prop
 | .exc _ _=>False
 | .eL _ _ _=>False
 | _=>True
def aHq (T:String) (t:WE):WE:=fun ρ Q=>t ρ fun d=>XZ d/\Q (.bl (isT T d))
theorem aHr {K:PySem.W.Frag} {T:String} (h:G4 T) (d:D):PySem.W.kitOne K (.type (tyD d)) (.type T)=some (isT T d):=by
 cases h<;>cases d<;>with_unfolding_all rfl
theorem aCp {K:PySem.W.Frag} {S:Addr->Prop} {H:Hp} {d:D} {v:V} (hne:XZ d) (h:Dn K S H d v):∃ t,t=Value.type (tyD d)/\(qO K H v t\/(t=.type "tuple" /\ ∃ a ys,v=.ref a/\gC K H a ys)\/(t=.type "list" /\ ∃ a ys,v=.ref a/\eV K H a ys)):=by
 refine ⟨_,rfl,?_⟩
 cases d<;>simp only [Dn] at h
 ·subst h; exact .inl .non
 ·subst h; exact .inl (.bl _)
 ·subst h; exact .inl (.int _)
 ·subst h; exact .inl (.str _)
 ·obtain ⟨a,xs,rfl,hq,_⟩:=h; exact .inr (.inl ⟨rfl,a,xs,rfl,(gC.of hq)⟩)
 ·obtain ⟨a,xs,rfl,hq,_⟩:=h; exact .inl (.lst hq)
 ·obtain ⟨a,rfl,hq⟩:=h; exact .inr (.inr ⟨rfl,a,_,rfl,hq.sq⟩)
 ·obtain ⟨a,xs,rfl,hq,_⟩:=h; exact .inl (.dK hq)
 ·exact hne.elim
 ·exact hne.elim
theorem aHs {T:String} {x:Str} {e:Expr} {t:WE} {p p2 pos:Pos} (hT:G4 T) (hm:X.mg "isinstance" = none) (hmT:X.mg x=none) (hv:bootBuiltins x=some (.type T)) (he:cZ X e t) (hg:Gl X "isinstance" := by rfl) (hgT:Gl X x:=by rfl) (hn:x ≠ "__name__" := by decide) (hdb:(x == ("__debug__" : Str))=false:=by decide)
  (hs:starEach [e,.Name x p2] X.env=(false,eval e X.env)::starEach [.Name x p2] X.env:=by rfl) (hs2:starEach [.Name x p2] X.env=(false,eval (.Name x p2) X.env)::starEach [] X.env:=by rfl) (hpl:(backTo pos (starEach [.Name x p2] X.env)).any (·.1)=false:=by rfl) :
  cZ X (.Call (.Name "isinstance" p) [e,.Name x p2] [] pos) (aHq T t) :=
 imp (mS (Q6 (T:=T)) hg hm PyProof.Rows.boot_isinstance (iX he (iX (UR (v:=.ty T) hgT hmT hv rfl hn hdb) sP hs2) hs) (by decide) (by decide) hs hpl) fun σ H Q aHv=>by
  obtain ⟨S,ρ,Q3,fc,sl,ht,k⟩:=aHv
  refine ⟨S,ρ,_,fc,sl,ht,fun v H1 d s1 d1 q1=>?_⟩
  obtain ⟨tt,e1,e2⟩:=aCp q1.1 d1
  refine ⟨v,tt,isT T d,rfl,e2,?_,k _ H1 (.bl _) s1 (by simp only [Dn]) q1.2⟩
  rw [e1]; exact aHr hT d
def X0:List D->Option (List Bool)
 | []=>some []
 | .bl b::r=>(X0 r).map (b :: ·)
 | _::_=>none
theorem range_all (bs:List Bool):(List.range bs.length).all (fun i=>bs.getD i true)=bs.all id:=by
 induction bs with
 | nil=>rfl
 | cons b bs ih=>rw [List.length_cons,List.range_succ_eq_map,List.all_cons,List.all_map,List.all_cons,<- ih]; rfl
def blF (f:List Bool->Bool):F1
 | [.lst ds],Q=>(match X0 ds with | some bs=>Q (.bl (f bs)) | none=>False)
 | _,_=>False
def X1:List V->Hp->VK->Prop:=fun xs H Q=>∃ a ns,xs=[.ref a]/\H a=some (.lst (ns.map V.int))/\ns.length<64 /\ ∀ ns':List Int,ns'.Perm ns->ns'.Pairwise (· <= ·) -> ∀ p,H p=none->Q (.ref p) (upd H p (.lst (ns'.map V.int)))
theorem CJ:gS X (.builtin "sorted") X1:=by
 intro pins s σ H xs us Q I r h
 obtain ⟨a,ns,rfl,ha,h64,q⟩:=h
 obtain ⟨u,rfl,ru⟩:=vals1 r
 cases ru
 obtain ⟨its,rv,p,hz⟩:=I.list (eV.of ha)
 have hi:=intsAre_of rv
 have hlen:its.length=ns.length:=by have:=rv.length; rw [List.length_map] at this; exact this.symm
 refine sorted_ints p.isList hi (by omega) fun out ns' a1 a2 a3=>?_
 have hfr:H (s.heap.objs.size+1)=none:=I.hok.fresh (Nat.le_succ _)
 obtain ⟨e1,hat⟩:=sortedAll_at s.heap its out
 have hz2:ns'.length<=sizeLine:=by rw [a2.length_eq,sizeLine_eq]; omega
 have I1:Inv X pins σ (upd H (s.heap.objs.size+1) (.lst (ns'.map V.int))) { s with heap:=sortedAll s.heap its out } :=
  I.laid (t':=s.toks) (fun b o e=>sortedAll_old e) (Nat.le_succ _) ⟨by rw [List.length_map]; exact hz2,out.toList,e1,kP a1,by simpa [seqObj] using hat⟩
 exact ⟨.ref _,_,I1,rfl,q ns' a2 a3 _ hfr⟩
def intsOf:List D->Option (List Int)
 | []=>some []
 | .int b::r=>(intsOf r).map (b :: ·)
 | _::_=>none
theorem eE:∀ bs:List Int,intsOf (bs.map D.int)=some bs
 | []=>rfl
 | b::bs=>by rw [List.map_cons,intsOf,eE bs]; rfl
theorem sU:∀ {ds:List D} {bs:List Int},intsOf ds=some bs->ds=bs.map D.int
 | [],bs,h=>by cases h; rfl
 | .int b::r,bs,h=>by
  rw [intsOf] at h
  cases q:intsOf r with
  | none=>rw [q] at h; cases h
  | some cs=>rw [q] at h; cases h; rw [List.map_cons,sU q]
 | .non::r,bs,h=>by cases h
 | .bl _::r,bs,h=>by cases h
 | .str _::r,bs,h=>by cases h
 | .tup _::r,bs,h=>by cases h
 | .lst _::r,bs,h=>by cases h
 | .lD _::r,bs,h=>by cases h
 | .jX _ _::r,bs,h=>by cases h
 | .eL _ _ _::r,bs,h=>by cases h
def Q7:F1
 | [.lst ds],Q=>(match intsOf ds with | some ns=>ns.length<64 /\ ∀ ns':List Int,ns'.Perm ns->ns'.Pairwise (· <= ·)->Q (.lst (ns'.map D.int)) | none=>False)
 | _,_=>False
theorem VX {K:PySem.W.Frag}:C3F K X1 Q7:=by
 intro S H xs ds Q3 Q fc hd hf k
 match ds,hf with
 | [.lst es],hf =>
  obtain ⟨v,r,rfl,h1,h2⟩:=hd.bI
  simp only [aQ] at h2
  subst h2
  simp only [Dn] at h1
  obtain ⟨a,ys,rfl,ha,sa,da⟩:=h1
  have hf2:(match intsOf es with | some ns=>ns.length<64 /\ ∀ ns':List Int,ns'.Perm ns->ns'.Pairwise (· <= ·)->Q3 (.lst (ns'.map D.int)) | none=>False):=hf
  clear hf
  cases q:intsOf es with
  | none=>rw [q] at hf2; exact hf2.elim
  | some ns =>
   rw [q] at hf2
   have e:=sU q
   subst e
   have e2:=aQ.ints.mp da
   subst e2
   exact ⟨a,ns,rfl,ha,hf2.1,fun ns' h1 h2 p hp=>k p _ _ _ hp bA (aM hp) (aQ.ints.mpr rfl) (hf2.2 ns' h1 h2)⟩
theorem VY {p pos:Pos} {e:Expr} {t:WA} (hm:X.mg "sorted" = none) (ha:wW X [e] t) (hg:Gl X "sorted" := by rfl)
  (he:starEach [e] X.env=(false,eval e X.env)::starEach [] X.env:=by rfl):D2 X (.Call (.Name "sorted" p) [e] [] pos) (LU Q7 t):=VL CJ VX PyProof.Rows.boot_sorted hg hm ha (by decide) (by decide) he (by rfl)
end
section
variable {i j:Int} {a b:List D} {Q:D->Prop}
end
section
variable {X:Cx}
theorem LZ {a:Expr} {ta:TA} {p pos:Pos} (hg:Gl X "range") (hm:X.mg "range" = none) (ha:PA X [a] ta) (hs:starEach [a] X.env=[(false,eval a X.env)]:=by rfl) :
  PE X (.Call (.Name "range" p) [a] [] pos) (fun σ H Q=>ta σ H fun vs H1=>∃ j:Int,vs=[.int j] /\ ∀ p,H1 p=none->Q (.ref p) (upd H1 p (.rng 0 j))):=by
 intro pins s σ H Q I h
 refine Call_ (mR I hg hm PyProof.Rows.boot_range (PyProof.Rows.callWith_type1 (eP (ha pos pins s σ H _ I h) fun us s1 ⟨vs,H1,I1,r1,q1⟩=>?_) hs rfl))
 obtain ⟨j,e,q⟩:=q1
 subst e
 obtain ⟨u,rfl,ru⟩:=vals1 r1
 obtain ⟨t,rfl⟩:=ru
 refine call_range_1 ?_
 exact ⟨.ref s1.heap.objs.size,_,I1.laid (o:=.rng 0 j) (fun b o e=>Heap.get?_push_of_some _ e) (Nat.le_refl _) ⟨_,_,_,Heap.get?_push_size _ rfl⟩,rfl,q _ (I1.hok.fresh (Nat.le_refl _))⟩
theorem Q8 {lo:Int} {n:Nat} {acc:Array Value} (h:ItemsOf (fun i v=>∃ t,v=.int (lo+(i:Nat)*1) t) acc n):Vals ((sR lo n).map V.int) acc.toList:=by
 obtain ⟨hz,hv⟩:=h
 have key:∀ (l:List Value) (k:Nat) (m:Nat),l.length=m->(∀ (j:Nat) (v:Value),l[j]? = some v -> ∃ t,v=Value.int (lo+((k+j:Nat):Int)) t)->Vals (((List.range' k m).map fun i:Nat=>lo+(i:Int)).map V.int) l:=by
  intro l
  induction l with
  | nil=>intro k m hm _; subst hm; exact .nil
  | cons v l ih =>
   intro k m hm hh
   subst hm
   rw [List.length_cons,List.range'_succ,List.map_cons,List.map_cons]
   refine .cons ?_ (ih (k+1) l.length rfl fun j w e=>?_)
   ·obtain ⟨t,e⟩:=hh 0 v (by simp)
    exact ⟨t,by simpa using e⟩
   ·obtain ⟨t,e2⟩:=hh (j+1) w (by simpa using e)
    exact ⟨t,by rw [e2]; congr 1; congr 1; congr 1; omega⟩
 have:=key acc.toList 0 n (by simpa using hz) fun j v e=>by
  obtain ⟨t,e2⟩:=hv j v (by simpa using e)
  exact ⟨t,by rw [e2]; simp⟩
 unfold sR
 rw [List.range_eq_range']
 exact this
theorem yS (hc:X.calm=true):gS X (.type "list") (fun xs H Q=>∃ p j,xs=[.ref p]/\H p=some (.rng 0 j) /\ -(2 ^ 62)<=j/\j<=16777216 /\ ∀ l,H l=none->Q (.ref l) (upd H l (.lst ((sR 0 j.toNat).map V.int)))):=by
 intro pins s σ H xs us Q I r h
 obtain ⟨p,j,rfl,hp,h0,h1,q⟩:=h
 obtain ⟨u,rfl,ru⟩:=vals1 r
 cases ru
 obtain ⟨t,u,v,e⟩:=I.hok p _ hp
 have hsz:Builtin.Range.rangeSize 0 j 1=(j.toNat:Int):=by rw [rangeSize_one]; split<;>omega
 refine call_list_range (a:=0) (b:=j) (c:=1) (n:=j.toNat) (I.ok.hd hc) e (small_one (by omega) (by omega) (by omega) (by omega)) hsz (by omega) fun h' tk acc' c' kp hn hit=>?_
 have hfr:H s.heap.objs.size=none:=I.hok.fresh (Nat.le_refl _)
 have hv:Vals ((sR 0 j.toNat).map V.int) acc'.toList:=Q8 hit
 refine ⟨.ref s.heap.objs.size,_,I.laid (o:=.lst ((sR 0 j.toNat).map V.int)) kp (Nat.le_refl _) ⟨?_,acc'.toList,c',hv,by simpa using hn⟩,rfl,q _ hfr⟩
 rw [List.length_map,tY,sizeLine_eq]
 omega
def aA2 (t:WA):WE:=fun ρ Q=>t ρ fun ds=>match ds with
 | [.int j]=>(-(2 ^ 62)<=j/\j<=16777216)/\Q (.lst ((sR 0 j.toNat).map D.int))
 | _=>False
theorem G5 {a:Expr} {t:WA} {p pos p2 pos2:Pos} (hc:X.calm=true) (hm:X.mg "list" = none) (hmr:X.mg "range" = none) (ha:wW X [a] t) (hg:Gl X "list" := by rfl) (hgr:Gl X "range" := by rfl) (hs:starEach [a] X.env=[(false,eval a X.env)]:=by rfl)
  (he:starEach [.Call (.Name "range" p2) [a] [] pos2] X.env=(false,eval (.Call (.Name "range" p2) [a] [] pos2) X.env)::starEach [] X.env:=by rfl) :
  D2 X (.Call (.Name "list" p) [.Call (.Name "range" p2) [a] [] pos2] [] pos) (aA2 t) :=
 imp (n0 (yS hc) hg hm PyProof.Rows.boot_list (iX (LZ hgr hmr ha hs) sP he) (by decide) (by decide) he (by rfl)) fun σ H Q aHw=>by
  obtain ⟨S,ρ,Q3,fc,sl,ht,k⟩:=aHw
  refine ⟨S,ρ,_,fc,sl,ht,fun vs H1 ds s1 d1 q1=>?_⟩
  split at q1
  ·rename_i j
   obtain ⟨v,r,rfl,h1,h2⟩:=d1.bI
   simp only [aQ] at h2
   subst h2
   simp only [Dn] at h1
   subst h1
   refine ⟨j,rfl,fun p hp=>⟨p,j,rfl,bA,q1.1.1,q1.1.2,fun l hl=>?_⟩⟩
   have hl1:H1 l=none:=(aM hp).free hl
   exact k l _ _ _ (s1.free hl1) bA ((s1.trans (aM hp)).trans (aM hl)) (aQ.ints.mpr rfl) q1.2
  ·exact q1.elim
def j3 (ks:List Key) (ds:List D) (k:Key):Option D:=((ks.zip ds).find? fun kv=>decide (kv.1=k)).map (·.2)
theorem xB {K:PySem.W.Frag} {S:Addr->Prop} {H:Hp} {k:Key}:∀ {ks:List Key} {ds:List D} {xs:List V},ks.length=xs.length->aQ K S H ds xs ->
  (∀ d,j3 ks ds k=some d -> ∃ v,gD (ks.zip xs) k=some v/\Dn K S H d v)/\(j3 ks ds k=none->gD (ks.zip xs) k=none)
 | [],ds,xs,_,_=>by
  refine ⟨fun d e=>?_,fun _=>?_⟩
  ·simp [j3] at e
  ·simp [gD]
 | q::ks,ds,xs,hl,dn=>by
  cases ds with
  | nil=>simp only [aQ] at dn; subst dn; simp at hl
  | cons d0 ds =>
   obtain ⟨v,r,rfl,h1,h2⟩:=dn.bI
   have ih:=xB (k:=k) (ks:=ks) (ds:=ds) (xs:=r) (by simpa using hl) h2
   by_cases e:q=k
   ·refine ⟨fun d ed=>?_,fun ed=>?_⟩
    ·simp only [j3,List.zip_cons_cons,List.find?_cons,e,decide_true,Option.map_some] at ed
     cases ed
     exact ⟨v,by simp [gD,e],h1⟩
    ·simp [j3,e] at ed
   ·refine ⟨fun d ed=>?_,fun ed=>?_⟩
    ·have ed':j3 ks ds k=some d:=by simpa [j3,e] using ed
     obtain ⟨u,eu,du⟩:=ih.1 d ed'
     exact ⟨u,by simpa [gD,e] using eu,du⟩
    ·have ed':j3 ks ds k=none:=by simpa [j3,e] using ed
     simpa [gD,e] using ih.2 ed'
theorem Q9 {i:Nat} {x:Str} {pos pos' p:Pos} (hN:X.N.Nodup) (hi:X.N[i]? = some x:=by rfl) (hx:Loc X.env.scope x:=by first | exact .inl rfl | exact .inr rfl) (hs:swapsWith (.Dict [] [] p) (some (.Name x pos')) pos.line X.env=pure false:=by rfl) (hf:X.fn x=true\/X.env.scope.names.lookup x=some .local:=by first | exact .inl rfl | exact .inr rfl) :
  FG X (.Assign [.Name x pos'] (.Dict [] [] p) pos) (fun E ρ=>E.nx (ρ.set i (.ow (.jX [] [])))):=jY (sO hN hi hx QI hs hf) fun B σ H ⟨H₀,S,w,ρ,G,E,hl,st,ht,ok⟩=>fun p hp =>
 ok.nx _ _ _ _ (by rw [List.length_set]; exact hl) (st.GU (d:=.jX [] []) (by rw [hl]; exact jO hi) (aM hp) hp ⟨[],bA,rfl,aQ.nil⟩) ht
def EB:D->Option Key
 | .int i=>some (.inl i)
 | .str x=>some (.inr x)
 | _=>none
theorem RA {K:PySem.W.Frag} {S:Addr->Prop} {H:Hp} {d:D} {v:V} {k:Key} (h:Dn K S H d v) (e:EB d=some k):v=kV k:=by
 cases d<;>simp only [EB] at e<;>cases e<;>simp only [Dn] at h<;>exact h
def aA3:F2:=fun x y Q=>match x,EB y with
 | .jX ks ds,some k=>(match j3 ks ds k with | some d=>Q d | none=>False)
 | _,_=>False
theorem aHx {o i:Expr} {pos:Pos} {to ti:WE} (hu:X.A.units+1<cLine) (ho:cZ X o to) (hi:cZ X i ti) (hs:GS i:=by intro _ _; rfl):cZ X (.Subscript o i pos) (gH aA3 to ti):=imp (VB hu ho hi hs) fun σ H Q aHy=>by
 obtain ⟨S,ρ,Q3,fc,sl,ht,k⟩:=aHy
 refine ⟨S,ρ,_,fc,sl,ht,fun v H1 d s1 d1 q1=>?_⟩
 refine ⟨S,ρ,_,bH fc s1,Sl.fits (.same s1) sl,q1,fun u H2 d2 s2 JO q2=>?_⟩
 unfold aA3 at q2
 split at q2
 ·rename_i ks ds kk ek
  have d1':=Dn.fits (.same s2) _ _ d1
  simp only [Dn] at d1'
  obtain ⟨a,xs,rfl,ha,sa,hl,da⟩:=d1'
  split at q2
  ·rename_i d3 e3
   obtain ⟨v3,ev,dv⟩:=(xB hl da).1 d3 e3
   have eu:=RA JO ek
   subst eu
   refine ⟨a,v3,rfl,?_,k v3 H2 d3 (s1.trans s2) dv q2⟩
   have g:=D0.k (k:=kk) ha
   rw [ev] at g
   exact g
  ·exact q2.elim
 ·exact q2.elim
def aCq (i:Nat) (t:WX) (tk:WE):WS:=fun E ρ=>t ρ fun ρ' d=>(match ρ'[i]? with | some (.ow (.jX _ _))=>True | _=>False)/\tk (cC ρ') fun kd=>match ρ'[i]?,EB kd with
 | some (.ow (.jX ks ds)),some k=>(j3 ks ds k=none/\ds.length<sizeLine)/\E.nx (ρ'.set i (.ow (.jX (ks++[k]) (ds++[d]))))
 | _,_=>False
theorem aCr {i:Nat} {x:Str} {e k:Expr} {t:WX} {tk:WE} {pos pos' p:Pos} (hu:X.A.units+1<cLine) (he:FH X e t) (hk:cZ X k tk)
  (hN:X.N[i]? = some x:=by rfl) (hv:BX X.env.scope x:=by first | exact Or.inl rfl | exact Or.inr (Or.inl rfl) | exact Or.inr (Or.inr rfl)) (hd:(x == ("__debug__" : Str))=false:=by decide) (hcd:(x == ("__classdict__" : Str))=false:=by decide)
  (hs:swapsWith e (some (.Subscript (.Name x p) k pos')) pos.line X.env=pure false:=by rfl) :
  FG X (.Assign [.Subscript (.Name x p) k pos'] e pos) (aCq i t tk):=jY (VC hu (pG hN hv hd hcd) hk he hs) fun B σ H aHz=>by
 obtain ⟨H₀,S,w,ρ,G,E,hl,st,ht,ok⟩:=aHz
 refine ⟨H₀,S,w,ρ,G,_,hl,st,ht,fun w' v H' ρ' d st' d' q'=>?_⟩
 obtain ⟨q0,q'⟩:=q'
 split at q0
 ·rename_i ks0 ds0 e0
  obtain ⟨a0,_,_⟩:=st'.own i _ e0
  refine ⟨_,a0,S,cC ρ',_,st'.NR,st'.all,q',fun kv H2 dk s2 dk2 q2=>?_⟩
  split at q2
  ·rename_i ks ds kk e1 ek
   have st2:=st'.same s2
   obtain ⟨a,b,c⟩:=st2.own i _ e1
   obtain ⟨xs,hp,hlen,dn⟩:=c
   have eu:=RA dk2 ek
   subst eu
   have hno:=(xB (k:=kk) hlen dn).2 q2.1.1
   have nS:¬ SO S w' ρ' (w' i):=fun ⟨_,z⟩=>z i _ e1 rfl
   have hz:(ks.zip xs).length<sizeLine:=by
    rw [List.length_zip,hlen,Nat.min_self,<- dn.len]; exact q2.1.2
   have aIA:putK (ks.zip xs) kk v=(ks++[kk]).zip (xs++[v]):=by
    rw [QE v hno,List.zip_append hlen]; rfl
   have F:Fits X.K (SO S w' ρ') (SO S w' ρ') H2 (upd H2 (w' i) (.dK (putK (ks.zip xs) kk v))):=.upd (.inr (.inl ⟨_,hp⟩)) nS
   refine ⟨w' i,_,rfl,GR.k hp hz,ok.nx w' σ _ _ hl (st2.write (d':=.jX (ks++[kk]) (ds++[d])) e1 ⟨xs++[v],?_,by simp [hlen],aQ.fits F _ _ (dn.append (aQ.one (Dn.fits (.same s2) _ _ d')))⟩) q2.2⟩
   rw [bA,aIA]
  ·exact q2.elim
 ·exact q0.elim
def aCs (i:Nat) (t:WE):WS:=fun E ρ=>t (cC ρ) fun d=>(match d with | .lst ds=>uX ds=true | _=>False)/\E.nx (ρ.set i (.ro d))
theorem aCt {i:Nat} {x:Str} {e:Expr} {t:WE} {pos pos':Pos} (hN:X.N.Nodup) (he:D2 X e t) (hi:X.N[i]? = some x:=by rfl) (hx:Loc X.env.scope x:=by first | exact .inl rfl | exact .inr rfl) (hs:swapsWith e (some (.Name x pos')) pos.line X.env=pure false:=by rfl) (hf:X.fn x=true\/X.env.scope.names.lookup x=some .local:=by first | exact .inl rfl | exact .inr rfl) :
  FG X (.Assign [.Name x pos'] e pos) (aCs i t):=jY (sO hN hi hx he hs hf) fun B σ H aIB=>by
 obtain ⟨H₀,S,w,ρ,G,E,hl,st,ht,ok⟩:=aIB
 exact ⟨_,cC ρ,_,st.NR,st.all,ht,fun p xs H' ds hp hp' s' d' q'=>ok.nx w _ H' _ (by rw [List.length_set]; exact hl) ((st.same s').lO (d:=.lst ds) (by rw [hl]; exact jO hi) (by simp only [Dn]; exact ⟨p,xs,rfl,hp',st.LQ p hp,aQ.FI q'.1 d'⟩)) q'.2⟩
def aA4:List D->D->(List D->D->Prop)->Prop
 | ds,.lst es,Q=>ds.length+es.length<=sizeLine/\Q (ds++es) .non
 | _,_,_=>False
theorem aA5 {K:PySem.W.Frag}:M3 K JI aA4:=by
 intro S H p xs ds y d Q3 Q hp dn dy hf k
 cases d with
 | lst es =>
  simp only [Dn] at dy
  obtain ⟨b,zs,rfl,hb,sb,db⟩:=dy
  exact ⟨p,b,xs,zs,rfl,rfl,hp,hb,by rw [<- dn.len,<- db.len]; exact hf.1,k _ _ _ _ (dn.append db) (by simp only [Dn]) hf.2⟩
 | _=>exact hf.elim
section
variable {i:Nat} {x:Str} {e:Expr} {p apos cpos:Pos} {t:WX}
theorem VZ (he:FH X e t) (hN:X.N[i]? = some x:=by rfl) (hv:BX X.env.scope x:=by first | exact Or.inl rfl | exact Or.inr (Or.inl rfl) | exact Or.inr (Or.inr rfl)) (hd:(x == ("__debug__" : Str))=false:=by decide) (hcd:(x == ("__classdict__" : Str))=false:=by decide)
  (hbase:attributeBase (.Name x p) "extend" X.env (eval (.Name x p) X.env)=eval (.Name x p) X.env:=by rfl)
  (hfew:((backTo cpos (starEach [e] X.env)).all (fun x=>!x.1)&&(backToKw cpos (keywordEach [] X.env)).all (fun x=>x.1.isSome)
   && decide ([e].length+([]:List Keyword).length+(if ([]:List Keyword).isEmpty then 0 else 1)<30))=true:=by rfl)
  (hline:(apos.endLine == cpos.line)=true:=by rfl) (hs:starEach [e] X.env=(false,eval e X.env)::starEach [] X.env:=by rfl) :
  FH X (.Call (.Attribute (.Name x p) "extend" apos) [e] [] cpos) (wM1 i aA4 t):=m1 PySem.F.slot_list_extend PySem.F.type_list_extend LJ aA5 he hN hv hd hcd hbase hfew hline hs
end
end
section
variable {X:Cx} {pins:List (Addr×Obj)} {σ:L2.St} {H:Hp} {s:Shared} {h':Heap}
theorem turnT {t':Nat} {ch:List Addr} {T:Addr} {xs:List V} {its:List Value} (I:Inv X pins σ H s) (k:∀ b o,b∉ch->s.heap.get? b=some o->h'.get? b=some o) (hf:∀ b∈ch,pH X pins H b)
  (hT:s.heap.objs.size<=T) (hv:Vals xs its) (hz:xs.length<=sizeLine) (ht:IsTup h' T its.toArray):Inv X pins σ (upd H T (.tup xs)) { s with heap:=h',toks:=t' }:=by
 have fr:H T=none:=I.hok.fresh hT
 have nT:∀ {b:Addr} {o:Obj},s.heap.get? b=some o->b≠T:=fun {b} {o} e z=>Nat.lt_irrefl _ (Nat.lt_of_lt_of_le (Heap.lt_size e) (z▸hT))
 have live:∀ {b:Addr} {u:HO},H b=some u->b∉ch:=fun {b} {u} e z=>by rw [(hf _ z).1] at e; cases e
 refine I.call' (s':={ s with heap:=h',toks:=t' }) (ch:=ch) rfl ⟨fun b o e _ _ hx=>k b o hx e,fun b o e _ _ hx=>⟨o.slots,k b o hx e⟩,fun b o e n _=>by rw [bR (nT e)]; exact n,fun b o e hx=>⟨o,k b o hx e⟩,
  fun b ys e=>by rw [bR (bX e fr)]; exact e,fun b o u e=>by rw [bR (bX e fr)]; exact e,fun b ps e=>⟨#[],by rw [bR (bX e fr),e]; simp⟩⟩ ?_ I.bare fun b hb=>?_
 ·intro b u e
  by_cases hb:b=T
  ·subst hb; rw [bA] at e; cases e; exact ⟨hz,its,hv,ht⟩
  ·rw [bR hb] at e
   refine (I.hok b u e).stay (fun c v hc q=>k c v ?_ q) (fun c q=>by rw [bR (bX q fr)]; exact q) fun c ys q=>by rw [bR (bX q fr)]; exact q
   rcases hc with rfl | hc
   ·exact live e
   ·exact live hc
 ·obtain ⟨_,f1,_,f3,f4,f5⟩:=hf b hb
  exact ⟨f3,f1,f4,f5⟩
theorem RB {t':Nat} {ch:List Addr} (I:Inv X pins σ H s) (k:∀ b o,b∉ch->s.heap.get? b=some o->h'.get? b=some o) (hf:∀ b∈ch,pH X pins H b):Inv X pins σ H { s with heap:=h',toks:=t' }:=by
 have live:∀ {b:Addr} {u:HO},H b=some u->b∉ch:=fun {b} {u} e z=>by rw [(hf _ z).1] at e; cases e
 refine I.call' (s':={ s with heap:=h',toks:=t' }) (ch:=ch) rfl ⟨fun b o e _ _ hx=>k b o hx e,fun b o e _ _ hx=>⟨o.slots,k b o hx e⟩,fun b o e n _=>n,fun b o e hx=>⟨o,k b o hx e⟩,
  fun b ys e=>e,fun b o u e=>e,fun b ps e=>⟨#[],by rw [e]; simp⟩⟩ ?_ I.bare fun b hb=>?_
 ·intro b u e
  refine (I.hok b u e).stay (fun c v hc q=>k c v ?_ q) (fun c q=>q) fun c ys q=>q
  rcases hc with rfl | hc
  ·exact live e
  ·exact live hc
 ·obtain ⟨_,f1,_,f3,f4,f5⟩:=hf b hb
  exact ⟨f3,f1,f4,f5⟩
end
def Itp (go:Nat->Hp->Prop) (Y:Nat->Hp->List V->Prop) (stop:Nat->Hp->Prop):It:=⟨go,fun i H x H'=>∃ T vs,x=.ref T/\H T=none/\H' = upd H T (.tup vs)/\Y i H vs,stop⟩
theorem pI {P:Program} {w:World} {K:PySem.W.Frag} {es:List Expr} {kk:Nat} {tp:Pos} {go:Nat->Hp->Prop} {Y:Nat->Hp->List V->Prop} {stop:Nat->Hp->Prop} {fp:List Addr} {it:Addr} {tn:Nat->Heap->Prop} (mem:it∈fp)
  (obj:∀ i h,tn i h -> ∀ b∈fp,∃ o,h.get? b=some o /\ ∀ v,o.data≠.cell v) (keep:∀ i h h',tn i h->(∀ b∈fp,∀ o,h.get? b=some o->h'.get? b=some o)->tn i h')
  (wk:∀ (X:Cx),X.prog=P->X.w=w->X.K=K->X.calm=true -> ∀ (i:Nat) (pins:List (Addr×Obj)) (s:Shared) (σ:L2.St) (H:Hp),Inv X pins σ H s->tn i s.heap->go i H\/stop i H ->
   ∃ fp2 wr n Pt St Mid,WalksT P w X.A it fp2 wr n Pt St Mid/\St i s.heap/\(∀ b∈wr,b∈fp)/\(∀ h,St (i+1) h->tn (i+1) h) /\
    (go i H->i<n /\ ∀ vals,Pt i vals -> ∃ vs,vs.length<=sizeLine/\Vals vs vals.toList/\Y i H vs)/\(stop i H->i=n))
  (self:∀ (A:Around) (i:Nat) (s:Shared) (Q:Value->Shared->Prop) (E:Value->Shared->Prop),tn i s.heap->Q (.ref it) s->wpAny (model P w) A (pyIter (.ref it)) Q E s) :
  Turn P w K (.Tuple es kk tp) (Itp go Y stop) fp it tn where
 mem:=mem
 obj:=obj
 keep:=keep
 self:=self
 item:=by
  intro X hP hw hK hc i pins s σ H E I hf st hg
  obtain ⟨fp2,wr,n,Pt,St,Mid,W,hs,sub,nx,ok,_⟩:=wk X hP hw hK hc i pins s σ H I st (.inl hg)
  obtain ⟨hi,ok⟩:=ok hg
  refine W.item i s _ _ hi hs fun T vals h1 tk hp hT ht hm k1=>⟨.ref T,rfl,W.go es kk tp i T _ _ _ hm fun h2 s2 k2=>?_⟩
  obtain ⟨vs,hz,hv,hy⟩:=ok vals hp
  obtain ⟨o,eo,c,d⟩:=ht
  have ht2:IsTup h2 T vals.toList.toArray:=⟨o,k2 T o (W.apart i T _ hm) eo,c,by simpa using d⟩
  have I2:Inv X pins σ (upd H T (.tup vs)) { s with heap:=h2,toks:=tk }:=turnT (t':=tk) (ch:=wr) I (fun b o hb e=>k2 b o hb (k1 b o hb e)) (fun b hb=>hf b (sub b hb)) hT hv hz ht2
  refine ⟨.ref T,upd H T (.tup vs),I2,rfl,⟨T,vs,rfl,I.hok.fresh hT,rfl,hy⟩,nx h2 s2,fun b hb=>?_⟩
  obtain ⟨ob,eb,_⟩:=obj _ _ st b hb
  have nb:b≠T:=fun z=>Nat.lt_irrefl _ (Nat.lt_of_lt_of_le (Heap.lt_size eb) (z▸hT))
  rw [bR nb]
  exact (hf b hb).1
 done:=by
  intro X hP hw hK hc i pins s σ H E I hf st hg
  obtain ⟨fp2,wr,n,Pt,St,Mid,W,hs,sub,nx,_,ok⟩:=wk X hP hw hK hc i pins s σ H I st (.inr hg)
  obtain rfl:=ok hg
  exact W.done s _ _ hs fun h2 tk k2=>⟨rfl,RB (t':=tk) (ch:=wr) I k2 fun b hb=>hf b (sub b hb)⟩
def Iel (K:PySem.W.Frag) (l:Addr):It:=Itp (fun i H=>∃ xs v,eV K H l xs/\xs[i]? = some v) (fun i H vs=>∃ v,vs=[.int i,v] /\ ∀ xs,eV K H l xs->xs[i]? = some v) (fun i H=>∃ xs,eV K H l xs/\xs.length=i)
def Iet (K:PySem.W.Frag) (l:Addr):It:=Itp (fun i H=>∃ xs v,gC K H l xs/\xs[i]? = some v) (fun i H vs=>∃ v,vs=[.int i,v] /\ ∀ xs,gC K H l xs->xs[i]? = some v) (fun i H=>∃ xs,gC K H l xs/\xs.length=i)
theorem xC:[V.int 0,V.int 0].length<=sizeLine:=by rw [sizeLine_eq]; decide
theorem G6 {P:Program} {w:World} {K:PySem.W.Frag} {es:List Expr} {kk:Nat} {tp:Pos} {e it l:Addr} (hei:e≠it) (hle:l≠e) (hli:l≠it) :
  Turn P w K (.Tuple es kk tp) (Iel K l) [e,it] e (fun i h=>(∃ old,IsEnum h e it i old)/\h.IsListIter it l i):=by
 refine pI (by simp) (fun i h st b hb=>?_) (fun i h h2 st k=>?_) (fun X hP hw hK hc i pins s σ H I st hg=>?_) (fun A i s Q E st q=>?_)
 ·obtain ⟨⟨old,a⟩,o,c,d1,d2⟩:=st
  rcases List.mem_cons.mp hb with rfl | hq
  ·exact ⟨_,a,fun v z=>by cases z⟩
  ·rw [List.mem_singleton.mp hq]; exact ⟨o,c,fun v z=>by rw [d2] at z; cases z⟩
 ·obtain ⟨⟨old,a⟩,b⟩:=st
  exact ⟨⟨old,k e (by simp) _ a⟩,b.at fun o q=>k it (by simp) o q⟩
 ·subst hP hw hK
  have hq:∃ xs,eV X.K H l xs:=by rcases hg with ⟨xs,_,a,_⟩ | ⟨xs,a,_⟩<;>exact ⟨xs,a⟩
  obtain ⟨xs,hq⟩:=hq
  obtain ⟨its,rv,p,hz⟩:=I.list hq
  have hl:=rv.length
  refine ⟨_,_,_,_,_,_,WalksT.enumerate (I.ok.hd hc) e it l hei hle hli its.toArray,⟨st.1,st.2,p.isList⟩,fun b hb=>hb,fun h q=>⟨q.1,q.2.1⟩,fun g=>?_,fun g=>?_⟩
  ·obtain ⟨ys,v,hy,hv⟩:=g
   obtain rfl:=I.fK hy hq
   obtain ⟨u,hu,ru⟩:=rv.get hv
   have hlt:i<ys.length:=(List.getElem?_eq_some_iff.mp hv).1
   refine ⟨by rw [List.size_toArray,<- hl]; exact hlt,fun vals q=>?_⟩
   obtain ⟨t,x,hx,rfl⟩:=q
   have ex:x=u:=by
    have:its[i]? = some x:=by simpa using hx
    rw [hu] at this; exact (Option.some.inj this).symm
   subst ex
   exact ⟨[.int i,v],xC,.cons ⟨t,rfl⟩ (.cons ru .nil),v,rfl,fun zs hzs=>by rw [I.fK hzs hq]; exact hv⟩
  ·obtain ⟨ys,hy,e2⟩:=g
   obtain rfl:=I.fK hy hq
   rw [List.size_toArray,<- hl,e2]
 ·obtain ⟨⟨old,a⟩,b⟩:=st
  exact wpAny_pyIter_enum a q
def Izl (K:PySem.W.Frag) (l m:Addr):It:=Itp (fun i H=>∃ xs ys v u,eV K H l xs/\eV K H m ys/\xs[i]? = some v/\ys[i]? = some u) (fun i H vs=>∃ v u,vs=[v,u]/\(∀ xs,eV K H l xs->xs[i]? = some v) /\ ∀ ys,eV K H m ys->ys[i]? = some u)
 (fun i H=>∃ xs ys,eV K H l xs/\eV K H m ys/\min xs.length ys.length=i)
theorem RC {P:Program} {w:World} {K:PySem.W.Frag} {es:List Expr} {kk:Nat} {tp:Pos} {z TI TO i1 i2 l m:Addr} (D:ZipApart z TI TO i1 i2 l m) :
  Turn P w K (.Tuple es kk tp) (Izl K l m) [z,TI,TO,i1,i2] z (fun i h=>IsZip h z TI TO .none/\IsPair h TI (.ref i1) (.ref i2)/\(∃ a b,IsPair h TO a b)/\h.IsListIter i1 l i/\h.IsListIter i2 m i):=by
 refine pI (by simp) (fun i h st b hb=>?_) (fun i h h2 st k=>?_) (fun X hP hw hK hc i pins s σ H I st hg=>?_) (fun A i s Q E st q=>?_)
 ·obtain ⟨a1,a2,⟨x,y,a3⟩,⟨o4,c4,_,d4⟩,o5,c5,_,d5⟩:=st
  simp only [List.mem_cons,or_false,List.not_mem_nil] at hb
  rcases hb with rfl | rfl | rfl | rfl | rfl
  ·exact ⟨_,a1,fun v z=>by cases z⟩
  ·exact ⟨_,a2,fun v z=>by cases z⟩
  ·exact ⟨_,a3,fun v z=>by cases z⟩
  ·exact ⟨o4,c4,fun v z=>by rw [d4] at z; cases z⟩
  ·exact ⟨o5,c5,fun v z=>by rw [d5] at z; cases z⟩
 ·obtain ⟨a1,a2,⟨x,y,a3⟩,a4,a5⟩:=st
  exact ⟨k z (by simp) _ a1,k TI (by simp) _ a2,⟨x,y,k TO (by simp) _ a3⟩,a4.at fun o q=>k i1 (by simp) o q,a5.at fun o q=>k i2 (by simp) o q⟩
 ·subst hP hw hK
  have hq:∃ xs ys,eV X.K H l xs/\eV X.K H m ys:=by rcases hg with ⟨xs,ys,_,_,a,b,_⟩ | ⟨xs,ys,a,b,_⟩<;>exact ⟨xs,ys,a,b⟩
  obtain ⟨xs,ys,hq,hq2⟩:=hq
  obtain ⟨its,rv,p,hz⟩:=I.list hq
  obtain ⟨its2,rv2,p2,hz2⟩:=I.list hq2
  have hl:=rv.length
  have hl2:=rv2.length
  refine ⟨_,_,_,_,_,_,WalksT.zip2 (I.ok.hd hc) z TI TO i1 i2 l m D its.toArray its2.toArray,⟨st.1,st.2.1,st.2.2.1,st.2.2.2.1,st.2.2.2.2,p.isList,p2.isList⟩,fun b hb=>?_,fun h q=>⟨q.1,q.2.1,q.2.2.1,q.2.2.2.1,q.2.2.2.2.1⟩,fun g=>?_,fun g=>?_⟩
  ·simp only [List.mem_cons,List.not_mem_nil,or_false] at hb ⊢
   rcases hb with rfl | rfl | rfl | rfl<;>simp
  ·obtain ⟨x',y',v,u,hy,hy2,hv,hu⟩:=g
   obtain rfl:=I.fK hy hq
   obtain rfl:=I.fK hy2 hq2
   obtain ⟨r,er,rr⟩:=rv.get hv
   obtain ⟨r2,er2,rr2⟩:=rv2.get hu
   have hlt:i<x'.length:=(List.getElem?_eq_some_iff.mp hv).1
   have hlt2:i<y'.length:=(List.getElem?_eq_some_iff.mp hu).1
   refine ⟨by rw [List.size_toArray,List.size_toArray,<- hl,<- hl2]; omega,fun vals q=>?_⟩
   obtain ⟨x,y,hx,hy',rfl⟩:=q
   have ex:x=r:=by
    have:its[i]? = some x:=by simpa using hx
    rw [er] at this; exact (Option.some.inj this).symm
   have ey:y=r2:=by
    have:its2[i]? = some y:=by simpa using hy'
    rw [er2] at this; exact (Option.some.inj this).symm
   subst ex ey
   exact ⟨[v,u],xC,.cons rr (.cons rr2 .nil),v,u,rfl,fun zs hzs=>by rw [I.fK hzs hq]; exact hv,fun zs hzs=>by rw [I.fK hzs hq2]; exact hu⟩
  ·obtain ⟨x',y',hy,hy2,e2⟩:=g
   obtain rfl:=I.fK hy hq
   obtain rfl:=I.fK hy2 hq2
   rw [List.size_toArray,List.size_toArray,<- hl,<- hl2,e2]
 ·exact wpAny_pyIter_zip st.1 q
section
variable {prog:Program} {w:World} {A:Around} {E:Value->Shared->Prop} {s:Shared}
theorem RD {it t:Addr} {i:Nat} {items:Array Value} {x:Value} {Q:Value->Shared->Prop} (hit:s.heap.IsTupleIter it t i) (ht:s.heap.IsTuple t items) (hx:items[i]? = some x)
  (hQ:∀ h',h'.IsTupleIter it t (i+1)->Heap.SameBut it s.heap h'->Q x { s with heap:=h' }):wpAny (model prog w) A (Builtin.SmallTypes.nextOf (.ref it)) Q E s:=by
 obtain ⟨⟨ol,hol,_,nl,hdl⟩,o,ho,hc,hd⟩:=And.intro ht hit
 refine wpAny_bind (m:=callSpecial? _ _) (wpAny_callSpecial?_slot hit.typeIs F.slot_tuple_iterator_next (wpAny_call_entry F.slot_tuple_iterator_next hit.typeIs F.entry_tuple_iterator_next ?_ (F.args_tuple_iterator_next_1 _)))
 refine wpAny_bind (m:=field _ 0) (wpAny_field ho hd (x:=.ref t) rfl ?_)
 show wpAny _ _ (if false=true then _ else _) _ _ s
 rw [if_neg Bool.false_ne_true]
 refine wpAny_bind (m:=field _ 1) (wpAny_field ho hd (x:=.int i 0) rfl (wpAny_bind (m:=seqItems? _) (wpAny_seqItems hol hdl ?_)))
 simp only [hx,Int.toNat_natCast]
 refine wpAny_bind (wpAny_setField ho hd (by simp) (wpAny_pure ⟨x,rfl,wpAny_pure (hQ _ ⟨_,Heap.get?_update_self _ ho (Obj.isFreed_of_fields (Obj.data_mapFields hd _)),(Obj.cls_mapFields ..).trans hc,?_⟩ (Heap.SameBut.update ..))⟩))
 rw [Obj.data_mapFields hd]
 simp [rawInt]
theorem L1 {it t:Addr} {i:Nat} {items:Array Value} {Q:Value->Shared->Prop} (hh:A.handled=none) (hit:s.heap.IsTupleIter it t i) (ht:s.heap.IsTuple t items) (hx:items[i]? = none)
  (hE:∀ h' e,Heap.ExtBut it s.heap h'->(∃ o,h'.get? e=some o/\o.cls=.type "StopIteration")->E (.ref e) { s with heap:=h' }):wpAny (model prog w) A (Builtin.SmallTypes.nextOf (.ref it)) Q E s:=by
 obtain ⟨⟨ol,hol,_,nl,hdl⟩,o,ho,hc,hd⟩:=And.intro ht hit
 refine wpAny_bind (m:=callSpecial? _ _) (wpAny_callSpecial?_slot hit.typeIs F.slot_tuple_iterator_next (wpAny_call_entry F.slot_tuple_iterator_next hit.typeIs F.entry_tuple_iterator_next ?_ (F.args_tuple_iterator_next_1 _)))
 refine wpAny_bind (m:=field _ 0) (wpAny_field ho hd (x:=.ref t) rfl ?_)
 show wpAny _ _ (if false=true then _ else _) _ _ s
 rw [if_neg Bool.false_ne_true]
 refine wpAny_bind (m:=field _ 1) (wpAny_field ho hd (x:=.int i 0) rfl (wpAny_bind (m:=seqItems? _) (wpAny_seqItems hol hdl ?_)))
 simp only [hx,Int.toNat_natCast]
 refine wpAny_bind (wpAny_rule (wpAny_bind (m:=setField _ _ _) (wpAny_setField ho hd (by simp) ?_)))
 have hh2:A.in1.handled=none:=hh
 wp_walk
 unfold raiseNew
 apply wpAny_bind
 apply wpAny_handled
 rw [hh2]
 exact wpAny_bind (wpAny_pure (wpAny_throw (hE _ _ (((Heap.SameBut.update ..).extBut.push _).push _) ⟨_,Heap.get?_push_size _ rfl,rfl⟩)))
theorem aA6 (hh:A.handled=none) (it t:Addr) (hne:t≠it) (items:Array Value):Draws prog w A it [it,t] items.size (fun i v=>items[i]? = some v) (fun i h=>h.IsTupleIter it t i/\h.IsTuple t items) where
 live:=fun i h st=>by obtain ⟨⟨o,ho,_⟩,_⟩:=st; exact ⟨o,ho⟩
 frame:=fun i h h' st k=>by
  obtain ⟨⟨o,ho,r⟩,o2,ho2,r2⟩:=st
  exact ⟨⟨o,k it (by simp) o ho,r⟩,o2,k t (by simp) o2 ho2,r2⟩
 item:=fun i s Q E hi st q=>RD st.1 st.2 (x:=items[i]) (Array.getElem?_eq_getElem hi) fun h' a b=>q _ h' s.toks (Array.getElem?_eq_getElem hi) ⟨a,st.2.extBut b.extBut hne⟩ b
 done:=fun s Q E st q=>L1 hh st.1 st.2 (Array.getElem?_eq_none (Nat.le_refl _)) q
theorem L9 (l:Addr) (items:Array Value):Meets (Builtin.«enumerate.__new__» ⟨[.type "enumerate",.ref l],[]⟩) (fun _ R s=>s.heap.IsTuple l items /\
  R (.ok (.ret (.ref (s.heap.push { cls:=.type "tuple_iterator",data:=.fields #[.ref l,.int 0 0] }).objs.size))) { s with heap:=(s.heap.push { cls:=.type "tuple_iterator",data:=.fields #[.ref l,.int 0 0] }).push { cls:=.type "enumerate",data:=.fields #[.none,.bool false,.ref s.heap.objs.size,rawInt 0,.none,.none] } }):=by
 refine .of_wp fun p0 w0 A0 R0 s h=>?_
 obtain ⟨hl,h⟩:=h
 obtain ⟨hp0,g0,d,tk,os⟩:=s
 have hsub:=sub_enumerate
 wp_walk using wpAny_pyIter_tuple hl
 refine wpAny_stack_any fun _=>wpAny_pure ?_
 split<;>first
  | (rename_i c _ _ _ _ _; cases (c == Value.type "enumerate")<;>(wp_walk using wpAny_pyIter_tuple hl; exact ⟨_,rfl,h⟩))
  | (wp_walk using wpAny_pyIter_tuple hl; exact ⟨_,rfl,h⟩)
theorem G7 {l:Addr} {items:Array Value} {Q:Value->Shared->Prop} (hT:s.heap.IsTuple l items)
  (h:∀ h',IsEnum h' (s.heap.objs.size+1) s.heap.objs.size 0 .none->h'.IsTupleIter s.heap.objs.size l 0->(∀ b o,s.heap.get? b=some o->h'.get? b=some o)->Q (.ref (s.heap.objs.size+1)) { s with heap:=h' }):wpAny (model prog w) A (call (.type "enumerate") [.ref l]) Q E s:=by
 refine callType_new F.called_enumerate (by decide) (F.typeCall_enumerate_1 _) (F.newCall_enumerate_1 _) (fun obj=>F.args_object_init_2 obj _) F.entry_enumerate_new (L9 l items) ⟨hT,?_⟩
 generalize hh1:s.heap.push { cls:=.type "tuple_iterator",data:=.fields #[.ref l,.int 0 0] }=h1
 have e1:h1.objs.size=s.heap.objs.size+1:=by rw [<- hh1,Heap.size_push]
 have g1:h1.get? s.heap.objs.size=some { cls:=.type "tuple_iterator",data:=.fields #[.ref l,.int 0 0] }:=by rw [<- hh1]; exact Heap.get?_push_size _ rfl
 have k1:∀ b o,s.heap.get? b=some o->h1.get? b=some o:=fun b o e=>by rw [<- hh1]; exact Heap.get?_push_of_some _ e
 generalize hh2:h1.push { cls:=.type "enumerate",data:=.fields #[.none,.bool false,.ref s.heap.objs.size,rawInt 0,.none,.none] }=h2
 have g2:h2.get? h1.objs.size=some { cls:=.type "enumerate",data:=.fields #[.none,.bool false,.ref s.heap.objs.size,rawInt 0,.none,.none] }:=by rw [<- hh2]; exact Heap.get?_push_size _ rfl
 have k2:∀ b o,h1.get? b=some o->h2.get? b=some o:=fun b o e=>by rw [<- hh2]; exact Heap.get?_push_of_some _ e
 refine ⟨⟨_,g2,rfl⟩,?_⟩
 rw [e1] at g2 ⊢
 exact h h2 g2 ⟨_,k2 _ _ g1,rfl,rfl⟩ fun b o e=>k2 b o (k1 b o e)
end
theorem G8 {P:Program} {w:World} {K:PySem.W.Frag} {es:List Expr} {kk:Nat} {tp:Pos} {e it l:Addr} (hei:e≠it) (hle:l≠e) (hli:l≠it) :
  Turn P w K (.Tuple es kk tp) (Iet K l) [e,it] e (fun i h=>(∃ old,IsEnum h e it i old)/\h.IsTupleIter it l i):=by
 refine pI (by simp) (fun i h st b hb=>?_) (fun i h h2 st k=>?_) (fun X hP hw hK hc i pins s σ H I st hg=>?_) (fun A i s Q E st q=>?_)
 ·obtain ⟨⟨old,a⟩,o,c,d1,d2⟩:=st
  rcases List.mem_cons.mp hb with rfl | hq
  ·exact ⟨_,a,fun v z=>by cases z⟩
  ·rw [List.mem_singleton.mp hq]; exact ⟨o,c,fun v z=>by rw [d2] at z; cases z⟩
 ·obtain ⟨⟨old,a⟩,o,b,r⟩:=st
  exact ⟨⟨old,k e (by simp) _ a⟩,o,k it (by simp) o b,r⟩
 ·subst hP hw hK
  have hq:∃ xs,gC X.K H l xs:=by rcases hg with ⟨xs,_,a,_⟩ | ⟨xs,a,_⟩<;>exact ⟨xs,a⟩
  obtain ⟨xs,hq⟩:=hq
  obtain ⟨its,rv,p,hz⟩:=I.tuple hq
  have hl:=rv.length
  have D:Draws X.prog X.w X.A.in1 it [it,l] its.toArray.size (fun i v=>its.toArray[i]? = some v) (fun i h=>h.IsTupleIter it l i/\h.IsTuple l its.toArray):=aA6 (show X.A.in1.handled=none from I.ok.hd hc) it l hli its.toArray
  have hef:e∉[it,l]:=fun z=>by
   rcases List.mem_cons.mp z with z1 | z1
   ·exact hei z1
   ·exact hle (List.mem_singleton.mp z1).symm
  refine ⟨_,_,_,_,_,_,WalksT.enumerateD D e hei hef (by simp),⟨st.1,st.2,p⟩,fun b hb=>hb,fun h q=>⟨q.1,q.2.1⟩,fun g=>?_,fun g=>?_⟩
  ·obtain ⟨ys,v,hy,hv⟩:=g
   obtain rfl:=I.nY hy hq
   obtain ⟨u,hu,ru⟩:=rv.get hv
   have hlt:i<ys.length:=(List.getElem?_eq_some_iff.mp hv).1
   refine ⟨by rw [List.size_toArray,<- hl]; exact hlt,fun vals q=>?_⟩
   obtain ⟨t,x,hx,rfl⟩:=q
   have ex:x=u:=by
    have:its[i]? = some x:=by simpa using hx
    rw [hu] at this; exact (Option.some.inj this).symm
   subst ex
   exact ⟨[.int i,v],xC,.cons ⟨t,rfl⟩ (.cons ru .nil),v,rfl,fun zs hzs=>by rw [I.nY hzs hq]; exact hv⟩
  ·obtain ⟨ys,hy,e2⟩:=g
   obtain rfl:=I.nY hy hq
   rw [List.size_toArray,<- hl,e2]
 ·obtain ⟨⟨old,a⟩,b⟩:=st
  exact wpAny_pyIter_enum a q
section
variable {X:Cx} {es:List Expr} {kk:Nat} {tp:Pos}
theorem V0 {a:Expr} {ta:TA} {p pos:Pos} (hg:Gl X "enumerate") (hm:X.mg "enumerate" = none) (ha:PA X [a] ta) (hs:starEach [a] X.env=[(false,eval a X.env)]:=by rfl) :
  PI X (.Tuple es kk tp) (.Call (.Name "enumerate" p) [a] [] pos) (fun σ H R=>ta σ H fun vs H1=>∃ l,vs=[.ref l]/\(((∃ xs,eV X.K H1 l xs)/\R (Iel X.K l) H1)\/((∃ xs,gC X.K H1 l xs)/\R (Iet X.K l) H1))):=by
 intro pins s σ H R I h
 refine Call_ (mR I hg hm boot_enumerate (PyProof.Rows.callWith_type1 (eP (ha pos pins s σ H _ I h) fun us s1 ⟨vs,H1,I1,r1,q1⟩=>?_) hs rfl))
 obtain ⟨l,e,q⟩:=q1
 subst e
 obtain ⟨u,rfl,ru⟩:=vals1 r1
 cases ru
 have fo:∀ b∈[s1.heap.objs.size+1,s1.heap.objs.size],pH X pins H1 b:=fun b hb=>by
  have hle:s1.heap.objs.size<=b:=by
   simp only [List.mem_cons,or_false,List.not_mem_nil] at hb
   rcases hb with rfl | rfl
   ·exact Nat.le_succ _
   ·exact Nat.le_refl _
  exact I1.GF hle (I1.hok.fresh hle)
 rcases q with ⟨⟨xs,hq⟩,q⟩ | ⟨⟨xs,hq⟩,q⟩
 ·obtain ⟨its,rv,pl,hz⟩:=I1.list hq
  have hlt:l<s1.heap.objs.size:=by obtain ⟨o,n,e,_⟩:=pl; exact Heap.lt_size e
  refine call_enumerate_list pl.isList fun h' he hi hsz hk=>wpAny_pyIter_enum he ?_
  exact ⟨s1.heap.objs.size+1,_,_,_,H1,rfl,I1.kept (t':=s1.toks) hk,G6 (Nat.succ_ne_self _) (Nat.ne_of_lt (Nat.lt_succ_of_lt hlt)) (Nat.ne_of_lt hlt),⟨⟨_,he⟩,hi⟩,fo,q⟩
 ·obtain ⟨its,rv,pl,hz⟩:=I1.tuple hq
  have hlt:l<s1.heap.objs.size:=pl.lt
  refine G7 (items:=its.toArray) pl fun h' he hi hk=>wpAny_pyIter_enum he ?_
  exact ⟨s1.heap.objs.size+1,_,_,_,H1,rfl,I1.kept (t':=s1.toks) hk,G8 (Nat.succ_ne_self _) (Nat.ne_of_lt (Nat.lt_succ_of_lt hlt)) (Nat.ne_of_lt hlt),⟨⟨_,he⟩,hi⟩,fo,q⟩
theorem aA7 {a b:Expr} {ta:TA} {p pos:Pos} (hg:Gl X "zip") (hm:X.mg "zip" = none) (ha:PA X [a,b] ta) (hs:starEach [a,b] X.env=[(false,eval a X.env),(false,eval b X.env)]:=by rfl) (hs2:starEach [b] X.env=[(false,eval b X.env)]:=by rfl) :
  PI X (.Tuple es kk tp) (.Call (.Name "zip" p) [a,b] [] pos) (fun σ H R=>ta σ H fun vs H1=>∃ l m xs ys,vs=[.ref l,.ref m]/\eV X.K H1 l xs/\eV X.K H1 m ys/\R (Izl X.K l m) H1):=by
 intro pins s σ H R I h
 refine Call_ (mR I hg hm boot_zip (PyProof.Rows.callWith_type1 (eP (ha pos pins s σ H _ I h) fun us s1 ⟨vs,H1,I1,r1,q1⟩=>?_) (by rw [hs,hs2]) (by rw [hs2]; rfl)))
 obtain ⟨l,m,xs,ys,e,hq,hq2,q⟩:=q1
 subst e
 obtain ⟨u,u2,rfl,ru,ru2⟩:=vals2 r1
 cases ru
 cases ru2
 obtain ⟨its,rv,pl,hz⟩:=I1.list hq
 obtain ⟨its2,rv2,pl2,hz2⟩:=I1.list hq2
 have hlt:l<s1.heap.objs.size:=by obtain ⟨o,n,e,_⟩:=pl; exact Heap.lt_size e
 have hlt2:m<s1.heap.objs.size:=by obtain ⟨o,n,e,_⟩:=pl2; exact Heap.lt_size e
 refine call_zip_2 pl.isList pl2.isList fun h' hZ hTI hTO hi1 hi2 hsz hk=>wpAny_pyIter_zip hZ ?_
 refine ⟨s1.heap.objs.size+4,_,_,_,H1,rfl,I1.kept (t':=s1.toks) hk,RC (zipApart_new hlt hlt2),⟨hZ,hTI,⟨_,_,hTO⟩,hi1,hi2⟩,fun b hb=>?_,q⟩
 have hle:s1.heap.objs.size<=b:=by
  simp only [List.mem_cons,or_false,List.not_mem_nil] at hb
  rcases hb with rfl | rfl | rfl | rfl | rfl
  ·exact Nat.le_add_right _ 4
  ·exact Nat.le_add_right _ 2
  ·exact Nat.le_add_right _ 3
  ·exact Nat.le_refl _
  ·exact Nat.le_add_right _ 1
 exact I1.GF hle (I1.hok.fresh hle)
def t4 (ds:List D):List D:=ds.zipIdx.map fun p=>.tup [.int (p.2:Int),p.1]
def RE (a b:List D):List D:=(a.zip b).map fun p=>.tup [p.1,p.2]
theorem AK {ds:List D} {i:Nat} {d:D} (h:(t4 ds)[i]? = some d):∃ d0,ds[i]? = some d0/\d=.tup [.int (i:Int),d0]:=by
 unfold t4 at h
 rw [List.getElem?_map,List.getElem?_zipIdx] at h
 cases q:ds[i]? with
 | none=>rw [q] at h; cases h
 | some d0 =>
  rw [q] at h
  simp at h
  exact ⟨d0,rfl,h.symm⟩
theorem RG {a b:List D} {i:Nat} {d:D} (h:(RE a b)[i]? = some d):∃ x y,a[i]? = some x/\b[i]? = some y/\d=.tup [x,y]:=by
 unfold RE at h
 rw [List.getElem?_map] at h
 cases q:(a.zip b)[i]? with
 | none=>rw [q] at h; cases h
 | some xy =>
  rw [q] at h
  obtain ⟨h1,h2⟩:=List.getElem?_zip_eq_some.mp q
  exact ⟨xy.1,xy.2,h1,h2,(Option.some.inj h).symm⟩
theorem CK {K:PySem.W.Frag} {S:Addr->Prop} {H:Hp} {T:Addr} {x y:V} {dx dy:D} (fr:H T=none) (hx:Dn K S H dx x) (hy:Dn K S H dy y):Dn K S (upd H T (.tup [x,y])) (.tup [dx,dy]) (.ref T):=by
 simp only [Dn]
 exact ⟨T,[x,y],rfl,bA,aQ.fits (.same (aM fr)) _ _ (aQ.cons hx (aQ.one hy))⟩
theorem MA {K:PySem.W.Frag} {a:Addr} {ds:List D}:Wlk K (Iel K a) (t4 ds) [(.lst ds,.ref a)] where
 go:=fun S H fc hg i d e=>by
  have h:=hg _ (List.mem_singleton.mpr rfl)
  simp only [Dn] at h
  obtain ⟨b,xs,eb,hb,sb,dn⟩:=h
  injection eb with eb
  subst eb
  obtain ⟨d0,e0,rfl⟩:=AK e
  obtain ⟨v,ev,dv⟩:=dn.get e0
  refine ⟨⟨xs,v,eV.of hb,ev⟩,fun x H' y=>?_⟩
  obtain ⟨T,vs,rfl,fr,rfl,v',rfl,hy⟩:=y
  have ex:=hy xs (eV.of hb)
  rw [ev] at ex
  cases ex
  exact ⟨aM fr,CK fr (by simp only [Dn]) dv⟩
 stop:=fun S H hg i hi=>by
  have h:=hg _ (List.mem_singleton.mpr rfl)
  simp only [Dn] at h
  obtain ⟨b,xs,eb,hb,sb,dn⟩:=h
  injection eb with eb
  subst eb
  exact ⟨xs,eV.of hb,by rw [<- dn.len,<- hi]; simp [t4]⟩
theorem MB {K:PySem.W.Frag} {a:Addr} {ds:List D}:Wlk K (Iet K a) (t4 ds) [(.tup ds,.ref a)] where
 go:=fun S H fc hg i d e=>by
  have h:=hg _ (List.mem_singleton.mpr rfl)
  simp only [Dn] at h
  obtain ⟨b,xs,eb,hb,dn⟩:=h
  injection eb with eb
  subst eb
  obtain ⟨d0,e0,rfl⟩:=AK e
  obtain ⟨v,ev,dv⟩:=dn.get e0
  refine ⟨⟨xs,v,(gC.of hb),ev⟩,fun x H' y=>?_⟩
  obtain ⟨T,vs,rfl,fr,rfl,v',rfl,hy⟩:=y
  have ex:=hy xs (gC.of hb)
  rw [ev] at ex
  cases ex
  exact ⟨aM fr,CK fr (by simp only [Dn]) dv⟩
 stop:=fun S H hg i hi=>by
  have h:=hg _ (List.mem_singleton.mpr rfl)
  simp only [Dn] at h
  obtain ⟨b,xs,eb,hb,dn⟩:=h
  injection eb with eb
  subst eb
  exact ⟨xs,(gC.of hb),by rw [<- dn.len,<- hi]; simp [t4]⟩
theorem V1 {K:PySem.W.Frag} {a c:Addr} {ds es:List D}:Wlk K (Izl K a c) (RE ds es) [(.lst ds,.ref a),(.lst es,.ref c)] where
 go:=fun S H fc hg i d e=>by
  have h:=hg (.lst ds,.ref a) (by simp)
  have h2:=hg (.lst es,.ref c) (by simp)
  simp only [Dn] at h h2
  obtain ⟨b,xs,eb,hb,sb,dn⟩:=h
  obtain ⟨b2,ys,eb2,hb2,sb2,JO⟩:=h2
  injection eb with eb
  injection eb2 with eb2
  subst eb eb2
  obtain ⟨x0,y0,e0,e1,rfl⟩:=RG e
  obtain ⟨v,ev,dv⟩:=dn.get e0
  obtain ⟨u,eu,du⟩:=JO.get e1
  refine ⟨⟨xs,ys,v,u,eV.of hb,eV.of hb2,ev,eu⟩,fun x H' y=>?_⟩
  obtain ⟨T,vs,rfl,fr,rfl,v',u',rfl,hy,hy2⟩:=y
  have ex:=hy xs (eV.of hb)
  have ex2:=hy2 ys (eV.of hb2)
  rw [ev] at ex
  rw [eu] at ex2
  cases ex
  cases ex2
  exact ⟨aM fr,CK fr dv du⟩
 stop:=fun S H hg i hi=>by
  have h:=hg (.lst ds,.ref a) (by simp)
  have h2:=hg (.lst es,.ref c) (by simp)
  simp only [Dn] at h h2
  obtain ⟨b,xs,eb,hb,sb,dn⟩:=h
  obtain ⟨b2,ys,eb2,hb2,sb2,JO⟩:=h2
  injection eb with eb
  injection eb2 with eb2
  subst eb eb2
  exact ⟨xs,ys,eV.of hb,eV.of hb2,by rw [<- dn.len,<- JO.len,<- hi]; simp [RE]⟩
def aCu (t:WA):WI:=fun ρ Q=>t ρ fun ds=>match ds with
 | [.lst es]=>Q (t4 es)
 | [.tup es]=>Q (t4 es)
 | _=>False
def aII (t:WA):WI:=fun ρ Q=>t ρ fun ds=>match ds with
 | [.lst a,.lst b]=>Q (RE a b)
 | _=>False
theorem G9 {a:Expr} {t:WA} {p pos:Pos} (hm:X.mg "enumerate" = none) (ha:wW X [a] t) (hg:Gl X "enumerate" := by rfl) (hs:starEach [a] X.env=[(false,eval a X.env)]:=by rfl):QY X (.Tuple es kk tp) (.Call (.Name "enumerate" p) [a] [] pos) (aCu t) :=
 LV (V0 hg hm ha hs) fun σ H R aIJ=>by
  obtain ⟨S,ρ,Q3,fc,sl,ht,k⟩:=aIJ
  refine ⟨S,ρ,_,fc,sl,ht,fun vs H1 ds s1 d1 q1=>?_⟩
  split at q1
  ·obtain ⟨v,r,rfl,h1,h2⟩:=d1.bI
   simp only [aQ] at h2
   subst h2
   have h1':=h1
   simp only [Dn] at h1
   obtain ⟨l,xs,rfl,hl,sl',da⟩:=h1
   exact ⟨l,rfl,.inl ⟨⟨xs,eV.of hl⟩,k _ H1 _ [(_,.ref l)] s1 (fun g hg=>by cases List.mem_singleton.mp hg; exact h1') MA q1⟩⟩
  ·obtain ⟨v,r,rfl,h1,h2⟩:=d1.bI
   simp only [aQ] at h2
   subst h2
   have h1':=h1
   simp only [Dn] at h1
   obtain ⟨l,xs,rfl,hl,da⟩:=h1
   exact ⟨l,rfl,.inr ⟨⟨xs,(gC.of hl)⟩,k _ H1 _ [(_,.ref l)] s1 (fun g hg=>by cases List.mem_singleton.mp hg; exact h1') MB q1⟩⟩
  ·exact q1.elim
theorem aIK {a b:Expr} {t:WA} {p pos:Pos} (hm:X.mg "zip" = none) (ha:wW X [a,b] t) (hg:Gl X "zip" := by rfl) (hs:starEach [a,b] X.env=[(false,eval a X.env),(false,eval b X.env)]:=by rfl) (hs2:starEach [b] X.env=[(false,eval b X.env)]:=by rfl) :
  QY X (.Tuple es kk tp) (.Call (.Name "zip" p) [a,b] [] pos) (aII t) :=
 LV (aA7 hg hm ha hs hs2) fun σ H R aIL=>by
  obtain ⟨S,ρ,Q3,fc,sl,ht,k⟩:=aIL
  refine ⟨S,ρ,_,fc,sl,ht,fun vs H1 ds s1 d1 q1=>?_⟩
  split at q1
  ·obtain ⟨v,r,rfl,h1,h2⟩:=d1.bI
   obtain ⟨v2,r2,rfl,h3,h4⟩:=h2.bI
   simp only [aQ] at h4
   subst h4
   have h1':=h1
   have h3':=h3
   simp only [Dn] at h1 h3
   obtain ⟨l,xs,rfl,hl,sl',da⟩:=h1
   obtain ⟨m,ys,rfl,hl2,sl2,da2⟩:=h3
   refine ⟨l,m,xs,ys,rfl,eV.of hl,eV.of hl2,k _ H1 _ [(_,.ref l),(_,.ref m)] s1 (fun g hg=>?_) V1 q1⟩
   rcases List.mem_cons.mp hg with rfl | hg
   ·exact h1'
   ·cases List.mem_singleton.mp hg; exact h3'
  ·exact q1.elim
end
section
variable {X:Cx} {a b:Expr} {pos:Pos} {ta tb:WE}
theorem V2:kB X (binaryOp .Mult) (rI IntMulOk fun i j=>.int (i*j)):=opI fun _ _ _ _ _ _ _ hc q=>mul_int q hc
def aCv:F2:=LR IntMulOk fun i j=>.int (i*j)
theorem aCw (ha:cZ X a ta) (hb:cZ X b tb):cZ X (.BinOp a .Mult b pos) (gH aCv ta tb):=op3 V2 CC ha hb
end
theorem V3 {i j:Int} {m n:Nat} (hi:i.natAbs<2 ^ m) (hj:j.natAbs<2 ^ n) (h:m+n<=134217728):IntMulOk i j:=by
 exact mulOk_of_bits (intBits_le hi) (intBits_le hj) h
section
variable {X:Cx}
def aNG (t:WE):WT:=fun ρ Q=>t ρ fun d=>match d with
 | .lst ds=>Q (!ds.isEmpty)
 | .tup ds=>Q (!ds.isEmpty)
 | _=>False
theorem aQ.empty {K:PySem.W.Frag} {S:Addr->Prop} {H:Hp} {ds:List D} {xs:List V} (h:aQ K S H ds xs):ds.isEmpty=xs.isEmpty:=by
 have:=h.len
 cases ds<;>cases xs<;>simp at this ⊢
def aCx:List V->Hp->VK->Prop:=fun xs H Q=>∃ (a:Addr) (ns:List Int),xs=[.ref a]/\H a=some (.lst (ns.map V.int))/\Q (.int ns.sum) H
theorem MC (hc:X.calm=true):gS X (.builtin "sum") aCx:=by
 intro pins s σ H xs us Q I r h
 obtain ⟨a,ns,rfl,ha,q⟩:=h
 obtain ⟨u,rfl,ru⟩:=vals1 r
 cases ru
 obtain ⟨its,rv,p,hz⟩:=I.list (eV.of ha)
 have hi:=intsAre_of rv
 obtain ⟨zs,ez⟩:=hi.allInts.items
 have en:zs.toList.map (·.1)=ns:=by
  rw [<- nums_intItems,<- ez]
  exact hi.numsOf
 have ev:preSum (numAt zs) zs.size=ns.sum:=by rw [preSum_eq,List.take_of_length_le (by simp),en]
 refine sum_intListG (I.ok.hd hc) (ez▸p.isList) fun h' tk t' hk=>⟨.int ns.sum,H,I.kept hk,⟨t',by rw [ev]⟩,q⟩
def sumF:F1
 | [.lst ds],Q=>(match intsOf ds with | some ns=>Q (.int ns.sum) | none=>False)
 | _,_=>False
theorem MD {ns:List Int} {Q:D->Prop}:sumF [.lst (ns.map D.int)] Q=Q (.int ns.sum):=by
 show (match intsOf (ns.map D.int) with | some ns=>Q (.int ns.sum) | none=>False)=_
 rw [eE]
theorem aA9 {K:PySem.W.Frag}:C3 K aCx sumF:=by
 intro S H xs ds Q3 Q fc hd hf k
 match ds,hf with
 | [.lst es],hf =>
  obtain ⟨v,r,rfl,h1,h2⟩:=hd.bI
  simp only [aQ] at h2
  subst h2
  simp only [Dn] at h1
  obtain ⟨a,ys,rfl,ha,sa,da⟩:=h1
  have hf2:(match intsOf es with | some ns=>Q3 (.int ns.sum) | none=>False):=hf
  clear hf
  cases q:intsOf es with
  | none=>rw [q] at hf2; exact hf2.elim
  | some ns =>
   rw [q] at hf2
   have e:=sU q
   subst e
   have e2:=aQ.ints.mp da
   subst e2
   exact ⟨a,ns,rfl,ha,k _ H _ (Same.refl H) (by simp only [Dn]) hf2⟩
theorem aIM {p pos:Pos} {e:Expr} {t:WA} (hc:X.calm=true) (hm:X.mg "sum" = none) (ha:wW X [e] t) (hg:Gl X "sum" := by rfl)
  (he:starEach [e] X.env=(false,eval e X.env)::starEach [] X.env:=by rfl):cZ X (.Call (.Name "sum" p) [e] [] pos) (LU sumF t):=CF (MC hc) aA9 PyProof.Rows.boot_sum hg hm ha (by decide) (by decide) he (by rfl)
abbrev WO:=bN->(Option Int->Prop)->Prop
def aCy (K:PySem.W.Frag) (t:WO):TO:=fun σ H Q=>∃ (S:Addr->Prop) (ρ:bN) (Q3:Option Int->Prop),(∀ a,H a=none->S a)/\Sl K S H ρ σ/\t ρ Q3 /\ ∀ o H',Same H H'->Q3 o->Q o H'
def PO3 (X:Cx) (e:Option Expr) (t:WO):Prop:=PO X e (aCy X.K t)
def V4:WO:=fun _ Q=>Q none
def aCz (t:WE):WO:=fun ρ Q=>t ρ fun d=>match d with
 | .int i=>Q (some i)
 | _=>False
theorem aIN:PO3 X none V4:=fun pins s σ H Q I aIO=>by obtain ⟨S,ρ,Q3,fc,sl,ht,k⟩:=aIO; exact U5 pins s σ H Q I (k none H (Same.refl H) ht)
theorem po3 {e:Expr} {t:WE} (h:cZ X e t):PO3 X (some e) (aCz t):=fun pins s σ H Q I aIP=>by
 obtain ⟨S,ρ,Q3,fc,sl,ht,k⟩:=aIP
 refine U6 h pins s σ H Q I ⟨S,ρ,_,fc,sl,ht,fun v H1 d s1 d1 q1=>?_⟩
 cases d with
 | int i=>simp only [Dn] at d1; exact ⟨i,d1,k _ H1 s1 q1⟩
 | _=>exact q1.elim
def cutD (xs:List D) (lo hi:Option Int):List D:=(xs.drop (HT.gE xs.length 0 lo)).take (HT.gE xs.length xs.length hi - HT.gE xs.length 0 lo)
theorem aQ.cut {K:PySem.W.Frag} {S:Addr->Prop} {H:Hp} {ds:List D} {xs:List V} {lo hi:Option Int} (h:aQ K S H ds xs):aQ K S H (cutD ds lo hi) (DW xs lo hi):=by
 unfold cutD DW
 rw [h.len]
 exact (h.drop _).take _
theorem RH {prog:Program} {w:World} {A:Around} {E:Value->Shared->Prop} {s:Shared} {t sl:Addr} {items:Array Value} {vl vu:Value} {lo hi:Option Int} {Q:Value->Shared->Prop} (ht:IsTup s.heap t items) (hs:s.heap.IsSliceOf sl vl vu .none) (pl:IsPart vl lo) (pu:IsPart vu hi)
  (h0:HT.gE items.size 0 lo=0) (h1:HT.gE items.size items.size hi=items.size) (h:Q (.ref t) s):wpAny (model prog w) A (getItem (.ref t) (.ref sl)) Q E s:=by
 have hT:s.TypeIs (.ref sl) "slice" := by obtain ⟨o,a,b,_⟩:=hs; exact ⟨o,a,b⟩
 unfold getItem
 try with_reducible refine wpAny_holding ?_
 first | refine wpAny_bind (wpAny_pure ?_) | skip
 apply wpAny_bind
 refine wpAny_sequenceKey ht.typeIs (by decide) (wpAny_bind (wpAny_callSpecial?_slot ht.typeIs PyProof.Rows.slot_tuple_getitem (wpAny_call_entry PyProof.Rows.slot_tuple_getitem ht.typeIs entry_tuple_getitem ?_ (args_tuple_getitem _ _))))
 refine wpAny_bind (m:=Builtin.Tuple.tupleItemsOf _) (tupleItemsOf_ ht (wpAny_bind (wpAny_typeOf hT ?_)))
 rw [if_pos (by decide)]
 refine wpAny_bind (HT.kO (n:=items.size) hs pl pu ?_)
 rw [h0,h1]
 show wpAny _ _ (if ((((0:Nat):Int) == 0)&&((1:Int) == 1)&&((items.size - 0) == items.size))=true then _ else _) _ _ s
 rw [if_pos (by simp)]
 refine wpAny_bind (m:=Builtin.Tuple.tupleIsExact _) (wpAny_bind (wpAny_typeOf ht.typeIs (wpAny_pure ?_)))
 show wpAny _ _ (if true=true then _ else _) _ _ s
 rw [if_pos rfl]
 exact wpAny_bind (wpAny_rule (wpAny_pure ⟨_,rfl,wpAny_pure h⟩))
def aIQ (K:PySem.W.Frag):V->Option Int->Option Int->Hp->VK->Prop:=fun x lo hi H Q=>∃ a xs,x=.ref a/\gC K H a xs/\(HT.gE xs.length 0 lo=0/\HT.gE xs.length xs.length hi=xs.length)/\Q (.ref a) H
theorem V5:XR X (aIQ X.K):=by
 intro pins s σ H x v vl vu lo hi sl Q I rx hs pl pu h
 obtain ⟨a,xs,rfl,hx,hw,q⟩:=h
 cases rx
 obtain ⟨its,r,ht,hz⟩:=I.tuple hx
 have hlen:its.toArray.size=xs.length:=by rw [List.size_toArray]; exact r.length.symm
 exact ⟨"tuple",_,PyProof.Rows.slot_tuple_getitem.lookup,ht.typeIs,RH ht hs pl pu (by rw [hlen]; exact hw.1) (by rw [hlen]; exact hw.2) ⟨.ref a,H,I,rfl,q⟩⟩
def wSl (te:WE) (tl th:WO):WE:=fun ρ Q=>te ρ fun d=>tl ρ fun lo=>th ρ fun hi=>match d with
 | .lst ds=>Q (.lst (cutD ds lo hi))
 | .tup ds=>Q (.tup (cutD ds lo hi))
 | _=>False
theorem sl3 {e:Expr} {lo hi:Option Expr} {p2 pos:Pos} {te:WE} {tl th:WO} (he:cZ X e te) (hl:PO3 X lo tl) (hh:PO3 X hi th):cZ X (.Subscript e (.Slice lo hi none p2) pos) (wSl te tl th) :=
 imp (P5 (U9.or (Z3.or V5)) he hl hh) fun σ H Q aIS=>by
  obtain ⟨S,ρ,Q3,fc,sl,ht,k⟩:=aIS
  refine ⟨S,ρ,_,fc,sl,ht,fun v H1 d s1 d1 q1=>?_⟩
  refine ⟨S,ρ,_,bH fc s1,Sl.fits (.same s1) sl,q1,fun o H2 s2 q2=>?_⟩
  refine ⟨S,ρ,_,bH fc (s1.trans s2),Sl.fits (.same (s1.trans s2)) sl,q2,fun o2 H3 s3 q3=>?_⟩
  have d3:=Dn.fits (.same (s2.trans s3)) _ _ d1
  have sa:=(s1.trans s2).trans s3
  cases d with
  | lst ds =>
   simp only [Dn] at d3
   obtain ⟨a,xs,rfl,ha,sa',da⟩:=d3
   refine .inl ⟨a,xs,rfl,eV.of ha,fun p hp=>k _ _ _ (sa.trans (aM hp)) ?_ q3⟩
   simp only [Dn]
   exact ⟨p,_,rfl,bA,bH fc sa p hp,aQ.fits (.same (aM hp)) _ _ da.cut⟩
  | tup ds =>
   simp only [Dn] at d3
   obtain ⟨a,xs,rfl,ha,da⟩:=d3
   have hl:=da.len
   by_cases hw:HT.gE xs.length 0 o=0/\HT.gE xs.length xs.length o2=xs.length
   ·refine .inr (.inr ⟨a,xs,rfl,(gC.of ha),hw,k _ _ _ sa ?_ q3⟩)
    have e:cutD ds o o2=ds:=by
     unfold cutD
     rw [hl,hw.1,hw.2,List.drop_zero,Nat.sub_zero,List.take_of_length_le (Nat.le_of_eq hl)]
    rw [e]
    simp only [Dn]
    exact ⟨a,xs,rfl,ha,da⟩
   ·refine .inr (.inl ⟨a,xs,rfl,(gC.of ha),hw,fun p hp=>k _ _ _ (sa.trans (aM hp)) ?_ q3⟩)
    simp only [Dn]
    exact ⟨p,_,rfl,bA,aQ.fits (.same (aM hp)) _ _ da.cut⟩
  | _=>exact q3.elim
end
section
variable {X:Cx} {tg:Expr}
end
end L3
end
section
namespace L4
open PySem PySem.Spec PyProof.Rows L2 L3
def wE (f:EF):WE:=fun ρ Q=>∃ d,f ρ=some d/\Q d
def wT (f:TF):WT:=fun ρ Q=>∃ d,f ρ=some d/\Q d
def wA (f:AF):WA:=fun ρ Q=>∃ d,f ρ=some d/\Q d
def wI (f:AF):WI:=fun ρ Q=>∃ d,f ρ=some d/\Q d
def wO (f:OF):WO:=fun ρ Q=>∃ d,f ρ=some d/\Q d
def wX (f:XF):WX:=fun ρ Q=>∃ p,f ρ=some p/\Q p.1 p.2
def wS (f:SF):WS:=fun E ρ=>match f ρ with
 | .nx ρ'=>E.nx ρ'
 | .rt d=>E.rt d
 | .ex c=>E.ex c
 | .no=>False
def wG (g:IF):WG:=fun d ρ Q=>∃ ρ',g d ρ=some ρ'/\Q ρ'
def wGE (g:FP):GE:=fun d ρ Q=>∃ ρ',g d ρ=some ρ'/\Q ρ'
abbrev cP (X:Cx) (e:Expr) (f:EF):Prop:=cZ X e (wE f)
abbrev n6 (X:Cx) (e:Expr) (f:EF):Prop:=D2 X e (wE f)
abbrev AL (X:Cx) (e:Expr) (f:TF):Prop:=yI X e (wT f)
abbrev HA (X:Cx) (e:Expr) (f:TF):Prop:=NS X e (wT f)
abbrev xD (X:Cx) (es:List Expr) (f:AF):Prop:=wW X es (wA f)
abbrev X2 (X:Cx) (tg e:Expr) (f:AF):Prop:=QY X tg e (wI f)
abbrev PO4 (X:Cx) (e:Option Expr) (f:OF):Prop:=PO3 X e (wO f)
abbrev ME (X:Cx) (e:Expr) (f:XF):Prop:=FH X e (wX f)
abbrev rO (X:Cx) (st:Stmt) (f:SF):Prop:=FG X st (wS f)
abbrev CL (X:Cx) (st:List Stmt) (f:SF):Prop:=w9 X st (wS f)
section
variable {X:Cx}
theorem cE {e:Expr} {t t':WE} (h:cZ X e t) (c:∀ ρ Q,t' ρ Q->t ρ Q):cZ X e t':=imp h fun _ _ _ aIU=>by obtain ⟨S,ρ,Q3,fc,sl,ht,k⟩:=aIU; exact ⟨S,ρ,Q3,fc,sl,c ρ Q3 ht,k⟩
theorem cF {e:Expr} {t t':WE} (h:D2 X e t) (c:∀ ρ Q,t' ρ Q->t ρ Q):D2 X e t':=imp h fun _ _ _ aIV=>by obtain ⟨S,ρ,Q3,fc,sl,ht,k⟩:=aIV; exact ⟨S,ρ,Q3,fc,sl,c ρ Q3 ht,k⟩
theorem cT {e:Expr} {t t':WT} (h:yI X e t) (c:∀ ρ Q,t' ρ Q->t ρ Q):yI X e t':=QL h fun _ _ _ aIW=>by obtain ⟨S,ρ,Q3,fc,sl,ht,k⟩:=aIW; exact ⟨S,ρ,Q3,fc,sl,c ρ Q3 ht,k⟩
theorem cW {e:Expr} {t t':WT} (h:NS X e t) (c:∀ ρ Q,t' ρ Q->t ρ Q):NS X e t':=aAF h fun _ _ _ aIX=>by obtain ⟨S,ρ,Q3,fc,sl,ht,k⟩:=aIX; exact ⟨S,ρ,Q3,fc,sl,c ρ Q3 ht,k⟩
theorem cA {e:List Expr} {t t':WA} (h:wW X e t) (c:∀ ρ Q,t' ρ Q->t ρ Q):wW X e t':=GV h fun _ _ _ aIY=>by obtain ⟨S,ρ,Q3,fc,sl,ht,k⟩:=aIY; exact ⟨S,ρ,Q3,fc,sl,c ρ Q3 ht,k⟩
theorem cI {tg e:Expr} {t t':WI} (h:QY X tg e t) (c:∀ ρ Q,t' ρ Q->t ρ Q):QY X tg e t':=LV h fun _ _ _ aIZ=>by obtain ⟨S,ρ,Q3,fc,sl,ht,k⟩:=aIZ; exact ⟨S,ρ,Q3,fc,sl,c ρ Q3 ht,k⟩
theorem cX {e:Expr} {t t':WX} (h:FH X e t) (c:∀ ρ Q,t' ρ Q->t ρ Q):FH X e t':=imp h fun _ _ _ aI0=>by obtain ⟨H₀,S,w,ρ,G,Q3,hl,st,ht,k⟩:=aI0; exact ⟨H₀,S,w,ρ,G,Q3,hl,st,c ρ Q3 ht,k⟩
theorem cS {e:Stmt} {t t':WS} (h:FG X e t) (c:∀ E ρ,t' E ρ->t E ρ):FG X e t':=jY h fun _ _ _ aI1=>by obtain ⟨H₀,S,w,ρ,G,E,hl,st,ht,ok⟩:=aI1; exact ⟨H₀,S,w,ρ,G,E,hl,st,c E ρ ht,ok⟩
theorem cSs {e:List Stmt} {t t':WS} (h:w9 X e t) (c:∀ E ρ,t' E ρ->t E ρ):w9 X e t':=D4 h fun _ _ _ aI2=>by obtain ⟨H₀,S,w,ρ,G,E,hl,st,ht,ok⟩:=aI2; exact ⟨H₀,S,w,ρ,G,E,hl,st,c E ρ ht,ok⟩
theorem HA.pt {e:Expr} {f:TF} (h:HA X e f):AL X e f:=NS.pt h
theorem n6.pe {e:Expr} {f:EF} (h:n6 X e f):cP X e f:=D2.pe h
theorem bnd {α β:Type} {o:Option α} {f:α->Option β} {b:β} (h:o.bind f=some b):∃ a,o=some a/\f a=some b:=by
 cases o with
 | none=>cases h
 | some a=>exact ⟨a,rfl,h⟩
theorem uT {α β:Type} {o:Option α} {f:α->β} {b:β} (h:o.map f=some b):∃ a,o=some a/\f a=b:=by
 cases o with
 | none=>cases h
 | some a=>exact ⟨a,rfl,Option.some.inj h⟩
theorem x4 (i:Nat) {x:Str} {pos:Pos} (hN:X.N[i]? = some x:=by rfl) (hv:BX X.env.scope x:=by first | exact Or.inl rfl | exact Or.inr (Or.inl rfl) | exact Or.inr (Or.inr rfl)) (hd:(x == ("__debug__" : Str))=false:=by decide)
  (hcd:(x == ("__classdict__" : Str))=false:=by decide):cP X (.Name x pos) (aB i):=cE (x3 i hN hv hd hcd) fun ρ Q aI3=>by
 obtain ⟨d,e,q⟩:=aI3
 unfold aB at e
 unfold VD
 cases h:ρ[i]? with
 | none=>rw [h] at e; cases e
 | some o =>
  rw [h] at e
  cases o with
  | none=>cases e
  | some d'=>cases e; exact q
theorem i4 {i:Int} {j pos}:cP X (.Constant (.int i) j pos) (eC (.int i)):=cE i3 fun _ _ aI4=>by obtain ⟨_,e,q⟩:=aI4; cases e; exact q
theorem b4 {b:Bool} {j pos}:cP X (.Constant (.bool b) j pos) (eC (.bl b)):=cE b3 fun _ _ aI5=>by obtain ⟨_,e,q⟩:=aI5; cases e; exact q
theorem n4 {j pos}:cP X (.Constant .none j pos) (eC .non):=cE n3 fun _ _ aI6=>by obtain ⟨_,e,q⟩:=aI6; cases e; exact q
theorem s4 {x:Str} {j pos}:cP X (.Constant (.str x) j pos) (eC (.str x)):=cE s3 fun _ _ aI7=>by obtain ⟨_,e,q⟩:=aI7; cases e; exact q
def Tells (f:F2) (g:D->D->Option D):Prop:=∀ (x y d:D) (Q:D->Prop),g x y=some d->Q d->f x y Q
theorem jQ {f:F2} {g:D->D->Option D} (h:Tells f g) {fa fb:EF} (ρ:bN) (Q:D->Prop) (w:wE (aE g fa fb) ρ Q):gH f (wE fa) (wE fb) ρ Q:=by
 obtain ⟨d,e,q⟩:=w
 obtain ⟨x,ex,e⟩:=bnd e
 obtain ⟨y,ey,e⟩:=bnd e
 exact ⟨x,ex,y,ey,h x y d Q e q⟩
theorem jC {g:Int->Int->D}:Tells (wZ g) (FJ g):=fun x y d Q e q=>by
 cases x<;>first | (cases e; done) | skip
 all_goals (cases y<;>first | (cases e; done) | skip)
 cases e; exact q
theorem lP {C:Int->Int->Prop} {c:Int->Int->Bool} {g:Int->Int->D} (h:∀ i j,c i j=true->C i j):Tells (LR C g) (oN c g):=fun x y d Q e q=>by
 cases x<;>first | (cases e; done) | skip
 all_goals (cases y<;>first | (cases e; done) | skip)
 rename_i i j
 have e:(if c i j=true then some (g i j) else none)=some d:=e
 by_cases hc:c i j=true
 ·rw [if_pos hc] at e; cases e; exact ⟨h i j hc,q⟩
 ·rw [if_neg hc] at e; cases e
theorem szl {n:Nat} {α:Type} {x d:α} {Q:α->Prop} (e:(if n<=pX then some x else none)=some d) (q:Q d):n<=sizeLine/\Q x:=by
 by_cases h:n<=pX
 ·rw [if_pos h] at e; cases e; exact ⟨by rw [sizeLine_eq]; exact h,q⟩
 ·rw [if_neg h] at e; cases e
theorem MF:Tells aAD cB:=fun x y d Q e q=>by
 cases x<;>first | (cases e; done) | skip
 all_goals (cases y<;>first | (cases e; done) | skip)
 ·cases e; exact q
 ·exact szl (x:=D.str _) e q
 ·exact szl (x:=D.tup _) e q
 ·exact szl (x:=D.lst _) e q
theorem MG:Tells aCR KG:=fun x y d Q e q=>by
 cases x<;>first | (cases e; done) | skip
 all_goals (cases y<;>first | (cases e; done) | skip)
 exact szl (x:=D.lst _) e q
theorem aAb {i j:Int} (h:uY i j=true):IntMulOk i j:=by
 unfold uY at h
 simp only [Bool.or_eq_true,decide_eq_true_eq] at h
 rcases h with (h | h) | h
 ·exact UX.ok (.inl ⟨by omega,by omega⟩)
 ·exact UX.ok (.inr ⟨by omega,by omega⟩)
 ·refine V3 (m:=i.natAbs.log2+1) (n:=j.natAbs.log2+1) ?_ ?_ (by omega)
  ·exact Nat.lt_log2_self
  ·exact Nat.lt_log2_self
section
variable {a b:Expr} {pos:Pos} {fa fb:EF}
theorem gJ (ha:cP X a fa) (hb:cP X b fb):cP X (.BinOp a .Add b pos) (aE cB fa fb):=cE (aGU ha hb) (jQ MF)
theorem RI (ha:cP X a fa) (hb:cP X b fb):cP X (.BinOp a .Sub b pos) (aE fM fa fb):=cE (aGQ ha hb) (jQ jC)
theorem uH (ha:cP X a fa) (hb:cP X b fb):cP X (.BinOp a .Mult b pos) (aE mulM fa fb):=cE (aCw ha hb) (jQ (lP fun _ _ h=>aAb h))
theorem mX (ha:cP X a fa) (hb:cP X b fb):cP X (.BinOp a .Mod b pos) (aE fH fa fb):=cE (aGR ha hb) (jQ (lP fun _ _ h=>by simpa using h))
theorem RJ (ha:cP X a fa) (hb:cP X b fb):cP X (.BinOp a .FloorDiv b pos) (aE t9 fa fb):=cE (aGS ha hb) (jQ (lP fun i j h=>by
 simp only [Bool.and_eq_true,decide_eq_true_eq] at h
 exact ⟨h.1,by omega⟩))
theorem aAc (ha:cP X a fa) (hb:cP X b fb):cP X (.BinOp a .Pow b pos) (aE uA fa fb):=cE (aGT ha hb) (jQ (lP fun i j h=>by
 simp only [Bool.and_eq_true,decide_eq_true_eq] at h
 exact ⟨h.1.1,by omega,h.2⟩))
theorem aDA (ha:cP X a fa) (hb:cP X b fb):n6 X (.BinOp a .Add b pos) (aE KG fa fb):=cF (aCS ha hb) (jQ MG)
theorem tells_eq:Tells VG jW:=fun x y d Q e q=>by
 cases x<;>first | (cases e; done) | skip
 all_goals (cases y<;>first | (cases e; done) | skip)
 all_goals (cases e; exact ⟨rfl,q⟩)
theorem EC:Tells VH KC:=fun x y d Q e q=>by
 cases x<;>first | (cases e; done) | skip
 all_goals (cases y<;>first | (cases e; done) | skip)
 all_goals (cases e; exact ⟨rfl,q⟩)
theorem ints_of:∀ {ds:List D} {ns:List Int},intsOf ds=some ns->ds=ns.map D.int
 | [],ns,h=>by cases h; rfl
 | d::ds,ns,h=>by
  cases d<;>first | cases h; done | skip
  obtain ⟨m,e,rfl⟩:=uT h
  rw [ints_of e]; rfl
theorem qX {neg:Bool}:Tells (inF neg) (lC neg):=fun x y d Q e q=>by
 cases x<;>first | (cases e; done) | skip
 all_goals (cases y<;>first | (cases e; done) | skip)
 all_goals
  obtain ⟨ns,e1,rfl⟩:=uT e
  have:=ints_of e1
  subst this
  exact ⟨AE ns,by rw [AG]; exact q⟩
theorem ED:Tells VI S8:=fun x y d Q e q=>by
 unfold S8 at e
 split at e
 ·rename_i h
  cases e
  refine ⟨(by cases y<;>first | rfl | cases h),?_⟩
  have:isD x=uZ x:=by cases x<;>rfl
  rw [this]; exact q
 ·cases e
theorem eq4 (ha:cP X a fa) (hb:cP X b fb):cP X (.Compare a [.Eq] [b] pos) (aE jW fa fb):=cE (aG6 ha hb) (jQ tells_eq)
theorem ne4 (ha:cP X a fa) (hb:cP X b fb):cP X (.Compare a [.NotEq] [b] pos) (aE KC fa fb):=cE (aG7 ha hb) (jQ EC)
theorem in4 (ha:cP X a fa) (hb:cP X b fb) (hm:behindInMarks .In b=false:=by with_unfolding_all rfl):cP X (.Compare a [.In] [b] pos) (aE (lC false) fa fb):=cE (in3 ha hb hm) (jQ qX)
theorem aDB (ha:cP X a fa) (hb:cP X b fb) (hm:behindInMarks .NotIn b=false:=by with_unfolding_all rfl):cP X (.Compare a [.NotIn] [b] pos) (aE (lC true) fa fb):=cE (aG8 ha hb hm) (jQ qX)
theorem is4 (ha:cP X a fa) (hb:cP X b fb):cP X (.Compare a [.Is] [b] pos) (aE S8 fa fb):=cE (aGd ha hb) (jQ ED)
theorem t5 {f:F2} {g:D->D->Option D} (h:Tells f g) (hb:∀ x y d,g x y=some d -> ∃ b,d=.bl b) {fa fb:EF} (ρ:bN) (Q:Bool->Prop) (w:wT (tV (aE g fa fb)) ρ Q):mV (gH f (wE fa) (wE fb)) ρ Q:=by
 obtain ⟨b,e,q⟩:=w
 obtain ⟨d,e1,e2⟩:=bnd e
 obtain ⟨x,ex,e1⟩:=bnd e1
 obtain ⟨y,ey,e1⟩:=bnd e1
 obtain ⟨c,rfl⟩:=hb x y d e1
 cases e2
 exact ⟨x,ex,y,ey,h x y _ _ e1 q⟩
theorem xE {g:Int->Int->Bool} (x y d:D) (e:FJ (fun i j=>.bl (g i j)) x y=some d):∃ b,d=.bl b:=by
 cases x<;>first | (cases e; done) | skip
 all_goals (cases y<;>first | (cases e; done) | skip)
 cases e; exact ⟨_,rfl⟩
theorem aDC (x y d:D) (e:jW x y=some d):∃ b,d=.bl b:=by obtain ⟨b,_,rfl⟩:=uT e; exact ⟨_,rfl⟩
theorem aDD (x y d:D) (e:KC x y=some d):∃ b,d=.bl b:=by obtain ⟨b,_,rfl⟩:=uT e; exact ⟨_,rfl⟩
theorem X3 {neg:Bool} (x y d:D) (e:lC neg x y=some d):∃ b,d=.bl b:=by
 cases x<;>first | (cases e; done) | skip
 all_goals (cases y<;>first | (cases e; done) | skip)
 all_goals (obtain ⟨b,_,rfl⟩:=uT e; exact ⟨_,rfl⟩)
theorem aDE (x y d:D) (e:S8 x y=some d):∃ b,d=.bl b:=by
 unfold S8 at e
 split at e
 ·cases e; exact ⟨_,rfl⟩
 ·cases e
theorem aI8 (ha:cP X a fa) (hb:cP X b fb):AL X (.Compare a [.Lt] [b] pos) (tV (aE WW fa fb)):=cT (aG9 ha hb) (t5 jC xE)
theorem V6 (ha:cP X a fa) (hb:cP X b fb):AL X (.Compare a [.Gt] [b] pos) (tV (aE uK fa fb)):=cT (aGa ha hb) (t5 jC xE)
theorem aDF (ha:cP X a fa) (hb:cP X b fb):AL X (.Compare a [.GtE] [b] pos) (tV (aE geM fa fb)):=cT (aGb ha hb) (t5 jC xE)
theorem CM (ha:cP X a fa) (hb:cP X b fb):AL X (.Compare a [.Eq] [b] pos) (tV (aE jW fa fb)):=cT (aCV ha hb) (t5 tells_eq aDC)
theorem aI9 (ha:cP X a fa) (hb:cP X b fb):AL X (.Compare a [.NotEq] [b] pos) (tV (aE KC fa fb)):=cT (aCW ha hb) (t5 EC aDD)
theorem aDG (ha:cP X a fa) (hb:cP X b fb) (hm:behindInMarks .In b=false:=by with_unfolding_all rfl):AL X (.Compare a [.In] [b] pos) (tV (aE (lC false) fa fb)):=cT (aGc ha hb hm) (t5 qX X3)
theorem EE (ha:cP X a fa) (hb:cP X b fb) (hm:behindInMarks .NotIn b=false:=by with_unfolding_all rfl):AL X (.Compare a [.NotIn] [b] pos) (tV (aE (lC true) fa fb)):=cT (aCX ha hb hm) (t5 qX X3)
theorem aIa (ha:cP X a fa) (hb:cP X b fb):AL X (.Compare a [.Is] [b] pos) (tV (aE S8 fa fb)):=cT (aCY ha hb) (t5 ED aDE)
end
def O4 (K:PySem.W.Frag) (r:R2) (g:D->D->Option D):Prop:=∃ f,O3 K r f/\Tells f g /\ ∀ x y d,g x y=some d -> ∃ b,d=.bl b
theorem aDH {K:PySem.W.Frag}:O4 K (LC fun i j=>.bl (decide (i<j))) WW:=⟨_,w4,jC,xE⟩
theorem aDI {K:PySem.W.Frag}:O4 K (LC fun i j=>.bl (decide (i<=j))) leM:=⟨_,w4,jC,xE⟩
theorem V7 {f g:F2} {p q:D->D->Option D} (hf:Tells f p) (hg:Tells g q) {fa fb fc:EF} (ρ:bN) (Q:D->Prop) (w:wE (mD p q fa fb fc) ρ Q):GX f g (wE fa) (wE fb) (wE fc) ρ Q:=by
 obtain ⟨d,e,k⟩:=w
 obtain ⟨x,ex,e⟩:=bnd e
 obtain ⟨y,ey,e⟩:=bnd e
 obtain ⟨z,ez,e⟩:=bnd e
 obtain ⟨b,eb,e5⟩:=bnd e
 refine ⟨x,ex,y,ey,hf x y z _ ez ?_⟩
 clear e
 cases z<;>first | cases eb; done | skip
 cases eb
 cases b with
 | true =>
  rw [if_pos rfl] at e5
  obtain ⟨u,eu,e⟩:=bnd e5
  exact ⟨u,eu,hg y u d Q e k⟩
 | false =>
  rw [if_neg Bool.false_ne_true] at e5
  cases e5
  exact k
theorem aAd {a b c:Expr} {op op':CmpOp} {pos:Pos} {r r':R2} {p q:D->D->Option D} {fa fb fc:EF} (ho:kB X (compareOp op) r) (ho':kB X (compareOp op') r') (h1:O4 X.K r p) (h2:O4 X.K r' q) (ha:cP X a fa) (hb:cP X b fb) (hc:cP X c fc)
  (hm:lastMarks [op,op'] [b,c]=false:=by with_unfolding_all rfl):cP X (.Compare a [op,op'] [b,c] pos) (mD p q fa fb fc):=by
 obtain ⟨f,o1,t1,_⟩:=h1
 obtain ⟨g,o2,t2,_⟩:=h2
 exact cE (aAG ho ho' o1 o2 ha hb hc hm) (V7 t1 t2)
section
variable {a b c:Expr} {rest:List Expr} {pos:Pos} {fa fb:EF} {ta tb tc:TF}
theorem xF (ha:AL X a ta):AL X (.UnaryOp .Not a pos) (fZ ta):=cT (aC1 ha) fun ρ Q aIb=>by
 obtain ⟨b,e,q⟩:=aIb
 obtain ⟨c,ec,rfl⟩:=uT e
 exact ⟨c,ec,q⟩
theorem X4 (ha:AL X a ta):HA X (.BoolOp .And [a] pos) ta:=aGg ha
theorem RK (ha:AL X a ta):HA X (.BoolOp .Or [a] pos) ta:=or1 ha
theorem X5 (ha:AL X a ta) (hb:HA X (.BoolOp .And (b::rest) pos) tb):HA X (.BoolOp .And (a::b::rest) pos) (lW ta tb):=cW (aC2 ha hb) fun ρ Q aIc=>by
 obtain ⟨d,e,q⟩:=aIc
 obtain ⟨c,ec,e⟩:=bnd e
 refine ⟨c,ec,?_⟩
 cases c with
 | true=>rw [if_pos rfl] at e ⊢; exact ⟨d,e,q⟩
 | false=>rw [if_neg Bool.false_ne_true] at e ⊢; cases e; exact q
theorem RL (ha:AL X a ta) (hb:HA X (.BoolOp .Or (b::rest) pos) tb):HA X (.BoolOp .Or (a::b::rest) pos) (oR ta tb):=cW (aGi ha hb) fun ρ Q aIe=>by
 obtain ⟨d,e,q⟩:=aIe
 obtain ⟨c,ec,e⟩:=bnd e
 refine ⟨c,ec,?_⟩
 cases c with
 | true=>rw [if_pos rfl] at e ⊢; cases e; exact q
 | false=>rw [if_neg Bool.false_ne_true] at e ⊢; exact ⟨d,e,q⟩
theorem EG {op} (ha:cP X a fa):cP X (.BoolOp op [a] pos) fa:=aGm ha
theorem EH (ha:cP X a fa) (hb:cP X (.BoolOp .And (b::rest) pos) fb):cP X (.BoolOp .And (a::b::rest) pos) (iM fa fb):=cE (aGn ha hb) fun ρ Q aIf=>by
 obtain ⟨d,e,q⟩:=aIf
 obtain ⟨x,ex,e1⟩:=bnd e
 obtain ⟨c,ec,e⟩:=bnd e1
 clear e1
 refine ⟨x,ex,?_⟩
 cases x<;>first | cases ec; done | skip
 cases ec
 cases c with
 | true=>rw [if_pos rfl] at e; exact ⟨d,e,q⟩
 | false=>rw [if_neg Bool.false_ne_true] at e; cases e; exact q
theorem or4 (ha:cP X a fa) (hb:cP X (.BoolOp .Or (b::rest) pos) fb):cP X (.BoolOp .Or (a::b::rest) pos) (NU fa fb):=cE (or3 ha hb) fun ρ Q aIg=>by
 obtain ⟨d,e,q⟩:=aIg
 obtain ⟨x,ex,e1⟩:=bnd e
 obtain ⟨c,ec,e⟩:=bnd e1
 clear e1
 refine ⟨x,ex,?_⟩
 cases x<;>first | cases ec; done | skip
 cases ec
 cases c with
 | true=>rw [if_pos rfl] at e; cases e; exact q
 | false=>rw [if_neg Bool.false_ne_true] at e; exact ⟨d,e,q⟩
theorem aDJ (ha:cP X a fa):cP X (.UnaryOp .Not a pos) (rP fa):=cE (aGq ha) fun ρ Q aIh=>by
 obtain ⟨d,e,q⟩:=aIh
 obtain ⟨x,ex,e⟩:=bnd e
 obtain ⟨c,ec,rfl⟩:=uT e
 refine ⟨x,ex,?_⟩
 cases x<;>first | cases ec; done | skip
 cases ec
 exact q
theorem if4 (hc:AL X c tc) (ha:cP X a fa) (hb:cP X b fb):cP X (.IfExp c a b pos) (KA tc fa fb):=cE (if3 hc ha hb) fun ρ Q aIi=>by
 obtain ⟨d,e,q⟩:=aIi
 obtain ⟨c,ec,e⟩:=bnd e
 refine ⟨c,ec,?_⟩
 cases c with
 | true=>rw [if_pos rfl] at e ⊢; exact ⟨d,e,q⟩
 | false=>rw [if_neg Bool.false_ne_true] at e ⊢; exact ⟨d,e,q⟩
theorem aDK (ha:cP X a fa):cP X (.UnaryOp .USub a pos) (A7 fa):=cE (aGu ha) fun ρ Q aIj=>by
 obtain ⟨d,e,q⟩:=aIj
 obtain ⟨x,ex,e⟩:=bnd e
 refine ⟨x,ex,?_⟩
 cases x<;>first | cases e; done | skip
 cases e
 exact q
theorem sV {e:Expr} {f:EF} (h:cP X e f) (he:∀ whole,isTrue e X.env whole=(do let v <- whole; standAt e.pos; holding [v] (truthy v)):=by intro _; rfl):AL X e (tV f) :=
 QL (P1 h he) fun σ H Q aIk=>by
  obtain ⟨S,ρ,Q3,fc,sl,⟨b,hb,q3⟩,k⟩:=aIk
  obtain ⟨d0,ed,et⟩:=bnd hb
  refine ⟨S,ρ,fun d=>d=d0,fc,sl,⟨d0,ed,rfl⟩,fun v H1 d s1 d1 q1=>?_⟩
  subst q1
  cases d with
  | bl c=>cases et; simp only [Dn] at d1; subst d1; exact ⟨_,rfl,k _ H1 s1 q3⟩
  | lst ds =>
   cases et
   simp only [Dn] at d1
   obtain ⟨a,xs,rfl,ha,sa,da⟩:=d1
   exact ⟨_,.inl ⟨xs,eV.of ha,by rw [<- da.empty]⟩,k _ H1 s1 q3⟩
  | tup ds =>
   cases et
   simp only [Dn] at d1
   obtain ⟨a,xs,rfl,ha,da⟩:=d1
   exact ⟨_,.inr (.inl ⟨xs,(gC.of ha),by rw [<- da.empty]⟩),k _ H1 s1 q3⟩
  | _=>cases et
end
end
section
variable {X:Cx}
theorem aL:xD X [] aC:=cA aGX fun _ _ aIl=>by obtain ⟨_,e,q⟩:=aIl; cases e; exact q
theorem aF {e:Expr} {es:List Expr} {fe:EF} {t:AF} (ha:cP X e fe) (hr:xD X es t) (hs:starEach (e::es) X.env=(false,eval e X.env)::starEach es X.env:=by rfl):xD X (e::es) (aA fe t):=cA (aCU ha hr hs) fun ρ Q aIm=>by
 obtain ⟨ds,e,q⟩:=aIm
 obtain ⟨d,ed,e⟩:=bnd e
 obtain ⟨r,er,e⟩:=bnd e
 cases e
 exact ⟨d,ed,r,er,q⟩
theorem yT {es:List Expr} {t:AF} {x1} {pos:Pos} (h:xD X es t):cP X (.Tuple es x1 pos) (fJ t):=cE (aG1 h) fun ρ Q aIn=>by
 obtain ⟨d,e,q⟩:=aIn
 obtain ⟨ds,ed,e⟩:=bnd e
 exact ⟨ds,ed,szl (x:=D.tup ds) e q⟩
theorem uI {es:List Expr} {t:AF} {pos:Pos} (h:xD X es t):n6 X (.List es pos) (eZ t):=cF (aG3 h) fun ρ Q aIo=>by
 obtain ⟨d,e,q⟩:=aIo
 obtain ⟨ds,ed,e⟩:=bnd e
 exact ⟨ds,ed,szl (x:=D.lst ds) e q⟩
theorem RM:Tells ixF cQ:=fun x y d Q e q=>by
 cases x<;>first | (cases e; done) | skip
 all_goals (cases y<;>first | (cases e; done) | skip)
 ·have e:uF _ _=some d:=e
  show (match uF _ _ with | some d=>Q d | none=>False)
  rw [e]; exact q
 ·have e:uF _ _=some d:=e
  show (match uF _ _ with | some d=>Q d | none=>False)
  rw [e]; exact q
 ·obtain ⟨n,e1,rfl⟩:=uT e
  have e1:uF _ _=some n:=e1
  show (match uF _ _ with | some n=>Q (.int n) | none=>False)
  rw [e1]; exact q
theorem lZ {a b:Expr} {pos:Pos} {fa fb:EF} (ha:cP X a fa) (hb:cP X b fb) (hs:B5 b:=by intro _ _; rfl):cP X (.Subscript a b pos) (aE cQ fa fb):=cE (ix3 ha hb hs) (jQ RM)
theorem MH:Tells aA3 u3:=fun x y d Q e q=>by
 cases x<;>first | cases e; done | skip
 rename_i ks ds
 obtain ⟨k,ek,e⟩:=bnd e
 have ek:EB y=some k:=by cases y<;>first | exact ek | cases ek
 have e:j3 ks ds k=some d:=e
 show (match D.jX ks ds,EB y with
  | .jX ks ds,some k=>(match j3 ks ds k with | some d=>Q d | none=>False)
  | _,_=>False)
 rw [ek]
 dsimp only
 rw [e]; exact q
theorem aDL {o i:Expr} {pos:Pos} {fo fi:EF} (hu:X.A.units+1<cLine) (ho:cP X o fo) (hi:cP X i fi) (hs:GS i:=by intro _ _; rfl):cP X (.Subscript o i pos) (aE u3 fo fi):=cE (aHx hu ho hi hs) (jQ MH)
def pJ (f:F1) (g:List D->Option D):Prop:=∀ (ds:List D) (d:D) (Q:D->Prop),g ds=some d->Q d->f ds Q
theorem HB {f:F1} {g:List D->Option D} (h:pJ f g) {t:AF} (ρ:bN) (Q:D->Prop) (w:wE (bU g t) ρ Q):LU f (wA t) ρ Q:=by
 obtain ⟨d,e,q⟩:=w
 obtain ⟨ds,ed,e⟩:=bnd e
 exact ⟨ds,ed,h ds d Q e q⟩
theorem MI:pJ GZ bV:=fun ds d Q e q=>by
 cases ds with
 | nil=>cases e
 | cons a ds =>
  cases a<;>first | (cases e; done) | skip
  all_goals (cases ds<;>first | (cases e; exact q) | (cases e; done))
theorem EI:pJ G0 bW:=fun ds d Q e q=>by
 cases ds with
 | nil=>cases e
 | cons a ds =>
  cases a<;>first | (cases e; done) | skip
  all_goals (cases ds<;>first | (cases e; exact q) | (cases e; done))
theorem HC:pJ QW pZ:=fun ds d Q e q=>by
 cases ds with
 | nil=>cases e
 | cons a ds =>
  cases a<;>first | (cases e; done) | skip
  all_goals (cases ds<;>first | (cases e; exact q) | (cases e; done))
theorem iY {p pos:Pos} {e:Expr} {t:AF} (hm:X.mg "len" = none) (ha:xD X [e] t) (hg:Gl X "len" := by rfl) (he:starEach [e] X.env=(false,eval e X.env)::starEach [] X.env:=by rfl):cP X (.Call (.Name "len" p) [e] [] pos) (bU bV t):=cE (aGx hm ha hg he) (HB MI)
theorem kE {p pos:Pos} {e:Expr} {t:AF} (hm:X.mg "tuple" = none) (ha:xD X [e] t) (hg:Gl X "tuple" := by rfl) (he:starEach [e] X.env=(false,eval e X.env)::starEach [] X.env:=by rfl):cP X (.Call (.Name "tuple" p) [e] [] pos) (bU bW t):=cE (aAI hm PyProof.Rows.boot_tuple ha hg he) (HB EI)
theorem X6 {p pos:Pos} {e:Expr} {t:AF} (hm:X.mg "list" = none) (ha:xD X [e] t) (hg:Gl X "list" := by rfl) (he:starEach [e] X.env=(false,eval e X.env)::starEach [] X.env:=by rfl):n6 X (.Call (.Name "list" p) [e] [] pos) (bU pZ t):=cF (aC4 hm PyProof.Rows.boot_list ha hg he) (HB HC)
theorem AM:∀ ds:List D,L3.intsOf ds=L4.intsOf ds
 | []=>rfl
 | d::ds=>by
  cases d<;>first | rfl | skip
  show (L3.intsOf ds).map _=(L4.intsOf ds).map _
  rw [AM ds]
theorem pK (a:Int):∀ l:List Int,(insI a l).Perm (a::l)
 | []=>.refl _
 | b::l=>by
  unfold insI
  split
  ·exact .refl _
  ·exact ((pK a l).cons b).trans (.swap a b l)
theorem j4:∀ l:List Int,(sortI l).Perm l
 | []=>.refl _
 | a::l=>(pK a (sortI l)).trans ((j4 l).cons a)
theorem qY (a:Int):∀ l:List Int,l.Pairwise (· <= ·)->(insI a l).Pairwise (· <= ·)
 | [],_=>by simp [insI]
 | b::l,h=>by
  unfold insI
  split
  ·rename_i hab
   refine List.pairwise_cons.mpr ⟨fun c hc=>?_,h⟩
   rcases List.mem_cons.mp hc with e | e
   ·subst e; exact hab
   ·exact Int.le_trans hab ((List.pairwise_cons.mp h).1 c e)
  ·rename_i hab
   refine List.pairwise_cons.mpr ⟨fun c hc=>?_,qY a l (List.pairwise_cons.mp h).2⟩
   rcases List.mem_cons.mp ((pK a l).mem_iff.mp hc) with e | e
   ·subst e; omega
   ·exact (List.pairwise_cons.mp h).1 c e
theorem iB:∀ l:List Int,(sortI l).Pairwise (· <= ·)
 | []=>List.Pairwise.nil
 | a::l=>qY a _ (iB l)
theorem lQ:∀ {l m:List Int},l.Perm m->l.Pairwise (· <= ·)->m.Pairwise (· <= ·)->l=m
 | [],m,p,_,_=>by rw [p.nil_eq]
 | a::l,[],p,_,_=>by have:=p.length_eq; simp at this
 | a::l,b::m,p,h1,h2=>by
  have e:a=b:=by
   have m1:=p.mem_iff.mp (List.mem_cons_self (a:=a) (l:=l))
   have m2:=p.mem_iff.mpr (List.mem_cons_self (a:=b) (l:=m))
   rcases List.mem_cons.mp m1 with e | e
   ·exact e
   ·rcases List.mem_cons.mp m2 with e2 | e2
    ·exact e2.symm
    ·have:=(List.pairwise_cons.mp h2).1 a e
     have:=(List.pairwise_cons.mp h1).1 b e2
     omega
  subst e
  rw [lQ p.cons_inv (List.pairwise_cons.mp h1).2 (List.pairwise_cons.mp h2).2]
theorem CN:pJ Q7 fL:=fun ds d Q e q=>by
 unfold fL at e
 split at e
 ·rename_i a
  obtain ⟨ns,e1,e⟩:=bnd e
  by_cases hl:ns.length<64
  ·rw [if_pos hl] at e
   cases e
   show (match L3.intsOf a with | some ns=>ns.length<64 /\ ∀ ns':List Int,ns'.Perm ns->ns'.Pairwise (· <= ·)->Q (.lst (ns'.map D.int)) | none=>False)
   rw [AM,e1]
   refine ⟨hl,fun ns' p s=>?_⟩
   rw [lQ (p.trans (j4 ns).symm) s (iB ns)]
   exact q
  ·rw [if_neg hl] at e; cases e
 ·cases e
theorem JR {p pos:Pos} {e:Expr} {t:AF} (hm:X.mg "sorted" = none) (ha:xD X [e] t) (hg:Gl X "sorted" := by rfl) (he:starEach [e] X.env=(false,eval e X.env)::starEach [] X.env:=by rfl):n6 X (.Call (.Name "sorted" p) [e] [] pos) (bU fL t):=cF (VY hm ha hg he) (HB CN)
theorem MJ:pJ sumF A8:=fun ds d Q e q=>by
 unfold A8 at e
 split at e
 ·rename_i a
  obtain ⟨ns,e1,rfl⟩:=uT e
  have:=ints_of e1
  subst this
  rw [MD]; exact q
 ·cases e
theorem aIp {p pos:Pos} {e:Expr} {t:AF} (hc:X.calm=true) (hm:X.mg "sum" = none) (ha:xD X [e] t) (hg:Gl X "sum" := by rfl) (he:starEach [e] X.env=(false,eval e X.env)::starEach [] X.env:=by rfl):cP X (.Call (.Name "sum" p) [e] [] pos) (bU A8 t):=cE (aIM hc hm ha hg he) (HB MJ)
theorem aAe (T:String) (d:D):FK T d=isT T d:=by cases d<;>rfl
theorem EJ {T:String} {x:Str} {e:Expr} {f:EF} {p p2 pos:Pos} (hT:G4 T) (hm:X.mg "isinstance" = none) (hmT:X.mg x=none) (hv:bootBuiltins x=some (.type T)) (he:cP X e f) (hg:Gl X "isinstance" := by rfl) (hgT:Gl X x:=by rfl) (hn:x ≠ "__name__" := by decide) (hdb:(x == ("__debug__" : Str))=false:=by decide)
  (hs:starEach [e,.Name x p2] X.env=(false,eval e X.env)::starEach [.Name x p2] X.env:=by rfl) (hs2:starEach [.Name x p2] X.env=(false,eval (.Name x p2) X.env)::starEach [] X.env:=by rfl) (hpl:(backTo pos (starEach [.Name x p2] X.env)).any (·.1)=false:=by rfl) :
  cP X (.Call (.Name "isinstance" p) [e,.Name x p2] [] pos) (jJ T f):=cE (aHs hT hm hmT hv he hg hgT hn hdb hs hs2 hpl) fun ρ Q aIq=>by
 obtain ⟨d,e,q⟩:=aIq
 obtain ⟨x,ex,e⟩:=bnd e
 by_cases hx:FL x=true
 ·rw [if_pos hx] at e
  cases e
  exact ⟨x,ex,(by cases x<;>first | trivial | cases hx),by show Q (.bl (isT T x)); rw [<- aAe]; exact q⟩
 ·rw [if_neg hx] at e; cases e
def eR (K:PySem.W.Frag) (R:fG):Sp:=sp3 K fun ds Q=>∃ d,R ds=.ok d/\Q d
theorem cH {k:Nat} {f:Addr} {fd:FuncData} {ps:List Str} {R:fG} {x:Str} {p pos:Pos} {e:Expr} {es:List Expr} {t:AF} (F:aN X.prog X.w X.K X.mg X.base dS k f fd ps (eR X.K R)) (hr:iO k X.A) (hm:X.mg x=some (.ref f)) (hk:PySem.W.keepIn X.K (.ref f)=true) (hb:Binds X.K fd ps [])
  (ha:xD X (e::es) t) (hg:Gl X x:=by rfl) (hdb:(x == ("__debug__" : Str))=false:=by decide) (he:starEach (e::es) X.env=(false,eval e X.env)::starEach es X.env:=by rfl) (hpl:(backTo pos (starEach es X.env)).any (·.1)=false:=by rfl) :
  cP X (.Call (.Name x p) (e::es) [] pos) (aG R t):=cE (aC5 F hr hm hk hb ha hg hdb he hpl) fun ρ Q aIr=>by
 obtain ⟨d,e,q⟩:=aIr
 obtain ⟨ds,ed,e⟩:=bnd e
 refine ⟨ds,ed,d,?_,q⟩
 cases h:R ds with
 | ok d'=>rw [h] at e; cases e; rfl
 | no=>rw [h] at e; cases e
 | ex c=>rw [h] at e; cases e
theorem HD {a:Expr} {t:AF} {p pos p2 pos2:Pos} (hc:X.calm=true) (hm:X.mg "list" = none) (hmr:X.mg "range" = none) (ha:xD X [a] t) (hg:Gl X "list" := by rfl) (hgr:Gl X "range" := by rfl) (hs:starEach [a] X.env=[(false,eval a X.env)]:=by rfl)
  (he:starEach [.Call (.Name "range" p2) [a] [] pos2] X.env=(false,eval (.Call (.Name "range" p2) [a] [] pos2) X.env)::starEach [] X.env:=by rfl) :
  n6 X (.Call (.Name "list" p) [.Call (.Name "range" p2) [a] [] pos2] [] pos) (FN t):=cF (G5 hc hm hmr ha hg hgr hs he) fun ρ Q aIs=>by
 obtain ⟨d,e,q⟩:=aIs
 obtain ⟨ds,ed,e⟩:=bnd e
 refine ⟨ds,ed,?_⟩
 split at e
 ·rename_i j
  by_cases h:j.natAbs<=16777216
  ·rw [if_pos h] at e; cases e; exact ⟨⟨by omega,by omega⟩,q⟩
  ·rw [if_neg h] at e; cases e
 ·cases e
section
variable {tg:Expr}
theorem xG {l:Expr} {f:EF} (h:cP X l f):X2 X tg l (cR f):=cI (aCc h) fun ρ Q aIt=>by
 obtain ⟨ds,e,q⟩:=aIt
 obtain ⟨d,ed,e⟩:=bnd e
 refine ⟨d,ed,?_⟩
 cases d<;>first | cases e; done | skip
 all_goals (cases e; exact q)
theorem RN {fa:EF} {ρ:bN} {as:List D} (h:aA fa aC ρ=some as):∃ a,fa ρ=some a/\as=[a]:=by
 obtain ⟨a,ea,e⟩:=bnd h
 cases e
 exact ⟨a,ea,rfl⟩
theorem aAf {fa fb:EF} {ρ:bN} {as:List D} (h:aA fa (aA fb aC) ρ=some as):∃ a b,fa ρ=some a/\fb ρ=some b/\as=[a,b]:=by
 obtain ⟨a,ea,e⟩:=bnd h
 obtain ⟨r,er,e⟩:=bnd e
 obtain ⟨b,eb,rfl⟩:=RN er
 cases e
 exact ⟨a,b,ea,eb,rfl⟩
theorem fF {a:Expr} {fa:EF} {p pos:Pos} (hm:X.mg "range" = none) (ha:cP X a fa) (hg:Gl X "range" := by rfl) (hs:starEach [a] X.env=[(false,eval a X.env)]:=by rfl):X2 X tg (.Call (.Name "range" p) [a] [] pos) (aP (aA fa aC)):=cI (aAW hm (aF ha aL hs) hg hs) fun ρ Q aIu=>by
 obtain ⟨ds,e,q⟩:=aIu
 obtain ⟨as,ea,e⟩:=bnd e
 refine ⟨as,ea,?_⟩
 obtain ⟨a,ha',rfl⟩:=RN ea
 clear ea ha'
 cases a<;>first | cases e; done | skip
 rename_i j
 by_cases h:j.natAbs<4611686018427387904
 ·have e:(if j.natAbs<4611686018427387904 then some ((bG 0 j.toNat).map D.int) else none)=some ds:=e
  rw [if_pos h] at e; cases e; exact ⟨⟨by omega,by omega⟩,q⟩
 ·have e:(if j.natAbs<4611686018427387904 then some ((bG 0 j.toNat).map D.int) else none)=some ds:=e
  rw [if_neg h] at e; cases e
theorem JS {a b:Expr} {fa fb:EF} {p pos:Pos} (hm:X.mg "range" = none) (ha:cP X a fa) (hb:cP X b fb) (hg:Gl X "range" := by rfl) (hs:starEach [a,b] X.env=[(false,eval a X.env),(false,eval b X.env)]:=by rfl) (hs2:starEach [b] X.env=[(false,eval b X.env)]:=by rfl) :
  X2 X tg (.Call (.Name "range" p) [a,b] [] pos) (aP (aA fa (aA fb aC))):=cI (VR hm (aF ha (aF hb aL hs2) (by rw [hs,hs2])) hg hs hs2) fun ρ Q aIv=>by
 obtain ⟨ds,e,q⟩:=aIv
 obtain ⟨as,ea,e⟩:=bnd e
 refine ⟨as,ea,?_⟩
 obtain ⟨a,b,ha',hb',rfl⟩:=aAf ea
 clear ea ha' hb'
 cases a<;>first | (cases e; done) | skip
 all_goals (cases b<;>first | (cases e; done) | skip)
 rename_i i j
 by_cases h:i.natAbs<4611686018427387904/\j.natAbs<4611686018427387904
 ·have e:(if i.natAbs<4611686018427387904/\j.natAbs<4611686018427387904 then some ((bG i (j - i).toNat).map D.int) else none)=some ds:=e
  rw [if_pos h] at e; cases e; exact ⟨⟨by omega,by omega,by omega,by omega⟩,q⟩
 ·have e:(if i.natAbs<4611686018427387904/\j.natAbs<4611686018427387904 then some ((bG i (j - i).toNat).map D.int) else none)=some ds:=e
  rw [if_neg h] at e; cases e
end
theorem xH {a:Expr} {t:AF} {es:List Expr} {kk:Nat} {tp p pos:Pos} (hm:X.mg "enumerate" = none) (ha:xD X [a] t) (hg:Gl X "enumerate" := by rfl) (hs:starEach [a] X.env=[(false,eval a X.env)]:=by rfl):X2 X (.Tuple es kk tp) (.Call (.Name "enumerate" p) [a] [] pos) (mE t):=cI (G9 hm ha hg hs) fun ρ Q aIw=>by
 obtain ⟨ds,e,q⟩:=aIw
 obtain ⟨as,ea,e⟩:=bnd e
 refine ⟨as,ea,?_⟩
 unfold IB at e
 split at e<;>first | (cases e; exact q) | cases e
theorem xI {g:FP} {t:TF} {e:EF} {ρ:bN}:∀ (ds acc ys:List D) (Q:D->Prop),jK g t e ρ ds=some ys->acc.length+ds.length<=sizeLine->Q (.lst (acc++ys))->qW (wGE g) (wT t) (wE e) ρ ds acc Q
 | [],acc,ys,Q,h,_,q=>by
  cases h
  rw [qW]
  simpa using q
 | d::ds,acc,ys,Q,h,hl,q=>by
  rw [qW]
  obtain ⟨ρ1,e1,h⟩:=bnd h
  obtain ⟨b,e2,h⟩:=bnd h
  simp only [List.length_cons] at hl
  refine ⟨ρ1,e1,b,e2,?_⟩
  cases b with
  | true =>
   rw [if_pos rfl] at h ⊢
   obtain ⟨y,e3,h⟩:=bnd h
   obtain ⟨zs,e4,rfl⟩:=uT h
   exact ⟨y,e3,by omega,xI ds (acc++[y]) zs Q e4 (by simp; omega) (by simpa using q)⟩
  | false =>
   rw [if_neg Bool.false_ne_true] at h ⊢
   exact xI ds acc ys Q h (by omega) q
theorem RO {nl:Nat} {fr:List Nat} {it:AF} {g:FP} {t:TF} {e:EF} (ρ:bN) (Q:D->Prop) (w:wE (bZ nl fr it g t e) ρ Q):JQ nl fr (wI it) (wGE g) (wT t) (wE e) ρ Q:=by
 obtain ⟨d,h,q⟩:=w
 obtain ⟨ds,e1,h⟩:=bnd h
 refine ⟨ds,e1,?_⟩
 by_cases hl:ds.length<=pX
 ·rw [if_pos hl] at h
  obtain ⟨ys,e2,rfl⟩:=uT h
  exact xI ds [] ys Q e2 (by rw [sizeLine_eq,List.length_nil,Nat.zero_add]; exact hl) (by simpa using q)
 ·rw [if_neg hl] at h; cases h
abbrev V8 (X:Cx) (nl:Nat) (tg:Expr) (g:FP):Prop:=PG4 X nl tg (wGE g)
abbrev V9 (X:Cx) (ifs:List Expr) (t:TF):Prop:=Q5 X ifs (wT t)
theorem cG {nl:Nat} {tg:Expr} {g g':GE} (h:PG4 X nl tg g) (c:∀ d ρ Q,g' d ρ Q->g d ρ Q):PG4 X nl tg g':=LW h fun _ _ _ _ aIx=>by obtain ⟨S,ρ,d,Q3,hl,fc,sl,dn,hg,k⟩:=aIx; exact ⟨S,ρ,d,Q3,hl,fc,sl,dn,c d ρ Q3 hg,k⟩
theorem lR {nl i:Nat} {x:Str} {pos:Pos} (nd:X.N.Nodup) (hil:i<nl) (hi:X.N[i]? = some x:=by rfl) (hx:Loc X.env.scope x:=by first | exact .inl rfl | exact .inr rfl) (hfx:X.fn x=true\/X.env.scope.names.lookup x=some .local:=by first | exact .inr rfl | exact .inl rfl):V8 X nl (.Name x pos) (g1 i):=cG (aCj nd hil hi hx hfx) fun d ρ Q aIy=>by obtain ⟨ρ',e,q⟩:=aIy; cases e; exact q
theorem JT {d:D} {p:D×D} (h:y6 d=some p):d=.tup [p.1,p.2]:=by
 cases d<;>first | (cases h; done) | skip
 rename_i l
 cases l with
 | nil=>cases h
 | cons a l =>
  cases l with
  | nil=>cases h
  | cons b l =>
   cases l with
   | nil=>cases h; rfl
   | cons c l=>cases h
theorem RP {nl i j:Nat} {x y:Str} {kk:Nat} {pos px py:Pos} (hc:X.calm=true) (nd:X.N.Nodup) (hil:i<nl) (hjl:j<nl) (hi:X.N[i]? = some x:=by rfl) (hj:X.N[j]? = some y:=by rfl) (hx:Loc X.env.scope x:=by first | exact .inl rfl | exact .inr rfl) (hfx:X.fn x=true\/X.env.scope.names.lookup x=some .local:=by first | exact .inr rfl | exact .inl rfl) (hy:Loc X.env.scope y:=by first | exact .inl rfl | exact .inr rfl) (hfy:X.fn y=true\/X.env.scope.names.lookup y=some .local:=by first | exact .inr rfl | exact .inl rfl)
  (hn:(assignEach [.Name x px,.Name y py] X.env).length=2:=by rfl) (hst:(assignEach [.Name x px,.Name y py] X.env).findIdx? (·.1)=none:=by rfl)
  (hs1:(assignEach [.Name x px,.Name y py] X.env).map (·.2)=assign (.Name x px) X.env::(assignEach [.Name y py] X.env).map (·.2):=by rfl) (hs2:(assignEach [.Name y py] X.env).map (·.2)=assign (.Name y py) X.env::(assignEach [] X.env).map (·.2):=by rfl) :
  V8 X nl (.Tuple [.Name x px,.Name y py] kk pos) (g2 i j):=cG (aCk hc nd hil hjl hi hj hx hfx hy hfy hn hst hs1 hs2) fun d ρ Q aIz=>by
 obtain ⟨ρ',e,q⟩:=aIz
 obtain ⟨p,ep,rfl⟩:=uT e
 rw [JT ep]
 exact q
theorem AN:V9 X [] dC:=fun pins s σ H Q I aJA=>by obtain ⟨S,ρ,Q3,fc,sl,⟨_,e,q⟩,k⟩:=aJA; cases e; exact aHm pins s σ H Q I ⟨S,ρ,Q3,fc,sl,q,k⟩
theorem xJ {c:Expr} {t:TF} (h:AL X c t):V9 X [c] t:=aCm h
section
variable {ls fs:List Str} {fr:List Nat} {sc:Scope} {tg iter elt:Expr} {ifs:List Expr} {pos:Pos} {it:AF} {g:FP} {t:TF} {e:EF}
theorem qZ (hc:X.calm=true) (hi:X2 X tg iter it)
  (hg:∀ cl C pn ex s H,(blk X (ls++fs) sc cl C pn ex s H).N.Nodup->V8 (blk X (ls++fs) sc cl C pn ex s H) ls.length tg g) (hf:∀ cl C pn ex s H,V9 (blk X (ls++fs) sc cl C pn ex s H) ifs t) (he:∀ cl C pn ex s H,cP (blk X (ls++fs) sc cl C pn ex s H) elt e)
  (B:chk X.env.scope.names sc X.N ls fs fr=true:=by rfl) (hs:∀ x,foldedSetIterable iter X.env x=pure x:=by intro _; rfl):n6 X (.ListComp elt [⟨tg,iter,ifs,0⟩] sc pos) (bZ ls.length fr it g t e):=cF (aCn hc hi hg hf he B hs) RO
variable {i:Nat} {x:Str} {spos pos':Pos}
theorem AO (nd:X.N.Nodup) (hc:X.calm=true) (hi:X2 X tg iter it)
  (hg:∀ cl C pn ex s H,(blk X (ls++fs) sc cl C pn ex s H).N.Nodup->V8 (blk X (ls++fs) sc cl C pn ex s H) ls.length tg g) (hf:∀ cl C pn ex s H,V9 (blk X (ls++fs) sc cl C pn ex s H) ifs t) (he:∀ cl C pn ex s H,cP (blk X (ls++fs) sc cl C pn ex s H) elt e)
  (hx0:X.N[i]? = some x:=by rfl) (hx:X.env.scope.names.lookup x=some .local:=by rfl) (hsw:swapsWith (.ListComp elt [⟨tg,iter,ifs,0⟩] sc pos) (some (.Name x pos')) spos.line X.env=pure true:=by rfl)
  (B:chk X.env.scope.names sc X.N ls fs fr=true:=by rfl) (hs:∀ x,foldedSetIterable iter X.env x=pure x:=by intro _; rfl):rO X (.Assign [.Name x pos'] (.ListComp elt [⟨tg,iter,ifs,0⟩] sc pos) spos) (aO i (bZ ls.length fr it g t e)) :=
 cS (LY nd hc hi hg hf he hx0 hx hsw B hs) fun E ρ w=>by
  unfold wS aO at w
  unfold aAL
  cases h:bZ ls.length fr it g t e (iT ρ) with
  | none=>rw [h] at w; exact w.elim
  | some d=>rw [h] at w; exact RO _ _ ⟨d,h,w⟩
end
end
section
variable {X:Cx}
theorem cO {e:Option Expr} {t t':WO} (h:PO3 X e t) (c:∀ ρ Q,t' ρ Q->t ρ Q):PO3 X e t':=fun pins s σ H Q I aJB=>by obtain ⟨S,ρ,Q3,fc,sl,ht,k⟩:=aJB; exact h pins s σ H Q I ⟨S,ρ,Q3,fc,sl,c ρ Q3 ht,k⟩
theorem no4:PO4 X none oNo:=cO aIN fun _ _ aJC=>by obtain ⟨_,e,q⟩:=aJC; cases e; exact q
theorem po4 {e:Expr} {f:EF} (h:cP X e f):PO4 X (some e) (oE f):=cO (po3 h) fun ρ Q aJD=>by
 obtain ⟨o,e,q⟩:=aJD
 obtain ⟨d,ed,e⟩:=bnd e
 obtain ⟨i,ei,rfl⟩:=uT e
 refine ⟨d,ed,?_⟩
 cases d<;>first | cases ei; done | skip
 cases ei; exact q
theorem sl4 {e:Expr} {lo hi:Option Expr} {p2 pos:Pos} {f:EF} {fl fh:OF} (he:cP X e f) (hl:PO4 X lo fl) (hh:PO4 X hi fh):cP X (.Subscript e (.Slice lo hi none p2) pos) (eSl f fl fh):=cE (sl3 he hl hh) fun ρ Q aDM=>by
 obtain ⟨r,e,q⟩:=aDM
 obtain ⟨d,ed,e⟩:=bnd e
 obtain ⟨l,el,e⟩:=bnd e
 obtain ⟨h,eh,e⟩:=bnd e
 refine ⟨d,ed,l,el,h,eh,?_⟩
 cases d<;>first | cases e; done | skip
 all_goals (cases e; exact q)
theorem px4 {e:Expr} {f:EF} (h:cP X e f):ME X e (IC f):=cX (px3 h) fun ρ Q aDN=>by
 obtain ⟨p,e,q⟩:=aDN
 obtain ⟨d,ed,e⟩:=bnd e
 refine ⟨d,ed,?_⟩
 by_cases hi:d.FI=true
 ·rw [if_pos hi] at e; cases e; exact ⟨hi,q⟩
 ·rw [if_neg hi] at e; cases e
theorem yU {e:Expr} {f:EF} (h:cP X e f):ME X e (aV f):=cX (aHQ h) fun ρ Q aDO=>by
 obtain ⟨p,e,q⟩:=aDO
 obtain ⟨d,ed,e⟩:=bnd e
 cases e
 exact ⟨d,ed,q⟩
theorem HE {o:Option Sv} {ds:List D} (h:lF o=some ds):o=some (.ow (.lst ds)):=by
 unfold lF at h
 split at h
 ·cases h; rfl
 ·cases h
def CO (f:List D->D->(List D->D->Prop)->Prop) (m:List D->D->Option (List D×D)):Prop:=∀ ds d q (Q:List D->D->Prop),m ds d=some q->Q q.1 q.2->f ds d Q
theorem aAg {i:Nat} {f:List D->D->(List D->D->Prop)->Prop} {m:List D->D->Option (List D×D)} (h:CO f m) {x:XF} (ρ:aR) (Q:aR->D->Prop) (w:wX (mB i m x) ρ Q):wM1 i f (wX x) ρ Q:=by
 obtain ⟨r,e,q⟩:=w
 obtain ⟨ds0,e0,e⟩:=bnd e
 obtain ⟨p,ep,e⟩:=bnd e
 obtain ⟨ds,e1,e⟩:=bnd e
 obtain ⟨z,ez,rfl⟩:=uT e
 have o0:=HE e0
 have o1:=HE e1
 refine ⟨by rw [o0]; trivial,p,ep,?_⟩
 show (match p.1[i]? with | some (.ow (.lst ds))=>f ds p.2 fun ds' r=>Q (p.1.set i (.ow (.lst ds'))) r | _=>False)
 rw [o1]
 exact h ds p.2 z _ ez q
theorem MK:CO aAN gQ:=fun ds d q Q e k=>by
 unfold gQ at e
 by_cases h:ds.length<pX
 ·rw [if_pos h] at e; cases e; exact ⟨by rw [sizeLine_eq]; exact h,k⟩
 ·rw [if_neg h] at e; cases e
theorem ML:CO aAP TC:=fun ds d q Q e k=>by
 cases d<;>first | cases e; done | skip
 rename_i i
 have e:(if i.natAbs<9223372036854775808 then (NV ds.length i).bind fun j=>(ds[j]?).map fun d=>(ds.eraseIdx j,d) else none)=some q:=e
 by_cases h:i.natAbs<9223372036854775808
 ·rw [if_pos h] at e
  obtain ⟨j,ej,e⟩:=bnd e
  obtain ⟨d,ed,rfl⟩:=uT e
  have ej:LI ds.length i=some j:=ej
  refine ⟨⟨by omega,by omega⟩,?_⟩
  show (match LI ds.length i with | some j=>(match ds[j]? with | some d=>Q (ds.eraseIdx j) d | none=>False) | none=>False)
  rw [ej]
  dsimp only
  rw [ed]
  exact k
 ·rw [if_neg h] at e; cases e
theorem MM:CO aA4 KI:=fun ds d q Q e k=>by
 cases d<;>first | cases e; done | skip
 rename_i es
 have e:(if ds.length+es.length<=pX then some (ds++es,D.non) else none)=some q:=e
 by_cases h:ds.length+es.length<=pX
 ·rw [if_pos h] at e; cases e; exact ⟨by rw [sizeLine_eq]; exact h,k⟩
 ·rw [if_neg h] at e; cases e
section
variable {i:Nat} {x:Str} {e:Expr} {p apos cpos:Pos} {f:XF}
theorem MN (he:ME X e f) (hN:X.N[i]? = some x:=by rfl) (hv:BX X.env.scope x:=by first | exact Or.inl rfl | exact Or.inr (Or.inl rfl) | exact Or.inr (Or.inr rfl)) (hd:(x == ("__debug__" : Str))=false:=by decide) (hcd:(x == ("__classdict__" : Str))=false:=by decide)
  (hbase:attributeBase (.Name x p) "append" X.env (eval (.Name x p) X.env)=eval (.Name x p) X.env:=by rfl)
  (hfew:((backTo cpos (starEach [e] X.env)).all (fun x=>!x.1)&&(backToKw cpos (keywordEach [] X.env)).all (fun x=>x.1.isSome)
   && decide ([e].length+([]:List Keyword).length+(if ([]:List Keyword).isEmpty then 0 else 1)<30))=true:=by rfl)
  (hline:(apos.endLine == cpos.line)=true:=by rfl) (hs:starEach [e] X.env=(false,eval e X.env)::starEach [] X.env:=by rfl) :
  ME X (.Call (.Attribute (.Name x p) "append" apos) [e] [] cpos) (mB i gQ f):=cX (aHT he hN hv hd hcd hbase hfew hline hs) (aAg MK)
theorem aJF (he:ME X e f) (hN:X.N[i]? = some x:=by rfl) (hv:BX X.env.scope x:=by first | exact Or.inl rfl | exact Or.inr (Or.inl rfl) | exact Or.inr (Or.inr rfl)) (hd:(x == ("__debug__" : Str))=false:=by decide) (hcd:(x == ("__classdict__" : Str))=false:=by decide)
  (hbase:attributeBase (.Name x p) "pop" X.env (eval (.Name x p) X.env)=eval (.Name x p) X.env:=by rfl)
  (hfew:((backTo cpos (starEach [e] X.env)).all (fun x=>!x.1)&&(backToKw cpos (keywordEach [] X.env)).all (fun x=>x.1.isSome)
   && decide ([e].length+([]:List Keyword).length+(if ([]:List Keyword).isEmpty then 0 else 1)<30))=true:=by rfl)
  (hline:(apos.endLine == cpos.line)=true:=by rfl) (hs:starEach [e] X.env=(false,eval e X.env)::starEach [] X.env:=by rfl) :
  ME X (.Call (.Attribute (.Name x p) "pop" apos) [e] [] cpos) (mB i TC f):=cX (aHU he hN hv hd hcd hbase hfew hline hs) (aAg ML)
theorem WB (he:ME X e f) (hN:X.N[i]? = some x:=by rfl) (hv:BX X.env.scope x:=by first | exact Or.inl rfl | exact Or.inr (Or.inl rfl) | exact Or.inr (Or.inr rfl)) (hd:(x == ("__debug__" : Str))=false:=by decide) (hcd:(x == ("__classdict__" : Str))=false:=by decide)
  (hbase:attributeBase (.Name x p) "extend" X.env (eval (.Name x p) X.env)=eval (.Name x p) X.env:=by rfl)
  (hfew:((backTo cpos (starEach [e] X.env)).all (fun x=>!x.1)&&(backToKw cpos (keywordEach [] X.env)).all (fun x=>x.1.isSome)
   && decide ([e].length+([]:List Keyword).length+(if ([]:List Keyword).isEmpty then 0 else 1)<30))=true:=by rfl)
  (hline:(apos.endLine == cpos.line)=true:=by rfl) (hs:starEach [e] X.env=(false,eval e X.env)::starEach [] X.env:=by rfl) :
  ME X (.Call (.Attribute (.Name x p) "extend" apos) [e] [] cpos) (mB i KI f):=cX (VZ he hN hv hd hcd hbase hfew hline hs) (aAg MM)
end
theorem iZ:CL X [] dA:=cSs aGz fun _ _ w=>w
theorem aDP {f g:SF} (E:DE) (ρ:aR) (w:wS (aJ f g) E ρ):aAK (wS f) (wS g) E ρ:=by
 unfold wS aJ at w
 unfold aAK wS
 cases h:f ρ with
 | nx ρ'=>rw [h] at w; exact w
 | rt d=>rw [h] at w; exact w
 | no=>rw [h] at w; exact w
 | ex c=>rw [h] at w; exact w
theorem bT {st:Stmt} {rest:List Stmt} {f g:SF} (h1:rO X st f) (h2:CL X rest g):CL X (st::rest) (aJ f g):=cSs (aHB h1 h2) aDP
theorem aW {st:Stmt} {f:SF} (h1:rO X st f):CL X [st] f:=aC7 h1
theorem eT {e:Expr} {f:EF} {pos:Pos} (h:cP X e f):rO X (.Return (some e) pos) (aS f):=cS (aHE h) fun E ρ w=>by
 unfold wS aS at w
 cases h:f (cC ρ) with
 | none=>rw [h] at w; exact w.elim
 | some d=>rw [h] at w; exact ⟨d,h,w⟩
theorem iP {c:Expr} {a b:List Stmt} {pos:Pos} {t:TF} {f g:SF} (hc:AL X c t) (ha:CL X a f) (hb:CL X b g):rO X (.If c a b pos) (fI t f g):=cS (aHH hc ha hb) fun E ρ w=>by
 unfold wS fI at w
 cases h:t (cC ρ) with
 | none=>rw [h] at w; exact w.elim
 | some c =>
  rw [h] at w
  refine ⟨c,h,?_⟩
  cases c with
  | true=>rw [if_pos rfl]; exact w
  | false=>rw [if_neg Bool.false_ne_true]; exact w
section
variable {i:Nat} {x:Str} {e:Expr} {f:EF} {pos pos':Pos}
theorem fQ (hN:X.N.Nodup) (he:cP X e f) (hi:X.N[i]? = some x:=by rfl) (hx:Loc X.env.scope x:=by first | exact .inl rfl | exact .inr rfl) (hs:swapsWith e (some (.Name x pos')) pos.line X.env=pure false:=by rfl) (hf:X.fn x=true\/X.env.scope.names.lookup x=some .local:=by first | exact .inl rfl | exact .inr rfl) :
  rO X (.Assign [.Name x pos'] e pos) (aO i f):=cS (aHK hN he hi hx hs hf) fun E ρ w=>by
 unfold wS aO at w
 cases h:f (iT ρ) with
 | none=>rw [h] at w; exact w.elim
 | some d=>rw [h] at w; exact ⟨d,h,w⟩
theorem EK (hN:X.N.Nodup) (he:n6 X e f) (hi:X.N[i]? = some x:=by rfl) (hx:Loc X.env.scope x:=by first | exact .inl rfl | exact .inr rfl) (hs:swapsWith e (some (.Name x pos')) pos.line X.env=pure false:=by rfl) (hf:X.fn x=true\/X.env.scope.names.lookup x=some .local:=by first | exact .inl rfl | exact .inr rfl) :
  rO X (.Assign [.Name x pos'] e pos) (iN i f):=cS (aHM hN he hi hx hs hf) fun E ρ w=>by
 unfold wS iN at w
 cases h:f (iT ρ) with
 | none=>rw [h] at w; exact w.elim
 | some d=>rw [h] at w; exact ⟨d,h,w⟩
theorem aDQ (hN:X.N.Nodup) (he:n6 X e f) (hi:X.N[i]? = some x:=by rfl) (hx:Loc X.env.scope x:=by first | exact .inl rfl | exact .inr rfl) (hs:swapsWith e (some (.Name x pos')) pos.line X.env=pure false:=by rfl) (hf:X.fn x=true\/X.env.scope.names.lookup x=some .local:=by first | exact .inl rfl | exact .inr rfl) :
  rO X (.Assign [.Name x pos'] e pos) (u6 i f):=cS (aCt hN he hi hx hs hf) fun E ρ w=>by
 unfold wS u6 at w
 cases h:f (cC ρ) with
 | none=>rw [h] at w; exact w.elim
 | some d =>
  rw [h] at w
  dsimp only at w
  by_cases hl:u5 d=true
  ·rw [if_pos hl] at w
   refine ⟨d,h,?_,w⟩
   cases d<;>first | exact hl | cases hl
  ·rw [if_neg hl] at w; exact w.elim
theorem RQ {p:Pos} (hN:X.N.Nodup) (hi:X.N[i]? = some x:=by rfl) (hx:Loc X.env.scope x:=by first | exact .inl rfl | exact .inr rfl) (hs:swapsWith (.Dict [] [] p) (some (.Name x pos')) pos.line X.env=pure false:=by rfl) (hf:X.fn x=true\/X.env.scope.names.lookup x=some .local:=by first | exact .inl rfl | exact .inr rfl) :
  rO X (.Assign [.Name x pos'] (.Dict [] [] p) pos) (C5 i):=cS (Q9 hN hi hx hs hf) fun E ρ w=>w
end
theorem xK {e:Expr} {f:XF} {pos:Pos} (he:ME X e f) (hs:swapsWith e none pos.line X.env=pure false:=by rfl):rO X (.Expr e pos) (sX f):=cS (aCa he hs) fun E ρ w=>by
 unfold wS sX at w
 cases h:f ρ with
 | none=>rw [h] at w; exact w.elim
 | some d=>rw [h] at w; exact ⟨d,h,w⟩
theorem aJG {i:Nat} {x:Str} {e k:Expr} {f:XF} {fk:EF} {pos pos' p:Pos} (he:ME X e f) (hk:cP X k fk)
  (hN:X.N[i]? = some x:=by rfl) (hv:BX X.env.scope x:=by first | exact Or.inl rfl | exact Or.inr (Or.inl rfl) | exact Or.inr (Or.inr rfl)) (hd:(x == ("__debug__" : Str))=false:=by decide) (hcd:(x == ("__classdict__" : Str))=false:=by decide)
  (ha:∀ v,assign (.Subscript (.Name x p) k pos') X.env v=(do
   let ov <- holding [v] (eval (.Name x p) X.env)
   let iv <- holding [v,ov] (eval k X.env)
   standAt pos'
   holding [v,ov,iv] (setItem ov iv v)
   release [v,ov,iv] []):=by intro _; rfl)
  (hs:swapsWithSole [.Subscript (.Name x p) k pos'] e pos.line X.env=pure false:=by rfl) (hw:swappedStores [.Subscript (.Name x p) k pos'] e X.env=pure none:=by rfl)
  (h1:(assignEach [.Subscript (.Name x p) k pos'] X.env).map (·.2)=[assign (.Subscript (.Name x p) k pos') X.env]:=by rfl) :
  rO X (.Assign [.Subscript (.Name x p) k pos'] e pos) (KJ i f fk):=cS (put3 he hk hN hv hd hcd ha hs hw h1) fun E ρ w=>by
 unfold wS KJ at w
 cases h:((f ρ).bind fun p=>(lF p.1[i]?).bind fun ds=>(fk (cC p.1)).bind fun kd=>(asInt kd).bind fun kk=>(NV ds.length kk).map fun j=>p.1.set i (.ow (.lst (ds.set j p.2)))) with
 | none=>rw [h] at w; exact w.elim
 | some ρ' =>
  rw [h] at w
  obtain ⟨q,eq,h⟩:=bnd h
  obtain ⟨ds,ed,h⟩:=bnd h
  obtain ⟨kd,ek,h⟩:=bnd h
  obtain ⟨kk,e2,h⟩:=bnd h
  obtain ⟨j,ej,rfl⟩:=uT h
  have o:=HE ed
  refine ⟨q,eq,by unfold aAR; rw [o]; trivial,kd,ek,?_⟩
  cases kd<;>first | cases e2; done | skip
  cases e2
  have ej:LI ds.length kk=some j:=ej
  show (match q.1[i]?,D.int kk with
   | some (.ow (.lst ds)),.int k=>(match LI ds.length k with | some j=>E.nx (q.1.set i (.ow (.lst (ds.set j q.2)))) | none=>False)
   | _,_=>False)
  rw [o]
  dsimp only
  rw [ej]
  exact w
theorem MO {o:Option Sv} {p:List (Sum Int Str)×List D} (h:u7 o=some p):o=some (.ow (.jX p.1 p.2)):=by
 unfold u7 at h
 split at h
 ·cases h; rfl
 ·cases h
theorem aDR {i:Nat} {x:Str} {e k:Expr} {f:XF} {fk:EF} {pos pos' p:Pos} (hu:X.A.units+1<cLine) (he:ME X e f) (hk:cP X k fk)
  (hN:X.N[i]? = some x:=by rfl) (hv:BX X.env.scope x:=by first | exact Or.inl rfl | exact Or.inr (Or.inl rfl) | exact Or.inr (Or.inr rfl)) (hd:(x == ("__debug__" : Str))=false:=by decide) (hcd:(x == ("__classdict__" : Str))=false:=by decide)
  (hs:swapsWith e (some (.Subscript (.Name x p) k pos')) pos.line X.env=pure false:=by rfl) :
  rO X (.Assign [.Subscript (.Name x p) k pos'] e pos) (IE i f fk):=cS (aCr hu he hk hN hv hd hcd hs) fun E ρ w=>by
 unfold wS IE at w
 cases h:((f ρ).bind fun p=>(u7 p.1[i]?).bind fun kd=>(fk (cC p.1)).bind fun kv=>(u0 kv).bind fun kk =>
  if (jZ kd.1 kd.2 kk).isNone=true/\kd.2.length<pX then some (p.1.set i (.ow (.jX (kd.1++[kk]) (kd.2++[p.2])))) else none) with
 | none=>rw [h] at w; exact w.elim
 | some ρ' =>
  rw [h] at w
  obtain ⟨q,eq,h⟩:=bnd h
  obtain ⟨kd,ed,h⟩:=bnd h
  obtain ⟨kv,ek,h⟩:=bnd h
  obtain ⟨kk,e2,h⟩:=bnd h
  have o:=MO ed
  by_cases hc:(jZ kd.1 kd.2 kk).isNone=true/\kd.2.length<pX
  ·rw [if_pos hc] at h
   cases h
   refine ⟨q,eq,by rw [o]; trivial,kv,ek,?_⟩
   have e3:EB kv=some kk:=by cases kv<;>first | exact e2 | cases e2
   show (match q.1[i]?,EB kv with
    | some (.ow (.jX ks ds)),some k=>(j3 ks ds k=none/\ds.length<sizeLine)/\E.nx (q.1.set i (.ow (.jX (ks++[k]) (ds++[q.2]))))
    | _,_=>False)
   rw [o,e3]
   refine ⟨⟨?_,by rw [sizeLine_eq]; exact hc.2⟩,w⟩
   have:=hc.1
   cases hl:jZ kd.1 kd.2 kk with
   | none=>exact hl
   | some d=>rw [hl] at this; cases this
  ·rw [if_neg hc] at h; cases h
theorem cGS {tg:Expr} {g g':WG} (h:VS X tg g) (c:∀ d ρ Q,g' d ρ Q->g d ρ Q):VS X tg g':=LW h fun _ _ _ _ aDS=>by obtain ⟨H₀,S,w,ρ,G,d,Q3,hl,st,dn,hg,k⟩:=aDS; exact ⟨H₀,S,w,ρ,G,d,Q3,hl,st,dn,c d ρ Q3 hg,k⟩
theorem kQ {i:Nat} {x:Str} {pos:Pos} (hN:X.N.Nodup) (hi:X.N[i]? = some x:=by rfl) (hx:Loc X.env.scope x:=by first | exact .inl rfl | exact .inr rfl) (hf:X.fn x=true\/X.env.scope.names.lookup x=some .local:=by first | exact .inl rfl | exact .inr rfl):VS X (.Name x pos) (wG (j9 i)) :=
 cGS (aCe hN hi hx hf) fun d ρ Q aDT=>by obtain ⟨ρ',e,q⟩:=aDT; cases e; exact q
theorem X7 {i j:Nat} {x y:Str} {k:Nat} {pos px py:Pos} (hc:X.calm=true) (hN:X.N.Nodup) (hi:X.N[i]? = some x:=by rfl) (hj:X.N[j]? = some y:=by rfl) (hx:Loc X.env.scope x:=by first | exact .inl rfl | exact .inr rfl) (hy:Loc X.env.scope y:=by first | exact .inl rfl | exact .inr rfl)
  (hf:X.fn x=true\/X.env.scope.names.lookup x=some .local:=by first | exact .inl rfl | exact .inr rfl) (hf2:X.fn y=true\/X.env.scope.names.lookup y=some .local:=by first | exact .inl rfl | exact .inr rfl)
  (hn:(assignEach [.Name x px,.Name y py] X.env).length=2:=by rfl) (hst:(assignEach [.Name x px,.Name y py] X.env).findIdx? (·.1)=none:=by rfl)
  (hs1:(assignEach [.Name x px,.Name y py] X.env).map (·.2)=assign (.Name x px) X.env::(assignEach [.Name y py] X.env).map (·.2):=by rfl) (hs2:(assignEach [.Name y py] X.env).map (·.2)=assign (.Name y py) X.env::(assignEach [] X.env).map (·.2):=by rfl) :
  VS X (.Tuple [.Name x px,.Name y py] k pos) (wG (KL i j)):=cGS (aCf hc hN hi hj hx hy hf hf2 hn hst hs1 hs2) fun d ρ Q aDU=>by
 obtain ⟨ρ',e,q⟩:=aDU
 obtain ⟨p,ep,rfl⟩:=uT e
 rw [JT ep]
 exact q
theorem rA {tg iter:Expr} {body:List Stmt} {it:AF} {g:IF} {b:SF} {pos:Pos} (hc:X.calm=true) (hp:PassesOwn (model X.prog X.w) X.A X.env X.xe) (hi:X2 X tg iter it) (hg:VS X tg (wG g)) (hb:CL X body b)
  (hs:∀ x,foldedSetIterable iter X.env x=pure x:=by intro _; rfl):rO X (.For tg iter body [] pos) (dP it g b):=cS (aH4 hc hp hi hg hb hs) fun E ρ w=>by
 unfold wS dP at w
 cases h:it (iT ρ) with
 | none=>rw [h] at w; exact w.elim
 | some ds =>
  rw [h] at w
  refine ⟨ds,h,fun i ρ'=>wS (fR g b (ds.drop i)) E ρ',(by show wS (fR g b (ds.drop 0)) E ρ; rw [List.drop_zero]; exact w),fun i d ρ' hd iv=>?_,fun ρ' iv=>?_⟩
  ·have hi:i<ds.length:=(List.getElem?_eq_some_iff.mp hd).1
   have e1:ds[i]=d:=(List.getElem?_eq_some_iff.mp hd).2
   have iv:wS (fR g b (ds.drop i)) E ρ':=iv
   rw [List.drop_eq_getElem_cons hi,e1] at iv
   unfold wS fR at iv
   cases hg:g d ρ' with
   | none=>rw [hg] at iv; exact iv.elim
   | some ρ1 =>
    rw [hg] at iv
    dsimp only at iv
    refine ⟨ρ1,hg,?_⟩
    unfold wS
    cases hb:b ρ1 with
    | nx ρ2=>rw [hb] at iv; dsimp only; rw [hb]; exact iv
    | rt d=>rw [hb] at iv; dsimp only; rw [hb]; exact iv
    | no=>rw [hb] at iv; dsimp only; rw [hb]; exact iv
    | ex c=>rw [hb] at iv; dsimp only; rw [hb]; exact iv
  ·have iv:wS (fR g b (ds.drop ds.length)) E ρ':=iv
   rw [List.drop_length] at iv
   exact iv
end
theorem i0 {P:Program} {w:World} {K:PySem.W.Frag} {mg:Str->Option Value} {base:Heap} {x qual:Str} {st:Stmt} {f:Addr} {fd:FuncData} {N ps:List Str} {k n np:Nat} {b:SF} (F:lY K x qual st f fd) (S:bD N ps (aH st)) (hn:N.length=n) (hp:ps.length=np)
  (hbody:∀ (cdv:Value) (A:Around) (outer:List Env) (s:Shared) (H:Hp) (E:XK),iO k (A.deeper (envOfC qual (aH st) s.heap.objs.size f cdv)) ->
   CL (qQ dS P w K mg base N qual (aH st) f cdv A outer s H E).UT (aX st) b):aN P w K mg base dS (k+1) f fd ps (eR K (bQ n np b)):=by
 subst hn hp
 refine aHO F S (fun ds Q ⟨d,e,q⟩=>?_) fun cdv A outer s H E hr=>⟨_,hbody cdv A outer s H E hr,fun ds Q ⟨d,e,q⟩=>?_⟩
 ·unfold bQ at e
  by_cases h:ds.length=ps.length
  ·exact h
  ·rw [if_neg h] at e; cases e
 ·unfold bQ at e
  by_cases h:ds.length=ps.length
  ·rw [if_pos h] at e
   have e2:kC N ds=dR N.length ds:=rfl
   unfold wS
   rw [e2]
   cases hb:b (dR N.length ds) with
   | rt d'=>rw [hb] at e; cases e; exact q
   | nx ρ=>rw [hb] at e; cases e; exact q
   | no=>rw [hb] at e; cases e
   | ex c=>rw [hb] at e; cases e
  ·rw [if_neg h] at e; cases e
theorem aDV {P:Program} {w:World} {K:PySem.W.Frag} {mg:Str->Option Value} {base:Heap} {k:Nat} {f:Addr} {fd:FuncData} {ps:List Str}:aN P w K mg base dS k f fd ps (eR K fun _=>.no) :=
 ⟨fun _ _ _ _ h=>(by obtain ⟨_,_,_,_,_,⟨_,e,_⟩,_⟩:=h; cases e),fun _ _ _ _ _ _ _ _ _ _ _ _ _ h=>(by obtain ⟨_,_,_,_,_,⟨_,e,_⟩,_⟩:=h; cases e)⟩
section
variable {X:Cx} {pins:List (Addr×Obj)} {σ:L2.St} {H:Hp}
theorem EL {s:Shared} {x:V} {v:Value} {k:Bool} {A:Around} {E:Value->Shared->Prop} {Q:Bool->Shared->Prop} (I:Inv X pins σ H s) (rx:RelV x v) (e:x=.bl k\/(∃ p xs,x=.ref p/\(eV X.K H p xs\/gC X.K H p xs)/\k=!xs.isEmpty))
  (q:∀ tk,Q k { s with toks:=tk }):wpAny (model X.prog X.w) A (truthy v) Q E s:=by
 have hs:sizeLine=16777216:=sizeLine_eq
 rcases e with rfl | ⟨p,xs,rfl,hx,rfl⟩
 ·cases rx
  exact wpAny_truthy_bool (q s.toks)
 ·cases rx
  rcases hx with hx | hx
  ·obtain ⟨its,r,pl,hz⟩:=I.list hx
   have hlen:=r.length
   exact wpAny_truthy_list pl.isList (by simp only [List.size_toArray]; omega) (by rw [lN r]; exact q _)
  ·obtain ⟨its,r,pl,hz⟩:=I.tuple hx
   have hlen:=r.length
   exact truthy_tuple pl (by simp only [List.size_toArray]; omega) (by rw [lN r]; exact q _)
def TrV (K:PySem.W.Frag) (H:Hp) (x:V) (k:Bool):Prop:=x=.bl k\/(∃ p xs,x=.ref p/\(eV K H p xs\/gC K H p xs)/\k=!xs.isEmpty)
theorem MP {n j:Nat} (h:j<n):(List.range n).drop j=j::(List.range n).drop (j+1):=by
 have hl:j<(List.range n).length:=by rw [List.length_range]; exact h
 rw [List.drop_eq_getElem_cons hl,List.getElem_range]
section
variable {it:Addr} {fp wr:List Addr} {n:Nat} {P:Nat->Value->Prop} {St:Nat->Heap->Prop} {R:Result->Shared->Prop} {tr:Nat->Bool}
theorem AQ (W:Walks X.prog X.w X.A.in1 it fp wr n P St) (hf:∀ b∈wr,pH X pins H b) (ht:∀ j v,P j v -> ∃ x,RelV x v/\TrV X.K H x (tr j)) :
  ∀ (m j:Nat) (st:Shared),m+j=n->Inv X pins σ H st->St j st.heap->(∀ st',Inv X pins σ H st'->R (.ok (.ret (.bool (((List.range n).drop j).all tr)))) st')->codeAny (model X.prog X.w) X.A (.builtin "all.loop" ⟨[.ref it],[]⟩) R st
 | 0,j,st,hj,I,hS,k=>by
  obtain rfl:j=n:=by omega
  refine codeAny_builtin (F.entry_all_loop) ?_
  rw [Around.under_plainId F.plain_all_loop]
  refine wpAny_bind (W.done st _ _ hS fun h2 t2 kp=>wpAny_bind (wpAny_rule (wpAny_pure ?_)))
  have:=k _ (RB (t':=t2) I kp hf)
  rwa [List.drop_eq_nil_of_le (by simp)] at this
 | m+1,j,st,hj,I,hS,k=>by
  have hjn:j<n:=by omega
  refine codeAny_builtin (F.entry_all_loop) ?_
  rw [Around.under_plainId F.plain_all_loop]
  refine wpAny_bind (W.item j st _ _ hjn hS fun v h2 t2 pv hS2 kp=>?_)
  have I2:Inv X pins σ H { st with heap:=h2,toks:=t2 }:=RB (t':=t2) I kp hf
  obtain ⟨x,rx,hx⟩:=ht j v pv
  rw [MP hjn,List.all_cons] at k
  refine wpAny_bind (wpAny_holding (EL I2 rx hx fun t3=>wpAny_bind (wpAny_letGo ?_)))
  have I3:Inv X pins σ H { st with heap:=h2,toks:=t3 }:=I2.tok t3
  cases hb:tr j with
  | true =>
   rw [hb,Bool.true_and] at k
   rw [if_pos rfl]
   exact wpAny_pure ⟨plainId_quiet F.plain_all_loop _,AQ W hf ht m (j+1) _ (by omega) I3 hS2 k⟩
  | false =>
   rw [hb,Bool.false_and] at k
   rw [if_neg Bool.false_ne_true]
   exact wpAny_bind (wpAny_rule (wpAny_pure (k _ I3)))
end
def aDW (f:List Bool->Bool) (K:PySem.W.Frag):List V->Hp->VK->Prop:=fun xs H Q=>∃ a ys bs,xs=[.ref a]/\H a=some (.lst ys)/\bs.length=ys.length/\(∀ (j:Nat) (y:V) (b:Bool),ys[j]? = some y->bs[j]? = some b->TrV K H y b)/\Q (.bl (f bs)) H
theorem MQ (hc:X.calm=true):gS X (.builtin "all") (aDW (fun bs=>bs.all id) X.K):=by
 intro pins s σ H xs us Q I r h
 obtain ⟨a,ys,bs,rfl,ha,hl,ht,q⟩:=h
 obtain ⟨u,rfl,ru⟩:=vals1 r
 cases ru
 obtain ⟨its,rv,p,hz⟩:=I.list (eV.of ha)
 have hlt:a<s.heap.objs.size:=by obtain ⟨o,n,e,_⟩:=p; exact Heap.lt_size e
 have hn:its.length=ys.length:=rv.length.symm
 have ht2:∀ j v,its.toArray[j]? = some v -> ∃ x,RelV x v/\TrV X.K H x (bs.getD j true):=fun j v e=>by
  have e1:its[j]? = some v:=by simpa using e
  have hj:j<ys.length:=by have:=(List.getElem?_eq_some_iff.mp e1).1; omega
  obtain ⟨u,e2,ru⟩:=rv.get (List.getElem?_eq_getElem hj)
  rw [e1] at e2
  cases e2
  refine ⟨_,ru,ht j _ _ (List.getElem?_eq_getElem hj) ?_⟩
  rw [List.getD_eq_getElem?_getD,List.getElem?_eq_getElem (by omega)]
  rfl
 refine call_function_tree (F.kind_all) F.plain_all F.entry_all (F.args_all1 _) ?_
 unfold Builtin.«all»
 refine wpAny_bind (m:=oneArg "all" _) (wpAny_pure (wpAny_bind (wpAny_pyIter_list p.isList (wpAny_pure ⟨plainId_quiet F.plain_all_loop _,?_⟩))))
 have hfr:H s.heap.objs.size=none:=I.hok.fresh (Nat.le_refl _)
 have I1:Inv X pins σ H { s with heap:=s.heap.push { cls:=.type "list_iterator",data:=.fields #[.ref a,rawInt 0] } }:=I.kept (t':=s.toks) fun b o e=>Heap.get?_push_of_some _ e
 refine AQ (X:=X) (pins:=pins) (σ:=σ) (H:=H) (tr:=fun j=>bs.getD j true) (Walks.list (A:=X.A.in1) (show X.A.in1.handled=none from I.ok.hd hc) s.heap.objs.size a (Nat.ne_of_lt hlt) its.toArray) (fun b hb=>?_) ht2 its.toArray.size 0 _ rfl I1
  ⟨⟨_,Heap.get?_push_size _ rfl,rfl,rfl⟩,p.isList.at fun o e=>Heap.get?_push_of_some _ e⟩ fun st' I'=>?_
 ·cases List.mem_singleton.mp hb
  exact I.GF (Nat.le_refl _) hfr
 ·refine ⟨.bl _,H,I',rfl,?_⟩
  rw [List.drop_zero,show its.toArray.size=bs.length by simp [hn,hl],range_all]
  exact q
theorem X8 {K:PySem.W.Frag} {S:Addr->Prop} {H:Hp}:∀ {es:List D} {ys:List V} {bs:List Bool},aQ K S H es ys->oS es=some bs->bs.length=ys.length /\ ∀ (j:Nat) (y:V) (b:Bool),ys[j]? = some y->bs[j]? = some b->TrV K H y b
 | [],ys,bs,dn,h=>by
  simp only [aQ] at dn
  subst dn
  cases h
  exact ⟨rfl,fun j y b e=>by simp at e⟩
 | d::es,ys,bs,dn,h=>by
  obtain ⟨v,r,rfl,h1,h2⟩:=dn.bI
  obtain ⟨b,eb,h⟩:=bnd h
  obtain ⟨bs',e2,rfl⟩:=uT h
  obtain ⟨hl,ih⟩:=X8 h2 e2
  refine ⟨by simp [hl],fun j y c ey ec=>?_⟩
  cases j with
  | zero =>
   simp at ey ec
   subst ey ec
   cases d<;>first | cases eb; done | skip
   ·cases eb; simp only [Dn] at h1; exact .inl h1
   ·cases eb; simp only [Dn] at h1; obtain ⟨a,xs,rfl,ha,da⟩:=h1; exact .inr ⟨a,xs,rfl,.inr (gC.of ha),by rw [<- da.empty]⟩
   ·cases eb; simp only [Dn] at h1; obtain ⟨a,xs,rfl,ha,_,da⟩:=h1; exact .inr ⟨a,xs,rfl,.inl (eV.of ha),by rw [<- da.empty]⟩
  | succ j=>exact ih j y c (by simpa using ey) (by simpa using ec)
def trF (f:List Bool->Bool):F1
 | [.lst es],Q=>∃ bs,oS es=some bs/\Q (.bl (f bs))
 | _,_=>False
theorem aAh {K:PySem.W.Frag} {f:List Bool->Bool}:C3 K (aDW f K) (trF f):=by
 intro S H xs ds Q3 Q fc hd hf k
 match ds,hf with
 | [.lst es],⟨bs,eb,q⟩ =>
  obtain ⟨v,r,rfl,h1,h2⟩:=hd.bI
  simp only [aQ] at h2
  subst h2
  simp only [Dn] at h1
  obtain ⟨a,ys,rfl,ha,sa,da⟩:=h1
  obtain ⟨hl,ht⟩:=X8 da eb
  exact ⟨a,ys,bs,rfl,ha,hl,ht,k _ H _ (Same.refl H) (by simp only [Dn]) q⟩
theorem aDX {p pos:Pos} {e:Expr} {t:AF} (hc:X.calm=true) (hm:X.mg "all" = none) (ha:xD X [e] t) (hg:Gl X "all" := by rfl) (he:starEach [e] X.env=(false,eval e X.env)::starEach [] X.env:=by rfl):cP X (.Call (.Name "all" p) [e] [] pos) (bU allM t) :=
 cE (CF (MQ hc) aAh PyProof.Rows.boot_all hg hm ha (by decide) (by decide) he (by rfl)) (HB fun ds d Q e q=>by
  unfold allM at e
  split at e
  ·obtain ⟨bs,eb,rfl⟩:=uT e; exact ⟨bs,eb,q⟩
  ·cases e)
end
end L4
end
section
namespace L3
open PySem PySem.Spec PyProof.Rows L2
namespace Rv
end Rv
section
variable {prog:Program} {w:World} {A:Around} {E:Value->Shared->Prop} {s:Shared}
end
section
variable {X:Cx} {tg:Expr}
end
section
variable {prog:Program} {w:World} {A:Around} {E:Value->Shared->Prop} {s:Shared}
end
section
variable {X:Cx}
end
end L3
namespace L4
open PySem PySem.Spec PyProof.Rows L2 L3
section
variable {X:Cx} {tg:Expr}
end
end L4
end
section
namespace L4
open PySem PySem.Spec PyProof.Rows L2 L3 PySem.W
section
variable {lt:Nat->Nat->Bool}
def Up (lt:Nat->Nat->Bool) (p:Array Nat) (k:Nat):Prop:=∀ i j,i<j->j<k->lt (p.getD j 0) (p.getD i 0)=false
end
end L4
end
section
namespace L4
open PySem PySem.Spec PyProof.Rows L2 L3 PySem.W Att
section
variable {prog:Program} {w:World} {A:Around} {s:Shared} {Q:Bool->Shared->Prop}
end
section
variable {n:Nat}
end
section
variable {X:Cx}
end
end L4
end
section
namespace L4
open PySem PySem.Spec PyProof.Rows L2 L3
section
variable {X:Cx}
end
end L4
end
section
namespace L4
open PySem PySem.Spec PyProof.Rows L2 L3 PySem.SeqAt
section
variable {X:Cx} {pins:List (Addr×Obj)} {σ:L2.St} {H:Hp} {s:Shared} {S:Addr->Prop}
open Classical in
end
end L4
end
section
namespace L4
open PySem PySem.Spec PyProof.Rows L2 L3
section
variable {X:Cx}
theorem aDY (i:Nat) {st:Stmt} {f:SF} (h:rO X st f):rO X st (YH i f) :=
 jY h fun B σ H aDZ=>by obtain ⟨H₀,S,w,ρ,G,E,hl,st,ht,ok⟩:=aDZ; exact ⟨H₀,S,w,freeze ρ i,G,E,hl,st.frozen,ht,ok⟩
end
end L4
end
section
namespace L5
open PySem PySem.Spec PyProof.Rows L2 L3 L4
theorem AR {P:Program} {w:World} {H:Hp} {h:Heap} {a:Addr} {o:HO} (x:eD P w H h a o):∃ u,h.get? a=some u:=by
 cases o with
 | lst xs=>obtain ⟨_,_,_,_,e⟩:=x; exact ⟨_,e⟩
 | tup xs=>obtain ⟨_,_,_,u,e,_⟩:=x; exact ⟨_,e⟩
 | dK kvs=>obtain ⟨_,_,_,_,o,_,_,e,_⟩:=x; exact ⟨_,e⟩
 | dT kvs=>obtain ⟨_,_,_,_,o,_,_,e,_⟩:=x; exact ⟨_,e⟩
 | dX ob kvs=>obtain ⟨_,_,e,_⟩:=x; exact ⟨_,e⟩
 | set S n=>obtain ⟨o,_,_,_,e,_⟩:=x; exact ⟨_,e⟩
 | ins C dx fs=>obtain ⟨_,_,_,e,_⟩:=x; exact ⟨_,e⟩
 | own y=>obtain ⟨_,e⟩:=x; exact ⟨_,e⟩
 | xd fs=>obtain ⟨_,⟨_,_,_,e,_⟩,_⟩:=x; exact ⟨_,e⟩
 | rng lo hi=>obtain ⟨_,_,_,e⟩:=x; exact ⟨_,e⟩
 | DR ob u=>obtain ⟨e,_⟩:=x; exact ⟨_,e⟩
 | XE ps=>exact ⟨_,(show h.get? a=some _ from x)⟩
 | met f y=>exact ⟨_,(show h.get? a=some _ from x)⟩
 | ext φ=>obtain ⟨_,⟨_,e⟩,_⟩:=x; exact ⟨_,e⟩
section
variable {X:Cx} {pins:List (Addr×Obj)} {σ:L2.St} {H:Hp} {s:Shared} {h':Heap} {e:Addr} {cls a0:Value} {P:List Addr}
theorem flown (I:Inv X pins σ H s) (T:CG X pins H s e cls a0 P) (kp:∀ b o,b∉P->b∉frs X.stack->s.heap.get? b=some o->h'.get? b=some o) (us:s.heap.UpToSlots h'):Inv X pins σ H { s with heap:=h' }:=by
 have frame:∀ b∈frs X.stack,∃ o,s.heap.get? b=some o /\ ∀ vs,o.data≠.fields vs:=fun b hb=>(I.stack.mem hb).2
 have old:∀ b o,X.s₀.heap.get? b=some o->b∉P:=fun b o q hb=>by rw [T.new b hb] at q; cases q
 have aJH:∀ b o,X.s₀.heap.get? b=some o->b≠X.env.locals:=fun b o q=>Nat.ne_of_lt (Nat.lt_of_lt_of_le (Heap.lt_size q) I.ok.above)
 have cellK:∀ c v,s.heap.IsCell c v->h'.IsCell c v:=fun c v aD0=>by
  obtain ⟨o,ho,hd⟩:=aD0
  obtain ⟨sl,q⟩:=us c o ho fun vs z=>by rw [hd] at z; cases z
  exact ⟨_,q,hd⟩
 obtain ⟨m,hn,hl⟩:=id I.loc
 refine ⟨I.ok,I.os,I.bare,⟨fun b o eb n hb hx=>?_,fun b o eb n hb hx=>?_,I.base.free,fun b o eb hx=>?_,I.base.tups,I.base.qK,I.base.sN⟩,⟨m,us.ns hn,fun i x v h1 h2 h3=>?_⟩,fun x c ec=>?_,I.free,I.kN,fun p hp=>?_,fun b ob eb=>?_,I.len⟩
 ·exact kp b o (old b o eb) (fun z=>(List.mem_cons.mp (I.pF b z)).elim (aJH b o eb) hb) (I.base.keep b o eb n hb hx)
 ·obtain ⟨sl,q⟩:=I.base.slot b o eb n hb hx
  obtain ⟨_,o2,e2,nf⟩:=I.ok.uE.mem hb
  rw [eb] at e2
  obtain rfl:=Option.some.inj e2
  obtain ⟨sl2,q2⟩:=us b { o with slots:=sl } q nf
  exact ⟨sl2,q2⟩
 ·obtain ⟨o',q⟩:=I.base.there b o eb hx
  by_cases hf:b∈frs X.stack
  ·obtain ⟨o2,e2,nf⟩:=frame b hf
   obtain ⟨sl,q2⟩:=us b o2 e2 nf
   exact ⟨_,q2⟩
  ·exact ⟨o',kp b o' (old b o eb) hf q⟩
 ·obtain ⟨u,r,l⟩:=hl i x v h1 h2 h3
  exact ⟨u,r,l.imp id fun ⟨k,c,ec,ic⟩=>⟨k,c,ec,cellK _ _ ic⟩⟩
 ·obtain ⟨v,ic⟩:=I.cell x c ec
  exact ⟨v,cellK _ _ ic⟩
 ·obtain ⟨q,n,ne,nf,d⟩:=I.pin p hp
  exact ⟨kp _ _ (fun z=>T.pin _ z p hp rfl) (fun z=>(List.mem_cons.mp (I.pF _ z)).elim ne nf) q,n,ne,nf,d⟩
 ·refine (I.hok b ob eb).stay (fun c u hc q=>kp c u (fun z=>?_) (fun z=>?_) q) (fun _ q=>q) fun _ _ q=>q
  ·have fr:=T.free c z
   rcases hc with rfl | hc
   ·rw [fr] at eb; cases eb
   ·rw [fr] at hc; cases hc
  ·have fr:=I.BY c z
   rcases hc with rfl | hc
   ·rw [fr] at eb; cases eb
   ·rw [fr] at hc; cases hc
end
def yJ (P:Program) (w:World):LG:=fun outer H s E e s'=>∃ (ea T:Addr) (cls a0:Value) (H':Hp) (oe oT:Obj) (vs ts:Array Value),e=.ref ea/\s'.os=s.os/\AllBare s'.gens/\Un (frs outer) [] H H' s.heap s'.heap/\oD P w H' s'.heap /\
 H' ea=none/\H' T=none/\s.heap.get? ea=none/\s.heap.get? T=none/\T≠ea/\s'.heap.get? ea=some oe/\(oe.cls=cls/\vs[0]? = some a0)/\oe.data=.fields vs/\vs[1]? = some (.ref T)/\s'.heap.get? T=some oT/\oT.data=.fields ts/\ts[3]? = some .none/\E cls none H'
section
variable {P:Program} {w:World} {K:PySem.W.Frag} {mg:Str->Option Value} {base:Heap} {N:List Str} {qual:Str} {scope:Scope} {f:Addr} {cd:Value} {A:Around} {outer:List Env} {s0:Shared} {H0:Hp} {E:XK}
theorem RR {pins:List (Addr×Obj)} {σ:L2.St} {H:Hp} {s:Shared} {e:Addr} {cls a0:Value} {Q:List Addr} (I:Inv (qQ (yJ P w) P w K mg base N qual scope f cd A outer s0 H0 E) pins σ H s)
  (T:CG (qQ (yJ P w) P w K mg base N qual scope f cd A outer s0 H0 E) pins H s e cls a0 Q) (hE:E cls none H):(qQ (yJ P w) P w K mg base N qual scope f cd A outer s0 H0 E).xe (.ref e) s:=by
 generalize hX:qQ (yJ P w) P w K mg base N qual scope f cd A outer s0 H0 E=X at I T
 have st:X.stack=X.env::outer:=by rw [<- hX]; rfl
 have hin:∀ env∈X.stack,∀ b,env.frame=some b->b∈Q++frs X.stack:=fun env he b hb=>List.mem_append_right _ (List.mem_filterMap.mpr ⟨env,he,hb⟩)
 have stay:(PySem.W.hideAll s.heap (Q++frs X.stack)).StaysIn s.heap:=fun b o q=>PySem.W.of_hideAll _ q
 have fns:s.heap.FunFrames (PySem.W.hideAll s.heap (Q++frs X.stack)) X.stack:=PySem.W.funFrames_hide I.stack hin
 have hen:(PySem.W.hideAll s.heap (Q++frs X.stack)).get? e=none:=PySem.W.hideAll_none _ (List.mem_append_left _ T.mem)
 have fin:∀ h',Heap.LeftW (PySem.W.hideAll s.heap (Q++frs X.stack)) X.stack e cls a0 s.heap h'->yJ P w outer H0 s0 E (.ref e) { s with heap:=h' }:=fun h' aD1=>by
  obtain ⟨k1,k2,k3,k4⟩:=aD1
  have J:=flown I T (fun b o n1 n2 q=>k1 b o (PySem.W.hideAll_get _ q fun z=>(List.mem_append.mp z).elim n1 n2)) k4
  obtain ⟨oe,vs,T2,oT,ts,he,hc,hd,h1,hnT,hTe,hT,hdT,h3⟩:=k3
  have hfr:T2∉frs X.stack:=fun z=>by
   obtain ⟨_,o,ho,nf⟩:=I.stack.mem z
   obtain ⟨sl,q⟩:=k4 T2 o ho nf
   rw [hT] at q
   cases q
   exact nf ts hdT
  have hT2:T2∈Q\/s.heap.get? T2=none:=by
   by_cases hq:T2∈Q
   ·exact .inl hq
   ·right
    cases q:s.heap.get? T2 with
    | none=>rfl
    | some o =>
     have:=PySem.W.hideAll_get (Q++frs X.stack) q fun z=>(List.mem_append.mp z).elim hq hfr
     rw [hnT] at this
     cases this
  have e1:X.fs=frs outer:=by rw [<- hX]; rfl
  have e2:X.ex=[]:=by rw [<- hX]; rfl
  have e3:X.H₀=H0:=by rw [<- hX]; rfl
  have e4:X.s₀=s0:=by rw [<- hX]; rfl
  have e5:X.prog=P:=by rw [<- hX]; rfl
  have e6:X.w=w:=by rw [<- hX]; rfl
  have b0:=J.base
  have b1:=J.hok
  have b2:=J.os
  rw [e1,e2,e3,e4] at b0
  rw [e5,e6] at b1
  rw [e4] at b2
  refine ⟨e,T2,cls,a0,H,oe,oT,vs,ts,rfl,b2,J.bare,b0,b1,T.free e T.mem,?_,?_,?_,hTe,he,hc,hd,h1,hT,hdT,h3,hE⟩
  ·rcases hT2 with z | z
   ·exact T.free _ z
   ·cases q:H T2 with
    | none=>rfl
    | some o =>
     obtain ⟨u,eu⟩:=AR (I.hok _ _ q)
     rw [z] at eu; cases eu
  ·rw [<- e4]; exact T.new e T.mem
  ·rcases hT2 with z | z
   ·rw [<- e4]; exact T.new _ z
   ·cases q:s0.heap.get? T2 with
    | none=>rfl
    | some o =>
     have tb:=I.base.there T2 o (by rw [e4]; exact q) (by rw [e2]; simp)
     obtain ⟨o',eo⟩:=tb
     rw [z] at eo; cases eo
 have go:wpAny (model P w) X.A (leaving X.env (.ref e)) (fun _ s''=>yJ P w outer H0 s0 E (.ref e) s'') (fun e' s''=>yJ P w outer H0 s0 E e' s'') s:=by
  have hfr:=I.ok.frames
  have hf:X.env.frame=some X.env.locals:=by rw [<- hX]; rfl
  rw [st] at hfr
  rw [st] at fns fin hen stay
  rcases T.tr with ⟨oe,vs,he,hc,hd,h1,h0⟩ | ⟨oe,vs,T2,oT,ts,he,hc,hd,h1,hm,hTe,hT,hdT,h3⟩
  ·subst hc
   exact wpAny_leaving_firstW hfr fns hf he stay hen hd h1 h0 fun h' L=>fin h' L
  ·refine wpAny_leaving_nextW hfr fns hf ⟨oe,vs,T2,oT,ts,he,hc,hd,h1,PySem.W.hideAll_none _ (List.mem_append_left _ hm),hTe,hT,hdT,h3⟩ stay hen fun h' L=>fin h' L
 rw [<- hX] at go ⊢
 exact go
end
theorem EM {X:Cx} {pins:List (Addr×Obj)} {σ:L2.St} {H:Hp} {s s':Shared} {E:XK} {e:Value} (hx:X.ex=[]) (I:Inv X pins σ H s) (c:yJ X.prog X.w X.stack H s E e s') :
  ∃ ea cls a0 H' Q,e=.ref ea/\Inv X pins σ H' s'/\CG X pins H' s' ea cls a0 Q/\E cls none H':=by
 obtain ⟨ea,T,cls,a0,H',oe,oT,vs,ts,rfl,os,bare,un,hok,n1,n2,g1,g2,hTe,he,hc,hd,h1,hT,hdT,h3,hE⟩:=c
 have J:Inv X pins σ H' s':=I.call' (ch:=[]) os un hok bare fun b z=>absurd z (by simp)
 have no:∀ q,q∈[ea,T]->s.heap.get? q=none:=fun q hq=>by
  rcases List.mem_cons.1 hq with rfl | hq
  ·exact g1
  ·rw [List.mem_singleton.mp hq]; exact g2
 refine ⟨ea,cls,a0,H',[ea,T],rfl,J,⟨List.mem_cons_self,fun q hq=>?_,fun q hq=>?_,fun q hq=>?_,fun q hq p hp z=>?_,.inr ⟨oe,vs,T,oT,ts,he,hc,hd,h1,by simp,hTe,hT,hdT,h3⟩⟩,hE⟩
 ·rcases List.mem_cons.1 hq with rfl | hq
  ·exact n1
  ·rw [List.mem_singleton.mp hq]; exact n2
 ·cases k:X.s₀.heap.get? q with
  | none=>rfl
  | some o =>
   obtain ⟨o',eo⟩:=I.base.there q o k (by rw [hx]; simp)
   rw [no q hq] at eo; cases eo
 ·rcases List.mem_cons.1 hq with rfl | hq
  ·exact ⟨oe,vs,he,hd⟩
  ·rw [List.mem_singleton.mp hq]; exact ⟨oT,ts,hT,hdT⟩
 ·have:=(I.pin p hp).1
  rw [z,no q hq] at this; cases this
def JU (K:PySem.W.Frag) (mg:Str->Option Value) (R:fG):Sp:=fun vs H Q E=>∃ (S:Addr->Prop) (ds:List D),(∀ a,H a=none->S a)/\aQ K S H ds vs/\match R ds with
 | .ok d=>∀ v H',Same H H'->Dn K S H' d v->Q v H'
 | .ex c=>∃ C:Addr,mg c=some (.ref C) /\ ∀ H',Same H H'->E (.ref C) none H'
 | .no=>False
theorem aAi {P:Program} {w:World} {K:PySem.W.Frag} {mg:Str->Option Value} {base:Heap} {x qual:Str} {st:Stmt} {f:Addr} {fd:FuncData} {N ps:List Str} {k n np:Nat} {b:SF} (F:lY K x qual st f fd) (S:bD N ps (aH st)) (hn:N.length=n) (hp:ps.length=np)
  (hbody:∀ (cdv:Value) (A:Around) (outer:List Env) (s:Shared) (H:Hp) (E:XK),iO k (A.deeper (envOfC qual (aH st) s.heap.objs.size f cdv)) ->
   CL (qQ (yJ P w) P w K mg base N qual (aH st) f cdv A outer s H E) (aX st) b):aN P w K mg base (yJ P w) (k+1) f fd ps (JU K mg (bQ n np b)):=by
 subst hn hp
 obtain ⟨oc,od,kV,doc,pm,an,cdv,ct,osl,rfl,lk,hcd⟩:=F.ex
 have hlen:∀ ds:List D,bQ N.length ps.length b ds≠.no->ds.length=ps.length:=fun ds h=>by
  by_cases e:ds.length=ps.length
  ·exact e
  ·exact absurd (show bQ N.length ps.length b ds=.no by unfold bQ; rw [if_neg e]) h
 refine XQ lk hcd S (fun vs H Q E h=>?_) fun A outer s H vs Q E hr h=>?_
 ·obtain ⟨S',ds,_,dn,hR⟩:=h
  rw [<- dn.len]
  exact hlen ds fun z=>by rw [z] at hR; exact hR
 ·obtain ⟨S',ds,fc,dn,hR⟩:=h
  have hl:ds.length=ps.length:=hlen ds fun z=>by rw [z] at hR; exact hR
  have hdn:=dn.len
  refine ⟨_,hbody cdv A outer s H E hr,H,S',fun _=>0,kC N ds,[],{ nx:=fun _=>bQ N.length ps.length b ds=.ok .non,rt:=fun d=>bQ N.length ps.length b ds=.ok d,ex:=fun c=>bQ N.length ps.length b ds=.ex c },?_,D5 fc dn,?_,⟨fun w' σ' H' ρ' _ st' q=>?_,fun v H' d s' d' q=>?_,fun _ _ _ _ _ _ q=>q,fun _ _ _ _ _ _ q=>q,fun c H' sm q=>?_⟩⟩
  ·have hp:ps.length<=N.length:=by have:=congrArg List.length S.pre; rw [List.length_take] at this; omega
   unfold L2.start
   show _=N.length
   rw [List.length_append,List.length_map,List.length_replicate]
   omega
  ·have e2:kC N ds=dR N.length ds:=rfl
   have e3:bQ N.length ps.length b ds=(match b (dR N.length ds) with | .rt d=>.ok d | .nx _=>.ok .non | .ex c=>.ex c | .no=>.no):=by unfold bQ; rw [if_pos hl]<;>cases b (dR N.length ds)<;>rfl
   rw [e3] at hR
   unfold wS
   rw [e2]
   cases hb:b (dR N.length ds) with
   | rt d'=>rw [hb] at e3; exact e3
   | nx ρ=>rw [hb] at e3; exact e3
   | ex c=>rw [hb] at e3; exact e3
   | no=>rw [hb] at hR; exact hR
  ·rw [q] at hR
   exact hR .non H' st'.sm (by simp only [Dn])
  ·rw [q] at hR
   exact hR v H' s' d'
  ·rw [q] at hR
   obtain ⟨C,hm,hE⟩:=hR
   exact ⟨C,hm,fun pins σ s' e a0 P I T=>RR I T (hE H' sm)⟩
section
variable {X:Cx} {k:Nat} {f:Addr} {fd:FuncData} {ps:List Str} {R:fG} {x:Str} {p pos:Pos} {e:Expr} {es:List Expr} {t:AF}
theorem AS (F:aN X.prog X.w X.K X.mg X.base (yJ X.prog X.w) k f fd ps (JU X.K X.mg R)) (hr:iO k X.A) (hm:X.mg x=some (.ref f)) (hk:PySem.W.keepIn X.K (.ref f)=true) (hb:Binds X.K fd ps [])
  (ha:xD X (e::es) t) (hg:Gl X x:=by rfl) (hdb:(x == ("__debug__" : Str))=false:=by decide) (he:starEach (e::es) X.env=(false,eval e X.env)::starEach es X.env:=by rfl) (hpl:(backTo pos (starEach es X.env)).any (·.1)=false:=by rfl) :
  cP X (.Call (.Name x p) (e::es) [] pos) (aG R t):=imp (qP (E:=E0) F hr hg hm hk hb .nil (fun pins σ H s e s' _ c=>by obtain ⟨_,_,_,_,_,_,_,_,_,_,_,_,_,_,_,_,_,_,_,_,_,_,_,_,_,_,hE⟩:=c; exact hE.elim) ha hdb he hpl) fun σ H Q aD2=>by
 obtain ⟨S,ρ,Q3,fc,sl,⟨d,ed,q3⟩,k⟩:=aD2
 obtain ⟨ds,et,ed⟩:=bnd ed
 refine ⟨S,ρ,fun z=>z=ds,fc,sl,⟨ds,et,rfl⟩,fun vs H1 ds' s1 d1 q1=>?_⟩
 subst q1
 show JU X.K X.mg R (vs++[]) H1 Q E0
 rw [List.append_nil]
 refine ⟨S,ds',bH fc s1,d1,?_⟩
 cases h:R ds' with
 | ok d'=>rw [h] at ed; cases ed; exact fun v H' s' d'=>k v H' _ (s1.trans s') d' q3
 | no=>rw [h] at ed; cases ed
 | ex c=>rw [h] at ed; cases ed
def tR (X:Cx) (r:RF):TE:=fun σ H _=>∃ (S:Addr->Prop) (ρ:bN) (c:Str),(∀ a,H a=none->S a)/\Sl X.K S H ρ σ/\r ρ=some c /\ ∀ H',Same H H'->XC X c H'
def PR (X:Cx) (e:Expr) (r:RF):Prop:=PE X e (tR X r)
theorem HF (hx:X.ex=[]) (F:aN X.prog X.w X.K X.mg X.base (yJ X.prog X.w) k f fd ps (JU X.K X.mg R)) (hr:iO k X.A) (hm:X.mg x=some (.ref f)) (hk:PySem.W.keepIn X.K (.ref f)=true) (hb:Binds X.K fd ps [])
  (ha:xD X (e::es) t) (hg:Gl X x:=by rfl) (hdb:(x == ("__debug__" : Str))=false:=by decide) (he:starEach (e::es) X.env=(false,eval e X.env)::starEach es X.env:=by rfl) (hpl:(backTo pos (starEach es X.env)).any (·.1)=false:=by rfl) :
  PR X (.Call (.Name x p) (e::es) [] pos) (vA R t):=imp (qP (E:=fun cls _ H'=>∃ c C,cls=.ref C/\X.mg c=some (.ref C)/\XC X c H') F hr hg hm hk hb .nil (fun pins σ H s e s' I c=>by
   obtain ⟨ea,cls,a0,H',Q,rfl,J,T,c,C,rfl,hmc,C2,hm2,xc⟩:=EM hx I c
   rw [hmc] at hm2
   cases hm2
   exact xc pins σ s' ea a0 Q J T) ha hdb he hpl) fun σ H Q aD3=>by
 obtain ⟨S,ρ,c,fc,sl,ec,k⟩:=aD3
 obtain ⟨ds,et,ed⟩:=bnd ec
 refine ⟨S,ρ,fun z=>z=ds,fc,sl,⟨ds,et,rfl⟩,fun vs H1 ds' s1 d1 q1=>?_⟩
 subst q1
 rw [List.append_nil]
 refine ⟨S,ds',bH fc s1,d1,?_⟩
 cases h:R ds' with
 | ex c' =>
  rw [h] at ed
  cases ed
  obtain ⟨C,hmC,_⟩:=k H1 s1
  exact ⟨C,hmC,fun H' sm=>⟨c,C,rfl,hmC,k H' (s1.trans sm)⟩⟩
 | ok d=>rw [h] at ed; cases ed
 | no=>rw [h] at ed; cases ed
theorem RS {e:Expr} {t u:TE} (h1:PE X e t) (h2:PE X e u):PE X e (fun σ H Q=>t σ H Q\/u σ H Q):=fun pins s σ H Q I h=>h.elim (h1 pins s σ H Q I) (h2 pins s σ H Q I)
theorem aD4 {e:Expr} {f:EF} {r:RF} {pos:Pos} (h:cP X e f) (hr:PR X e r):rO X (.Return (some e) pos) (vB r (aS f)):=jY (GD (RS hr h)) fun B σ H aD5=>by
 obtain ⟨H₀,S,w,ρ,G,E,hl,st,ht,ok⟩:=aD5
 unfold wS vB at ht
 cases hc:r (cC ρ) with
 | some c =>
  rw [hc] at ht
  exact .inl ⟨S,cC ρ,c,st.NR,st.all,hc,fun H' sm=>ok.ex c H' (st.sm.trans sm) ht⟩
 | none =>
  rw [hc] at ht
  dsimp only at ht
  unfold aS at ht
  cases hf:f (cC ρ) with
  | none=>rw [hf] at ht; exact ht.elim
  | some d =>
   rw [hf] at ht
   exact .inr ⟨S,cC ρ,_,st.NR,st.all,⟨d,hf,ht⟩,fun v H' d s' d' q'=>ok.rt v H' d (st.sm.trans s') d' q'⟩
theorem RT {e:Expr} {f:EF} {r:RF} {pos:Pos} (h:cP X e f) (hr:PR X e r) (hs:swapsWith e none pos.line X.env=pure false:=by rfl):rO X (.Expr e pos) (vB r (sX (aV f))):=jY (B0 (RS hr h) hs) fun B σ H aD6=>by
 obtain ⟨H₀,S,w,ρ,G,E,hl,st,ht,ok⟩:=aD6
 unfold wS vB at ht
 cases hc:r (cC ρ) with
 | some c =>
  rw [hc] at ht
  exact .inl ⟨S,cC ρ,c,st.NR,st.all,hc,fun H' sm=>ok.ex c H' (st.sm.trans sm) ht⟩
 | none =>
  rw [hc] at ht
  dsimp only at ht
  unfold sX aV at ht
  cases hf:f (iT ρ) with
  | none=>rw [hf] at ht; exact ht.elim
  | some d =>
   rw [hf] at ht
   exact .inr ⟨_,iT ρ,_,st.LQ,st.rd,⟨d,hf,ht⟩,fun v H' d s' d' q'=>ok.nx w σ H' ρ hl (st.same s') q'⟩
end
abbrev bmV:List Value:=[.type "ValueError",.type "Exception",.type "BaseException",.type "object"]
structure RU (K:PySem.W.Frag) (C:Addr):Prop where
 ex:∃ nm q N bs bm hdct sn sub ab col dd k0 k1 k2 k3 k5,K.lookup C=some (excClassObj nm q C N bs bm hdct sn sub ab col dd k0 k1 k2 k3 k5 "ValueError.__new__")/\PySem.W.tailIn K bmV bm=true/\PySem.W.nsOkIn K N=true/\PySem.W.nsIn K N "__init__" = some none
section
variable {X:Cx}
theorem HG {c:Str} {C:Addr} {e:Expr} {es:List Expr} {t:AF} {np cpos pos:Pos} (hx:X.ex=[]) (hcalm:X.calm=true) (hm:X.mg c=some (.ref C)) (hC:RU X.K C) (ha:xD X (e::es) t) (hg:Gl X c:=by rfl) (hd:(c == ("__debug__" : Str))=false:=by decide)
  (he:starEach (e::es) X.env=(false,eval e X.env)::starEach es X.env:=by rfl) (hpl:(backTo cpos (starEach es X.env)).any (·.1)=false:=by rfl) :
  rO X (.Raise (some (.Call (.Name c np) (e::es) [] cpos)) none pos) (p4 t c):=by
 intro pins s σ H B I ⟨H₀,S,w,ρ,G,E,hl,st,ht,ok⟩
 unfold wS p4 at ht
 cases et:t (cC ρ) with
 | none=>rw [et] at ht; exact ht.elim
 | some ds =>
  rw [et] at ht
  dsimp only at ht
  by_cases h10:ds.length<=10
  ·rw [if_pos h10] at ht
   obtain ⟨nm,q,N,bs,bm,hdct,sn,sub,ab,col,dd,k0,k1,k2,k3,k5,lk,tl,no,ni⟩:=hC.ex
   refine wpAny_Raise_call_subT (C:=C) (nm:=nm) (q:=q) (N:=N) (bs:=bs) (bm:=bm) (hdct:=hdct) (sn:=sn) (sub:=sub) (ab:=ab) (col:=col) (dd:=dd) (k0:=k0) (k1:=k1) (k2:=k2) (k3:=k3) (k5:=k5) (mN:=X.base.nsMap N)
    PySem.F.excBase_ValueError ((PySem.W.tail_of_in I.yH tl).hasType rfl) (I.ok.hd hcalm) (by rw [he]; show (false||(backTo cpos (starEach es X.env)).any (·.1))=false; rw [hpl]; rfl) (PySem.W.nsMap_none_of_in I.ok.mod.kin no ni) (I0 I hg hm ⟨rfl,?_⟩ hd)
   have hN:X.base.Ns N (X.base.nsMap N):=.of_isNs (PySem.W.isNs_of_in I.ok.mod.kin no)
   have args:=ha cpos pins s σ H (fun vs H1=>vs.length=ds.length/\Same H H1) I ⟨S,cC ρ,fun z=>z=ds,st.NR,st.all,⟨ds,et,rfl⟩,fun vs H1 ds' s1 d1 q1=>⟨by rw [<- d1.len,q1],s1⟩⟩
   rw [he] at args ⊢
   refine Calls.evalArgs_plain (wpAny_mono args (fun us s1 ⟨vs,H1,I1,r,hlen,sm⟩=>?_) fun _ _ z=>z)
   refine ⟨rfl,?_,I1.yH _ _ lk,hN.keeps I1.bk,PySem.W.tail_of_in I1.yH tl,fun h' ea mk=>?_⟩
   ·show us.length<=sizeLine
    rw [<- r.length,hlen]
    exact Nat.le_trans h10 (by decide)
   ·obtain ⟨C',hm',xc⟩:=ok.ex c H1 (st.sm.trans sm) ht
    rw [hm] at hm'
    cases hm'
    obtain ⟨tt,oe,_,_⟩:=mk.there
    have I2:Inv X pins σ H1 { s1 with heap:=h' }:=I1.kept (t':=s1.toks) mk.keeps
    refine xc pins σ _ ea (.ref tt) [ea] I2 ⟨List.mem_cons_self,fun q hq=>?_,fun q hq=>?_,fun q hq=>?_,fun q hq p hp z=>?_,.inl ⟨_,_,oe,rfl,rfl,rfl,rfl⟩⟩
    ·rw [List.mem_singleton.1 hq]
     cases k:H1 ea with
     | none=>rfl
     | some o =>
      obtain ⟨u,eu⟩:=AR (I1.hok _ _ k)
      rw [mk.new] at eu; cases eu
    ·rw [List.mem_singleton.1 hq]
     cases k:X.s₀.heap.get? ea with
     | none=>rfl
     | some o =>
      obtain ⟨o',eo⟩:=I1.base.there ea o k (by rw [hx]; simp)
      rw [mk.new] at eo; cases eo
    ·rw [List.mem_singleton.1 hq]
     exact ⟨_,_,oe,rfl⟩
    ·have:=(I1.pin p hp).1
     rw [z,List.mem_singleton.mp hq,mk.new] at this; cases this
  ·rw [if_neg h10] at ht; exact ht.elim
end
end L5
end
section
namespace L5
open PySem PySem.Spec PyProof.Rows L2 L3 L4 PySem.W Builtin.ObjectAttr Builtin.Getset_descriptor
structure aO9 (K:PySem.W.Frag) (C:Addr):Prop where
 hc:isClsIn K C=true
 hm:mroIn K C (.type "object")=some true
 hs:subIn K (.ref C) (.type "BaseException")=some true
 hga:findIn K (.ref C) "__getattribute__" = some (some (.builtin "BaseException.__getattribute__"))
 hgg:findIn K (.ref C) "__getattr__" = some none
 ha:findIn K (.ref C) "__class__" = some (some (.builtin "object.__class__"))
 hn:specialIn K (.builtin "object.__class__") "__get__" = some (some (.builtin "getset_descriptor.__get__"))
 ht:takesIn K (.builtin "object.__class__")=some true
section
variable {prog:Program} {w:World} {A:Around} {E:Value->Shared->Prop} {s:Shared} {K:PySem.W.Frag} {a C:Addr}
end
end L5
end
section
namespace L5
open PySem PySem.Spec PyProof.Rows L2 L3 L4
section
variable {X:Cx}
end
section
variable {X:Cx} {pins:List (Addr×Obj)} {σ:L2.St} {H:Hp} {s:Shared}
end
section
variable {X:Cx}
end
section
variable {X:Cx}
theorem MR (hc:X.calm=true):gS X (.builtin "max") (fun xs H Q=>∃ a b,xs=[.int a,.int b]/\Q (.int (if b>a then b else a)) H):=by
 intro pins s σ H xs us Q I r h
 obtain ⟨a,b,rfl,q⟩:=h
 obtain ⟨u1,u2,rfl,⟨t1,rfl⟩,⟨t2,rfl⟩⟩:=vals2 r
 refine max_two_ints (I.ok.hd hc) fun h' tk hk=>⟨_,H,I.kept hk,?_,q⟩
 by_cases z:b>a
 ·rw [if_pos z,if_pos z]; exact ⟨_,rfl⟩
 ·rw [if_neg z,if_neg z]; exact ⟨_,rfl⟩
def X9 (g:Int->Int->Int):F1
 | [.int a,.int b],Q=>Q (.int (g a b))
 | _,_=>False
theorem WC {K:PySem.W.Frag} {g:Int->Int->Int}:C3 K (fun xs H Q=>∃ a b,xs=[.int a,.int b]/\Q (.int (g a b)) H) (X9 g):=by
 intro S H xs ds Q3 Q fc hd hf k
 match ds,hf with
 | [.int a,.int b],hf =>
  obtain ⟨v,r,rfl,h1,h2⟩:=hd.bI
  obtain ⟨v2,r2,rfl,h3,h4⟩:=h2.bI
  simp only [aQ] at h4
  subst h4
  simp only [Dn] at h1 h3
  subst h1 h3
  exact ⟨a,b,rfl,k _ H _ (Same.refl H) (by simp only [Dn]) hf⟩
theorem HH:pJ (X9 fun a b=>if b>a then b else a) u4:=fun ds d Q e q=>by
 unfold u4 at e
 split at e
 ·cases e; exact q
 ·cases e
theorem aD8 {p pos:Pos} {a b:Expr} {t:AF} (hc:X.calm=true) (hm:X.mg "max" = none) (ha:xD X [a,b] t) (hg:Gl X "max" := by rfl) (he:starEach [a,b] X.env=(false,eval a X.env)::starEach [b] X.env:=by rfl) (hpl:(backTo pos (starEach [b] X.env)).any (·.1)=false:=by rfl):cP X (.Call (.Name "max" p) [a,b] [] pos) (bU u4 t) :=
 cE (CF (MR hc) WC PyProof.Rows.boot_max hg hm ha (by decide) (by decide) he hpl) (HB HH)
theorem mY {p:Prop} (h:false=true):p:=nomatch h
noncomputable def ExI (mro:List Value) (sl:List (Option Value)) (P:Addr->List Value->String->Bool):Prop:=∃ C1 bm y0 y1 y2 y3 n y5,mro=.ref C1::bm/\sl=[y0,y1,y2,y3,some (.builtin n),y5]/\P C1 bm n=true
theorem MS {mro:List Value} {sl:List (Option Value)} {P:Addr->List Value->String->Bool} (h:PySem.W.excIn.match_1 (fun _ _=>Bool) mro sl (fun C1 bm _ _ _ _ n _=>P C1 bm n) (fun _ _=>false)=true) :
  ExI mro sl P:=by
 cases mro with
 | nil=>exact mY h
 | cons v bm =>
 cases v with
 | ref C1 =>
  cases sl with
  | nil=>exact mY h
  | cons y0 sl =>
  cases sl with
  | nil=>exact mY h
  | cons y1 sl =>
  cases sl with
  | nil=>exact mY h
  | cons y2 sl =>
  cases sl with
  | nil=>exact mY h
  | cons y3 sl =>
  cases sl with
  | nil=>exact mY h
  | cons y4 sl =>
  cases y4 with
  | none=>exact mY h
  | some w =>
  cases w with
  | builtin n =>
   cases sl with
   | nil=>exact mY h
   | cons y5 sl =>
   cases sl with
   | cons z sl=>exact mY h
   | nil=>exact ⟨C1,bm,y0,y1,y2,y3,n,y5,rfl,rfl,h⟩
  | _=>exact mY h
 | _=>exact mY h
theorem CP {K:PySem.W.Frag} {C:Addr} (h:PySem.W.excIn K C bmV "ValueError.__new__" = true):RU K C:=by
 unfold PySem.W.excIn at h
 split at h
 ·rename_i dd cd sl lk
  obtain ⟨C1,bm,y0,y1,y2,y3,n,y5,e1,e2,h⟩:=MS h
  obtain ⟨a1,a2,a3,a4,a5,a6,a7,a8,a9,a10,a11⟩:=cd
  obtain ⟨sl⟩:=sl
  dsimp only at e1 e2 h
  subst e1 e2
  simp only [Bool.and_eq_true,beq_iff_eq,Bool.not_eq_true'] at h
  obtain ⟨⟨⟨⟨⟨g1,g2⟩,g3⟩,g4⟩,g5⟩,g6⟩:=h
  subst g1 g2 g3
  exact ⟨⟨a1,a5,a4,a2,bm,a6,a7,a8,a9,a10,dd,y0,y1,y2,y3,y5,lk,g4,g5,g6⟩⟩
 ·cases h
end
end L5
end
section
namespace L5
open PySem PySem.Spec PyProof.Rows L2 L3 L4 PySem.W
variable {K:PySem.W.Frag} {C D:Addr}
structure aJI (K:PySem.W.Frag) (C D:Addr):Prop where
 ne:(Value.ref C == Value.ref D)=false
 c:isClsIn K D=true
 t:typeIn K (.ref D)=some (.type "type")
 s:subIn K (.ref C) (.ref D)=some false
end L5
end
section
namespace L5
open PySem PySem.Spec PyProof.Rows L2 L3 L4
section
variable {X:Cx}
def PRs (X:Cx) (es:List Expr) (r:RF):Prop:=PA X es (fun σ H _=>tR X r σ H fun _ _=>True)
theorem GV {es:List Expr} {t t':TA} (h:PA X es t) (f:∀ σ H Q,t' σ H Q->t σ H Q):PA X es t':=fun pos pins s σ H Q I q=>h pos pins s σ H Q I (f σ H Q q)
theorem aAj {e:Expr} {es:List Expr} {r:RF} {t:AF} (he:PR X e r) (ha:xD X es t) (hs:starEach (e::es) X.env=(false,eval e X.env)::starEach es X.env:=by rfl):PRs X (e::es) r :=
 GV (iX he ha hs) fun σ H Q h=>h
theorem aD9 {es:List Expr} {r:RF} {x1} {pos:Pos} (h:PRs X es r):PR X (.Tuple es x1 pos) r:=imp (P2 h) fun σ H Q h=>h
end
end L5
end
section
namespace L5
open PySem PySem.Spec PyProof.Rows L2 L3 L4 Att
section
variable {X:Cx} {pins:List (Addr×Obj)} {σ:L2.St} {H:Hp} {s:Shared}
end
end L5
end
section
namespace L5
open PySem PySem.Spec PyProof.Rows L2 L3 L4
section
variable {X:Cx}
def aDa:F2
 | .lst a,.int n,Q=>a.length*n.toNat<=sizeLine /\ -(2 ^ 63)<=n/\n<2 ^ 63/\Q (.lst (List.replicate n.toNat a).flatten)
 | _,_,_=>False
theorem JV {K:PySem.W.Frag} {S:Addr->Prop} {H:Hp} {ds:List D} {xs:List V} (h:aQ K S H ds xs):∀ n:Nat,aQ K S H (List.replicate n ds).flatten (List.replicate n xs).flatten
 | 0=>aQ.nil
 | n+1=>by
  rw [List.replicate_succ,List.replicate_succ,List.flatten_cons,List.flatten_cons]
  exact h.append (JV h n)
theorem rep3 {a b:Expr} {pos:Pos} {ta tb:WE} (ha:cZ X a ta) (hb:cZ X b tb):D2 X (.BinOp a .Mult b pos) (gH aDa ta tb):=imp (PX aAA ha hb) fun σ H Q h=>by
 obtain ⟨S,ρ,Q3,fc,sl,ht,k⟩:=h
 refine ⟨S,ρ,_,fc,sl,ht,fun v H1 d s1 d1 q1=>?_⟩
 refine ⟨S,ρ,_,bH fc s1,Sl.fits (.same s1) sl,q1,fun u H2 d2 s2 d2' q2=>?_⟩
 cases d<;>cases d2<;>try exact q2.elim
 rename_i ds n
 simp only [Dn] at d1 d2'
 obtain ⟨a,xs,rfl,ha,sa,da⟩:=d1
 subst d2'
 have da':=aQ.fits (.same s2) _ _ da
 obtain ⟨z1,z2,z3,q3⟩:=q2
 refine ⟨a,n,xs,rfl,rfl,s2 _ _ ha,z2,z3,by rw [<- da.len]; exact z1,fun p hp=>k p _ _ _ ((s1.trans s2).free hp) bA ((s1.trans s2).trans (aM hp)) ?_ q3⟩
 exact aQ.fits ((Fits.fresh hp).trans (.same (aM hp))) _ _ (JV da' _)
theorem MT:Tells aDa repLM:=fun x y d Q e q=>by
 cases x<;>first | (cases e; done) | skip
 cases y<;>first | (cases e; done) | skip
 rename_i a n
 have e:(if a.length*n.toNat<=pX/\n.natAbs<9223372036854775808 then some (D.lst (List.replicate n.toNat a).flatten) else none)=some d:=e
 by_cases h:a.length*n.toNat<=pX/\n.natAbs<9223372036854775808
 ·rw [if_pos h] at e
  cases e
  exact ⟨by rw [sizeLine_eq]; exact h.1,by have:=h.2; omega,by have:=h.2; omega,q⟩
 ·rw [if_neg h] at e; cases e
theorem aDb {a b:Expr} {fa fb:EF} {pos:Pos} (ha:cP X a fa) (hb:cP X b fb):n6 X (.BinOp a .Mult b pos) (aE repLM fa fb):=cF (rep3 ha hb) (jQ MT)
theorem aDc {tg e:Expr} {f:XF} {g:IF} {pos:Pos} (he:ME X e f) (hg:VS X tg (wG g)) (hs:swapsWithSole [tg] e pos.line X.env=pure false:=by rfl) (hw:swappedStores [tg] e X.env=pure none:=by rfl)
  (h1:(assignEach [tg] X.env).map (·.2)=[assign tg X.env]:=by rfl):rO X (.Assign [tg] e pos) (KN f g) :=
 jY (PU he hg hs hw h1) fun B σ H aDd=>by
  obtain ⟨H₀,S,w,ρ,G,E,hl,st,ht,ok⟩:=aDd
  unfold wS KN at ht
  cases e1:(f ρ).bind fun p=>g p.2 p.1 with
  | none=>rw [e1] at ht; exact ht.elim
  | some ρ' =>
   rw [e1] at ht
   obtain ⟨p,ef,eg⟩:=bnd e1
   refine ⟨H₀,S,w,ρ,G,fun ρ2 d2=>ρ2=p.1/\d2=p.2,hl,st,⟨p,ef,rfl,rfl⟩,fun w' v H' ρ2 d2 st' d' q'=>?_⟩
   obtain ⟨rfl,rfl⟩:=q'
   exact ⟨H₀,S,w',p.1,G,p.2,_,hl,st',d',⟨ρ',eg,ht⟩,fun σ' H2 ρ3 hl' st2 q3=>ok.nx w' σ' H2 ρ3 hl' st2 q3⟩
end
section
variable {X:Cx}
section
variable {ls fs:List Str} {fr:List Nat} {sc:Scope} {tg iter elt:Expr} {ifs:List Expr} {pos:Pos} {i:Nat} {x:Str} {spos pos':Pos}
variable {it:AF} {g:FP} {t:TF} {e:EF}
end
end
section
variable {X:Cx}
theorem aAk {st:Stmt} {t:TS} (h:PS X.UT st t):PS X st t:=fun pins s σ H D I hw=>wpAny_mono (h pins s σ H D (I.wish fun _ _=>False) hw) (fun _ _ q=>SP.lJ q) fun _ _ z=>z.elim
theorem aDe {st:Stmt} {f:SF} (h:rO X.UT st f):rO X st (TJ f):=jY (aAk h) fun B σ H hq=>by
 obtain ⟨H₀,S,w,ρ,G,E,hl,sT,ht,ok⟩:=hq
 refine ⟨H₀,S,w,ρ,G,{ E with ex:=fun _=>False },hl,sT,?_,⟨ok.nx,ok.rt,ok.bk,ok.ct,fun _ _ _ q=>q.elim⟩⟩
 unfold wS TJ at ht
 unfold wS
 cases hf:f ρ with
 | nx ρ1=>rw [hf] at ht; exact ht
 | rt d=>rw [hf] at ht; exact ht
 | no=>rw [hf] at ht; exact ht
 | ex c=>rw [hf] at ht; exact ht.elim
end
end L5
end
section
namespace L6
open PySem PySem.Spec PyProof.Rows
def Up (l:List Nat):Prop:=l.Pairwise (·<·)
theorem RV (xs:Array Nat) (j:Nat) (up:Up xs.toList):∀ f lo hi,hi - lo<=f->lo<=hi->hi<=xs.size->(∀ i,i<lo->xs.getD i j<j)->(∀ i,hi<=i->i<xs.size->j<=xs.getD i j) ->
  SetTable.below.go xs j f lo hi<=xs.size/\(∀ i,i<SetTable.below.go xs j f lo hi->xs.getD i j<j) /\ ∀ i,SetTable.below.go xs j f lo hi<=i->i<xs.size->j<=xs.getD i j:=by
 have mono:∀ i k,i<=k->k<xs.size->xs.getD i j<=xs.getD k j:=fun i k hik hk=>by
  by_cases e:i=k
  ·subst e; exact Nat.le_refl _
  ·have h1:i<xs.size:=by omega
   have:=List.pairwise_iff_getElem.mp up i k (by simpa using h1) (by simpa using hk) (by omega)
   simp only [Array.getD,h1,hk,dif_pos]
   simpa using Nat.le_of_lt this
 intro f
 induction f with
 | zero =>
  intro lo hi h1 h2 h3 h4 h5
  have:lo=hi:=by omega
  subst this
  exact ⟨h3,h4,h5⟩
 | succ f ih =>
  intro lo hi h1 h2 h3 h4 h5
  unfold SetTable.below.go
  by_cases hl:lo<hi
  ·rw [if_pos hl]
   dsimp only
   by_cases hm:xs.getD ((lo+hi) / 2) j<j
   ·rw [if_pos hm]
    refine ih _ _ (by omega) (by omega) h3 (fun i hi'=>?_) h5
    exact Nat.lt_of_le_of_lt (mono i ((lo+hi) / 2) (by omega) (by omega)) hm
   ·rw [if_neg hm]
    refine ih _ _ (by omega) (by omega) (by omega) h4 fun i hi' hs=>?_
    exact Nat.le_trans (Nat.not_lt.mp hm) (mono _ i hi' hs)
  ·rw [if_neg hl]
   have:lo=hi:=by omega
   subst this
   exact ⟨h3,h4,h5⟩
theorem below_at {xs:Array Nat} (up:Up xs.toList) (j:Nat):SetTable.below xs j<=xs.size/\(∀ i,i<SetTable.below xs j->xs.getD i j<j) /\ ∀ i,SetTable.below xs j<=i->i<xs.size->j<=xs.getD i j :=
 RV xs j up _ _ _ (by omega) (by omega) (Nat.le_refl _) (fun i h=>by omega) fun i h1 h2=>by omega
theorem HI {xs:Array Nat} (up:Up xs.toList) {k p:Nat} (hk:xs[k]? = some p):SetTable.below xs (p+1)=k+1:=by
 obtain ⟨h1,h2,h3⟩:=below_at up (p+1)
 have hs:k<xs.size:=(Array.getElem?_eq_some_iff.mp hk).1
 have ek:xs.getD k (p+1)=p:=by rw [Array.getD_eq_getD_getElem?,hk]; rfl
 have a:¬ SetTable.below xs (p+1)<=k:=fun h=>by
  have:=h3 k h hs
  omega
 by_cases hn:k+1<SetTable.below xs (p+1)
 ·have h4:=h2 (k+1) hn
  have hs2:k+1<xs.size:=by omega
  have:=List.pairwise_iff_getElem.mp up k (k+1) (by simpa using hs) (by simpa using hs2) (by omega)
  have e2:xs.getD (k+1) (p+1)=xs[k+1]:=by simp [Array.getD,hs2]
  have e3:xs[k]=p:=by have:=Array.getElem?_eq_some_iff.mp hk; exact this.2
  simp only [Array.getElem_toList] at this
  omega
 ·omega
theorem EN {xs:Array Nat} (up:Up xs.toList):SetTable.below xs 0=0:=by
 obtain ⟨h1,h2,h3⟩:=below_at up 0
 by_cases h:SetTable.below xs 0=0
 ·exact h
 ·have:=h2 0 (by omega)
  omega
theorem yV {α:Type} (xs:Array α) (p:Nat) (x:α):(SetTable.insertAt xs p x).toList=xs.toList.take p++x::xs.toList.drop p:=by
 unfold SetTable.insertAt
 simp [Array.toList_extract,List.extract_eq_take_drop]
 refine List.take_of_length_le ?_; simp
theorem aAl {xs:Array Nat} (up:Up xs.toList) {j:Nat} (hj:xs[SetTable.below xs j]?≠some j):Up (SetTable.insertAt xs (SetTable.below xs j) j).toList:=by
 obtain ⟨h1,h2,h3⟩:=below_at up j
 rw [yV]
 unfold Up at *
 rw [List.pairwise_append]
 refine ⟨up.sublist (List.take_sublist ..),?_,fun a ha b hb=>?_⟩
 ·rw [List.pairwise_cons]
  refine ⟨fun b hb=>?_,up.sublist (List.drop_sublist ..)⟩
  obtain ⟨i,hi,e'⟩:=List.getElem_of_mem hb; have e:=e'
  rw [List.getElem_drop] at e
  have hs:SetTable.below xs j+i<xs.size:=by simp at hi; omega
  have h4:=h3 (SetTable.below xs j+i) (by omega) hs
  have e2:xs.getD (SetTable.below xs j+i) j=b:=by simp only [Array.getD,hs,dif_pos]; simpa using e
  rw [e2] at h4
  by_cases e3:b=j
  ·exfalso
   subst e3
   by_cases hi0:i=0
   ·subst hi0
    apply hj
    rw [Array.getElem?_eq_getElem (by simpa using hs)]
    simpa using e
   ·have hs0:SetTable.below xs b<xs.size:=by omega
    have q:=List.pairwise_iff_getElem.mp up (SetTable.below xs b) (SetTable.below xs b+i) (by simpa using hs0) (by simpa using hs) (by omega)
    have h5:=h3 (SetTable.below xs b) (Nat.le_refl _) hs0
    have e4:xs.getD (SetTable.below xs b) b=xs[SetTable.below xs b]:=by simp [Array.getD,hs0]
    rw [e] at q
    simp only [Array.getElem_toList] at q
    omega
  ·omega
 ·obtain ⟨i,hi,e⟩:=List.getElem_of_mem ha
  have hi2:i<SetTable.below xs j:=by simp at hi; omega
  have hs:i<xs.size:=by omega
  have h4:=h2 i hi2
  have e2:xs.getD i j=a:=by simp only [Array.getD,hs,dif_pos]; rw [<- e]; simp
  rw [e2] at h4
  rcases List.mem_cons.1 hb with hb | hb
  ·omega
  ·obtain ⟨k,hk,e5⟩:=List.getElem_of_mem hb
   rw [List.getElem_drop] at e5
   have hs2:SetTable.below xs j+k<xs.size:=by simp at hk; omega
   have q:=List.pairwise_iff_getElem.mp up i (SetTable.below xs j+k) (by simpa using hs) (by simpa using hs2) (by omega)
   rw [e5] at q
   have e6:xs.toList[i]=a:=by rw [<- e]; simp
   rw [e6] at q
   exact q
theorem RW (n:Nat):Up (Array.range n).toList:=by
 unfold Up
 rw [Array.toList_range]
 exact List.pairwise_lt_range
structure NT (led:Bool) (t:SetTable) (n:Nat):Prop where
 fit:t.fits n=true
 led:t.led=led
 no:t.dummies=#[]
 up:Up t.place.toList
theorem lT {led:Bool} {t:SetTable} (n:Nat) (h:t.led=led):NT led (t.standIn n) n:=by
 refine ⟨?_,h,rfl,RW n⟩
 unfold SetTable.fits SetTable.standIn SetTable.fill
 simp
 omega
theorem EO {t:SetTable} {h:Int} (hn:t.dummies=#[]) {f:Nat->Int}:∀ (k:Nat) (p:SetTable.Probe) {j:Nat} {d:Option Nat},p.dummy=none->SetTable.probe.go t f h k p=some (.empty j d)->d=none/\t.place[SetTable.below t.place j]?≠some j:=by
 intro k
 induction k with
 | zero=>intro p j d _ e; unfold SetTable.probe.go at e; cases e
 | succ k ih =>
  intro p j d hd e
  unfold SetTable.probe.go at e
  have adv:(t.advance p).dummy=none:=by unfold SetTable.advance; split<;>exact hd
  cases q:t.slot p.j with
  | empty =>
   rw [q] at e
   injection e with e
   injection e with e1 e2
   subst e1
   refine ⟨by rw [<- e2]; exact hd,fun z=>?_⟩
   unfold SetTable.slot at q
   dsimp only at q
   rw [z] at q
   simp at q
  | dummy =>
   exfalso
   unfold SetTable.slot at q
   dsimp only at q
   split at q
   ·cases q
   ·have:SetTable.has t.dummies p.j=false:=by rw [hn]; unfold SetTable.has; simp
    rw [this] at q
    cases q
  | live i =>
   rw [q] at e
   dsimp only at e
   split at e
   ·cases e
   ·exact ih _ adv e
theorem NT.layNew {led:Bool} {t:SetTable} {es:Array (Int×Value)} (h:NT led t es.size) (k:Int) (x:Value):NT led (layNew t es k x).2.1 (layNew t es k x).1.size:=by
 unfold PySem.layNew
 cases q:t.freeSlot k with
 | none =>
  dsimp only
  rw [Array.size_push]
  exact lT _ h.led
 | some r =>
  obtain ⟨slot,wd⟩:=r
  dsimp only
  unfold SetTable.freeSlot at q
  have hp:t.place[SetTable.below t.place slot]?≠some slot:=by
   unfold SetTable.probe at q
   split at q
   ·rename_i j d e
    obtain ⟨e1,e2⟩:=EO h.no _ _ rfl e
    subst e1
    cases q
    exact e2
   ·cases q
  have hd:SetTable.has t.dummies slot=false:=by rw [h.no]; simp [SetTable.has]
  have ep:t.put slot=({ t with place:=SetTable.insertAt t.place (SetTable.below t.place slot) slot },SetTable.below t.place slot):=by
   unfold SetTable.put
   rw [hd]
   rfl
  rw [ep]
  dsimp only
  unfold SetTable.orStandIn
  split
  ·rename_i hf
   exact ⟨hf,h.led,h.no,aAl h.up hp⟩
  ·exact lT _ h.led
theorem rB {β:Type} (f:Nat->Option β):∀ l:List Nat,Up l->Up ((l.filterMap fun j=>(f j).map (j,·)).map (·.1))
 | [],_=>by simp [Up]
 | a::l,h=>by
  have h':=List.pairwise_cons.1 h
  have ih:=rB f l h'.2
  rw [List.filterMap_cons]
  cases q:f a with
  | none=>exact ih
  | some b =>
   dsimp only [Option.map_some]
   rw [List.map_cons]
   refine List.pairwise_cons.mpr ⟨fun c hc=>?_,ih⟩
   obtain ⟨p,hp,e⟩:=List.mem_map.mp hc
   obtain ⟨j,hj,e2⟩:=List.mem_filterMap.mp hp
   cases q2:f j with
   | none=>rw [q2] at e2; cases e2
   | some b2 =>
    rw [q2] at e2
    cases e2
    rw [<- e]
    exact h'.1 j hj
theorem NT.aDf {led:Bool} {t:SetTable} {es:Array (Int×Value)} (h:NT led t es.size) (wanted:Nat):NT led (relayAll t es wanted).2.1 (relayAll t es wanted).1.size:=by
 unfold relayAll
 cases q:t.relaid (es.map (·.1)) wanted with
 | none=>exact lT _ h.led
 | some r =>
  obtain ⟨t',order⟩:=r
  dsimp only
  split
  ·rename_i hc
   rw [Bool.and_eq_true] at hc
   unfold SetTable.relaid SetTable.laid at q
   cases q2:SetTable.layClean (SetTable.sizeAbove wanted - 1) (es.map (·.1)) with
   | none=>rw [q2] at q; cases q
   | some owner =>
    rw [q2] at q
    cases q
    refine ⟨hc.2,h.led,rfl,?_⟩
    dsimp only
    exact rB _ _ List.pairwise_lt_range
  ·exact lT _ h.led
theorem RX (led:Bool):NT led (SetTable.fresh 0 0 led) 0:=⟨by rfl,rfl,rfl,List.Pairwise.nil⟩
def pL (e:Int×Value):Int:=match e.2 with
 | .int m _=>m
 | _=>0
def ER (e:Int×Value):Prop:=∃ m t,e=(hashInt m,Value.int m t)
def oF (led:Bool) (o:Obj) (ns:List Int):Prop:=∃ es ep t,o.ExactSet/\o.data=.set es ep t/\(∀ e∈es.toList,ER e)/\(es.toList.map pL).Perm ns/\NT led t es.size/\es.size<scanBound
def HJ (ns:List Int) (k:Int):List Int:=if k∈ns then ns else ns++[k]
theorem RY (prog:Program) (w:World) {l:List (Int×Value)} (h:∀ e∈l,ER e):ElemsOf (intKind prog w) l:=fun e he=>by
 obtain ⟨m,t,rfl⟩:=h e he
 exact ⟨⟨m,intKind_is prog w m t,rfl⟩,rfl⟩
theorem RZ (prog:Program) (w:World) {e:Int×Value} (h:ER e) (k:Int):(intKind prog w).is k e.2=decide (k=pL e):=by
 obtain ⟨m,t,rfl⟩:=h
 exact KeyKind.is_eq_decide (intKind_is prog w m t) k
section
variable {prog:Program} {w:World} {A:Around} {E:Value->Shared->Prop} {s:Shared}
theorem stored {a:Addr} {o:Obj} {es es':Array (Int×Value)} {ep:Nat} {t t':SetTable} (ho:s.heap.get? a=some o) (hd:o.data=.set es ep t) :
  (s.heap.update a (Obj.putSet es' t')).get? a=some { o with data:=.set es' (ep+1) t' }:=by
 have q:=Heap.get?_update_self (Obj.putSet es' t') ho (by rw [putSet_of es' t' hd]; rfl)
 rwa [putSet_of es' t' hd] at q
theorem add_int {a:Addr} {o:Obj} {ns:List Int} {k:Int} {tk:Tok} {led:Bool} {Q:Bool->Shared->Prop} (ho:s.heap.get? a=some o) (hi:oF led o ns) (hb:ns.length+1<scanBound)
  (h:∀ h' o' b,Heap.SameBut a s.heap h'->h'.get? a=some o'->oF led o' (HJ ns k)->Q b { s with heap:=h',toks:=s.toks+1 }):wpAny (model prog w) A (setAdd a (.int k tk)) Q E s:=by
 obtain ⟨es,ep,t,hx,hd,hE,hp,hT,hs⟩:=hi
 have hel:=RY prog w hE
 have calm:∀ (b:Bool) (s1:Shared) (Q1:Unit->Shared->Prop),Q1 () s1->wpAny (model prog w) A (match b with | true=>rule "set.scan.the-table-gave-way" | false=>pure ()) Q1 E s1:=fun b s1 Q1 q=>by
  cases b
  ·exact wpAny_pure q
  ·exact wpAny_rule q
 have hk:=intKind_is prog w k tk
 unfold setAdd
 refine wpAny_holding (wpAny_bind ((intKind prog w).pyHash hk ?_))
 unfold setAddHashed setAddHashedIn setAddByScan
 refine wpAny_holding (wpAny_bind (wpAny_setState_of (s:={ s with toks:=s.toks+1 }) ho hd hT.fit ?_))
 dsimp only
 rw [if_pos (byScan_of (x:=.int k tk) rfl hs hel)]
 refine wpAny_bind (wpAny_bind (wpAny_rule (wpAny_bind (wpAny_setScan_of (s:={ s with toks:=s.toks+1 }) hk ho hd hT.fit hel ?_))))
 cases hf:es.toList.findIdx? (fun e=>(intKind prog w).is k e.2) with
 | some j =>
  obtain ⟨hj,e,_⟩:=List.findIdx?_eq_some_iff_getElem.1 hf
  have hm:=List.getElem_mem hj
  rw [RZ prog w (hE _ hm),decide_eq_true_eq] at e
  have kn:k∈ns:=hp.mem_iff.1 (e▸List.mem_map_of_mem hm)
  apply wpAny_pure; apply wpAny_pure
  refine h s.heap o false (Heap.SameBut.refl ..) ho ?_
  rw [HJ,if_pos kn]
  exact ⟨es,ep,t,hx,hd,hE,hp,hT,hs⟩
 | none =>
  have kn:k∉ns:=fun z=>by
   obtain ⟨e,he,ee⟩:=List.mem_map.1 (hp.mem_iff.2 z)
   have q:=List.findIdx?_eq_none_iff.1 hf e he
   rw [RZ prog w (hE e he),ee] at q
   simp at q
  dsimp only
  have p1:=layNew_perm t es (hashInt k) (.int k tk)
  have t1:=hT.layNew (hashInt k) (.int k tk)
  show wpAny _ _ _ _ _ _
  have eh:(intKind prog w).hash k=hashInt k:=rfl
  rw [eh]
  generalize layNew t es (hashInt k) (.int k tk)=L at p1 t1 ⊢
  obtain ⟨es1,tb,wd,gv⟩:=L
  rw [Array.toList_push] at p1
  dsimp only at p1 t1 ⊢
  have e1:∀ e∈es1.toList,ER e:=fun e he=>by
   rcases List.mem_append.1 (p1.mem_iff.1 he) with z | z
   ·exact hE e z
   ·exact ⟨k,tk,List.mem_singleton.1 z⟩
  have n1:(es1.toList.map pL).Perm (ns++[k]):=(p1.map pL).trans (by rw [List.map_append]; exact hp.append_right _)
  have l1:es1.size=ns.length+1:=by have q:=n1.length_eq; simpa using q
  have z1:es1.size<scanBound:=by omega
  have fin:∀ h' o',Heap.SameBut a s.heap h'->h'.get? a=some o'->oF led o' (ns++[k])->Q true { s with heap:=h',toks:=s.toks+1 }:=fun h' o' q1 q2 q3=>h h' o' true q1 q2 (by rw [HJ,if_neg kn]; exact q3)
  have tail:∀ tb2:SetTable,NT led tb2 es1.size->wpAny (model prog w) A (do
    storeSet a es1 tb2
    if (!wd&&tb2.tooFull)=true then do
      (match (relayAll tb2 es1 (SetTable.grown es1.size)).2.2 with | true=>rule "set.scan.the-table-gave-way" | false=>pure ())
      storeSet a (relayAll tb2 es1 (SetTable.grown es1.size)).1 (relayAll tb2 es1 (SetTable.grown es1.size)).2.1
      pure (some true)
     else pure (some true)) (fun r s'=>wpAny (model prog w) A (match r with | some added=>pure added | none=>setAddHashedIn a (.int k tk) (hashInt k) 99999) Q E s') E { s with toks:=s.toks+1 }:=fun tb2 t2=>by
   refine wpAny_bind (wpAny_storeSet_of (s:={ s with toks:=s.toks+1 }) ho hd ?_ (fits_of_scanBound z1))
   have g1:=stored (es':=es1) (t':=tb2) ho hd
   have i1:oF led { o with data:=.set es1 (ep+1) tb2 } (ns++[k]):=⟨es1,ep+1,tb2,hx,rfl,e1,n1,t2,z1⟩
   split
   ·have p2:=relayAll_perm tb2 es1 (SetTable.grown es1.size)
    have t3:=t2.aDf (SetTable.grown es1.size)
    generalize relayAll tb2 es1 (SetTable.grown es1.size)=L at p2 t3 ⊢
    obtain ⟨es2,tc,gv2⟩:=L
    dsimp only at p2 t3 ⊢
    have l2:es2.size=es1.size:=by have q:=p2.length_eq; simpa using q
    refine wpAny_bind (calm gv2 _ _ (wpAny_bind (wpAny_storeSet_of (s:={ s with heap:=s.heap.update a (Obj.putSet es1 tb2),toks:=s.toks+1 }) g1 rfl (wpAny_pure (wpAny_pure ?_)) (fits_of_scanBound (by omega)))))
    exact fin _ _ ((Heap.SameBut.update ..).trans (Heap.SameBut.update ..)) (stored (s:={ s with heap:=s.heap.update a (Obj.putSet es1 tb2) }) g1 rfl) ⟨es2,_,tc,hx,rfl,fun e he=>e1 e (p2.mem_iff.1 he),(p2.map pL).trans n1,t3,by omega⟩
   ·exact wpAny_pure (wpAny_pure (fin _ _ (Heap.SameBut.update ..) g1 i1))
  refine wpAny_bind (calm gv _ _ ?_)
  split
  ·apply wpAny_bind; apply wpAny_pure
   exact tail _ t1
  ·apply wpAny_bind; apply wpAny_pure
   exact tail _ t1
end
def gK:List Int->List Int->List Int
 | ns,[]=>ns
 | ns,k::r=>gK (HJ ns k) r
def eJ (w:World):Bool:=!(w.params.followText "set-order")
def jR (led:Bool):Obj:={ cls:=.type "set",dict:=none,data:=.set #[] 0 (.fresh 0 0 led) }
theorem MU (led:Bool):oF led (jR led) []:=⟨#[],0,.fresh 0 0 led,⟨rfl,rfl,rfl⟩,rfl,fun e he=>by simp at he,List.Perm.nil,RX led,by decide⟩
theorem ES (ns:List Int) (k:Int):(HJ ns k).length<=ns.length+1:=by
 unfold HJ
 split
 ·omega
 ·simp
section
variable {prog:Program} {w:World} {A:Around} {E:Value->Shared->Prop} {s:Shared}
theorem R1 {I S t:Addr} {items:Array Value} {ns:List Int} {led:Bool} {R:Result->Shared->Prop} (hh:A.handled=none) (hi:IntsAre items.toList ns) (hI:t≠I) (hSI:S≠I) (hSt:S≠t) (hb:ns.length+1<scanBound) :
  ∀ (r:List Int) (i:Nat) (s:Shared) (ms:List Int) (o:Obj),r=ns.drop i->i<=ns.length->s.heap.IsTupleIter I t i->s.heap.IsTuple t items->s.heap.get? S=some o->oF led o ms->ms.length<=i ->
   (∀ h' tk o',(∀ b u,b≠S->b≠I->s.heap.get? b=some u->h'.get? b=some u)->h'.get? S=some o'->oF led o' (gK ms r)->R (.ok (.ret .none)) { s with heap:=h',toks:=tk })->codeAny (model prog w) A (.builtin "set.update.loop" ⟨[.ref S,.ref I],[]⟩) R s:=by
 have W:=Walks.tuple (prog:=prog) (w:=w) (A:=A.in1) hh I t hI items
 have hn:items.size=ns.length:=by have q:=IntsAre.length hi; simpa using q
 intro r
 induction r with
 | nil =>
  intro i s ms o er hil it tp ho hS _ fin
  have e:i=items.size:=by
   have q:=congrArg List.length er
   rw [List.length_drop,List.length_nil] at q
   omega
  subst e
  apply codeAny_builtin F.entry_set_update_loop
  rw [Around.under_plainId F.plain_set_update_loop]
  unfold Builtin.«set.update.loop»
  refine wpAny_bind (W.done s _ _ ⟨it,tp⟩ fun h' tk keep=>wpAny_pure ?_)
  exact fin h' tk o (fun b u h1 h2 e=>keep b u (by simpa using h2) e) (keep S o (by simpa using hSI) ho) hS
 | cons k r ih =>
  intro i s ms o er hil it tp ho hS hm fin
  have hlt:i<ns.length:=by
   have q:=congrArg List.length er
   rw [List.length_drop,List.length_cons] at q
   omega
  have ek:ns[i]? = some k:=by
   have q:(ns.drop i)[0]? = some k:=by rw [<- er]; rfl
   rwa [List.getElem?_drop,Nat.add_zero] at q
  apply codeAny_builtin F.entry_set_update_loop
  rw [Around.under_plainId F.plain_set_update_loop]
  unfold Builtin.«set.update.loop»
  refine wpAny_bind (W.item i s _ _ (by omega) ⟨it,tp⟩ fun v h1 tk hv st keep=>?_)
  obtain ⟨t1,rfl⟩:=IntsAre.int_at hi i v (by rw [Array.getElem?_toList]; exact hv)
  have e2:ns.getD i 0=k:=by rw [List.getD_eq_getElem?_getD,ek]; rfl
  rw [e2]
  refine wpAny_bind (wpAny_holding (add_int (s:={ s with heap:=h1,toks:=tk }) (keep S o (by simpa using hSI) ho) hS (by omega) fun h2 o2 _ sb g2 i2=>wpAny_pure ⟨plainId_quiet F.plain_set_update_loop _,?_⟩))
  have it2:h2.IsTupleIter I t (i+1):=st.1.at fun o e=>by rw [sb.2 I (Ne.symm hSI)]; exact e
  have tp2:h2.IsTuple t items:=st.2.at fun o e=>by rw [sb.2 t (Ne.symm hSt)]; exact e
  refine ih (i+1) { s with heap:=h2,toks:=tk+1 } _ o2 ?_ (by omega) it2 tp2 g2 i2 (Nat.le_trans (ES ms k) (by omega)) fun h3 tk3 o3 k3 g3 i3=>fin h3 tk3 o3 (fun b u n1 n2 e=>k3 b u n1 n2 ?_) g3 i3
  ·have q:=congrArg List.tail er
   rw [List.tail_drop] at q
   exact q
  ·show h2.get? b=some u
   rw [sb.2 b n1]
   exact keep b u (by simpa using n2) e
theorem WD (x:Value):MeetsIn prog w (Builtin.«set.__new__» ⟨[.type "set",x],[]⟩) (fun _ R s=>R (.ok (.ret (.ref s.heap.objs.size))) { s with heap:=s.heap.push (jR (eJ w)) }):=by
 refine .of_wp fun A R s h=>?_
 have hs:=sub_set_self
 unfold Builtin.«set.__new__» Builtin.Frozenset.newClass newSet setsByText
 wp_walk
 apply wpAny_askSetting; apply wpAny_pure
 dsimp only
 simp only [newObj]
 exact wpAny_bind (wpAny_alloc (wpAny_pure (wpAny_pure ⟨_,rfl,h⟩)))
theorem R3 {S t:Addr} {items:Array Value} {ns:List Int} {led:Bool} (hi:IntsAre items.toList ns) (hSt:S≠t) (hb:ns.length+1<scanBound) :
  MeetsIn prog w (Builtin.«set.__init__» ⟨[.ref S,.ref t],[]⟩) (fun A R s=>A.handled=none/\s.heap.IsTuple t items/\s.heap.get? S=some (jR led) /\
   ∀ h' tk o',(∀ b u,b≠S->b<s.heap.objs.size->s.heap.get? b=some u->h'.get? b=some u)->h'.get? S=some o'->oF led o' (gK [] ns)->R (.ok (.ret .none)) { s with heap:=h',toks:=tk }):=by
 refine .of_wp fun A R s h=>?_
 obtain ⟨hh,tp,hS,h⟩:=h
 have T1:s.TypeIs (.ref S) "set" := ⟨_,hS,rfl⟩
 have T2:=tp.typeIs
 have s1:=F.sub_tuple_set
 have s2:=F.sub_tuple_frozenset
 obtain ⟨ot,hot,hct,nt,hdt⟩:=id tp
 unfold Builtin.«set.__init__»
 unfold noKeywords Builtin.Frozenset.updateFrom
 generalize hP:pyIter=P
 wp_walk
 subst hP
 have lS:S<s.heap.objs.size:=Heap.lt_size hS
 have lt:t<s.heap.objs.size:=Heap.lt_size hot
 refine wpAny_pyIter_tuple tp (wpAny_bind (wpAny_runValue ?_))
 refine R1 (A:=A.in1) (t:=t) (S:=S) hh hi (Nat.ne_of_lt lt) (Nat.ne_of_lt lS) hSt hb ns 0 _ [] (jR led) rfl (Nat.zero_le _) ⟨_,Heap.get?_push_size _ rfl,rfl,rfl⟩ (tp.push _) (Heap.get?_push_of_some _ hS) (MU led) (Nat.le_refl _) fun h' tk o' keep g i=>?_
 exact wpAny_pure (wpAny_pure ⟨_,rfl,h h' tk o' (fun b u n1 l e=>keep b u n1 (Nat.ne_of_lt l) (Heap.get?_push_of_some _ e)) g i⟩)
theorem R4 {t:Addr} {items:Array Value} {ns:List Int} {Q:Value->Shared->Prop} (hh:A.handled=none) (hi:IntsAre items.toList ns) (tp:s.heap.IsTuple t items) (hb:ns.length+1<scanBound)
  (h:∀ h' tk o',(∀ b u,s.heap.get? b=some u->h'.get? b=some u)->h'.get? s.heap.objs.size=some o'->oF (eJ w) o' (gK [] ns)->Q (.ref s.heap.objs.size) { s with heap:=h',toks:=tk }) :
  wpAny (model prog w) A (call (.type "set") [.ref t]) Q E s:=by
 obtain ⟨c,tl,m1⟩:=F.called_set.mro
 have m2:=F.called_set.made
 have m3:=F.called_set.sub
 have m4:=F.called_set.notType
 have m5:=F.called_set.canCreate
 have m6:=F.typeCall_set_1 (.ref t)
 obtain ⟨ot,hot,_⟩:=id tp
 have lt:t<s.heap.objs.size:=Heap.lt_size hot
 refine wpAny_call (codeAny_of_tree (wpAny_pure ⟨Code.quiet_builtin _ (by decide +kernel),codeAny_builtin F.entry_type_call ?_⟩))
 rw [Around.under_plain (weight_type_call_type ..) (units_type_call_type ..)]
 wp_walk
 have c1:codeAny (model prog w) A.in1 (.call (.builtin "set.__new__") ⟨[.type "set",.ref t],[]⟩) (fun r s1=>r=.ok (.ret (.ref s.heap.objs.size))/\s1={ s with heap:=s.heap.push (jR (eJ w)) }) s :=
  codeAny_call_builtin F.plain_set_new F.entry_set_new (wpAny_of_eq (F.newCall_set_1 _) (WD (.ref t) A.in1 (fun r s1=>r=.ok (.ret (.ref s.heap.objs.size))/\s1={ s with heap:=s.heap.push (jR (eJ w)) }) s ⟨rfl,rfl⟩))
 refine codeAny_mono c1 fun r s1 hr=>?_
 obtain ⟨rfl,rfl⟩:=hr
 dsimp only
 have g1:(s.heap.push (jR (eJ w))).get? s.heap.objs.size=some (jR (eJ w)):=Heap.get?_push_size _ rfl
 have T1:Shared.TypeIs { s with heap:=s.heap.push (jR (eJ w)) } (.ref s.heap.objs.size) "set" := ⟨_,g1,rfl⟩
 have m7:=F.called_set.init.lookup
 have m8:=F.called_set.init.bind (.ref s.heap.objs.size)
 wp_walk
 have c2:codeAny (model prog w) A.in1 (.call (.builtin "set.__init__") ⟨[.ref s.heap.objs.size,.ref t],[]⟩) (fun r s2=>∃ h' tk o',r=.ok (.ret .none)/\s2={ s with heap:=h',toks:=tk } /\
   (∀ b u,s.heap.get? b=some u->h'.get? b=some u)/\h'.get? s.heap.objs.size=some o'/\oF (eJ w) o' (gK [] ns)) { s with heap:=s.heap.push (jR (eJ w)) } :=
  codeAny_call_builtin F.called_set.init.plain F.entry_set_init (check_set_init_1 T1 (R3 (led:=eJ w) hi (Nat.ne_of_gt lt) hb A.in1 (fun r s2=>∃ h' tk o',r=.ok (.ret .none)/\s2={ s with heap:=h',toks:=tk } /\
   (∀ b u,s.heap.get? b=some u->h'.get? b=some u)/\h'.get? s.heap.objs.size=some o'/\oF (eJ w) o' (gK [] ns)) { s with heap:=s.heap.push (jR (eJ w)) } ⟨hh,tp.push _,g1,fun h' tk o' keep g i =>
    ⟨h',tk,o',rfl,rfl,fun b u e=>keep b u (Nat.ne_of_lt (Heap.lt_size e)) (by rw [Heap.size_push]; exact Nat.lt_succ_of_lt (Heap.lt_size e)) (Heap.get?_push_of_some _ e),g,i⟩⟩))
 refine codeAny_mono c2 fun r s2 hr=>?_
 obtain ⟨h',tk,o',rfl,rfl,keep,g,i⟩:=hr
 refine wpAny_pure ?_
 dsimp only
 rw [if_neg (by decide)]
 exact wpAny_pure (h h' tk o' keep g i)
end
namespace Si
theorem slot_next:Slot "set_iterator" "__next__" "set_iterator.__next__" := Slot.of (owner := "set_iterator") (n := "__next__") (by rw [typeLookup_type,builtinLookup_eq_fast]; kernel_rfl) (by decide +kernel) (by decide +kernel) (by decide +kernel) (Or.inl (by decide +kernel)) (by rw [isSubtype_type]; kernel_rfl)
theorem AU:Slot "set_iterator" "__iter__" "set_iterator.__iter__" := Slot.of (owner := "set_iterator") (n := "__iter__") (by rw [typeLookup_type,builtinLookup_eq_fast]; kernel_rfl) (by decide +kernel) (by decide +kernel) (by decide +kernel) (Or.inl (by decide +kernel)) (by rw [isSubtype_type]; kernel_rfl)
theorem entry_next:entryFor table "set_iterator.__next__" = some Builtin.«set_iterator.__next__»:=entryFor_of_tree (by kernel_rfl)
theorem args_next (a:Value):argsOk "set_iterator.__next__" ⟨[a],[]⟩:=by unfold argsOk; kernel_rfl
theorem MV (a:Value):argsOk "set_iterator.__iter__" ⟨[a],[]⟩:=by unfold argsOk; kernel_rfl
theorem HK:entryFor table "set_iterator.__iter__" = some Builtin.«dict_keyiterator.__iter__» :=
 entryFor_alias (id' := "dict_keyiterator.__iter__") (by kernel_rfl) (by decide +kernel) (by decide +kernel) (by kernel_rfl)
theorem xM:entryFor table "set.__iter__" = some Builtin.«frozenset.__iter__» :=
 entryFor_alias (id' := "frozenset.__iter__") (by kernel_rfl) (by decide +kernel) (by decide +kernel) (by kernel_rfl)
end Si
def pM (h:Heap) (I S:Addr) (f:Value) (i n ep:Nat):Prop:=∃ o,h.get? I=some o/\o.cls=.type "set_iterator" /\ o.data=.fields #[f,rawInt i,.ref S,rawInt n,rawInt ep]
section
variable {prog:Program} {w:World} {A:Around} {E:Value->Shared->Prop} {s:Shared}
theorem pM.typeIs {I S:Addr} {f:Value} {i n ep:Nat} (x:pM s.heap I S f i n ep):s.TypeIs (.ref I) "set_iterator" := let ⟨o,ho,hc,_⟩:=x; ⟨o,ho,hc⟩
theorem n8 {b:Bool} {Q:Bool->Shared->Prop} (hb:w.params.followText "set-order" = b) (h:Q b s):wpAny (model prog w) A setsByText Q E s:=by
 unfold setsByText
 refine wpAny_bind (wpAny_askSetting (wpAny_pure ?_))
 rw [<- hb] at h
 exact h
theorem oQ {S:Addr} {o:Obj} {es:Array (Int×Value)} {ep i q:Nat} {t:SetTable} {Q:Option (Value×Nat)->Shared->Prop} (hw:eJ w=true) (ho:s.heap.get? S=some o) (hd:o.data=.set es ep t) (hT:NT true t es.size)
  (hp:¬ (!t.plain&&es.size>1)=true) (hq:SetTable.below t.place q=i) (h:Q (match es[i]?,t.place[i]? with | some (_,x),some j=>some (x,j+1) | _,_=>none) s) (k:Nat):wpAny (model prog w) A (setNext S q k ep) Q E s:=by
 have hb:w.params.followText "set-order" = false:=by unfold eJ at hw; simpa using hw
 unfold setNext
 refine wpAny_bind (wpAny_setState_of ho hd hT.fit ?_)
 dsimp only
 refine wpAny_bind (n8 hb ?_)
 rw [if_neg (by decide)]
 split
 ·rename_i z
  exact absurd z hp
 refine wpAny_bind ?_
 show wpAny _ _ (if (!t.led && !es.isEmpty)=true then unsupported "set:maker-not-led" else pure ()) _ _ _
 rw [hT.led,if_neg (by simp)]
 refine wpAny_pure ?_
 rw [hq]
 exact wpAny_pure h
theorem ET {I S:Addr} {o:Obj} {es:Array (Int×Value)} {ep i q:Nat} {t:SetTable} {v:Value} {p:Nat} {Q:Option Value->Shared->Prop} (ho:s.heap.get? S=some o) (hd:o.data=.set es ep t) (hf:t.fits es.size=true) (it:pM s.heap I S (rawInt q) i es.size ep)
  (hN:∀ (Q1:Option (Value×Nat)->Shared->Prop) (E1:Value->Shared->Prop),Q1 (some (v,p)) s->wpAny (model prog w) A.in1 (setNext S q i ep) Q1 E1 s)
  (hQ:∀ h',pM h' I S (rawInt p) (i+1) es.size ep->Heap.SameBut I s.heap h'->Q (some v) { s with heap:=h' }):wpAny (model prog w) A (pyNext (.ref I)) Q E s:=by
 have tn:=it.typeIs
 obtain ⟨oi,hoi,hci,hdi⟩:=it
 unfold pyNext
 refine wpAny_bind (wpAny_attempt (wpAny_callSpecial?_slot (name:=Str.ofString "__next__") tn Si.slot_next (wpAny_call_entry Si.slot_next tn Si.entry_next ?_ (Si.args_next _))))
 unfold Builtin.«set_iterator.__next__»
 wp_walk
 rw [hdi]
 refine wpAny_pure ?_
 dsimp only [rawInt]
 refine wpAny_bind (wpAny_setEntries_of ho hd hf ?_)
 rw [if_neg (by simp)]
 refine wpAny_bind (hN _ _ ?_)
 dsimp only
 refine wpAny_bind (wpAny_setField hoi hdi (by simp) ?_)
 have g1:=Heap.get?_update_self (Obj.mapFields (·.setIfInBounds 0 (Value.int (p:Int) 0))) hoi (Obj.isFreed_of_fields (Obj.data_mapFields hdi _))
 refine wpAny_bind (wpAny_setField (s:={ s with heap:=s.heap.update I (Obj.mapFields (·.setIfInBounds 0 (Value.int (p:Int) 0))) }) g1 (Obj.data_mapFields hdi _) (by simp) (wpAny_pure ⟨_,rfl,wpAny_pure (hQ _ ⟨_,Heap.get?_update_self _ g1 (Obj.isFreed_of_fields (Obj.data_mapFields (Obj.data_mapFields hdi _) _)),?_,?_⟩ ((Heap.SameBut.update ..).trans (Heap.SameBut.update ..)))⟩))
 ·exact (Obj.cls_mapFields ..).trans ((Obj.cls_mapFields ..).trans hci)
 ·rw [Obj.data_mapFields (Obj.data_mapFields hdi _)]
  simp [rawInt]
theorem AV {I S:Addr} {o:Obj} {es:Array (Int×Value)} {ep i q:Nat} {t:SetTable} {Q:Option Value->Shared->Prop} (hh:A.handled=none) (ho:s.heap.get? S=some o) (hd:o.data=.set es ep t) (hf:t.fits es.size=true) (it:pM s.heap I S (rawInt q) i es.size ep)
  (hN:∀ (Q1:Option (Value×Nat)->Shared->Prop) (E1:Value->Shared->Prop),Q1 none s->wpAny (model prog w) A.in1 (setNext S q i ep) Q1 E1 s)
  (hQ:∀ h',Heap.ExtBut I s.heap h'->Q none { s with heap:=h' }):wpAny (model prog w) A (pyNext (.ref I)) Q E s:=by
 have tn:=it.typeIs
 have hA:A.in1.handled=none:=hh
 obtain ⟨oi,hoi,hci,hdi⟩:=it
 unfold pyNext
 refine wpAny_bind (wpAny_attempt (wpAny_callSpecial?_slot (name:=Str.ofString "__next__") tn Si.slot_next (wpAny_call_entry Si.slot_next tn Si.entry_next ?_ (Si.args_next _))))
 unfold Builtin.«set_iterator.__next__»
 wp_walk
 rw [hdi]
 refine wpAny_pure ?_
 dsimp only [rawInt]
 refine wpAny_bind (wpAny_setEntries_of ho hd hf ?_)
 rw [if_neg (by simp)]
 refine wpAny_bind (hN _ _ ?_)
 dsimp only
 wp_walk using wpAny_setField hoi hdi (by simp)
 unfold raiseNew
 apply wpAny_bind
 apply wpAny_handled
 rw [hA]
 refine wpAny_bind (wpAny_pure (wpAny_throw (wpAny_bind ?_)))
 refine wpAny_isInstance (b:=true) (T := "StopIteration") ?_ isSubtype_stop ?_
 ·exact ⟨_,Heap.get?_push_size _ rfl,rfl⟩
 apply wpAny_pure
 apply hQ
 exact ((Heap.SameBut.update ..).extBut.push _).push _
theorem R5 {I S T:Addr} {o:Obj} {es:Array (Int×Value)} {ep i j:Nat} {t:SetTable} {v:Value} {hv:Int} {ps:Array Value} {Q:Option Value->Shared->Prop} (ho:s.heap.get? S=some o) (hd:o.data=.set es ep t) (hf:t.fits es.size=true) (it:pM s.heap I S (.ref T) i es.size ep)
  (ht:s.heap.IsTuple T ps) (hp:ps[i]? = some (rawInt j)) (he:es[j]? = some (hv,v))
  (hQ:∀ h',pM h' I S (.ref T) (i+1) es.size ep->Heap.SameBut I s.heap h'->Q (some v) { s with heap:=h' }):wpAny (model prog w) A (pyNext (.ref I)) Q E s:=by
 have tn:=it.typeIs
 obtain ⟨oi,hoi,hci,hdi⟩:=it
 obtain ⟨oT,hoT,_,nT,hdT⟩:=ht
 unfold pyNext
 refine wpAny_bind (wpAny_attempt (wpAny_callSpecial?_slot (name:=Str.ofString "__next__") tn Si.slot_next (wpAny_call_entry Si.slot_next tn Si.entry_next ?_ (Si.args_next _))))
 unfold Builtin.«set_iterator.__next__»
 wp_walk
 rw [hdi]
 refine wpAny_pure ?_
 dsimp only [rawInt]
 refine wpAny_bind (wpAny_setEntries_of ho hd hf ?_)
 rw [if_neg (by simp)]
 unfold seqItems?
 refine wpAny_bind (wpAny_bind (wpAny_load hoT ?_))
 rw [hdT]
 refine wpAny_pure ?_
 have e1:ps[((i:Nat):Int).toNat]? = some (.int (j:Int) 0):=hp
 dsimp only
 rw [e1]
 dsimp only
 unfold setNextDrawn
 refine wpAny_bind (wpAny_bind (wpAny_setState_of ho hd hf ?_))
 dsimp only
 rw [if_neg (by simp)]
 have e2:es[((j:Nat):Int).toNat]? = some (hv,v):=he
 rw [e2]
 refine wpAny_pure ?_
 refine wpAny_bind (wpAny_setField hoi hdi (by simp) (wpAny_pure ⟨_,rfl,wpAny_pure (hQ _ ⟨_,Heap.get?_update_self _ hoi (Obj.isFreed_of_fields (Obj.data_mapFields hdi _)),?_,?_⟩ (Heap.SameBut.update ..))⟩))
 ·exact (Obj.cls_mapFields ..).trans hci
 ·rw [Obj.data_mapFields hdi]
  simp [rawInt]
theorem MW {I S T:Addr} {o:Obj} {es:Array (Int×Value)} {ep i:Nat} {t:SetTable} {ps:Array Value} {Q:Option Value->Shared->Prop} (hh:A.handled=none) (ho:s.heap.get? S=some o) (hd:o.data=.set es ep t) (hf:t.fits es.size=true) (it:pM s.heap I S (.ref T) i es.size ep)
  (ht:s.heap.IsTuple T ps) (hp:ps[i]? = none) (hQ:∀ h',Heap.ExtBut I s.heap h'->Q none { s with heap:=h' }):wpAny (model prog w) A (pyNext (.ref I)) Q E s:=by
 have tn:=it.typeIs
 have hA:A.in1.handled=none:=hh
 obtain ⟨oi,hoi,hci,hdi⟩:=it
 obtain ⟨oT,hoT,_,nT,hdT⟩:=ht
 unfold pyNext
 refine wpAny_bind (wpAny_attempt (wpAny_callSpecial?_slot (name:=Str.ofString "__next__") tn Si.slot_next (wpAny_call_entry Si.slot_next tn Si.entry_next ?_ (Si.args_next _))))
 unfold Builtin.«set_iterator.__next__»
 wp_walk
 rw [hdi]
 refine wpAny_pure ?_
 dsimp only [rawInt]
 refine wpAny_bind (wpAny_setEntries_of ho hd hf ?_)
 rw [if_neg (by simp)]
 unfold seqItems?
 refine wpAny_bind (wpAny_bind (wpAny_load hoT ?_))
 rw [hdT]
 refine wpAny_pure ?_
 have e1:ps[((i:Nat):Int).toNat]? = none:=hp
 dsimp only
 rw [e1]
 dsimp only
 wp_walk using wpAny_setField hoi hdi (by simp),wpAny_setField (Heap.get?_update_self _ hoi (Obj.isFreed_of_fields (Obj.data_mapFields hdi _))) (Obj.data_mapFields hdi _) (by simp)
 unfold raiseNew
 apply wpAny_bind
 apply wpAny_handled
 rw [hA]
 refine wpAny_bind (wpAny_pure (wpAny_throw (wpAny_bind ?_)))
 refine wpAny_isInstance (b:=true) (T := "StopIteration") ?_ isSubtype_stop ?_
 ·exact ⟨_,Heap.get?_push_size _ rfl,rfl⟩
 apply wpAny_pure
 apply hQ
 exact (((Heap.SameBut.update ..).trans (Heap.SameBut.update ..)).extBut.push _).push _
end
end L6
end
section
namespace L6
open PySem PySem.Spec PyProof.Rows
theorem MX {M:Model} {A:Around} {E:Value->Shared->Prop} {s:Shared} {src:Source} {n:Nat} {Q:Nat->Shared->Prop} (hn:n≠0) (h:∀ i d,i<n->Q i { s with drawn:=d }):wpAny M A (choose src n) Q E s:=fun Γ p hΓ=>by
 unfold choose
 exact ⟨hn,h _ _ (Nat.mod_lt _ (Nat.pos_of_ne_zero hn))⟩
theorem pN {α:Type}:∀ (l:List α) (i:Nat) (x:α),l[i]? = some x->l.Perm (x::l.eraseIdx i)
 | [],i,x,h=>by simp at h
 | a::l,0,x,h=>by
  simp at h
  subst h
  exact List.Perm.refl _
 | a::l,i+1,x,h=>by
  have q:=pN l i x (by simpa using h)
  rw [List.eraseIdx_cons_succ]
  exact (q.cons a).trans (List.Perm.swap ..)
theorem JW {M:Model} {A:Around} {E:Value->Shared->Prop} {α:Type}:∀ (n:Nat) (l:List α) (s:Shared) {Q:List α->Shared->Prop},l.length=n->(∀ l' d,l'.Perm l->Q l' { s with drawn:=d })->wpAny M A (drawOrder n l) Q E s
 | 0,l,s,Q,hl,h=>by
  have:l=[]:=List.length_eq_zero_iff.mp hl
  subst this
  unfold drawOrder
  exact wpAny_pure (h [] s.drawn (List.Perm.refl _))
 | n+1,[],s,Q,hl,h=>by simp at hl
 | n+1,a::l,s,Q,hl,h=>by
  unfold drawOrder
  refine wpAny_bind (MX (by simp) fun i d hi=>?_)
  have e:(a::l)[i]? = some ((a::l)[i]):=List.getElem?_eq_getElem hi
  rw [e]
  refine wpAny_bind (JW n _ _ (by rw [List.length_eraseIdx_of_lt hi]; simp at hl ⊢; omega) fun l' d' hp=>wpAny_pure ?_)
  exact h _ d' ((hp.cons _).trans (pN _ _ _ e).symm)
theorem JX {α:Type} (f:Nat->Nat):∀ (n k:Nat) (l:List α) (out:Array α),l.length<=n->(pickOrder.go f n k l out).toList.Perm (out.toList++l)
 | 0,k,l,out,h=>by
  have:l=[]:=List.length_eq_zero_iff.mp (Nat.le_zero.mp h)
  subst this
  unfold pickOrder.go
  rw [List.append_nil]
 | n+1,k,l,out,h=>by
  unfold pickOrder.go
  cases l with
  | nil=>simp
  | cons a l =>
   have hi:f k % (a::l).length<(a::l).length:=Nat.mod_lt _ (by simp)
   have e:(a::l)[f k % (a::l).length]? = some ((a::l)[f k % (a::l).length]):=List.getElem?_eq_getElem hi
   rw [e]
   refine (JX f n (k+1) _ _ (by rw [List.length_eraseIdx_of_lt hi]; simp at h ⊢; omega)).trans ?_
   rw [Array.toList_push,List.append_assoc]
   exact List.Perm.append_left _ (pN _ _ _ e).symm
theorem sW {α:Type} (f:Nat->Nat) (xs:Array α):(pickOrder f xs).toList.Perm xs.toList:=by
 have q:=JX f xs.size 0 xs.toList #[] (by simp)
 simpa [pickOrder] using q
section
variable {prog:Program} {w:World} {A:Around} {E:Value->Shared->Prop} {s:Shared}
theorem rC {S:Addr} {o:Obj} {es:Array (Int×Value)} {ep:Nat} {t:SetTable} {Q:Option (Value×Nat)->Shared->Prop} (hw:eJ w=false) (ho:s.heap.get? S=some o) (hd:o.data=.set es ep t) (hf:t.fits es.size=true) (q i:Nat)
  (h:Q (((pickOrder (w.params.setOrder S ep) es)[i]?).map fun e=>(e.2,q)) s):wpAny (model prog w) A (setNext S q i ep) Q E s:=by
 have hb:w.params.followText "set-order" = true:=by unfold eJ at hw; simpa using hw
 unfold setNext
 apply wpAny_bind; refine wpAny_setState_of ho hd hf ?_
 dsimp only
 refine wpAny_bind (n8 hb ?_)
 rw [if_pos rfl,if_neg (by simp)]
 refine wpAny_bind ?_
 unfold setWalk
 apply wpAny_bind; refine wpAny_setState_of ho hd hf ?_
 dsimp only
 refine wpAny_bind (n8 hb ?_)
 rw [if_pos rfl]
 exact wpAny_bind (wpAny_askSetting (wpAny_pure (wpAny_pure h)))
theorem xN {h h':Heap} {I S:Addr} {f:Value} {i n ep:Nat} (x:pM h I S f i n ep) (k:∀ o,h.get? I=some o->h'.get? I=some o):pM h' I S f i n ep:=let ⟨o,a,b⟩:=x; ⟨o,k o a,b⟩
theorem CQ {I S:Addr} {f:Value} {i n ep:Nat} {Q:Value->Shared->Prop} (it:pM s.heap I S f i n ep) (h:Q (.ref I) s):wpAny (model prog w) A (pyIter (.ref I)) Q E s :=
 wpAny_pyIter_slot it.typeIs Si.AU (wpAny_call_entry Si.AU it.typeIs Si.HK (wpAny_pure ⟨_,rfl,_,_,it.typeIs,Si.slot_next.lookup,h⟩) (Si.MV _))
def slotAt (t:SetTable):Nat->Nat
 | 0=>0
 | i+1=>t.place.getD i 0+1
theorem xO {t:SetTable} (up:Up t.place.toList) {i:Nat} (hi:i<=t.place.size):SetTable.below t.place (slotAt t i)=i:=by
 cases i with
 | zero=>exact EN up
 | succ i =>
  have e:t.place[i]? = some (t.place.getD i 0):=by
   rw [Array.getD_eq_getD_getElem?,Array.getElem?_eq_getElem (by omega)]
   rfl
  exact HI up e
theorem xP {t:SetTable} {n:Nat} (h:t.fits n=true):t.place.size=n:=by
 unfold SetTable.fits at h
 simp at h
 exact h.1
theorem EU {I S:Addr} {o:Obj} {es:Array (Int×Value)} {ep:Nat} {t:SetTable} (hh:A.handled=none) (hw:eJ w=true) (hIS:S≠I) (hd:o.data=.set es ep t) (hT:NT true t es.size) (hp:¬ (!t.plain&&es.size>1)=true) :
  Walks prog w A I [I,S] [I] es.size (fun i v=>(es.toList.map (·.2))[i]? = some v) (fun i h=>h.get? S=some o/\i<=es.size/\pM h I S (rawInt (slotAt t i)) i es.size ep) where
 sub:=fun c hc=>by simp at hc; simp [hc]
 frame:=fun i h h' st k=>⟨k S (by simp) o st.1,st.2.1,xN st.2.2 fun o e=>k I (by simp) o e⟩
 item:=fun i s R E hi st hQ=>by
  obtain ⟨ho,hle,it⟩:=st
  have e1:es[i]? = some (es[i].1,es[i].2):=Array.getElem?_eq_getElem hi
  have sz:=xP hT.fit
  have e2:t.place[i]? = some (t.place.getD i 0):=by
   rw [Array.getD_eq_getD_getElem?,Array.getElem?_eq_getElem (by omega)]
   rfl
  refine ET (v:=es[i].2) (p:=slotAt t (i+1)) ho hd hT.fit it (fun Q1 E1 q=>oQ hw ho hd hT hp (xO hT.up (by omega)) (by rw [e1,e2]; exact q) i) fun h' it' sb=>?_
  exact hQ _ h' s.toks (by simp [hi]) ⟨by rw [sb.2 S hIS]; exact ho,hi,it'⟩ fun b u hb e=>by rw [sb.2 b (by simpa using hb)]; exact e
 done:=fun s Q E st hQ=>by
  obtain ⟨ho,hle,it⟩:=st
  have sz:=xP hT.fit
  refine AV hh ho hd hT.fit it (fun Q1 E1 q=>oQ hw ho hd hT hp (xO hT.up (by omega)) (by rw [Array.getElem?_eq_none (by omega)]; exact q) es.size) fun h' ex=>?_
  exact hQ h' s.toks fun b u hb e=>ex b u (by simpa using hb) e
 self:=fun i s Q E st hQ=>CQ st.2.2 hQ
theorem HL {I S:Addr} {o:Obj} {es:Array (Int×Value)} {ep:Nat} {t:SetTable} (hh:A.handled=none) (hw:eJ w=false) (hIS:S≠I) (hd:o.data=.set es ep t) (hf:t.fits es.size=true) :
  Walks prog w A I [I,S] [I] es.size (fun i v=>((pickOrder (w.params.setOrder S ep) es).toList.map (·.2))[i]? = some v) (fun i h=>h.get? S=some o/\i<=es.size/\pM h I S (rawInt (0:Nat)) i es.size ep) where
 sub:=fun c hc=>by simp at hc; simp [hc]
 frame:=fun i h h' st k=>⟨k S (by simp) o st.1,st.2.1,xN st.2.2 fun o e=>k I (by simp) o e⟩
 item:=fun i s R E hi st hQ=>by
  obtain ⟨ho,hle,it⟩:=st
  have sz:(pickOrder (w.params.setOrder S ep) es).size=es.size:=by have q:=(sW (w.params.setOrder S ep) es).length_eq; simpa using q
  generalize hP:pickOrder (w.params.setOrder S ep) es=P at sz hQ
  have e1:P[i]? = some P[i]:=Array.getElem?_eq_getElem (by omega)
  refine ET (v:=P[i].2) (p:=0) ho hd hf it (fun Q1 E1 q=>rC hw ho hd hf 0 i (by rw [hP,e1]; exact q)) fun h' it' sb=>?_
  have hi2:i<P.size:=by omega
  exact hQ _ h' s.toks (by simp [hi2]) ⟨by rw [sb.2 S hIS]; exact ho,hi,it'⟩ fun b u hb e=>by rw [sb.2 b (by simpa using hb)]; exact e
 done:=fun s Q E st hQ=>by
  obtain ⟨ho,hle,it⟩:=st
  have sz:(pickOrder (w.params.setOrder S ep) es).size=es.size:=by have q:=(sW (w.params.setOrder S ep) es).length_eq; simpa using q
  refine AV hh ho hd hf it (fun Q1 E1 q=>rC hw ho hd hf 0 es.size (by rw [Array.getElem?_eq_none (by omega)]; exact q)) fun h' ex=>?_
  exact hQ h' s.toks fun b u hb e=>ex b u (by simpa using hb) e
 self:=fun i s Q E st hQ=>CQ st.2.2 hQ
theorem EV {I S T:Addr} {o:Obj} {es:Array (Int×Value)} {ep:Nat} {t:SetTable} {js:List Nat} (hh:A.handled=none) (hIS:S≠I) (hTI:T≠I) (hd:o.data=.set es ep t) (hf:t.fits es.size=true) (hj:js.Perm (List.range es.size)) :
  Walks prog w A I [I,S,T] [I] es.size (fun i v=>((js.map fun j=>(es.toList.map (·.2)).getD j .none))[i]? = some v)
   (fun i h=>h.get? S=some o/\h.IsTuple T ((js.map fun j:Nat=>rawInt (j:Int)).toArray)/\pM h I S (.ref T) i es.size ep) where
 sub:=fun c hc=>by simp at hc; simp [hc]
 frame:=fun i h h' st k=>⟨k S (by simp) o st.1,st.2.1.at fun o e=>k T (by simp) o e,xN st.2.2 fun o e=>k I (by simp) o e⟩
 item:=fun i s R E hi st hQ=>by
  obtain ⟨ho,ht,it⟩:=st
  have hl:js.length=es.size:=by have q:=hj.length_eq; simpa using q
  have hi2:i<js.length:=by omega
  have hlt:js[i]<es.size:=by have q:=hj.mem_iff.1 (List.getElem_mem hi2); simpa using q
  have e1:es[js[i]]? = some (es[js[i]].1,es[js[i]].2):=Array.getElem?_eq_getElem hlt
  refine R5 (j:=js[i]) (v:=es[js[i]].2) ho hd hf it ht (by simp [hi2]) e1 fun h' it' sb=>?_
  exact hQ _ h' s.toks (by simp [hi2,hlt]) ⟨by rw [sb.2 S hIS]; exact ho,ht.at fun o e=>by rw [sb.2 T hTI]; exact e,it'⟩ fun b u hb e=>by rw [sb.2 b (by simpa using hb)]; exact e
 done:=fun s Q E st hQ=>by
  obtain ⟨ho,ht,it⟩:=st
  have hl:js.length=es.size:=by have q:=hj.length_eq; simpa using q
  refine MW hh ho hd hf it ht (by simp [hl]) fun h' ex=>?_
  exact hQ h' s.toks fun b u hb e=>ex b u (by simpa using hb) e
 self:=fun i s Q E st hQ=>CQ st.2.2 hQ
end
section
variable {prog:Program} {w:World} {A:Around} {E:Value->Shared->Prop} {s:Shared}
def Gives (prog:Program) (w:World) (I:Addr) (fp:List Addr) (vs:List Value) (h:Heap):Prop :=
 ∃ (n:Nat) (P:Nat->Value->Prop) (St:Nat->Heap->Prop),n=vs.length/\(∀ i v,P i v->vs[i]? = some v)/\St 0 h /\ ∀ A:Around,A.handled=none->Walks prog w A I fp [I] n P St
theorem R6 {S:Addr} {o:Obj} {es:Array (Int×Value)} {ep:Nat} {t:SetTable} {Q:Bool->Shared->Prop} (ho:s.heap.get? S=some o) (hd:o.data=.set es ep t) (hf:t.fits es.size=true)
  (h:Q (eJ w&&(!t.plain&&es.size>1)) s):wpAny (model prog w) A (setDrawn S) Q E s:=by
 unfold setDrawn
 apply wpAny_bind; refine wpAny_setState_of ho hd hf ?_
 dsimp only
 refine wpAny_bind (n8 (b:=!eJ w) (by unfold eJ; simp) (wpAny_pure ?_))
 rw [Bool.not_not]
 exact h
theorem R7 {S:Addr} {o:Obj} {ns:List Int} {Q:Value->Shared->Prop} (ho:s.heap.get? S=some o) (hi:oF (eJ w) o ns)
  (h:∀ h' d I fp vs ms,(∀ b u,s.heap.get? b=some u->h'.get? b=some u)->(∀ b∈fp,b=S\/s.heap.objs.size<=b)->s.heap.objs.size<=I->IntsAre vs ms->ms.Perm ns->Gives prog w I fp vs h'->Q (.ref I) { s with heap:=h',drawn:=d }) :
  wpAny (model prog w) A (pyIter (.ref S)) Q E s:=by
 obtain ⟨es,ep,t,hx,hd,hE,hp,hT,hs⟩:=hi
 have tS:s.TypeIs (.ref S) "set" := ⟨o,ho,hx.1⟩
 have lS:=Heap.lt_size ho
 have YA:∀ l:List (Int×Value),(∀ e∈l,ER e)->IntsAre (l.map (·.2)) (l.map pL):=by
  intro l
  induction l with
  | nil=>intro _; exact .nil
  | cons e l ih =>
   intro he
   obtain ⟨m,tk,rfl⟩:=he e List.mem_cons_self
   exact .cons m tk (ih fun x hx=>he x (List.mem_cons_of_mem _ hx))
 refine wpAny_pyIter_slot tS F.slot_set_iter (wpAny_call_entry F.slot_set_iter tS Si.xM ?_ (F.args_set_iter_1 _))
 unfold Builtin.«frozenset.__iter__» Builtin.Frozenset.slot0 Builtin.Frozenset.sizeOf
 have step:∀ (f:Value) (h1:Heap) (d:Drawn),(∀ b u,s.heap.get? b=some u->h1.get? b=some u)->(∀ I:Addr,I=h1.objs.size->Q (.ref I) { s with heap:=h1.push { cls:=.type "set_iterator",data:=.fields #[f,rawInt (0:Nat),.ref S,rawInt es.size,rawInt ep] },drawn:=d }) ->
   wpAny (model prog w) A.in1 (do ret (<- newFields "set_iterator" [f,rawInt 0,.ref S,rawInt es.size,rawInt (<- setEpoch S)])) (fun fin s'=>∃ v,fin=.done (.ret v) /\ ∃ T' r,s'.TypeIs v T'/\typeLookup (.type T') "__next__" = pure (some r)/\Q v s') E { s with heap:=h1,drawn:=d }:=fun f h1 d keep q=>by
  refine wpAny_bind (wpAny_setEpoch_of (s:={ s with heap:=h1,drawn:=d }) (keep S o ho) hd hT.fit ?_)
  refine wpAny_bind (wpAny_newObj_type (wpAny_pure ⟨_,rfl,_,_,⟨_,Heap.get?_push_size _ rfl,rfl⟩,Si.slot_next.lookup,q _ rfl⟩))
 wp_walk using wpAny_setEntries_of ho hd hT.fit,R6 ho hd hT.fit
 by_cases hdr:(eJ w&&(!t.plain&&decide (es.size>1)))=true
 ·rw [if_pos hdr]
  rw [Bool.and_eq_true] at hdr
  refine wpAny_bind (JW es.size (List.range es.size) s (by simp) fun js d hj=>?_)
  have lj:js.length=es.size:=by have q:=hj.length_eq; simpa using q
  refine wpAny_bind (wpAny_newTuple ?_ (by rw [List.length_map,lj]; exact fits_of_scanBound hs))
  refine step (.ref s.heap.objs.size) _ d (fun b u e=>Heap.get?_push_of_some _ e) fun I eI=>?_
  have zI:@Eq Nat I (s.heap.objs.size+1):=by rw [eI,Heap.size_push]
  have nSI:S≠I:=fun z=>by rw [z,zI] at lS; exact absurd (Nat.lt_of_succ_lt lS) (Nat.lt_irrefl _)
  have nTI:s.heap.objs.size≠I:=fun z=>by rw [zI] at z; exact Nat.succ_ne_self _ z.symm
  have gI:s.heap.objs.size<=I:=by rw [zI]; exact Nat.le_succ _
  refine h _ d I [I,S,s.heap.objs.size] (js.map fun j=>(es.toList.map (·.2)).getD j .none) (js.map fun j=>(es.toList.map pL).getD j 0) (fun b u e=>Heap.get?_push_of_some _ (Heap.get?_push_of_some _ e)) (fun b hb=>?_) gI ?_ ?_ ⟨es.size,_,_,by simp [lj],fun i v q=>q,?_,fun A' hA=>EV hA (t:=t) nSI nTI hd hT.fit hj⟩
  ·simp only [List.not_mem_nil,List.mem_cons,or_false] at hb
   rcases hb with z | z | z
   ·exact .inr (z▸gI)
   ·exact .inl z
   ·exact .inr (Nat.le_of_eq z.symm)
  ·have all:∀ l:List Nat,(∀ j∈l,j<es.size)->IntsAre (l.map fun j=>(es.toList.map (·.2)).getD j .none) (l.map fun j=>(es.toList.map pL).getD j 0):=by
    intro l
    induction l with
    | nil=>intro _; exact .nil
    | cons j l ih =>
     intro hl
     have hj1:=hl j List.mem_cons_self
     obtain ⟨m,tk,e⟩:=hE es[j] (by simp [Array.getElem_mem])
     have e1:(es.toList.map (·.2)).getD j .none=.int m tk:=by simp [hj1,e]
     have e2:(es.toList.map pL).getD j 0=m:=by simp [hj1,e,pL]
     rw [List.map_cons,List.map_cons,e1,e2]
     exact .cons m tk (ih fun x hx=>hl x (List.mem_cons_of_mem _ hx))
   exact all js fun j hm=>by have q:=hj.mem_iff.1 hm; simpa using q
  ·refine ((hj.map _).trans ?_).trans hp
   have e:(List.range es.size).map (fun j=>(es.toList.map pL).getD j 0)=es.toList.map pL:=by
    refine List.ext_getElem? fun i=>?_
    by_cases hi:i<es.size
    ·simp [hi]
    ·simp [hi]
   rw [e]
  ·refine ⟨Heap.get?_push_of_some _ (Heap.get?_push_of_some _ ho),⟨_,Heap.get?_push_of_some _ (Heap.get?_push_size _ rfl),rfl,_,rfl⟩,⟨_,by rw [eI]; exact Heap.get?_push_size _ rfl,rfl,rfl⟩⟩
 ·rw [if_neg hdr]
  refine wpAny_bind (wpAny_pure (step (rawInt 0) s.heap s.drawn (fun b u e=>e) fun I eI=>?_))
  have gI:s.heap.objs.size<=I:=Nat.le_of_eq eI.symm
  have nSI:S≠I:=fun z=>by rw [z,eI] at lS; exact absurd lS (Nat.lt_irrefl _)
  have at0:∀ f,pM (s.heap.push { cls:=.type "set_iterator",data:=.fields #[f,rawInt (0:Nat),.ref S,rawInt es.size,rawInt ep] }) I S f 0 es.size ep:=fun f=>⟨_,by rw [eI]; exact Heap.get?_push_size _ rfl,rfl,rfl⟩
  have fpo:∀ b∈[I,S],b=S\/s.heap.objs.size<=b:=fun b hb=>by
   simp only [List.not_mem_nil,List.mem_cons,or_false] at hb
   rcases hb with z | z
   ·exact .inr (z▸gI)
   ·exact .inl z
  cases hw:eJ w with
  | true =>
   have hpl:¬ (!t.plain&&es.size>1)=true:=fun z=>hdr (by rw [hw,z]; rfl)
   exact h _ s.drawn I [I,S] (es.toList.map (·.2)) (es.toList.map pL) (fun b u e=>Heap.get?_push_of_some _ e) fpo gI (YA _ hE) hp
    ⟨es.size,_,_,by simp,fun i v q=>q,⟨Heap.get?_push_of_some _ ho,Nat.zero_le _,at0 _⟩,fun A' hA=>EU hA hw nSI hd (hw▸hT) hpl⟩
  | false =>
   have pp:=sW (w.params.setOrder S ep) es
   exact h _ s.drawn I [I,S] ((pickOrder (w.params.setOrder S ep) es).toList.map (·.2)) ((pickOrder (w.params.setOrder S ep) es).toList.map pL) (fun b u e=>Heap.get?_push_of_some _ e) fpo gI (YA _ fun e he=>hE e (pp.mem_iff.1 he)) ((pp.map pL).trans hp)
    ⟨es.size,_,_,by have q:=pp.length_eq; simp at q ⊢; omega,fun i v q=>q,⟨Heap.get?_push_of_some _ ho,Nat.zero_le _,at0 _⟩,fun A' hA=>HL hA hw nSI hd hT.fit⟩
theorem R8 {S:Addr} {o:Obj} {Q:Bool->Shared->Prop} (ho:s.heap.get? S=some o) (hc:o.cls=.type "set") (h:Q false s):wpAny (model prog w) A (Builtin.List.listLengthHint (.ref S)) Q E s:=by
 have tS:s.TypeIs (.ref S) "set" := ⟨o,ho,hc⟩
 have e:splitId "set.__len__" = some ("set", "__len__"):=by kernel_rfl
 show wpAny _ _ (Builtin.List.listLengthHint _) _ _ _; unfold Builtin.List.listLengthHint
 refine wpAny_bind (wpAny_specialOf tS F.slot_set_len.lookup ?_)
 dsimp only
 rw [e]
 dsimp only
 refine wpAny_bind (wpAny_isInstance tS sub_set_self ?_)
 rw [if_neg (by decide),if_pos (by kernel_rfl)]
 exact wpAny_bind (wpAny_typeOf tS (wpAny_pure h))
theorem HM {L S:Addr} {o:Obj} {ns:List Int} {c0:Nat} {res:Value} {R:Result->Shared->Prop} (hh:A.handled=none) (ho:s.heap.get? S=some o) (hi:oF (eJ w) o ns) (hL:s.heap.get? L=some { cls:=.type "list",data:=.seq #[] c0 })
  (hR:∀ h' d tk acc c' ms,(∀ b u,b≠L->s.heap.get? b=some u->h'.get? b=some u)->h'.get? L=some { cls:=.type "list",data:=.seq acc c' }->IntsAre acc.toList ms->ms.Perm ns->R (.ok (.ret res)) { s with heap:=h',drawn:=d,toks:=tk }) :
  wpAny (model prog w) A.in1 (Builtin.List.listExtendWith (.ref L) (.ref S) res) (fun fin s'=>match fin with | .done f=>R (.ok f) s' | .again c'=>c'.quiet=true/\codeAny (model prog w) A c' R s') (fun e s'=>R (.error e) s') s:=by
 have hx:o.ExactSet:=by obtain ⟨_,_,_,hx,_⟩:=hi; exact hx
 have hns:ns.length<scanBound:=by obtain ⟨es,_,_,_,_,_,hp,_,hs⟩:=hi; rw [<- hp.length_eq]; simpa using hs
 have nLS:L≠S:=fun z=>by rw [z,ho] at hL; cases hL; have q:=hx.1; simp at q
 have lL:=Heap.lt_size hL
 show wpAny _ _ (Builtin.List.listExtendWith _ _ _) _ _ _; unfold Builtin.List.listExtendWith
 refine wpAny_bind (wpAny_typeOf (T := "set") ⟨o,ho,hx.1⟩ ?_)
 have e1:Builtin.List.listSameRef (.ref L) (.ref S)=false:=by simp [Builtin.List.listSameRef,nLS]
 rw [if_neg (by rw [e1]; decide)]
 refine wpAny_bind (R7 (A:=A.in1) ho hi fun h1 d I fp vs ms keep hfp gI hv hm gv=>?_)
 refine wpAny_bind (wpAny_holding (R8 (s:={ s with heap:=h1,drawn:=d }) (keep S o ho) hx.1 ?_))
 rw [if_pos (by kernel_rfl)]
 unfold Builtin.List.listTouch
 have g1:=keep L _ hL
 have gb:∀ (f:Array Value->Array Value) (g:Heap) (c:Nat) (xs:Array Value),g.get? L=some { cls:=.type "list",data:=.seq xs c } -> ∃ c',(g.update L (Obj.mapSeq f)).get? L=some { cls:=.type "list",data:=.seq (f xs) c' }:=fun f g c xs e=>⟨_,get?_update_seq e f⟩
 refine wpAny_bind (wpAny_rule (wpAny_bind (wpAny_bind (listUpdate_at (s:={ s with heap:=h1,drawn:=d }) g1 rfl ?_ (Nat.zero_le _) (by simp)))))
 obtain ⟨c2,g2⟩:=gb (·.push .none) h1 _ _ g1
 refine listUpdate_at (s:={ s with heap:=h1.update L (Obj.mapSeq (·.push .none)),drawn:=d }) g2 rfl ?_ (by simp; rw [sizeLine_eq]; omega) (by simp)
 obtain ⟨c3,g3⟩:=gb (·.pop) _ _ _ g2
 obtain ⟨n,P,St,en,hP,st0,W⟩:=gv
 have nLI:L≠I:=fun z=>by rw [z] at lL; exact absurd (Nat.lt_of_lt_of_le lL gI) (Nat.lt_irrefl _)
 have nLf:L∉fp:=fun z=>by
  rcases hfp L z with q | q
  ·exact nLS q
  ·exact absurd (Nat.lt_of_lt_of_le lL q) (Nat.lt_irrefl _)
 have W1:=(W A.in1 hh).toS
 have nn:n<=sizeLine:=by rw [en,IntsAre.length hv,hm.length_eq]; exact fits_of_scanBound hns
 refine wpAny_pure ⟨plainId_quiet F.plain_extend_loop _,codeAny_extend_loopS W1 nn L nLf res n 0 _ #[] _ rfl (Nat.zero_le _) (W1.frame 0 { s with heap:=h1,drawn:=d } _ s.toks st0 (Nat.le_refl _) fun b hb u e=>?_) g3 (ItemsOf.nil _) fun s' acc c' mv hL' it=>?_⟩
 ·have nb:L≠b:=fun z=>nLf (z▸hb)
  exact (Heap.get?_update_other _ _ nb).trans ((Heap.get?_update_other _ _ nb).trans e)
 ·have es':s' = { s with heap:=s'.heap,drawn:=d,toks:=s'.toks }:=by
   obtain ⟨h',g',d',t',o'⟩:=s'
   have q1:=mv.gens
   have q2:=mv.drawn
   have q3:=mv.os
   dsimp only at q1 q2 q3
   subst q1
   subst q2
   subst q3
   rfl
  have ev:acc.toList=vs:=by
   refine List.ext_getElem? fun j=>?_
   by_cases hj:j<n
   ·have e1:acc[j]? = some (acc[j]'(by rw [it.1]; exact hj)):=Array.getElem?_eq_getElem _
    rw [Array.getElem?_toList,e1]
    exact (hP j _ (it.2 j _ e1)).symm
   ·rw [List.getElem?_eq_none (by simp [it.1]; omega),List.getElem?_eq_none (by omega)]
  rw [es']
  refine hR _ d _ acc c' ms (fun b u nb e=>mv.heap b u (fun z=>?_) ?_) hL' (ev▸hv) hm
  ·rcases List.mem_cons.1 z with q | q
   ·exact nb q
   ·rw [List.mem_singleton] at q
    rw [q] at e
    exact absurd (Nat.lt_of_lt_of_le (Heap.lt_size e) gI) (Nat.lt_irrefl _)
  ·exact (Heap.get?_update_other _ _ (Ne.symm nb)).trans ((Heap.get?_update_other _ _ (Ne.symm nb)).trans (keep b u e))
end
section
variable {prog:Program} {w:World} {A:Around} {E:Value->Shared->Prop} {s:Shared}
theorem EW {S:Addr} {o:Obj} {ns:List Int} {Q:List Value->Shared->Prop} (hh:A.handled=none) (ho:s.heap.get? S=some o) (hi:oF (eJ w) o ns)
  (h:∀ h' d tk vs ms,s.heap.objs.size<=h'.objs.size->(∀ b u,s.heap.get? b=some u->h'.get? b=some u)->IntsAre vs ms->ms.Perm ns->Q vs { s with heap:=h',drawn:=d,toks:=tk }):wpAny (model prog w) A (collect (.ref S)) Q E s:=by
 unfold collect
 apply wpAny_bind
 apply wpAny_runValue
 refine codeAny_builtin F.entry_proto_collect ?_
 rw [Around.under_plainId F.plain_proto_collect]
 wp_walk
 refine ⟨plainId_quiet F.plain_list_iadd _,codeAny_builtin F.entry_list_iadd ?_⟩
 rw [Around.under_plainId F.plain_list_iadd]
 refine HM (R:=wants _ _) (s:={ s with heap:=s.heap.push { cls:=.type "list",data:=.seq #[] } }) hh (Heap.get?_push_of_some _ ho) hi (Heap.get?_push_size _ rfl) fun h' d tk acc c' ms keep gL hv hm=>?_
 apply wpAny_bind
 apply wpAny_load gL
 exact wpAny_pure (h h' d tk acc.toList ms (Nat.le_of_lt (Heap.lt_size gL)) (fun b u e=>keep b u (Nat.ne_of_lt (Heap.lt_size e)) (Heap.get?_push_of_some _ e)) hv hm)
theorem HN {S:Addr} {o:Obj} {ns:List Int} {Q:Value->Shared->Prop} (hh:A.handled=none) (ho:s.heap.get? S=some o) (hi:oF (eJ w) o ns) (h64:ns.length<64)
  (h:∀ h' d tk l out ns' e,(∀ b u,s.heap.get? b=some u->h'.get? b=some u)->s.heap.objs.size<=l->IntsAre out ns'->ns'.Perm ns->ns'.Pairwise (· <= ·)->h'.get? l=some (seqObj "list" out.toArray e)->Q (.ref l) { s with heap:=h',drawn:=d,toks:=tk }) :
  wpAny (model prog w) A (call (.builtin "sorted") [.ref S]) Q E s:=by
 apply Calls.call_function_entry kind_sorted plain_sorted entry_sorted (args_sorted1 _)
 unfold Builtin.«sorted»
 refine wpAny_bind (m:=checkCount "sorted" 1 1 _) (wpAny_pure (wpAny_bind (EW (A:=A.in1) hh ho hi fun h1 d tk vs ms l1 keep hv hm=>?_)))
 have lv:vs.length<64:=by rw [IntsAre.length hv,hm.length_eq]; exact h64
 apply wpAny_bind; refine wpAny_newList ?_ (by rw [sizeLine_eq]; omega)
 have g1:(h1.push (seqObj "list" vs.toArray 0)).get? h1.objs.size=some (seqObj "list" vs.toArray 0):=Heap.get?_push_size _ rfl
 refine wpAny_bind (wpAny_holding (wpAny_call_entry slot_list_sort ⟨_,g1,rfl⟩ entry_list_sort (list_sort_tree g1 hv lv fun out ns' a1 a2 a3=>⟨_,rfl,?_⟩) (args_list_sort _)))
 obtain ⟨e,g2⟩:=sortedHeap_at (out:=out) g1
 refine wpAny_pure ⟨_,rfl,h _ d tk _ out.toList ns' e (fun b u q=>?_) l1 a1 (a2.trans hm) a3 (by simpa using g2)⟩
 have lb:=Heap.lt_size (keep b u q)
 rw [sortedHeap_old (Nat.ne_of_lt lb) (by rw [Heap.size_push]; exact Nat.lt_succ_of_lt lb)]
 exact Heap.get?_push_of_some _ (keep b u q)
end
end L6
end
section
namespace L6
open PySem PySem.Spec PyProof.Rows L2 L3 L4
theorem t6:∀ (ks ns:List Int),gK ns ks=ks.foldl putN ns
 | [],ns=>rfl
 | k::ks,ns=>by
  rw [gK,t6 ks,List.foldl_cons]
  rfl
theorem xQ:∀ (ks ns:List Int),(gK ns ks).length<=ns.length+ks.length
 | [],ns=>Nat.le_refl _
 | k::ks,ns=>by
  have a:=xQ ks (HJ ns k)
  have b:=ES ns k
  rw [gK,List.length_cons]
  omega
def aAm (w:World) (a:Addr) (ns:List Int):HO:=.ext fun h=>∃ o,h.get? a=some o/\oF (eJ w) o ns
section
variable {X:Cx}
theorem MY {pins:List (Addr×Obj)} {σ:L2.St} {H:Hp} {s:Shared} {d:Drawn} (I:Inv X pins σ H s):Inv X pins σ H { s with drawn:=d }:=⟨I.ok,I.os,I.bare,I.base,I.loc,I.cell,I.free,I.kN,I.pin,I.hok,I.len⟩
def aJJ (w:World) (K:PySem.W.Frag):List V->Hp->VK->Prop:=fun xs H Q=>∃ (a:Addr) (ns:List Int),xs=[.ref a]/\gC K H a (ns.map V.int)/\ns.length<64 /\ ∀ p,H p=none->Q (.ref p) (upd H p (aAm w p (gK [] ns)))
theorem MZ (hc:X.calm=true):gS X (.type "set") (aJJ X.w X.K):=by
 intro pins s σ H xs us Q I r h
 obtain ⟨a,ns,rfl,ha,h64,q⟩:=h
 obtain ⟨u,rfl,ru⟩:=vals1 r
 cases ru
 obtain ⟨its,rv,pl,hz⟩:=I.tuple ha
 have hi:=intsAre_of rv
 obtain ⟨ot,hot,hct,nt,hdt⟩:=id pl
 refine R4 (items:=its.toArray) (ns:=ns) (I.ok.hd hc) (by simpa using hi) pl (by unfold scanBound; omega) fun h' tk o' keep g i=>?_
 refine ⟨.ref s.heap.objs.size,_,I.laid (t':=tk) (o:=aAm X.w s.heap.objs.size (gK [] ns)) keep (Nat.le_refl _) ⟨⟨o',g,i⟩,⟨o',g⟩,fun h1 h2 z k=>?_⟩,rfl,q _ (I.hok.fresh (Nat.le_refl _))⟩
 obtain ⟨o2,e2,i2⟩:=z
 exact ⟨o2,k o2 e2,i2⟩
def aAn (w:World):List V->Hp->VK->Prop:=fun xs H Q=>∃ (a:Addr) (ns:List Int),xs=[.ref a]/\H a=some (aAm w a ns)/\ns.length<64 /\ ∀ ns':List Int,ns'.Perm ns->ns'.Pairwise (· <= ·) -> ∀ p,H p=none->Q (.ref p) (upd H p (.lst (ns'.map V.int)))
theorem HP (hc:X.calm=true):gS X (.builtin "sorted") (aAn X.w):=by
 intro pins s σ H xs us Q I r h
 obtain ⟨a,ns,rfl,ha,h64,q⟩:=h
 obtain ⟨u,rfl,ru⟩:=vals1 r
 cases ru
 obtain ⟨⟨o,ho,hi⟩,_⟩:=I.hok a _ ha
 refine HN (I.ok.hd hc) ho hi h64 fun h' d tk l out ns' e keep hl a1 a2 a3 g=>?_
 have hz2:ns'.length<=sizeLine:=by rw [a2.length_eq,sizeLine_eq]; omega
 have I1:=I.laid (t':=tk) (a:=l) (o:=.lst (ns'.map V.int)) keep hl ⟨by rw [List.length_map]; exact hz2,out,e,kP a1,by simpa [seqObj] using g⟩
 exact ⟨.ref l,_,MY (d:=d) I1,rfl,q ns' a2 a3 l (I.hok.fresh hl)⟩
theorem HQ {p pos p2 pos2:Pos} {e:Expr} {t:AF} (hc:X.calm=true) (hm:X.mg "sorted" = none) (hms:X.mg "set" = none) (ha:xD X [e] t) (hg:Gl X "sorted" := by rfl) (hgs:Gl X "set" := by rfl)
  (hs:starEach [e] X.env=(false,eval e X.env)::starEach [] X.env:=by rfl) (he:starEach [.Call (.Name "set" p2) [e] [] pos2] X.env=(false,eval (.Call (.Name "set" p2) [e] [] pos2) X.env)::starEach [] X.env:=by rfl) :
  n6 X (.Call (.Name "sorted" p) [.Call (.Name "set" p2) [e] [] pos2] [] pos) (bU fN t) :=
 imp (mS (HP hc) hg hm PyProof.Rows.boot_sorted (iX (n0 (MZ hc) hgs hms PySem.Pv.boot_set ha (by decide) (by decide) hs (by rfl)) sP he) (by decide) (by decide) he (by rfl)) fun σ H Q aDh=>by
  obtain ⟨S,ρ,Q3,fc,sl,⟨d,ed,q3⟩,k⟩:=aDh
  obtain ⟨ds,eds,ed⟩:=bnd ed
  refine ⟨S,ρ,fun es=>es=ds,fc,sl,⟨_,eds,rfl⟩,fun vs H1 es s1 d1 q1=>?_⟩
  subst q1
  unfold fN at ed
  split at ed
  ·rename_i a
   obtain ⟨ns,e1,ed⟩:=bnd ed
   by_cases hl:ns.length<64
   ·rw [if_pos hl] at ed
    cases ed
    rw [ints_of e1] at d1
    obtain ⟨v,r,rfl,h1,h2⟩:=d1.bI
    simp only [aQ] at h2
    subst h2
    simp only [Dn] at h1
    obtain ⟨t1,xs,rfl,ht,dt⟩:=h1
    rw [aQ.ints.mp dt] at ht
    refine ⟨t1,ns,rfl,(gC.of ht),hl,fun p hp=>⟨p,gK [] ns,rfl,bA,Nat.lt_of_le_of_lt (xQ ns []) (by simpa using hl),fun ns' pm so l hl2=>?_⟩⟩
    have e3:ns' = sortI (BA ns):=by
     have e4:gK [] ns=BA ns:=t6 ns []
     rw [e4] at pm
     exact lQ (pm.trans (j4 _).symm) so (iB _)
    subst e3
    have l1:H1 l=none:=(aM hp).free hl2
    exact k l _ _ _ (s1.free l1) bA ((s1.trans (aM hp)).trans (aM hl2)) (aQ.ints.mpr rfl) q3
   ·rw [if_neg hl] at ed; cases ed
  ·cases ed
end
section
variable {X:Cx}
theorem aJL {i j:Nat} {x y:Str} {a b:Expr} {t:AF} {px py pt:Pos} {kt k2 ZO} {pos:Pos} (hc:X.calm=true) (hN:X.N.Nodup) (ha:xD X [a,b] t) (hi:X.N[i]? = some x:=by rfl) (hj:X.N[j]? = some y:=by rfl) (hij:i≠j:=by decide)
  (hx:X.env.scope.names.lookup x=some .local:=by rfl) (hy:X.env.scope.names.lookup y=some .local:=by rfl)
  (hw:swappedStores [.Tuple [.Name x px,.Name y py] kt pt] (.Tuple [a,b] k2 ZO) X.env=pure (some [x,y]):=by rfl)
  (hs:swapsWithSole [.Tuple [.Name x px,.Name y py] kt pt] (.Tuple [a,b] k2 ZO) pos.line X.env=pure false:=by rfl) :
  rO X (.Assign [.Tuple [.Name x px,.Name y py] kt pt] (.Tuple [a,b] k2 ZO) pos) (TK i j t) :=
 jY (ZN hc hN hi hj hij hx hy ha hw hs) fun B σ H aDi=>by
  obtain ⟨H₀,S,w,ρ,G,E,hl,st,ht,ok⟩:=aDi
  unfold wS TK at ht
  cases et:t (iT ρ) with
  | none=>rw [et] at ht; exact ht.elim
  | some ds =>
   rw [et] at ht
   match ds,et,ht with
   | [d1,d2],et,ht =>
    refine ⟨_,iT ρ,fun es=>es=[d1,d2],st.LQ,st.rd,⟨_,et,rfl⟩,fun vs H1 es s1 q1 e=>?_⟩
    subst e
    obtain ⟨v1,r,rfl,q2,q3⟩:=q1.bI
    obtain ⟨v2,r2,rfl,q4,q5⟩:=q3.bI
    simp only [aQ] at q5
    subst q5
    refine ⟨v1,v2,rfl,?_⟩
    have st1:=(st.same s1).lO (by rw [hl]; exact jO hi) q2
    have m:∀ a,SO S w ρ a->SO S w (ρ.set i (.ro d1)) a:=SO.mono fun k e he=>by
     rcases get_set he with ⟨_,z,_⟩ | z
     ·cases z
     ·exact ⟨e,z.2⟩
    have st2:=st1.lO (i:=j) (by rw [List.length_set,hl]; exact jO hj) (Dn.fits (.mono m) _ _ q4)
    exact ok.nx w _ H1 _ (by rw [List.length_set,List.length_set]; exact hl) st2 ht
   | [],et,ht=>exact ht.elim
   | [_],et,ht=>exact ht.elim
   | _::_::_::_,et,ht=>exact ht.elim
end
section
variable {prog:Program} {w:World} {A:Around} {E:Value->Shared->Prop} {s:Shared}
end
section
variable {X:Cx}
end
theorem EX {prog:Program} {w:World} {A:Around} {E:Value->Shared->Prop} {s:Shared} {t:Addr} {its:List Value} {Q:List Value->Shared->Prop} (ht:IsTup s.heap t its.toArray) (hz:its.length<=sizeLine)
  (h:∀ h',s.heap.objs.size<=h'.objs.size->(∀ b u,s.heap.get? b=some u->h'.get? b=some u)->Q its { s with heap:=h' }):wpAny (model prog w) A (collect (.ref t)) Q E s:=by
 obtain ⟨ot,hot,hct,nt,hdt⟩:=id ht
 unfold collect
 apply wpAny_bind
 apply wpAny_runValue
 refine codeAny_builtin F.entry_proto_collect ?_
 rw [Around.under_plainId F.plain_proto_collect]
 wp_walk
 refine ⟨plainId_quiet F.plain_list_iadd _,codeAny_builtin F.entry_list_iadd ?_⟩
 rw [Around.under_plainId F.plain_list_iadd]
 have g0:(s.heap.push { cls:=.type "list",data:=.seq #[] }).get? s.heap.objs.size=some { cls:=.type "list",data:=.seq #[] 0 }:=Heap.get?_push_size _ rfl
 refine wpAny_extend_seq (R:=wants _ _) (s:={ s with heap:=s.heap.push { cls:=.type "list",data:=.seq #[] } }) s.heap.objs.size t _ 0 (.inr rfl) g0 (Heap.get?_push_of_some _ hot) hct hdt ?_ (by simpa using hz)
 have g1:=Heap.get?_update_self (Obj.mapSeq (· ++ its.toArray)) g0 rfl
 apply wpAny_bind
 apply wpAny_load g1
 have fin:=h ((s.heap.push { cls:=.type "list",data:=.seq #[] }).update s.heap.objs.size (Obj.mapSeq (· ++ its.toArray))) (Nat.le_of_lt (Heap.lt_size g1)) fun b u e=>(Heap.get?_update_other _ _ (Nat.ne_of_gt (Heap.lt_size e))).trans (Heap.get?_push_of_some _ e)
 refine wpAny_pure ?_
 simpa using fin
theorem HR {prog:Program} {w:World} {A:Around} {E:Value->Shared->Prop} {s:Shared} {t:Addr} {its:List Value} {ns:List Int} {Q:Value->Shared->Prop} (ht:IsTup s.heap t its.toArray) (hv:IntsAre its ns) (h64:ns.length<64)
  (h:∀ h' tk l out ns' e,(∀ b u,s.heap.get? b=some u->h'.get? b=some u)->s.heap.objs.size<=l->IntsAre out ns'->ns'.Perm ns->ns'.Pairwise (· <= ·)->h'.get? l=some (seqObj "list" out.toArray e)->Q (.ref l) { s with heap:=h',toks:=tk }) :
  wpAny (model prog w) A (call (.builtin "sorted") [.ref t]) Q E s:=by
 have lv:its.length<64:=by rw [IntsAre.length hv]; exact h64
 apply Calls.call_function_entry kind_sorted plain_sorted entry_sorted (args_sorted1 _)
 unfold Builtin.«sorted»
 refine wpAny_bind (m:=checkCount "sorted" 1 1 _) (wpAny_pure (wpAny_bind (EX (A:=A.in1) ht (by rw [sizeLine_eq]; omega) fun h1 l1 keep=>?_)))
 apply wpAny_bind; refine wpAny_newList ?_ (by rw [sizeLine_eq]; omega)
 have g1:(h1.push (seqObj "list" its.toArray 0)).get? h1.objs.size=some (seqObj "list" its.toArray 0):=Heap.get?_push_size _ rfl
 refine wpAny_bind (wpAny_holding (wpAny_call_entry slot_list_sort ⟨_,g1,rfl⟩ entry_list_sort (list_sort_tree g1 hv lv fun out ns' a1 a2 a3=>⟨_,rfl,?_⟩) (args_list_sort _)))
 obtain ⟨e,g2⟩:=sortedHeap_at (out:=out) g1
 refine wpAny_pure ⟨_,rfl,h _ s.toks _ out.toList ns' e (fun b u q=>?_) l1 a1 a2 a3 (by simpa using g2)⟩
 have lb:=Heap.lt_size (keep b u q)
 rw [sortedHeap_old (Nat.ne_of_lt lb) (by rw [Heap.size_push]; exact Nat.lt_succ_of_lt lb)]
 exact Heap.get?_push_of_some _ (keep b u q)
section
variable {X:Cx}
def aAo (K:PySem.W.Frag):List V->Hp->VK->Prop:=fun xs H Q=>∃ (a:Addr) (ns:List Int),xs=[.ref a]/\gC K H a (ns.map V.int)/\ns.length<64 /\ ∀ ns':List Int,ns'.Perm ns->ns'.Pairwise (· <= ·) -> ∀ p,H p=none->Q (.ref p) (upd H p (.lst (ns'.map V.int)))
theorem HS:gS X (.builtin "sorted") (aAo X.K):=by
 intro pins s σ H xs us Q I r h
 obtain ⟨a,ns,rfl,ha,h64,q⟩:=h
 obtain ⟨u,rfl,ru⟩:=vals1 r
 cases ru
 obtain ⟨its,rv,pl,hz⟩:=I.tuple ha
 refine HR pl (intsAre_of rv) h64 fun h' tk l out ns' e keep hl a1 a2 a3 g=>?_
 have hz2:ns'.length<=sizeLine:=by rw [a2.length_eq,sizeLine_eq]; omega
 have I1:=I.laid (t':=tk) (a:=l) (o:=.lst (ns'.map V.int)) keep hl ⟨by rw [List.length_map]; exact hz2,out,e,kP a1,by simpa [seqObj] using g⟩
 exact ⟨.ref l,_,I1,rfl,q ns' a2 a3 l (I.hok.fresh hl)⟩
theorem R9 {p pos:Pos} {e:Expr} {t:AF} (hm:X.mg "sorted" = none) (ha:xD X [e] t) (hg:Gl X "sorted" := by rfl) (he:starEach [e] X.env=(false,eval e X.env)::starEach [] X.env:=by rfl) :
  n6 X (.Call (.Name "sorted" p) [e] [] pos) (bU mF t) :=
 imp (mS HS hg hm PyProof.Rows.boot_sorted ha (by decide) (by decide) he (by rfl)) fun σ H Q aDj=>by
  obtain ⟨S,ρ,Q3,fc,sl,⟨d,ed,q3⟩,k⟩:=aDj
  obtain ⟨ds,eds,ed⟩:=bnd ed
  refine ⟨S,ρ,fun es=>es=ds,fc,sl,⟨_,eds,rfl⟩,fun vs H1 es s1 d1 q1=>?_⟩
  subst q1
  unfold mF at ed
  split at ed
  ·rename_i a
   obtain ⟨ns,e1,ed⟩:=bnd ed
   by_cases hl:ns.length<64
   ·rw [if_pos hl] at ed
    cases ed
    rw [ints_of e1] at d1
    obtain ⟨v,r,rfl,h1,h2⟩:=d1.bI
    simp only [aQ] at h2
    subst h2
    simp only [Dn] at h1
    obtain ⟨t1,xs,rfl,ht,dt⟩:=h1
    rw [aQ.ints.mp dt] at ht
    refine ⟨t1,ns,rfl,gC.of ht,hl,fun ns' pm so l hl2=>?_⟩
    have e3:ns' = sortI ns:=lQ (pm.trans (j4 _).symm) so (iB _)
    subst e3
    exact k l _ _ _ (s1.free hl2) bA (s1.trans (aM hl2)) (aQ.ints.mpr rfl) q3
   ·rw [if_neg hl] at ed; cases ed
  ·cases ed
end
end L6
end
section
namespace L7
open PySem PySem.Spec PyProof.Rows L2 L3 L4 LL
def kI (ns:List Int):List Key:=ns.map Sum.inl
theorem SA:∀ {a b:List Int},kI a=kI b->a=b
 | [],[],_=>rfl
 | [],_::_,h=>by cases h
 | _::_,[],h=>by cases h
 | x::a,y::b,h=>by
  unfold kI at h
  rw [List.map_cons,List.map_cons] at h
  injection h with h1 h2
  injection h1 with h1
  rw [h1,SA h2]
section
variable (rd:List Int->List (List Int))
def Memo (n:Nat) (kvs:List (List Key×V)):Prop:=∀ k v,gD kvs k=some v -> ∃ ns:List Int,k=kI ns/\v=.int (Wf rd (n - ns.length) ns)
theorem Memo.put {rd:List Int->List (List Int)} {n:Nat} {kvs:List (List Key×V)} (h:Memo rd n kvs) (a:List Int):Memo rd n (putK kvs (kI a) (.int (Wf rd (n - a.length) a))):=fun k v e=>by
 rw [QD] at e
 split at e
 ·rename_i z
  cases e
  exact ⟨a,z,rfl⟩
 ·exact h k v e
theorem Memo.at {rd:List Int->List (List Int)} {n:Nat} {kvs:List (List Key×V)} (h:Memo rd n kvs) {a:List Int} {v:V} (e:gD kvs (kI a)=some v):v=.int (Wf rd (n - a.length) a):=by
 obtain ⟨ns,e1,e2⟩:=h _ _ e
 rw [SA e1]
 exact e2
def But (p:Addr) (H H':Hp):Prop:=∀ b o,b≠p->H b=some o->H' b=some o
theorem But.trans {p:Addr} {H H1 H2:Hp} (a:But p H H1) (b:But p H1 H2):But p H H2:=fun c o n h=>b c o n (a c o n h)
theorem But.upd {p:Addr} {H:Hp} {o:HO}:But p H (upd H p o):=fun c q n h=>by rw [bR n]; exact h
abbrev All:Addr->Prop:=fun _=>True
end
def At (K:PySem.W.Frag) (x:List (List Int)) (a:List Int) (p:Addr) (σ:L2.St) (H:Hp):Prop :=
 ∃ vo va,σ[0]? = some (some vo)/\Dn K All H (aK x) vo/\σ[1]? = some (some va)/\Dn K All H (tupI a) va/\σ[2]? = some (some (.ref p))
theorem At.slot {K:PySem.W.Frag} {x:List (List Int)} {a:List Int} {p:Addr} {σ:L2.St} {H:Hp} (h:At K x a p σ H):σ[2]? = some (some (.ref p)):=by
 obtain ⟨vo,va,h1,h2,h3,h4,h5⟩:=h
 exact h5
section
variable {K:PySem.W.Frag} {rd:List Int->List (List Int)} {x:List (List Int)} {Ok:List Int->Prop} {a:List Int} {p:Addr} {σ:L2.St} {H:Hp} {kvs:List (List Key×V)}
structure Parts (K:PySem.W.Frag) (rd:List Int->List (List Int)) (x:List (List Int)) (a:List Int) (C1:TT) (T1:TE) (T3:TS):Prop where
 c1:∀ p σ H Q,At K x a p σ H->(∀ H',Same H H'->Q (decide (a.length=x.length)) H')->C1 σ H Q
 t1:∀ σ H (Q:VK),(∀ H',Same H H'->Q (.int 1) H')->T1 σ H Q
 t3:∀ p (D:Ends) σ H,σ.length=4->At K x a p σ H->a.length<x.length->(∀ (σ':L2.St) (H':Hp) (l:Addr) (ps:List Addr),Same H H'->At K x a p σ' H'->σ'[3]? = some (some (.ref l))->H' l=some (.lst (ps.map V.ref))->ps.length=(rd a).length ->
  (∀ (i:Nat) (q:Addr) (b:List Int),ps[i]? = some q->(rd a)[i]? = some b->H' q=some (.tup (b.map V.int)))->D.nx σ' H')->T3 D σ H
end
section
variable {K:PySem.W.Frag} {rd:List Int->List (List Int)} {x:List (List Int)} {Ok:List Int->Prop} {a:List Int} {p:Addr} {σ:L2.St} {H:Hp} {kvs:List (List Key×V)}
def wst (x:List (List Int)) (a:List Int) (p:Addr):aR:=[.ro (aK x),.ro (tupI a),.ro (.exc "" p),.no]
theorem At.st (h:At K x a p σ H):ST K H All (fun _=>0) σ H (wst x a p) []:=by
 have no:∀ (i:Nat) (d:D),(wst x a p)[i]?≠some (Sv.ow d):=fun i d e=>by
  match i,e with
  | 0,e=>cases e
  | 1,e=>cases e
  | 2,e=>cases e
  | 3,e=>cases e
  | n+4,e=>simp [wst] at e
 obtain ⟨vo,va,h1,h2,h3,h4,h5⟩:=h
 refine ⟨fun _ _=>trivial,Same.refl H,fun i d e=>absurd e (no i d),fun i j d e h=>absurd h (no i d),fun i d e=>?_,fun g hg=>by cases hg⟩
 have m:∀ b,All b->SO All (fun _=>0) (wst x a p) b:=fun b _=>⟨trivial,fun i d e=>absurd e (no i d)⟩
 match i,e with
 | 0,e=>cases e; exact ⟨vo,h1,Dn.fits (.mono m) _ _ h2⟩
 | 1,e=>cases e; exact ⟨va,h3,Dn.fits (.mono m) _ _ h4⟩
 | 2,e=>cases e; exact ⟨_,h5,by simp only [Dn]⟩
 | 3,e=>cases e
 | n+4,e=>simp [wst] at e
end
end L7
end
section
namespace L7
open PySem PySem.Spec PyProof.Rows
section
variable {prog:Program} {w:World} {A:Around} {E:Value->Shared->Prop} {s:Shared} {d it:Addr} {o:Obj} {es:Array DictEntry} {ep i:Nat}
end
end L7
end
section
namespace L8
open PySem PySem.Spec PyProof.Rows L2
def gM (kvs:List (KX×V×V)) (k:KX):Option V:=(kvs.find? fun p=>decide (p.1=k)).map (·.2.2)
def e9 (kvs:List (KX×V×V)) (k:KX) (y v:V):List (KX×V×V):=if kvs.any (fun p=>decide (p.1=k))=true then kvs.map (fun p=>if p.1=k then (p.1,p.2.1,v) else p) else kvs++[(k,y,v)]
def KAt (H:Hp):KX->V->Prop
 | .inl k,y=>y=kV k
 | .inr ks,y=>∃ b,y=.ref b/\mQ H ks b
def rD (kvs:List (KX×V×V)) (k:KX):Prop:=∀ p∈kvs,p.1.isLeft=k.isLeft
theorem EY (kvs:List (KX×V×V)) (k:KX) (y v:V):(e9 kvs k y v).length<=kvs.length+1:=by
 unfold e9
 split
 ·rw [List.length_map]; omega
 ·simp
abbrev PL:List (KX×V×V)->List (Key×Value)->Prop:=Paired fun p q=>p.1=.inl q.1/\p.2.1=kV q.1/\RelV p.2.2 q.2
abbrev PT (H:Hp):List (KX×V×V)->List (N1×Addr×Value)->Prop:=Paired fun p q=>p.1=.inr q.1/\p.2.1=.ref q.2.1/\mQ H q.1 q.2.1/\RelV p.2.2 q.2.2
theorem PL.val {kvs:List (KX×V×V)} {vs:List (Key×Value)} (r:PL kvs vs) (k:Key):mP (gM kvs (.inl k)) (valueAt vs k):=by
 induction r with
 | nil=>exact True.intro
 | @cons p q ps qs h t ih =>
  by_cases e:q.1=k
  ·have e1:p.1=.inl k:=by rw [h.1,e]
   have a:gM (p::ps) (.inl k)=some p.2.2:=by unfold gM; rw [List.find?_cons,decide_eq_true e1]; rfl
   have b:valueAt (q::qs) k=some q.2:=by unfold valueAt; rw [List.find?_cons]; simp [e]
   rw [a,b]
   exact h.2.2
  ·have e1:¬ p.1=.inl k:=fun z=>e (by rw [h.1] at z; exact Sum.inl.inj z)
   have a:gM (p::ps) (.inl k)=gM ps (.inl k):=by unfold gM; rw [List.find?_cons,decide_eq_false e1]
   have b:valueAt (q::qs) k=valueAt qs k:=by unfold valueAt; rw [List.find?_cons]; simp [e]
   rw [a,b]
   exact ih
theorem PT.val {H:Hp} {kvs:List (KX×V×V)} {xs:List (N1×Addr×Value)} (r:PT H kvs xs) (k:N1):mP (gM kvs (.inr k)) ((atKey xs k).map (·.2)):=by
 induction r with
 | nil=>exact True.intro
 | @cons p q ps qs h t ih =>
  by_cases e:q.1=k
  ·have e1:p.1=.inr k:=by rw [h.1,e]
   have a:gM (p::ps) (.inr k)=some p.2.2:=by unfold gM; rw [List.find?_cons,decide_eq_true e1]; rfl
   have b:atKey (q::qs) k=some q.2:=by unfold atKey; rw [List.find?_cons]; simp [e]
   rw [a,b]
   exact h.2.2.2
  ·have e1:¬ p.1=.inr k:=fun z=>e (by rw [h.1] at z; exact Sum.inr.inj z)
   have a:gM (p::ps) (.inr k)=gM ps (.inr k):=by unfold gM; rw [List.find?_cons,decide_eq_false e1]
   have b:atKey (q::qs) k=atKey qs k:=by unfold atKey; rw [List.find?_cons]; simp [e]
   rw [a,b]
   exact ih
theorem SD (kvs:List (KX×V×V)) (k:KX):kvs.any (fun p=>decide (p.1=k))=(gM kvs k).isSome:=by
 unfold gM
 rw [Option.isSome_map]
 induction kvs with
 | nil=>rfl
 | cons p ps ih =>
  rw [List.any_cons,List.find?_cons,ih]
  cases decide (p.1=k)<;>rfl
theorem PL.put {kvs:List (KX×V×V)} {vs:List (Key×Value)} (r:PL kvs vs) (k:Key) {v:V} {u:Value} (rv:RelV v u):PL (e9 kvs (.inl k) (kV k) v) (stored vs k u):=by
 have e:kvs.any (fun p=>decide (p.1=.inl k))=vs.any (fun kv=>kv.1=k):=by
  induction r with
  | nil=>rfl
  | @cons p q ps qs h t ih =>
   rw [List.any_cons,List.any_cons,ih,h.1]
   congr 1
   exact decide_eq_decide.2 ⟨fun z=>Sum.inl.inj z,fun z=>by rw [z]⟩
 unfold e9 stored
 rw [e]
 split
 ·rename_i hc
  clear hc e
  induction r with
  | nil=>exact .nil
  | @cons p q ps qs h t ih =>
   rw [List.map_cons,List.map_cons]
   refine .cons ?_ ih
   by_cases z:q.1=k
   ·rw [if_pos z,if_pos (by rw [h.1,z])]; exact ⟨h.1,h.2.1,rv⟩
   ·rw [if_neg z,if_neg (fun y=>z (by rw [h.1] at y; exact Sum.inl.inj y))]; exact h
 ·exact Paired.snoc r ⟨rfl,rfl,rv⟩
theorem PT.put {H:Hp} {kvs:List (KX×V×V)} {xs:List (N1×Addr×Value)} (r:PT H kvs xs) (k:N1) {b:Addr} {v:V} {u:Value} (hb:mQ H k b) (rv:RelV v u):PT H (e9 kvs (.inr k) (.ref b) v) (storedH xs k b u):=by
 have e:kvs.any (fun p=>decide (p.1=.inr k))=(atKey xs k).isSome:=by
  rw [SD]
  have:=(PT.val r k).n5
  rw [Option.isSome_map] at this
  exact this
 unfold e9 storedH
 rw [e]
 split
 ·rename_i hc
  clear hc e
  induction r with
  | nil=>exact .nil
  | @cons p q ps qs h t ih =>
   rw [List.map_cons,List.map_cons]
   refine .cons ?_ ih
   unfold putAt
   by_cases z:q.1=k
   ·rw [if_pos z,if_pos (by rw [h.1,z])]; exact ⟨h.1,h.2.1,h.2.2.1,rv⟩
   ·rw [if_neg z,if_neg (fun y=>z (by rw [h.1] at y; exact Sum.inr.inj y))]; exact h
 ·exact Paired.snoc r ⟨rfl,rfl,hb,rv⟩
section
variable {P:Program} {w:World} {H:Hp} {h:Heap} {a:Addr} {o:Obj} {kvs:List (KX×V×V)}
theorem rE (ok:oD P w H h) {ks:N1} {b:Addr} (n:mQ H ks b):(kM P w).is h ks b:=by
 obtain ⟨vs,e,r⟩:=n
 obtain ⟨_,its,rv,q,h1,h2,m,h3⟩:=(show eD P w H h b (.tup vs) from ok b _ e)
 have go:∀ {ks:N1} {vs:List V} {us:List Value},Paired (BU H) ks vs->Vals vs us->gG (bB P w) h ks us:=by
  intro ks vs us r
  induction r generalizing us with
  | nil=>intro rv; cases rv; exact .nil
  | @cons k v ks vs i _ ih =>
   intro rv
   cases rv with
   | @cons _ u _ us ru rt =>
    refine .cons ?_ (ih rt)
    cases k with
    | inl k =>
     have i:v=kV k:=i
     subst i
     exact tW ru
    | inr k =>
     obtain ⟨c,rfl,hc⟩:=i
     have ru:u=.ref c:=ru
     exact ⟨c,ru,B9 ok hc⟩
 exact ⟨q,its.toArray,m,h1,h2,h3,by simpa using go r rv⟩
theorem xR (x:BV P w H o kvs) (ho:h.get? a=some o) (hp:∀ p∈kvs,p.1.isLeft=true):∃ vs,PL kvs vs/\h.DictOf (bB P w) a vs:=by
 obtain ⟨ex,es,ep,ed,hx⟩:=x
 rcases hx with ⟨vs,r,h1,h2,h3⟩ | ⟨xs,r,h1,h2⟩
 ·exact ⟨vs,r,o,es,ep,ho,ex,ed,h1,h2,h3⟩
 ·cases r with
  | nil =>
   have e0:es.toList=[]:=h1
   have e1:es=#[]:=by simpa using e0
   subst e1
   exact ⟨[],.nil,o,#[],ep,ho,ex,ed,(fun _ he=>by simp at he),.nil,List.nodup_nil⟩
  | @cons p q ps qs hq t =>
   have:=hp p List.mem_cons_self
   rw [hq.1] at this
   cases this
theorem CS (ok:oD P w H h) (x:BV P w H o kvs) (ho:h.get? a=some o) (hp:∀ p∈kvs,p.1.isLeft=false):∃ xs,PT H kvs xs/\h.DictOfH (kM P w) a xs:=by
 obtain ⟨ex,es,ep,ed,hx⟩:=x
 rcases hx with ⟨vs,r,h1,h2,h3⟩ | ⟨xs,r,h1,h2⟩
 ·cases r with
  | nil =>
   have e0:es.toList=[]:=List.eq_nil_of_length_eq_zero (by rw [h2.length]; rfl)
   exact ⟨[],.nil,o,es,ep,ho,ex,ed,e0,(fun _ he=>by simp at he),List.nodup_nil⟩
  | @cons p q ps qs hq t =>
   have:=hp p List.mem_cons_self
   rw [hq.1] at this
   cases this
 ·refine ⟨xs,r,o,es,ep,ho,ex,ed,h1,?_,h2⟩
  have go:∀ {kvs:List (KX×V×V)} {xs:List (N1×Addr×Value)},PT H kvs xs -> ∀ x∈xs,(kM P w).is h x.1 x.2.1:=by
   intro kvs xs r
   induction r with
   | nil=>intro x hx; cases hx
   | cons hq _ ih =>
    intro x hx
    rcases List.mem_cons.1 hx with e | hx
    ·subst e; exact rE ok hq.2.2.1
    ·exact ih x hx
  exact go r
end
section
variable {X:Cx} {pins:List (Addr×Obj)} {σ:L2.St} {H:Hp} {s:Shared} {a:Addr} {y v z:V} {u r:Value} {A:Around} {E:Value->Shared->Prop} {o:Obj} {kvs:List (KX×V×V)} {k:KX}
theorem JY (I:Inv X pins σ H s) (e:H a=some (.dX o kvs)):kvs.length<=sizeLine/\(a == sysModules)=false/\s.heap.get? a=some o/\BV X.prog X.w H o kvs:=I.hok a _ e
theorem aAq {k:Key} (kd:rD kvs (.inl k)):∀ p∈kvs,p.1.isLeft=true:=kd
theorem aAr {k:N1} (kd:rD kvs (.inr k)):∀ p∈kvs,p.1.isLeft=false:=kd
theorem M0 {Q:Value->Shared->Prop} (hu:A.units+2<cLine) (I:Inv X pins σ H s) (e:H a=some (.dX o kvs)) (hk:KAt H k y) (kd:rD kvs k) (hv:gM kvs k=some v) (ry:RelV y u) (h:∀ w' s',Inv X pins σ H s'->RelV v w'->Q w' s') :
  wpAny (model X.prog X.w) A (getItem (.ref a) u) Q E s:=by
 obtain ⟨z,hs,ho,hx⟩:=JY I e
 cases k with
 | inl k =>
  have hk:y=kV k:=hk
  subst hk
  obtain ⟨vs,rel,dd⟩:=xR hx ho (aAq kd)
  obtain ⟨w',hw,vX⟩:=mP.some_of (v:=v) (o:=valueAt vs k) (by rw [<- hv]; exact PL.val rel k)
  exact wpAny_getItem_of (tW ry) dd.mapOf hw (h w' _ (I.tok _) vX)
 | inr k =>
  obtain ⟨b,rfl,hb⟩:=hk
  obtain rfl:u=Value.ref b:=ry
  obtain ⟨xs,rel,dd⟩:=CS I.hok hx ho (aAr kd)
  obtain ⟨w',hw,vX⟩:=mP.some_of (v:=v) (o:=(atKey xs k).map (·.2)) (by rw [<- hv]; exact PT.val rel k)
  obtain ⟨p,hp,hp2⟩:=Option.map_eq_some_iff.mp hw
  refine wpAny_getItem_heap (nest_room hu) (rE I.hok hb) dd hp ?_
  rw [hp2]
  exact h w' _ (I.tok _) vX
theorem aJM {Q:Value->Shared->Prop} (neg:Bool) (hu:A.units+2<cLine) (I:Inv X pins σ H s) (e:H a=some (.dX o kvs)) (hk:KAt H k y) (kd:rD kvs k) (ry:RelV y u) (h:∀ s',Inv X pins σ H s'->Q (.bool (if neg then !(gM kvs k).isSome else (gM kvs k).isSome)) s') :
  wpAny (model X.prog X.w) A (compareOp (if neg then .NotIn else .In) u (.ref a)) Q E s:=by
 obtain ⟨z,hs,ho,hx⟩:=JY I e
 cases k with
 | inl k =>
  have hk:y=kV k:=hk
  subst hk
  obtain ⟨vs,rel,dd⟩:=xR hx ho (aAq kd)
  have ev:(gM kvs (.inl k)).isSome=(valueAt vs k).isSome:=(PL.val rel k).n5
  rw [ev] at h
  cases neg with
  | false=>exact wpAny_in_of (tW ry) hs dd.mapOf (h _ (I.tok _))
  | true=>exact wpAny_notIn_of (tW ry) hs dd.mapOf (h _ (I.tok _))
 | inr k =>
  obtain ⟨b,rfl,hb⟩:=hk
  obtain rfl:u=Value.ref b:=ry
  obtain ⟨xs,rel,dd⟩:=CS I.hok hx ho (aAr kd)
  have ev:=(PT.val rel k).n5
  rw [Option.isSome_map] at ev
  rw [ev] at h
  cases neg with
  | false=>exact wpAny_in_heap (nest_room hu) (rE I.hok hb) hs dd (h _ (I.tok _))
  | true=>exact wpAny_notIn_heap (nest_room hu) (rE I.hok hb) hs dd (h _ (I.tok _))
theorem SE (I:Inv X pins σ H s) (e:H a=some (.dX o kvs)):s.TypeIs (.ref a) "dict" := by
 obtain ⟨z,hs,ho,hx⟩:=JY I e
 exact ⟨o,ho,hx.1.1⟩
theorem SG {P:Program} {w:World} {h':Heap} {H':Hp} {kvs:List (KX×V×V)} {vs:List (Key×Value)} (rel:PL kvs vs) (dd:h'.DictOf (bB P w) a vs):∃ o',h'.get? a=some o'/\BV P w H' o' kvs:=by
 obtain ⟨o',es,ep,h1,h2,h3,h4,h5,h6⟩:=dd
 exact ⟨o',h1,h2,es,ep,h3,.inl ⟨vs,rel,h4,h5,h6⟩⟩
theorem WH {P:Program} {w:World} {h':Heap} {H':Hp} {kvs:List (KX×V×V)} {xs:List (N1×Addr×Value)} (rel:PT H' kvs xs) (dd:h'.DictOfH (kM P w) a xs):∃ o',h'.get? a=some o'/\BV P w H' o' kvs:=by
 obtain ⟨o',es,ep,h1,h2,h3,h4,_,h6⟩:=dd
 exact ⟨o',h1,h2,es,ep,h3,.inr ⟨xs,rel,h4,h6⟩⟩
theorem WJ {H:Hp} {a:Addr} {o:Obj} {kvs:List (KX×V×V)} {u:HO} (e:H a=some (.dX o kvs)):∀ b ys,H b=some (.tup ys)->upd H a u b=some (.tup ys):=fun b ys eb=>by
 rw [bR (XG eb e (fun z=>nomatch z))]
 exact eb
theorem M1 {Q:Unit->Shared->Prop} (hu:A.units+2<cLine) (I:Inv X pins σ H s) (e:H a=some (.dX o kvs)) (hk:KAt H k y) (kd:rD kvs k) (hl:kvs.length<sizeLine) (ry:RelV y u) (rv:RelV v r) (h:∀ o' s',Inv X pins σ (upd H a (.dX o' (e9 kvs k y v))) s'->Q () s') :
  wpAny (model X.prog X.w) A (setItem (.ref a) u r) Q E s:=by
 obtain ⟨z,hs,ho,hx⟩:=JY I e
 have hz:(e9 kvs k y v).length<=sizeLine:=by have:=EY kvs k y v; omega
 have mu:Mut (H a):=by rw [e]; exact True.intro
 cases k with
 | inl k =>
  have hk:y=kV k:=hk
  subst hk
  obtain ⟨vs,rel,dd⟩:=xR hx ho (aAq kd)
  have hv:vs.length<=sizeLine:=by rw [<- Paired.length rel]; exact z
  refine wpAny_setItem_pairs (hsz:=hv) (tW ry) dd fun h' XU sb=>?_
  obtain ⟨o',g1,g2⟩:=SG (H':=upd H a (.dX o (e9 kvs (.inl k) (kV k) v))) (PL.put rel k rv) XU
  exact h o' _ (uS I mu sb ⟨o',g1⟩ ⟨hz,hs,g1,g2.stay fun b ys eb=>by
   by_cases hb:b=a
   ·subst hb; rw [bA] at eb; cases eb
   ·rw [bR hb] at eb ⊢; exact eb⟩)
 | inr k =>
  obtain ⟨b,rfl,hb⟩:=hk
  obtain rfl:u=Value.ref b:=ry
  obtain ⟨xs,rel,dd⟩:=CS I.hok hx ho (aAr kd)
  have hv:xs.length<=sizeLine:=by rw [<- Paired.length rel]; exact z
  refine wpAny_setItem_heap (hsz:=hv) (nest_room hu) (rE I.hok hb) dd fun h' XU sb=>?_
  obtain ⟨o',g1,g2⟩:=WH (PT.put rel k hb rv) XU
  exact h o' _ (uS I mu sb ⟨o',g1⟩ ⟨hz,hs,g1,g2.stay (WJ e)⟩)
end
end L8
end
section
namespace L8
open PySem PySem.Spec PyProof.Rows L2 L7
def YB (td ty:TE):TE:=fun σ H Q=>td σ H fun x H1=>ty σ H1 fun y H2=>∃ a o kvs k v,x=.ref a/\H2 a=some (.dX o kvs)/\KAt H2 k y/\rD kvs k/\gM kvs k=some v/\Q v H2
def aAs (neg:Bool) (ty td:TE):TE:=fun σ H Q=>ty σ H fun y H1=>td σ H1 fun x H2=>∃ a o kvs k,x=.ref a/\H2 a=some (.dX o kvs)/\KAt H2 k y/\rD kvs k/\Q (.bl (if neg then !(gM kvs k).isSome else (gM kvs k).isSome)) H2
def aDl (td ty tv:TE):TS:=fun D σ H=>tv σ H fun v H1=>td σ H1 fun x H2=>ty σ H2 fun y H3=>∃ a o kvs k,x=.ref a/\H3 a=some (.dX o kvs)/\KAt H3 k y/\rD kvs k/\kvs.length<sizeLine /\ ∀ o',D.nx σ (upd H3 a (.dX o' (e9 kvs k y v)))
def aDm:TE:=fun _ H Q=>∀ p o,H p=none->Q (.ref p) (upd H p (.dX o []))
section
variable {X:Cx} {o i e f value:Expr} {pos pos':Pos} {td ty tv tz:TE}
theorem JZ (hu:X.A.units+2<cLine) (ho:PE X o td) (hi:PE X i ty) (hs:GS i):PE X (.Subscript o i pos) (YB td ty):=by
 intro pins s σ H Q I h
 refine JK F.slot_dict_getitem.lookup hs (eP (ho pins s σ H _ I h) fun u s1 ⟨x,H1,I1,rx,q1⟩=>?_)
 refine eP (hi pins s1 σ H1 _ I1 q1) fun iv s2 aDn=>?_
 obtain ⟨y,H2,I2,ry,a,ob,kvs,k,v,ex,e,hk,kd,hv,q2⟩:=aDn
 subst ex
 obtain rfl:u=Value.ref a:=rx
 exact ⟨SE I2 e,M0 hu I2 e hk kd hv ry fun w' s3 I3 r3=>⟨v,H2,I3,r3,q2⟩⟩
theorem M4 (hu:X.A.units+2<cLine) (hi:PE X i ty) (ho:PE X o td):PC X .NotIn i o (aAs true ty td):=by
 intro pins s σ H Q I h
 refine eP (hi pins s σ H _ I h) fun iv s1 aDo=>?_
 obtain ⟨y,H1,I1,ry,q1⟩:=aDo
 refine eP (ho pins s1 σ H1 _ I1 q1) fun u s2 aDp=>?_
 obtain ⟨x,H2,I2,rx,a,ob,kvs,k,ex,e,hk,kd,q2⟩:=aDp
 subst ex
 obtain rfl:u=Value.ref a:=rx
 exact aJM true hu I2 e hk kd ry fun s3 I3=>⟨.bl _,H2,I3,rfl,q2⟩
theorem WK (hu:X.A.units+2<cLine) (ho:PE X o td) (hi:PE X i ty) (hv:PE X value tv) (hs:swapsWith value (some (.Subscript o i pos')) pos.line X.env=pure false):PS X (.Assign [.Subscript o i pos'] value pos) (aDl td ty tv):=by
 intro pins s σ H D I h
 refine wpAny_Assign_Subscript (eP (hv pins s σ H _ I h) fun r s1 ⟨v,H1,I1,rv,q1⟩=>?_) hs
 refine eP (ho pins s1 σ H1 _ I1 q1) fun u s2 aDq=>?_
 obtain ⟨x,H2,I2,rx,q2⟩:=aDq
 refine eP (hi pins s2 σ H2 _ I2 q2) fun iv s3 aDr=>?_
 obtain ⟨y,H3,I3,ry,a,ob,kvs,k,ex,e,hk,kd,hl,q3⟩:=aDr
 subst ex
 obtain rfl:u=Value.ref a:=rx
 exact M1 hu I3 e hk kd hl ry rv fun o' s4 I4=>⟨σ,_,I4,q3 o'⟩
theorem SH {P:Program} {w:World} {H:Hp} (h:Heap) (hb:sysModules<h.objs.size):eD P w H (h.push { cls:=.type "dict",data:=.dict #[] }) h.objs.size (.dX { cls:=.type "dict",data:=.dict #[] } []) :=
 ⟨Nat.zero_le _,beq_eq_false_iff_ne.mpr (Ne.symm (Nat.ne_of_lt hb)),Heap.get?_push_size _ rfl,⟨rfl,rfl,rfl⟩,#[],0,rfl,.inl ⟨[],.nil,(fun _ he=>by simp at he),.nil,List.nodup_nil⟩⟩
theorem WL:PE X (.Dict [] [] pos) aDm:=fun pins s σ H Q I h =>
 wpAny_Dict_empty ⟨.ref s.heap.objs.size,_,I.laid (t':=s.toks) (fun _ _ q=>Heap.get?_push_of_some _ q) (Nat.le_refl _) (SH s.heap I.big),rfl,h _ _ (I.hok.fresh (Nat.le_refl _))⟩
end
end L8
end
section
namespace L8
open PySem PySem.Spec PyProof.Rows L2 L3 L4
section
variable {K:PySem.W.Frag} {S:Addr->Prop} {H:Hp}
theorem WM {d:D} {v:V} {k:Key} (h:Dn K S H d v) (e:u0 d=some k):v=kV k:=by
 cases d<;>simp only [u0] at e<;>cases e<;>simp only [Dn] at h<;>exact h
theorem EZ:∀ {ds:List D} {xs:List V} {ks:List Key},aQ K S H ds xs->y9 ds=some ks->xs=ks.map kV
 | [],xs,ks,h,e=>by simp only [aQ] at h; cases e; exact h
 | d::ds,xs,ks,h,e=>by
  obtain ⟨v,r,rfl,h1,h2⟩:=h.bI
  obtain ⟨k,ek,e⟩:=bnd e
  obtain ⟨ks',e2,rfl⟩:=uT e
  rw [WM h1 ek,EZ h2 e2]
  rfl
theorem SI {d:D} {v:V} {k:Sum Key (List Key)} (h:Dn K S H d v) (e:N2 d=some k):BU H k v:=by
 cases d with
 | tup ds =>
  obtain ⟨ks,e2,rfl⟩:=uT e
  simp only [Dn] at h
  obtain ⟨a,xs,rfl,ha,dn⟩:=h
  rw [EZ dn e2] at ha
  exact ⟨a,rfl,ha⟩
 | int i=>cases e; simp only [Dn] at h; exact h
 | str i=>cases e; simp only [Dn] at h; exact h
 | _=>cases e
theorem AW:∀ {ds:List D} {xs:List V} {ks:N1},aQ K S H ds xs->vD ds=some ks->Paired (BU H) ks xs
 | [],xs,ks,h,e=>by simp only [aQ] at h; cases e; subst h; exact .nil
 | d::ds,xs,ks,h,e=>by
  obtain ⟨v,r,rfl,h1,h2⟩:=h.bI
  obtain ⟨k,ek,e⟩:=bnd e
  obtain ⟨ks',e2,rfl⟩:=uT e
  exact .cons (SI h1 ek) (AW h2 e2)
theorem uU {d:D} {v:V} {k:KX} (h:Dn K S H d v) (e:rQ d=some k):KAt H k v:=by
 cases d with
 | tup ds =>
  obtain ⟨ks,e2,rfl⟩:=uT e
  simp only [Dn] at h
  obtain ⟨a,xs,rfl,ha,dn⟩:=h
  exact ⟨a,rfl,xs,ha,AW dn e2⟩
 | int i=>cases e; simp only [Dn] at h; exact h
 | str i=>cases e; simp only [Dn] at h; exact h
 | _=>cases e
theorem xS {k:KX}:∀ {kvs:List (KX×V×V)} {ds:List D},aQ K S H ds (kvs.map (·.2.2))->(∀ d,cK (kvs.map (·.1)) ds k=some d -> ∃ v,gM kvs k=some v/\Dn K S H d v)/\(cK (kvs.map (·.1)) ds k=none->gM kvs k=none)
 | [],ds,h=>⟨fun d e=>by simp [cK] at e,fun _=>rfl⟩
 | p::kvs,ds,h=>by
  cases ds with
  | nil=>exact absurd h.len (by simp)
  | cons d0 ds =>
   obtain ⟨v,r,e1,h1,h2⟩:=h.bI
   rw [List.map_cons] at e1
   cases e1
   have ih:=xS (k:=k) (kvs:=kvs) (ds:=ds) h2
   by_cases e:p.1=k
   ·have a:cK ((p::kvs).map (·.1)) (d0::ds) k=some d0:=by simp [cK,e]
    have b:gM (p::kvs) k=some p.2.2:=by simp [gM,e]
    rw [a,b]
    exact ⟨fun d ed=>by cases ed; exact ⟨_,rfl,h1⟩,fun z=>nomatch z⟩
   ·have a:cK ((p::kvs).map (·.1)) (d0::ds) k=cK (kvs.map (·.1)) ds k:=by simp [cK,e]
    have b:gM (p::kvs) k=gM kvs k:=by simp [gM,e]
    rw [a,b]
    exact ih
theorem CT {k:KX} {kvs:List (KX×V×V)} (h:kindB (kvs.map (·.1)) k=true):rD kvs k:=fun p hp=>by
 unfold kindB at h
 rw [List.all_eq_true] at h
 simpa using h p.1 (List.mem_map_of_mem hp)
theorem aDs {k:KX} {y v:V} {d:D} (dv:Dn K S H d v):∀ {kvs:List (KX×V×V)} {ds:List D},aQ K S H ds (kvs.map (·.2.2)) ->
  (L8.e9 kvs k y v).map (·.1)=(L4.e9 (kvs.map (·.1)) ds k d).1/\aQ K S H (L4.e9 (kvs.map (·.1)) ds k d).2 ((L8.e9 kvs k y v).map (·.2.2)):=by
 intro kvs ds h
 have e:(kvs.map (·.1)).any (fun q=>decide (q=k))=kvs.any (fun p=>decide (p.1=k)):=by rw [List.any_map]; rfl
 unfold L8.e9 L4.e9
 rw [e]
 split
 ·refine ⟨?_,?_⟩
  ·simp only [List.map_map]
   refine List.map_congr_left fun p _=>?_
   show (if p.1=k then (p.1,p.2.1,v) else p).1=p.1
   split<;>rfl
  ·dsimp only
   have go:∀ {kvs:List (KX×V×V)} {ds:List D},aQ K S H ds (kvs.map (·.2.2))->aQ K S H (((kvs.map (·.1)).zip ds).map fun p=>if p.1=k then d else p.2) ((kvs.map fun p=>if p.1=k then (p.1,p.2.1,v) else p).map (·.2.2)):=by
    intro kvs
    induction kvs with
    | nil=>intro ds h; cases ds with
     | nil=>exact aQ.nil
     | cons d0 ds=>exact absurd h.len (by simp)
    | cons p kvs ih =>
     intro ds h
     cases ds with
     | nil=>exact absurd h.len (by simp)
     | cons d0 ds =>
      obtain ⟨u,r,e1,h1,h2⟩:=h.bI
      rw [List.map_cons] at e1
      cases e1
      refine aQ.cons ?_ (ih h2)
      by_cases z:p.1=k
      ·simpa [z] using dv
      ·simpa [z] using h1
   exact go h
 ·refine ⟨by simp,?_⟩
  rw [List.map_append]
  exact h.append (aQ.one dv)
end
section
variable {X:Cx}
theorem aJN {o i:Expr} {pos:Pos} {fo fi:EF} (hu:X.A.units+2<cLine) (ho:cP X o fo) (hi:cP X i fi) (hs:GS i:=by intro _ _; rfl):cP X (.Subscript o i pos) (aE aBV fo fi):=imp (JZ hu ho hi hs) fun σ H Q aDt=>by
 obtain ⟨S,ρ,Q3,fc,sl,⟨d,e,q⟩,k⟩:=aDt
 obtain ⟨x,ex,e⟩:=bnd e
 obtain ⟨y,ey,e⟩:=bnd e
 refine ⟨S,ρ,fun d=>d=x,fc,sl,⟨x,ex,rfl⟩,fun v H1 d1 s1 S6 e1=>?_⟩
 subst e1
 refine ⟨S,ρ,fun d=>d=y,bH fc s1,Sl.fits (.same s1) sl,⟨y,ey,rfl⟩,fun u H2 d2 s2 JO e2=>?_⟩
 subst e2
 have S6:=Dn.fits (.same s2) _ _ S6
 cases d1 with
 | eL q0 ks ds =>
  obtain ⟨kk,ek,e⟩:=bnd e
  simp only [Dn] at S6
  obtain ⟨a,o,kvs,rfl,ha,sa,⟨rfl,_⟩,da⟩:=S6
  by_cases hk:kindB (kvs.map (·.1)) kk=true
  ·rw [if_pos hk] at e
   obtain ⟨v3,ev,dv⟩:=(xS da).1 d e
   exact ⟨a,o,kvs,kk,v3,rfl,ha,uU JO ek,CT hk,ev,k v3 H2 d (s1.trans s2) dv q⟩
  ·rw [if_neg hk] at e; cases e
 | _=>cases e
theorem SJ {neg:Bool} {fo fi:EF} {σ:L2.St} {H:Hp} {Q:VK} (h:lift X.K (wE (aE (KO neg) fi fo)) σ H Q):aAs neg (lift X.K (wE fi)) (lift X.K (wE fo)) σ H Q:=by
 obtain ⟨S,ρ,Q3,fc,sl,⟨d,e,q⟩,k⟩:=h
 obtain ⟨x,ex,e⟩:=bnd e
 obtain ⟨y,ey,e⟩:=bnd e
 refine ⟨S,ρ,fun d=>d=x,fc,sl,⟨x,ex,rfl⟩,fun v H1 d1 s1 S6 e1=>?_⟩
 subst e1
 refine ⟨S,ρ,fun d=>d=y,bH fc s1,Sl.fits (.same s1) sl,⟨y,ey,rfl⟩,fun u H2 d2 s2 JO e2=>?_⟩
 subst e2
 have S6:=Dn.fits (.same s2) _ _ S6
 cases d2 with
 | eL q0 ks ds =>
  obtain ⟨kk,ek,e⟩:=bnd (o:=rQ d1) e
  simp only [Dn] at JO
  obtain ⟨a,o,kvs,rfl,ha,sa,⟨rfl,_⟩,da⟩:=JO
  by_cases hk:kindB (kvs.map (·.1)) kk=true
  ·rw [if_pos hk] at e
   cases e
   have ev:(gM kvs kk).isSome=(cK (kvs.map (·.1)) ds kk).isSome:=by
    cases hl:cK (kvs.map (·.1)) ds kk with
    | none=>rw [(xS da).2 hl]; rfl
    | some d3=>obtain ⟨v3,e3,_⟩:=(xS da).1 d3 hl; rw [e3]; rfl
   refine ⟨a,o,kvs,kk,rfl,ha,uU S6 ek,CT hk,?_⟩
   rw [ev]
   exact k _ H2 _ (s1.trans s2) (by simp only [Dn]) q
  ·rw [if_neg hk] at e; cases e
 | _=>cases e
section
variable {o i:Expr} {pos:Pos} {fo fi:EF}
theorem M5 {neg:Bool} {σ:L2.St} {H:Hp} {Q:Bool->Hp->Prop} (h:liftT X.K (wT (tV (aE (KO neg) fi fo))) σ H Q):tB (aAs neg (lift X.K (wE fi)) (lift X.K (wE fo))) σ H Q:=by
 obtain ⟨S,ρ,Q3,fc,sl,⟨b,e,q⟩,k⟩:=h
 obtain ⟨d,e1,e2⟩:=bnd e
 have eb:d=.bl b:=by
  obtain ⟨x,ex,e⟩:=bnd e1
  obtain ⟨y,ey,e⟩:=bnd e
  cases y with
  | eL q0 ks ds =>
   obtain ⟨kk,ek,e⟩:=bnd (o:=rQ x) e
   by_cases hk:kindB ks kk=true
   ·rw [if_pos hk] at e
    cases e
    cases e2
    rfl
   ·rw [if_neg hk] at e; cases e
  | _=>cases e
 subst eb
 refine SJ ⟨S,ρ,fun d=>d=.bl b,fc,sl,⟨_,e1,rfl⟩,fun v H1 d s1 dn e3=>?_⟩
 subst e3
 simp only [Dn] at dn
 exact ⟨b,dn,k b H1 s1 q⟩
theorem aAt (hu:X.A.units+2<cLine) (hi:cP X i fi) (ho:cP X o fo) (hm:behindInMarks .NotIn o=false:=by with_unfolding_all rfl):AL X (.Compare i [.NotIn] [o] pos) (tV (aE (KO true) fi fo)):=QL (ZC (M4 hu hi ho) hm) fun _ _ _=>M5
end
end
section
variable {X:Cx}
theorem aDu {i:Nat} {x:Str} {pos pos' p:Pos} (hN:X.N.Nodup) (hi:X.N[i]? = some x:=by rfl) (hx:Loc X.env.scope x:=by first | exact .inl rfl | exact .inr rfl) (hs:swapsWith (.Dict [] [] p) (some (.Name x pos')) pos.line X.env=pure false:=by rfl) (hf:X.fn x=true\/X.env.scope.names.lookup x=some .local:=by first | exact .inl rfl | exact .inr rfl) :
  rO X (.Assign [.Name x pos'] (.Dict [] [] p) pos) (WZ i):=jY (sO hN hi hx WL hs hf) fun B σ H ⟨H₀,S,w,ρ,G,E,hl,st,ht,ok⟩=>fun p o hp =>
 ok.nx _ _ _ _ (by rw [List.length_set]; exact hl) (st.GU (d:=.eL uB [] []) (by rw [hl]; exact jO hi) (aM hp) hp ⟨o,[],bA,⟨rfl,trivial⟩,aQ.nil⟩) ht
theorem uV {o:Option Sv} {p:(Nat->Obj->Prop)×List vC×List D} (h:KP o=some p):o=some (.ow (.eL p.1 p.2.1 p.2.2)):=by
 unfold KP at h
 split at h
 ·cases h; rfl
 ·cases h
theorem aDv {i:Nat} {x:Str} {e k:Expr} {f:XF} {fk:EF} {pos pos' p:Pos} (hu:X.A.units+2<cLine) (he:ME X e f) (hk:cP X k fk)
  (hN:X.N[i]? = some x:=by rfl) (hv:BX X.env.scope x:=by first | exact Or.inl rfl | exact Or.inr (Or.inl rfl) | exact Or.inr (Or.inr rfl)) (hd:(x == ("__debug__" : Str))=false:=by decide) (hcd:(x == ("__classdict__" : Str))=false:=by decide)
  (hs:swapsWith e (some (.Subscript (.Name x p) k pos')) pos.line X.env=pure false:=by rfl) :
  rO X (.Assign [.Subscript (.Name x p) k pos'] e pos) (zA i f fk):=jY (WK hu (pG hN hv hd hcd) hk he hs) fun B σ H aDw=>by
 obtain ⟨H₀,S,w,ρ,G,E,hl,st,ht,ok⟩:=aDw
 unfold wS zA at ht
 cases h:((f ρ).bind fun p=>(KP p.1[i]?).bind fun kd=>(fk (cC p.1)).bind fun kv=>(rQ kv).bind fun kk =>
  if kindB kd.2.1 kk=true/\kd.2.2.length<pX then some (p.1.set i (.ow (.eL (adr kd.1) (L4.e9 kd.2.1 kd.2.2 kk p.2).1 (L4.e9 kd.2.1 kd.2.2 kk p.2).2))) else none) with
 | none=>rw [h] at ht; exact ht.elim
 | some ρ2 =>
  rw [h] at ht
  obtain ⟨⟨ρ1,d1⟩,eq,h⟩:=bnd h
  obtain ⟨⟨q0,ks,ds⟩,ed,h⟩:=bnd h
  obtain ⟨kv,ek,h⟩:=bnd h
  obtain ⟨kk,e2,h⟩:=bnd h
  have o0:=uV ed
  by_cases hc:kindB ks kk=true/\ds.length<pX
  ·rw [if_pos hc] at h
   cases h
   refine ⟨H₀,S,w,ρ,G,fun ρ' d=>ρ' = ρ1/\d=d1,hl,st,⟨_,eq,rfl,rfl⟩,fun w' v H' ρ' d st' dv q'=>?_⟩
   obtain ⟨rfl,rfl⟩:=q'
   obtain ⟨a0,_,_⟩:=st'.own i _ o0
   refine ⟨_,a0,S,cC ρ',fun y=>y=kv,st'.NR,st'.all,⟨kv,ek,rfl⟩,fun y H2 y' s2 dy ey=>?_⟩
   subst ey
   have st2:=st'.same s2
   obtain ⟨a,b,c⟩:=st2.own i _ o0
   obtain ⟨o,kvs,hp,⟨e5,hq⟩,dn⟩:=c
   subst e5
   have nS:¬ SO S w' ρ' (w' i):=fun ⟨_,z⟩=>z i _ o0 rfl
   refine ⟨w' i,o,kvs,kk,rfl,hp,uU dy e2,CT hc.1,?_,fun o'=>?_⟩
   ·have:=dn.len
    rw [List.length_map] at this
    rw [sizeLine_eq,<- this]
    exact hc.2
   ·have F:Fits X.K (SO S w' ρ') (SO S w' ρ') H2 (upd H2 (w' i) (.dX o' (L8.e9 kvs kk y v))):=.upd (.inr (.inr ⟨_,_,hp⟩)) nS
    obtain ⟨p1,p2⟩:=aDs (k:=kk) (y:=y) (Dn.fits (.same s2) _ _ dv) dn
    exact ok.nx w' σ _ _ hl (st2.write (d':=.eL (adr q0) _ _) o0 ⟨o',_,bA,⟨p1,o,hq⟩,aQ.fits F _ _ p2⟩) ht
  ·rw [if_neg hc] at h; cases h
end
theorem M6 {K:PySem.W.Frag} {H₀ H H':Hp} {S:Addr->Prop} {w:Nat->Addr} {σ:L2.St} {ρ:aR} {G:List (D×V)} {i:Nat} {d d':D} (h:ST K H₀ S w σ H ρ G) (e:ρ[i]? = some (Sv.ow d)) (hb:∀ b u,b≠w i->H b=some u->H' b=some u) (q:wV K (SO S w ρ) H' d' (w i)):ST K H₀ S w σ H' (ρ.set i (.ow d')) G:=by
 obtain ⟨a0,b0,c0⟩:=h.own i d e
 have wr:=c0.wr
 have so:SO S w (ρ.set i (.ow d'))=SO S w ρ:=by
  funext a
  refine propext ⟨fun ⟨s,n⟩=>⟨s,fun j f hf=>?_⟩,fun ⟨s,n⟩=>⟨s,fun j f hf=>?_⟩⟩
  ·by_cases hj:j=i
   ·subst hj
    exact n j d' (by rw [List.getElem?_set_self (List.getElem?_eq_some_iff.1 e).1])
   ·exact n j f (by rw [List.getElem?_set_ne (Ne.symm hj)]; exact hf)
  ·by_cases hj:j=i
   ·subst hj; exact n j d e
   ·exact n j f (by rw [List.getElem?_set_ne (Ne.symm hj)] at hf; exact hf)
 have ne:∀ a,SO S w ρ a->a≠w i:=fun a z=>z.2 i d e
 have nt:∀ a xs,H a=some (.tup xs)->a≠w i:=fun a xs z y=>by
  subst y
  rcases wr with ⟨_,k⟩ | ⟨_,k⟩ | ⟨_,_,k⟩<;>rw [z] at k<;>cases k
 have nf:∀ a o u,H a=some (.DR o u)->a≠w i:=fun a o u z y=>by
  subst y
  rcases wr with ⟨_,k⟩ | ⟨_,k⟩ | ⟨_,_,k⟩<;>rw [z] at k<;>cases k
 have F:Fits K (SO S w ρ) (SO S w ρ) H H':=⟨fun a xs z=>hb _ _ (nt a xs z) z,fun a ns z=>z.elim (fun ⟨o,y⟩=>.inl ⟨o,hb _ _ (nf a o _ y) y⟩) .inr,fun a xs z s=>⟨hb _ _ (ne a s) z,s⟩,fun a xs z s=>⟨hb _ _ (ne a s) z,s⟩,fun a o xs z s=>⟨hb _ _ (ne a s) z,s⟩⟩
 refine ⟨h.fc,fun b u z=>hb b u (bX z b0) (h.sm b u z),fun j f hf=>?_,fun j k d1 e1 h1 h2 z=>?_,fun j f hf=>?_,fun g hg=>by rw [so]; exact Dn.fits F _ _ (h.gh g hg)⟩
 ·rw [so]
  rcases get_set hf with ⟨hj,z,_⟩ | ⟨hj,z⟩
  ·cases z
   subst hj
   exact ⟨a0,b0,q⟩
  ·obtain ⟨a,b,c⟩:=h.own j f z
   exact ⟨a,b,c.fits F fun ob hob=>hb _ _ (fun y=>hj (h.inj _ _ _ _ z e y)) hob⟩
 ·have old:∀ {m:Nat} {y:D},(ρ.set i (.ow d'))[m]? = some (Sv.ow y) -> ∃ y2,ρ[m]? = some (Sv.ow y2):=fun {m y} hm=>by
   rcases get_set hm with ⟨hj,_,_⟩ | ⟨_,z⟩
   ·subst hj; exact ⟨d,e⟩
   ·exact ⟨_,z⟩
  obtain ⟨_,g1⟩:=old h1
  obtain ⟨_,g2⟩:=old h2
  exact h.inj j k _ _ g1 g2 z
 ·rw [so]
  rcases get_set hf with ⟨_,z,_⟩ | ⟨hj,z⟩
  ·cases z
  ·obtain ⟨u,a,b⟩:=h.ro j f z
   exact ⟨u,a,Dn.fits F f u b⟩
def WN (K:PySem.W.Frag) (R:TL):Sp:=fun vs H Q _=>∃ (T:Addr->Prop) (ds:List D) (us:List V) (p:Addr) (o:Obj) (kvs:List (KX×V×V)) (xs:List D) (r:D×KD),vs=us++[.ref p]/\(∀ a,H a=none->T a)/\¬ T p/\H p=some (.dX o kvs)/\aQ K T H ds us/\aQ K T H xs (kvs.map (·.2.2))/\R ds (kvs.map (·.1),xs)=.ok r /\
 ∀ v H' o' kvs',(∀ b u,b≠p->H b=some u->H' b=some u)->H' p=some (.dX o' kvs')->kvs'.map (·.1)=r.2.1->aQ K T H' r.2.2 (kvs'.map (·.2.2))->Dn K T H' r.1 v->Q v H'
def sY (K:PySem.W.Frag) (t:AF) (j:Nat):TA:=fun σ H Q=>∃ (S:Addr->Prop) (ρ:bN) (ds:List D) (p:Addr),(∀ a,H a=none->S a)/\Sl K S H ρ σ/\t ρ=some ds/\σ[j]? = some (some (.ref p)) /\ ∀ vs H',Same H H'->aQ K S H' ds vs->Q (vs++[.ref p]) H'
section
variable {X:Cx}
theorem AX {e:Expr} {es:List Expr} {f:EF} {g:AF} {j:Nat} (he:cP X e f) (hr:PA X es (sY X.K g j)) (hs:starEach (e::es) X.env=(false,eval e X.env)::starEach es X.env:=by rfl):PA X (e::es) (sY X.K (aA f g) j) :=
 GV (iX he hr hs) fun σ H Q aDx=>by
  obtain ⟨S,ρ,ds,p,fc,sl,et,ej,k⟩:=aDx
  obtain ⟨d,ed,et⟩:=bnd et
  obtain ⟨r,er,et⟩:=bnd et
  cases et
  refine ⟨S,ρ,fun y=>y=d,fc,sl,⟨d,ed,rfl⟩,fun v H1 d1 s1 S6 e1=>?_⟩
  subst e1
  refine ⟨S,ρ,r,p,bH fc s1,Sl.fits (.same s1) sl,er,ej,fun vs H2 s2 JO=>?_⟩
  exact k (v::vs) H2 (s1.trans s2) (aQ.cons (Dn.fits (.same s2) _ _ S6) JO)
theorem YC {j:Nat} {x:Str} {pos:Pos} (hN:X.N[j]? = some x:=by rfl) (hv:BX X.env.scope x:=by first | exact Or.inl rfl | exact Or.inr (Or.inl rfl) | exact Or.inr (Or.inr rfl)) (hd:(x == ("__debug__" : Str))=false:=by decide) (hcd:(x == ("__classdict__" : Str))=false:=by decide):PA X [.Name x pos] (sY X.K aC j) :=
 GV (iX (pG hN hv hd hcd) sP) fun σ H Q aDy=>by
  obtain ⟨S,ρ,ds,p,fc,sl,et,ej,k⟩:=aDy
  cases et
  exact ⟨_,ej,k [] H (Same.refl H) aQ.nil⟩
theorem AZ {R:TL} {t:AF} {j:Nat} {H₀ H:Hp} {S:Addr->Prop} {w:Nat->Addr} {σ:L2.St} {ρ:aR} {G:List (D×V)} {r:(Nat->Obj->Prop)×D×KD} {Q:VK} (st:ST X.K H₀ S w σ H ρ G) (h:stepM R t j ρ=some r)
  (k:∀ v H',ST X.K H₀ S w σ H' (ρ.set j (.ow (.eL (adr r.1) r.2.2.1 r.2.2.2))) G->Dn X.K (SO S w ρ) H' r.2.1 v->Q v H'):XN (WN X.K R) [] E0 (sY X.K t j) σ H Q:=by
 obtain ⟨ds,et,h⟩:=bnd h
 obtain ⟨⟨q0,ks,xs⟩,eo,h⟩:=bnd h
 have o0:=uV eo
 cases hR:R ds (ks,xs) with
 | no=>dsimp only at h; rw [hR] at h; cases h
 | ex c=>dsimp only at h; rw [hR] at h; cases h
 | ok r0 =>
  dsimp only at h
  rw [hR] at h
  cases h
  obtain ⟨a0,b0,_⟩:=st.own j _ o0
  refine ⟨SO S w ρ,iT ρ,ds,w j,st.LQ,st.rd,et,a0,fun vs H1 s1 dn=>?_⟩
  have st1:=st.same s1
  obtain ⟨_,_,⟨o,kvs,hp,⟨e5,hq⟩,dk⟩⟩:=st1.own j _ o0
  subst e5
  show WN X.K R ((vs++[V.ref (w j)])++[]) H1 Q E0
  rw [List.append_nil]
  refine ⟨SO S w ρ,ds,vs,w j,o,kvs,xs,r0,rfl,st1.LQ,fun z=>z.2 j _ o0 rfl,hp,dn,dk,hR,fun v H' o' kvs' hb hp' ek dx dv=>?_⟩
  exact k v H' (M6 st1 o0 hb ⟨o',kvs',hp',⟨ek,o,hq⟩,dx⟩) dv
theorem aAu {k:Nat} {f:Addr} {fd:FuncData} {ps:List Str} {R:TL} {i j:Nat} {x y:Str} {p pos pos' cpos:Pos} {e:Expr} {es:List Expr} {t:AF} (F:aN X.prog X.w X.K X.mg X.base dS k f fd ps (WN X.K R)) (hr:iO k X.A) (hm:X.mg y=some (.ref f)) (hk:PySem.W.keepIn X.K (.ref f)=true) (hb:Binds X.K fd ps []) (hij:i≠j) (hN:X.N.Nodup)
  (ha:PA X (e::es) (sY X.K t j)) (hi:X.N[i]? = some x:=by rfl) (hx:Loc X.env.scope x:=by first | exact .inl rfl | exact .inr rfl) (hg:Gl X y:=by rfl) (hdb:(y == ("__debug__" : Str))=false:=by decide) (he:starEach (e::es) X.env=(false,eval e X.env)::starEach es X.env:=by rfl) (hpl:(backTo cpos (starEach es X.env)).any (·.1)=false:=by rfl)
  (hs:swapsWith (.Call (.Name y p) (e::es) [] cpos) (some (.Name x pos')) pos.line X.env=pure false:=by rfl) (hf:X.fn x=true\/X.env.scope.names.lookup x=some .local:=by first | exact .inl rfl | exact .inr rfl) :
  rO X (.Assign [.Name x pos'] (.Call (.Name y p) (e::es) [] cpos) pos) (rR i R t j):=jY (sO hN hi hx (qP F hr hg hm hk hb .nil QC ha hdb he hpl) hs hf) fun B σ H aDz=>by
 obtain ⟨H₀,S,w,ρ,G,E,hl,st,ht,ok⟩:=aDz
 unfold wS rR at ht
 cases h:stepM R t j ρ with
 | none=>rw [h] at ht; exact ht.elim
 | some r =>
  rw [h] at ht
  refine AZ st h fun v H' st' dv=>ok.nx w _ H' _ (by rw [List.length_set]; exact hl) (st'.lO (by rw [hl]; exact jO hi) (Dn.fits (.mono fun a z=>?_) _ _ dv)) ht
  refine ⟨z.1,fun m y hm=>?_⟩
  rcases get_set hm with ⟨hj,_,hlt⟩ | ⟨_,q⟩
  ·subst hj
   obtain ⟨_,et,h⟩:=bnd h
   obtain ⟨⟨q0,ks,xs⟩,eo,h⟩:=bnd h
   exact z.2 m _ (uV eo)
  ·exact z.2 m y q
theorem aJO {k:Nat} {f:Addr} {fd:FuncData} {ps:List Str} {R:TL} {j:Nat} {y:Str} {p pos cpos:Pos} {e:Expr} {es:List Expr} {t:AF} (F:aN X.prog X.w X.K X.mg X.base dS k f fd ps (WN X.K R)) (hr:iO k X.A) (hm:X.mg y=some (.ref f)) (hk:PySem.W.keepIn X.K (.ref f)=true) (hb:Binds X.K fd ps [])
  (ha:PA X (e::es) (sY X.K t j)) (hg:Gl X y:=by rfl) (hdb:(y == ("__debug__" : Str))=false:=by decide) (he:starEach (e::es) X.env=(false,eval e X.env)::starEach es X.env:=by rfl) (hpl:(backTo cpos (starEach es X.env)).any (·.1)=false:=by rfl)
  (hs:swapsWith (.Call (.Name y p) (e::es) [] cpos) none pos.line X.env=pure false:=by rfl) :
  rO X (.Expr (.Call (.Name y p) (e::es) [] cpos) pos) (TR R t j):=jY (B0 (qP F hr hg hm hk hb .nil QC ha hdb he hpl) hs) fun B σ H aEA=>by
 obtain ⟨H₀,S,w,ρ,G,E,hl,st,ht,ok⟩:=aEA
 unfold wS TR at ht
 cases h:stepM R t j ρ with
 | none=>rw [h] at ht; exact ht.elim
 | some r =>
  rw [h] at ht
  exact AZ st h fun v H' st' _=>ok.nx w _ H' _ hl st' ht
abbrev YD (K:PySem.W.Frag) (j:Nat) (k:EF):TS:=aBk (YB (UQ j) (lift K (wE k)))
theorem aEB {st:Stmt} {b:SF} {j:Nat} {x:Str} {i:Expr} {k:EF} {p pos pos':Pos} (hu:X.A.units+2<cLine) (h:rO X st b) (hk:cP X i k) (hN:X.N[j]? = some x:=by rfl) (hv:BX X.env.scope x:=by first | exact Or.inl rfl | exact Or.inr (Or.inl rfl) | exact Or.inr (Or.inr rfl)) (hd:(x == ("__debug__" : Str))=false:=by decide) (hcd:(x == ("__classdict__" : Str))=false:=by decide) (hs:GS i:=by intro _ _; rfl) :
  BZ X [st,.Return (some (.Subscript (.Name x p) i pos)) pos'] (PM (AH X.K (XC X) X.N.length (wS b)) (YD X.K j k)):=wN h (JA (GD (JZ hu (pG hN hv hd hcd) hk hs)))
theorem vM {st:Stmt} {rest:List Stmt} {f g:SF} {tl:TS} (h1:rO X st f) (h2:BZ X rest (PM (AH X.K (XC X) X.N.length (wS g)) tl)):BZ X (st::rest) (PM (AH X.K (XC X) X.N.length (wS (aJ f g))) tl):=D4 (wN h1 h2) fun B σ H aEC=>by
 obtain ⟨H₀,S,w,ρ,G,E,hl,st,ht,ok⟩:=aEC
 unfold wS aJ at ht
 refine ⟨H₀,S,w,ρ,G,{ E with nx:=wS g E },hl,st,?_,⟨fun w' σ' H' ρ' hl' st' q=>⟨H₀,S,w',ρ',G,E,hl',st',q,ok⟩,ok.rt,ok.bk,ok.ct,ok.ex⟩⟩
 unfold wS
 cases hf:f ρ with
 | nx ρ'=>rw [hf] at ht; exact ht
 | rt d=>rw [hf] at ht; exact ht
 | ex c=>rw [hf] at ht; exact ht
 | no=>rw [hf] at ht; exact ht
end
theorem aJP {P:Program} {w:World} {K:PySem.W.Frag} {mg:Str->Option Value} {base:Heap} {x qual:Str} {st:Stmt} {f:Addr} {fd:FuncData} {N ps:List Str} {k n np:Nat} {b:SF} {key:EF} (F:lY K x qual st f fd) (S:bD N ps (aH st)) (hn:N.length=n) (hp:ps.length=np)
  (hbody:∀ (cdv:Value) (A:Around) (outer:List Env) (s:Shared) (H:Hp) (E:XK),iO k (A.deeper (envOfC qual (aH st) s.heap.objs.size f cdv)) ->
   ∃ xc,BZ (qQ dS P w K mg base N qual (aH st) f cdv A outer s H E).UT (aX st) (PM (AH K xc N.length (wS b)) (YD K (np - 1) key))):aN P w K mg base dS (k+1) f fd ps (WN K (runM n np b key)):=by
 subst hn hp
 refine F.ok S (fun vs H Q E h=>?_) fun cdv A outer s H vs Q E hr h=>?_
 ·obtain ⟨T,ds,us,p,o,kvs,xs,r,rfl,fc,np,hp,du,dx,hR,kk⟩:=h
  have hb:=IH hR uB
  unfold vE at hb
  split at hb
  ·rename_i hl
   rw [List.length_append,<- du.len]
   exact hl
  ·cases hb
 ·obtain ⟨xc,hb⟩:=hbody cdv A outer s H E hr
  obtain ⟨T,ds,us,p,o,kvs,xs,r,rfl,fc,nT,hp,du,dx,hR,kk⟩:=h
  refine ⟨_,hb,?_⟩
  have hq:=IH hR (fun a _=>a=p)
  unfold vE at hq
  split at hq
  case isFalse=>cases hq
  rename_i hl
  have hlu:=du.len
  have hpN:ps.length<=N.length:=by have:=congrArg List.length S.pre; rw [List.length_take] at this; omega
  have j0:ps.length - 1=ds.length:=by omega
  have sj:(startM N.length ds (fun a _=>a=p) (kvs.map (·.1),xs))[ds.length]? = some (Sv.ow (.eL (fun a _=>a=p) (kvs.map (·.1)) xs)):=by
   unfold startM
   rw [List.getElem?_append_right (by simp)]
   simp
  have sv:∀ i,i<ds.length->(startM N.length ds (fun a _=>a=p) (kvs.map (·.1),xs))[i]? = (ds[i]?).map Sv.ro:=fun i hi=>by
   unfold startM
   rw [List.getElem?_append_left (by simpa using hi),List.getElem?_map]
  have sn:∀ i,ds.length<i -> ∀ y,(startM N.length ds (fun a _=>a=p) (kvs.map (·.1),xs))[i]? = some y->y=Sv.no:=fun i hi y e=>by
   unfold startM at e
   rw [List.getElem?_append_right (by simp; omega)] at e
   obtain ⟨m,hm⟩:∃ m,i - (List.map Sv.ro ds).length=m+1:=⟨i - ds.length - 1,by simp; omega⟩
   rw [hm,List.getElem?_cons_succ,List.getElem?_replicate] at e
   split at e
   ·cases e; rfl
   ·cases e
  have ow:∀ (i:Nat) (d:D),(startM N.length ds (fun a _=>a=p) (kvs.map (·.1),xs))[i]? = some (Sv.ow d)->i=ds.length/\d=.eL (fun a _=>a=p) (kvs.map (·.1)) xs:=fun i d e=>by
   rcases Nat.lt_trichotomy i ds.length with h | h | h
   ·rw [sv i h] at e
    obtain ⟨y,_,ey⟩:=Option.map_eq_some_iff.1 e
    cases ey
   ·subst h
    rw [sj] at e
    cases e
    exact ⟨rfl,rfl⟩
   ·cases sn i h _ e
  have so:∀ a,T a->SO (fun a=>T a\/a=p) (fun _=>p) (startM N.length ds (fun a _=>a=p) (kvs.map (·.1),xs)) a:=fun a ta=>⟨.inl ta,fun i d e z=>nT (by rw [<- show a=p from z]; exact ta)⟩
  have σl:L2.start N (us++[.ref p])=us.map some++some (.ref p)::List.replicate (N.length - (us.length+1)) none:=by
   unfold L2.start
   simp
  cases hbs:b (startM N.length ds (fun a _=>a=p) (kvs.map (·.1),xs)) with
  | no=>rw [hbs] at hq; cases hq
  | rt d=>rw [hbs] at hq; cases hq
  | ex c=>rw [hbs] at hq; cases hq
  | nx ρ1 =>
   rw [hbs] at hq
   dsimp only at hq
   refine ⟨fun c=>if c=p then none else H c,fun a=>T a\/a=p,fun _=>p,startM N.length ds (fun a _=>a=p) (kvs.map (·.1),xs),[],{ nx:=fun ρ=>ρ=ρ1,rt:=fun _=>False,bk:=fun _=>False,ct:=fun _=>False,ex:=fun _=>False },?_,?_,?_,?_⟩
   ·rw [σl]
    simp
    omega
   ·refine ⟨fun a e=>?_,fun c u e=>?_,fun i d e=>?_,fun i i' d d' h1 h2 _=>(ow i d h1).1.trans (ow i' d' h2).1.symm,fun i d e=>?_,fun g hg=>by cases hg⟩
    ·by_cases z:a=p
     ·exact .inr z
     ·exact .inl (fc a (by simpa [z] using e))
    ·by_cases z:c=p
     ·simp [z] at e
     ·simpa [z] using e
    ·obtain ⟨rfl,rfl⟩:=ow i d e
     refine ⟨?_,by simp,o,kvs,hp,⟨rfl,rfl⟩,aQ.fits (.mono so) _ _ dx⟩
     rw [σl,List.getElem?_append_right (by simp; omega)]
     simp [hlu]
    ·by_cases hi:i<ds.length
     ·rw [sv i hi] at e
      obtain ⟨y,e1,ey⟩:=Option.map_eq_some_iff.1 e
      cases ey
      obtain ⟨v,ev,dv⟩:=du.get e1
      refine ⟨v,?_,Dn.fits (.mono so) _ _ dv⟩
      have hv:i<us.length:=(List.getElem?_eq_some_iff.1 ev).1
      rw [σl,List.getElem?_append_left (by simpa using hv),List.getElem?_map,ev]
      rfl
     ·rcases Nat.lt_or_ge ds.length i with h | h
      ·cases sn i h _ e
      ·have:i=ds.length:=by omega
       subst this
       rw [sj] at e
       cases e
   ·unfold wS
    rw [hbs]
   ·refine ⟨fun w' σ' H' ρ' hl' st' e=>?_,fun _ _ _ _ _ z=>z.elim,fun _ _ _ _ _ _ z=>z.elim,fun _ _ _ _ _ _ z=>z.elim,fun _ _ _ z=>z.elim⟩
    subst e
    rw [j0] at hq ⊢
    obtain ⟨⟨q',ks',xs'⟩,eo,hq⟩:=bnd hq
    obtain ⟨kv,ek,hq⟩:=bnd hq
    obtain ⟨kk',e2,hq⟩:=bnd hq
    have o0:=uV eo
    obtain ⟨a0,b0,⟨o1,aOh,hp1,⟨e5,hq1⟩,dk1⟩⟩:=st'.own ds.length _ o0
    split at hq
    case isFalse=>cases hq
    rename_i hc
    obtain ⟨d,ed,hq9⟩:=uT hq
    obtain ⟨_,hwp⟩:=hc.2 _ _ hq1
    have hwp:w' ds.length=p:=hwp
    refine ⟨_,a0,SO (fun a=>T a\/a=p) w' ρ',iT ρ',fun y=>y=kv,st'.LQ,st'.rd,⟨kv,ek,rfl⟩,fun y H2 y' s2 dy ey=>?_⟩
    subst ey
    have st2:=st'.same s2
    obtain ⟨_,_,⟨o2,SK,hp2,⟨e6,_⟩,dk2⟩⟩:=st2.own ds.length _ o0
    have toT:∀ a,SO (fun a=>T a\/a=p) w' ρ' a->T a:=fun a z=>z.1.elim id fun y=>absurd (y.trans hwp.symm) (z.2 _ _ o0)
    have e7:SK.map (·.1)=ks':=e6
    have hk2:kindB (SK.map (·.1)) kk' = true:=by rw [e7]; exact hc.1
    have ed2:cK (SK.map (·.1)) xs' kk' = some d:=by rw [e7]; exact ed
    obtain ⟨v3,ev,dv⟩:=(xS dk2).1 d ed2
    refine ⟨w' ds.length,o2,SK,kk',v3,rfl,hp2,uU dy e2,CT hk2,ev,?_⟩
    have er:r=(d,ks',xs'):=hq9.symm
    subst er
    rw [hwp] at hp2
    exact kk v3 H2 o2 SK (fun c u ne hc=>s2 _ _ (st'.sm c u (by simpa [ne] using hc))) hp2 e7 (aQ.fits (.mono toT) _ _ dk2) (Dn.fits (.mono toT) _ _ dv)
theorem aED {P:Program} {w:World} {K:PySem.W.Frag} {mg:Str->Option Value} {base:Heap} {k:Nat} {f:Addr} {fd:FuncData} {ps:List Str}:aN P w K mg base dS k f fd ps (WN K fun _ _=>.no) :=
 ⟨fun _ _ _ _ h=>(by obtain ⟨_,_,_,_,_,_,_,_,_,_,_,_,_,_,e,_⟩:=h; cases e),fun _ _ _ _ _ _ _ _ _ _ _ _ _ h=>(by obtain ⟨_,_,_,_,_,_,_,_,_,_,_,_,_,_,e,_⟩:=h; cases e)⟩
section
variable {X:Cx}
theorem aJR {a b:Expr} {t:AF} {es:List Expr} {kk:Nat} {tp p pos:Pos} (hm:X.mg "zip" = none) (ha:xD X [a,b] t) (hg:Gl X "zip" := by rfl) (hs:starEach [a,b] X.env=[(false,eval a X.env),(false,eval b X.env)]:=by rfl) (hs2:starEach [b] X.env=[(false,eval b X.env)]:=by rfl) :
  X2 X (.Tuple es kk tp) (.Call (.Name "zip" p) [a,b] [] pos) (C6 t):=cI (aIK hm ha hg hs hs2) fun ρ Q aEE=>by
 obtain ⟨ds,e,q⟩:=aEE
 obtain ⟨as,ea,e⟩:=bnd e
 refine ⟨as,ea,?_⟩
 unfold W0 at e
 split at e<;>first | (cases e; exact q) | cases e
end
end L8
end
section
namespace L8
open PySem PySem.Spec PyProof.Rows L2 L3 L4 L5
section
variable {X:Cx}
end
end L8
end
section
namespace L8
open PySem PySem.Spec PyProof.Rows L2 L3 L4
section
variable {X:Cx}
section
variable {a b:Expr} {fa fb:EF} {pos:Pos}
end
end
end L8
end
section
namespace K30
open PySem L2 L3 L4 L6 L7 L8 L5
def top (i : Nat) : Stmt := PySem.Challenge.pw_risecount_k30_loose_pairs_and_cut.main.body.getD i (.Pass ⟨0, 0, 0, 0⟩)
section
variable {P:Program} {w:World} {K:PySem.W.Frag} {mg:Str->Option Value} {base:Heap} {f:Addr} {fd:FuncData}
abbrev gY:Stmt:=top 6
theorem t7:bD ["number", "n"] ["number", "n"] (aH gY):=⟨rfl,rfl,rfl,by decide +kernel,rfl,by decide +kernel,by decide +kernel⟩
theorem E2 {kk:Nat} (F:lY K "is_thing" "is_thing" gY f fd):aN P w K mg base dS (kk+1) f fd ["number", "n"] (eR K LL.fP):=by
 refine i0 F t7 rfl rfl (fun cdv A outer s H E hr=>?_)
 have nd:=t7.nd
 exact (aW (eT (aAd aBx XJ aDI aDH i4 (x4 0) (x4 1))))
abbrev dE:Stmt:=top 8
theorem iR:bD ["n", "a", "b"] ["n", "a", "b"] (aH dE):=⟨rfl,rfl,rfl,by decide +kernel,rfl,by decide +kernel,by decide +kernel⟩
theorem oG {kk:Nat} {g1:Addr} {d1:FuncData} (F:lY K "refuse_strangers" "refuse_strangers" dE f fd) (xT:aN P w K mg base dS kk g1 d1 ["number", "n"] (eR K LL.fP)) (xU:mg "is_thing" = some (.ref g1)) (xV:PySem.W.keepIn K (.ref g1)=true) (xW:Binds K d1 ["number", "n"] []) {kR:Addr} (sZ:mg "NoThing" = some (.ref kR)) (tD:RU K kR):aN P w K mg base (yJ P w) (kk+1) f fd ["n", "a", "b"] (JU K mg LL.aT):=by
 refine aAi F iR rfl rfl (fun cdv A outer s H E hr=>?_)
 have nd:=iR.nd
 exact (aW (iP (HA.pt (RL (xF (sV (cH xT hr xU xV xW (aF (x4 1) (aF (x4 0) aL))))) (RK (xF (sV (cH xT hr xU xV xW (aF (x4 2) (aF (x4 0) aL))))))))
   (aW (HG rfl rfl sZ tD (aF s4 aL)))
   iZ))
abbrev fV:Stmt:=top 7
theorem rF:bD ["order", "a", "b", "lower", "rows", "thing", "row", "reached"] ["order", "a", "b"] (aH fV):=⟨rfl,rfl,rfl,by decide +kernel,rfl,by decide +kernel,by decide +kernel⟩
theorem CU {kk:Nat} {g1:Addr} {d1:FuncData} (F:lY K "put_under" "put_under" fV f fd) (dY:aN P w K mg base (yJ P w) kk g1 d1 ["n", "a", "b"] (JU K mg LL.aT)) (dZ:mg "refuse_strangers" = some (.ref g1)) (eA:PySem.W.keepIn K (.ref g1)=true) (eB:Binds K d1 ["n", "a", "b"] []) {mZ:Addr} (xX:mg "Looped" = some (.ref mZ)) (xZ:RU K mZ) (bP:mg "tuple" = none) (fW:mg "enumerate" = none) (eW:mg "sorted" = none) (SM:mg "set" = none) (bK:mg "len" = none):aN P w K mg base (yJ P w) (kk+1) f fd ["order", "a", "b"] (JU K mg LL.eS):=by
 refine aAi F rF rfl rfl (fun cdv A outer s H E hr=>?_)
 have nd:=rF.nd
 exact (bT (RT (AS dY hr dZ eA eB (aF (iY bK (aF (x4 0) aL)) (aF (x4 1) (aF (x4 2) aL)))) (HF rfl dY hr dZ eA eB (aF (iY bK (aF (x4 0) aL)) (aF (x4 1) (aF (x4 2) aL)))))
  (bT (iP (HA.pt (RL (CM (x4 1) (x4 2)) (RK (aDG (x4 2) (lZ (x4 0) (x4 1))))))
   (aW (HG rfl rfl xX xZ (aF s4 aL)))
   iZ)
  (bT (fQ (i:=3) nd (gJ (lZ (x4 0) (x4 1)) (yT (aF (x4 1) aL))))
  (bT (EK (i:=4) nd (uI aL))
  (bT (aDe (rA rfl PassesOwn.never (xH fW (aF (x4 0) aL)) (X7 (i:=5) (j:=6) rfl nd)
   (bT (fQ (i:=7) nd (or4 (eq4 (x4 5) (x4 2)) (EG (in4 (x4 2) (x4 6)))))
   (aW (xK (MN (i:=4) (yU (if4 (sV (x4 7)) (kE bP (aF (n6.pe (HQ rfl eW SM (aF (gJ (x4 6) (x4 3)) aL))) aL)) (x4 6)))))))))
  (aW (eT (kE bP (aF (x4 4) aL)))))))))
abbrev fX:Stmt:=top 11
theorem rG:bD ["order", "a", "b"] ["order", "a", "b"] (aH fX):=⟨rfl,rfl,rfl,by decide +kernel,rfl,by decide +kernel,by decide +kernel⟩
theorem CV {kk:Nat} (F:lY K "are_loose" "are_loose" fX f fd):aN P w K mg base dS (kk+1) f fd ["order", "a", "b"] (eR K LL.dJ):=by
 refine i0 F rG rfl rfl (fun cdv A outer s H E hr=>?_)
 have nd:=rG.nd
 exact (aW (eT (EH (ne4 (x4 1) (x4 2)) (EH (aDB (x4 1) (lZ (x4 0) (x4 2))) (EG (aDB (x4 2) (lZ (x4 0) (x4 1))))))))
abbrev eX:Stmt:=top 10
theorem m9:bD ["order", "pairs", "a"] ["order"] (aH eX):=⟨rfl,rfl,rfl,by decide +kernel,rfl,by decide +kernel,by decide +kernel⟩
theorem x5 {kk:Nat} {g1:Addr} {d1:FuncData} (F:lY K "loose_pairs" "loose_pairs" eX f fd) (nA:aN P w K mg base dS kk g1 d1 ["order", "a", "b"] (eR K LL.dJ)) (nB:mg "are_loose" = some (.ref g1)) (nC:PySem.W.keepIn K (.ref g1)=true) (nD:Binds K d1 ["order", "a", "b"] []) (bP:mg "tuple" = none) (bK:mg "len" = none) (aY:mg "range" = none):aN P w K mg base dS (kk+1) f fd ["order"] (eR K LL.eF):=by
 refine i0 F m9 rfl rfl (fun cdv A outer s H E hr=>?_)
 have nd:=m9.nd
 exact (bT (EK (i:=1) nd (uI aL))
  (bT (rA rfl PassesOwn.never (fF aY (iY bK (aF (x4 0) aL))) (kQ (i:=2) nd)
   (aW (xK (WB (i:=1) (yU (n6.pe (qZ (ls:=["b"]) (fs:=["a", "order"]) (fr:=[2,0]) rfl (JS aY (gJ (x4 2) i4) (iY bK (aF (x4 0) aL))) (fun _ _ _ _ _ _ nd=>lR (i:=0) nd (by decide)) (fun _ _ _ _ _ _=>xJ (sV (cH nA hr nB nC nD (aF (x4 2) (aF (x4 1) (aF (x4 0) aL)))))) (fun _ _ _ _ _ _=>(yT (aF (x4 1) (aF (x4 0) aL)))))))))))
  (aW (eT (kE bP (aF (x4 1) aL))))))
abbrev A1:Stmt:=top 12
theorem SN:bD ["order", "a", "b"] ["order", "a", "b"] (aH A1):=⟨rfl,rfl,rfl,by decide +kernel,rfl,by decide +kernel,by decide +kernel⟩
theorem aAv {kk:Nat} {g1 g2 g3:Addr} {d1 d2 d3:FuncData} (F:lY K "cut" "cut" A1 f fd) (j5:aN P w K mg base (yJ P w) kk g1 d1 ["order", "a", "b"] (JU K mg LL.eS)) (j6:mg "put_under" = some (.ref g1)) (j7:PySem.W.keepIn K (.ref g1)=true) (j8:Binds K d1 ["order", "a", "b"] []) (nA:aN P w K mg base dS kk g2 d2 ["order", "a", "b"] (eR K LL.dJ)) (nB:mg "are_loose" = some (.ref g2)) (nC:PySem.W.keepIn K (.ref g2)=true) (nD:Binds K d2 ["order", "a", "b"] []) (dY:aN P w K mg base (yJ P w) kk g3 d3 ["n", "a", "b"] (JU K mg LL.aT)) (dZ:mg "refuse_strangers" = some (.ref g3)) (eA:PySem.W.keepIn K (.ref g3)=true) (eB:Binds K d3 ["n", "a", "b"] []) {jS:Addr} (pO:mg "NotLoose" = some (.ref jS)) (pP:RU K jS) (bK:mg "len" = none):aN P w K mg base (yJ P w) (kk+1) f fd ["order", "a", "b"] (JU K mg wJ):=by
 refine aAi F SN rfl rfl (fun cdv A outer s H E hr=>?_)
 have nd:=SN.nd
 exact (bT (RT (AS dY hr dZ eA eB (aF (iY bK (aF (x4 0) aL)) (aF (x4 1) (aF (x4 2) aL)))) (HF rfl dY hr dZ eA eB (aF (iY bK (aF (x4 0) aL)) (aF (x4 1) (aF (x4 2) aL)))))
  (bT (iP (xF (sV (cH nA hr nB nC nD (aF (x4 0) (aF (x4 1) (aF (x4 2) aL))))))
   (aW (HG rfl rfl pO pP (aF s4 aL)))
   iZ)
  (aW (aD4 (yT (aF (AS j5 hr j6 j7 j8 (aF (x4 0) (aF (x4 1) (aF (x4 2) aL)))) (aF (AS j5 hr j6 j7 j8 (aF (x4 0) (aF (x4 2) (aF (x4 1) aL)))) aL))) (aD9 (aAj (HF rfl j5 hr j6 j7 j8 (aF (x4 0) (aF (x4 1) (aF (x4 2) aL)))) (aF (AS j5 hr j6 j7 j8 (aF (x4 0) (aF (x4 2) (aF (x4 1) aL)))) aL)))))))
abbrev eQ:Stmt:=top 14
theorem lV:bD ["order", "ahead", "others"] ["order", "ahead"] (aH eQ):=⟨rfl,rfl,rfl,by decide +kernel,rfl,by decide +kernel,by decide +kernel⟩
theorem uJ {kk:Nat} (F:lY K "ready_things" "ready_things" eQ f fd) (x6:mg "all" = none) (bK:mg "len" = none) (aY:mg "range" = none):aN P w K mg base dS (kk+1) f fd ["order", "ahead"] (eR K LL.dW):=by
 refine i0 F lV rfl rfl (fun cdv A outer s H E hr=>?_)
 have nd:=lV.nd
 exact (bT (AO (i:=2) (ls:=["thing"]) (fs:=["ahead"]) (fr:=[1]) nd rfl (fF aY (iY bK (aF (x4 0) aL))) (fun _ _ _ _ _ _ nd=>lR (i:=0) nd (by decide)) (fun _ _ _ _ _ _=>xJ (EE (x4 0) (x4 1))) (fun _ _ _ _ _ _=>(x4 0)))
  (aW (eT (n6.pe (qZ (ls:=["thing"]) (fs:=["ahead", "order"]) (fr:=[1,0]) rfl (xG (x4 2)) (fun _ _ _ _ _ _ nd=>lR (i:=0) nd (by decide)) (fun _ _ _ _ _ _=>xJ (sV (aDX rfl x6 (aF (n6.pe (qZ (ls:=["lower"]) (fs:=["ahead"]) (fr:=[1]) rfl (xG (lZ (x4 2) (x4 0))) (fun _ _ _ _ _ _ nd=>lR (i:=0) nd (by decide)) (fun _ _ _ _ _ _=>AN) (fun _ _ _ _ _ _=>(in4 (x4 0) (x4 1))))) aL)))) (fun _ _ _ _ _ _=>(x4 0)))))))
abbrev kT:Stmt:=top 15
theorem A2:bD ["ahead", "thing"] ["ahead", "thing"] (aH kT):=⟨rfl,rfl,rfl,by decide +kernel,rfl,by decide +kernel,by decide +kernel⟩
theorem M7 {kk:Nat} (F:lY K "joined" "joined" kT f fd) (eW:mg "sorted" = none) (bP:mg "tuple" = none):aN P w K mg base dS (kk+1) f fd ["ahead", "thing"] (eR K LL.fB):=by
 refine i0 F A2 rfl rfl (fun cdv A outer s H E hr=>?_)
 have nd:=A2.nd
 exact (aW (eT (kE bP (aF (n6.pe (R9 eW (aF (gJ (x4 0) (yT (aF (x4 1) aL))) aL))) aL))))
abbrev n9:Stmt:=top 20
theorem E3:bD ["one", "other"] ["one", "other"] (aH n9):=⟨rfl,rfl,rfl,by decide +kernel,rfl,by decide +kernel,by decide +kernel⟩
theorem SQ {kk:Nat} (F:lY K "added" "added" n9 f fd) (SR:mg "zip" = none):aN P w K mg base dS (kk+1) f fd ["one", "other"] (eR K LL.iW):=by
 refine i0 F E3 rfl rfl (fun cdv A outer s H E hr=>?_)
 have nd:=E3.nd
 exact (aW (eT (n6.pe (qZ (ls:=["a", "b"]) (fs:=[]) (fr:=[]) rfl (aJR SR (aF (x4 0) (aF (x4 1) aL))) (fun _ _ _ _ _ _ nd=>RP (i:=0) (j:=1) rfl nd (by decide) (by decide)) (fun _ _ _ _ _ _=>AN) (fun _ _ _ _ _ _=>(gJ (x4 0) (x4 1)))))))
abbrev dF:Stmt:=top 19
theorem iS:bD ["shares"] ["shares"] (aH dF):=⟨rfl,rfl,rfl,by decide +kernel,rfl,by decide +kernel,by decide +kernel⟩
theorem oH {kk:Nat} (F:lY K "one_descent_more" "one_descent_more" dF f fd):aN P w K mg base dS (kk+1) f fd ["shares"] (eR K LL.bJ):=by
 refine i0 F iS rfl rfl (fun cdv A outer s H E hr=>?_)
 have nd:=iS.nd
 exact (aW (eT (gJ (n6.pe (uI (aF i4 aL))) (sl4 (x4 0) no4 (po4 (aDK i4))))))
abbrev eG:Stmt:=top 18
theorem nE:bD ["order", "ahead", "last", "shares", "state", "some", "thing", "further"] ["order", "ahead", "last", "shares"] (aH eG):=⟨rfl,rfl,rfl,by decide +kernel,rfl,by decide +kernel,by decide +kernel⟩
theorem nF {kk:Nat} {g1 g2 g3 g4:Addr} {d1 d2 d3 d4:FuncData} (F:lY K "find_shares" "find_shares" eG f fd) (gO:aN P w K mg base dS kk g1 d1 ["order", "ahead"] (eR K LL.dW)) (nG:mg "ready_things" = some (.ref g1)) (nH:PySem.W.keepIn K (.ref g1)=true) (nI:Binds K d1 ["order", "ahead"] []) (uW:aN P w K mg base dS kk g2 d2 ["one", "other"] (eR K LL.iW)) (J0:mg "added" = some (.ref g2)) (J1:PySem.W.keepIn K (.ref g2)=true) (J2:Binds K d2 ["one", "other"] []) (eU:aN P w K mg base dS kk g3 d3 ["shares"] (eR K LL.bJ)) (jT:mg "one_descent_more" = some (.ref g3)) (jU:PySem.W.keepIn K (.ref g3)=true) (jV:Binds K d3 ["shares"] []) (rH:aN P w K mg base dS kk g4 d4 ["ahead", "thing"] (eR K LL.fB)) (E4:mg "joined" = some (.ref g4)) (E5:PySem.W.keepIn K (.ref g4)=true) (E6:Binds K d4 ["ahead", "thing"] []) (iC:mg "find_shares" = some (.ref f)) (iD:PySem.W.keepIn K (.ref f)=true) (iE:Binds K fd ["order", "ahead", "last", "shares"] []) (bK:mg "len" = none) (J3:mg "max" = none):∀ n:Nat,aN P w K mg base dS (kk+n) f fd ["order", "ahead", "last", "shares"] (WN K (LL.aZ n))
 | 0=>aED
 | n+1=>by
  have kF:=nF (kk:=kk) F gO nG nH nI uW J0 J1 J2 eU jT jU jV rH E4 E5 E6 iC iD iE bK J3 n
  have gO:=gO.mono (Nat.le_add_right kk n)
  have uW:=uW.mono (Nat.le_add_right kk n)
  have eU:=eU.mono (Nat.le_add_right kk n)
  have rH:=rH.mono (Nat.le_add_right kk n)
  refine aJP F nE rfl rfl (fun cdv A outer s H E hr=>?_)
  have nd:=nE.nd
  have hu2:(A.deeper (PyProof.Rows.envOfC "find_shares" (aH eG) s.heap.objs.size f cdv)).units+2<cLine:=by have:=hr.un; omega
  exact ⟨_,(vM (fQ (i:=4) nd (yT (aF (x4 1) (aF (x4 2) aL))))
  (aEB (j:=3) hu2 (iP (aAt hu2 (x4 4) (x4 3))
   (bT (EK (i:=5) nd (aDb (n6.pe (uI (aF i4 aL))) (aD8 rfl J3 (aF (iY bK (aF (x4 0) aL)) (aF i4 aL)))))
   (bT (iP (CM (iY bK (aF (x4 1) aL)) (iY bK (aF (x4 0) aL)))
    (aW (aJG (i:=5) (yU i4) i4))
    iZ)
   (bT (aDY 5 (rA rfl PassesOwn.never (xG (cH gO hr nG nH nI (aF (x4 0) (aF (x4 1) aL)))) (kQ (i:=6) nd)
    (bT (aAu (i:=7) (j:=3) kF hr iC iD iE (by decide) nd (AX (x4 0) (AX (cH rH hr E4 E5 E6 (aF (x4 1) (aF (x4 6) aL))) (AX (x4 6) (YC (j:=3))))))
    (aW (fQ (i:=5) nd (cH uW hr J0 J1 J2 (aF (x4 5) (aF (if4 (V6 (x4 2) (x4 6)) (cH eU hr jT jU jV (aF (x4 7) aL)) (x4 7)) aL))))))))
   (aW (aDv (i:=3) hu2 (yU (x4 5)) (x4 4))))))
   iZ) (x4 4)))⟩
abbrev fY:Stmt:=top 17
theorem rJ:bD ["order", "shares"] ["order"] (aH fY):=⟨rfl,rfl,rfl,by decide +kernel,rfl,by decide +kernel,by decide +kernel⟩
theorem CW {kk:Nat} {g1:Addr} {d1:FuncData} (F:lY K "shares_on" "shares_on" fY f fd) (kF:aN P w K mg base dS kk g1 d1 ["order", "ahead", "last", "shares"] (WN K (LL.aZ 11))) (iC:mg "find_shares" = some (.ref g1)) (iD:PySem.W.keepIn K (.ref g1)=true) (iE:Binds K d1 ["order", "ahead", "last", "shares"] []):aN P w K mg base dS (kk+1) f fd ["order"] (eR K LL.fU):=by
 refine i0 F rJ rfl rfl (fun cdv A outer s H E hr=>?_)
 have nd:=rJ.nd
 exact (bT (aDu (i:=1) nd)
  (bT (aJO (j:=1) kF hr iC iD iE (AX (x4 0) (AX (yT aL) (AX i4 (YC (j:=1))))))
  (aW (eT (x4 1)))))
abbrev bY:Stmt:=top 16
theorem gT:bD ["order"] ["order"] (aH bY):=⟨rfl,rfl,rfl,by decide +kernel,rfl,by decide +kernel,by decide +kernel⟩
theorem l0 {kk:Nat} {g1:Addr} {d1:FuncData} (F:lY K "shares_by_descents" "shares_by_descents" bY f fd) (E7:aN P w K mg base dS kk g1 d1 ["order"] (eR K LL.fU)) (E8:mg "shares_on" = some (.ref g1)) (E9:PySem.W.keepIn K (.ref g1)=true) (FA:Binds K d1 ["order"] []) (bP:mg "tuple" = none):aN P w K mg base dS (kk+1) f fd ["order"] (eR K LL.bC):=by
 refine i0 F gT rfl rfl (fun cdv A outer s H E hr=>?_)
 have nd:=gT.nd
 have hu2:(A.deeper (PyProof.Rows.envOfC "shares_by_descents" (aH bY) s.heap.objs.size f cdv)).units+2<cLine:=by have:=hr.un; omega
 exact (aW (eT (kE bP (aF (aJN hu2 (cH E7 hr E8 E9 FA (aF (x4 0) aL)) (yT (aF (yT aL) (aF i4 aL)))) aL))))
abbrev kU:Stmt:=top 22
theorem A3:bD ["x", "m", "many", "step"] ["x", "m"] (aH kU):=⟨rfl,rfl,rfl,by decide +kernel,rfl,by decide +kernel,by decide +kernel⟩
theorem M8 {kk:Nat} (F:lY K "chosen" "chosen" kU f fd) (aY:mg "range" = none):aN P w K mg base dS (kk+1) f fd ["x", "m"] (eR K LL.kJ):=by
 refine i0 F A3 rfl rfl (fun cdv A outer s H E hr=>?_)
 have nd:=A3.nd
 exact (bT (fQ (i:=2) nd i4)
  (bT (rA rfl PassesOwn.never (fF aY (x4 1)) (kQ (i:=3) nd)
   (aW (fQ (i:=2) nd (RJ (uH (x4 2) (RI (x4 0) (x4 3))) (gJ (x4 3) i4)))))
  (aW (eT (x4 2)))))
abbrev cV:Stmt:=top 24
theorem iH:bD ["shares", "n", "k"] ["shares", "n", "k"] (aH cV):=⟨rfl,rfl,rfl,by decide +kernel,rfl,by decide +kernel,by decide +kernel⟩
theorem nJ {kk:Nat} {g1:Addr} {d1:FuncData} (F:lY K "sum_over_descents" "sum_over_descents" cV f fd) (SS:aN P w K mg base dS kk g1 d1 ["x", "m"] (eR K LL.kJ)) (SU:mg "chosen" = some (.ref g1)) (SV:PySem.W.keepIn K (.ref g1)=true) (SW:Binds K d1 ["x", "m"] []) (fW:mg "enumerate" = none) (SX:mg "sum" = none):aN P w K mg base dS (kk+1) f fd ["shares", "n", "k"] (eR K LL.cD):=by
 refine i0 F iH rfl rfl (fun cdv A outer s H E hr=>?_)
 have nd:=iH.nd
 exact (aW (eT (aIp rfl SX (aF (n6.pe (qZ (ls:=["d", "share"]) (fs:=["n", "k"]) (fr:=[1,2]) rfl (xH fW (aF (x4 0) aL)) (fun _ _ _ _ _ _ nd=>RP (i:=0) (j:=1) rfl nd (by decide) (by decide)) (fun _ _ _ _ _ _=>AN) (fun _ _ _ _ _ _=>(uH (x4 1) (cH SS hr SU SV SW (aF (RI (RI (gJ (x4 3) (x4 2)) i4) (x4 0)) (aF (x4 2) aL))))))) aL))))
abbrev gZ:Stmt:=top 23
theorem t8:bD ["order", "k"] ["order", "k"] (aH gZ):=⟨rfl,rfl,rfl,by decide +kernel,rfl,by decide +kernel,by decide +kernel⟩
theorem FC {kk:Nat} {g1 g2:Addr} {d1 d2:FuncData} (F:lY K "count_at" "count_at" gZ f fd) (oI:aN P w K mg base dS kk g1 d1 ["shares", "n", "k"] (eR K LL.cD)) (oJ:mg "sum_over_descents" = some (.ref g1)) (oK:PySem.W.keepIn K (.ref g1)=true) (oM:Binds K d1 ["shares", "n", "k"] []) (nK:aN P w K mg base dS kk g2 d2 ["order"] (eR K LL.bC)) (nL:mg "shares_by_descents" = some (.ref g2)) (nM:PySem.W.keepIn K (.ref g2)=true) (nN:Binds K d2 ["order"] []) (bK:mg "len" = none):aN P w K mg base dS (kk+1) f fd ["order", "k"] (eR K LL.dO):=by
 refine i0 F t8 rfl rfl (fun cdv A outer s H E hr=>?_)
 have nd:=t8.nd
 exact (aW (eT (cH oI hr oJ oK oM (aF (cH nK hr nL nM nN (aF (x4 0) aL)) (aF (iY bK (aF (x4 0) aL)) (aF (x4 1) aL))))))
abbrev kW:Stmt:=top 26
theorem A4:bD ["_law_script", "_law_k"] ["_law_script", "_law_k"] (aH kW):=⟨rfl,rfl,rfl,by decide +kernel,rfl,by decide +kernel,by decide +kernel⟩
theorem M9 {kk:Nat} (F:lY K "_law_cell" "_law_cell" kW f fd) (bK:mg "len" = none):aN P w K mg base dS (kk+1) f fd ["_law_script", "_law_k"] (eR K LL.cL):=by
 refine i0 F A4 rfl rfl (fun cdv A outer s H E hr=>?_)
 have nd:=A4.nd
 exact (bT (iP (CM (iY bK (aF (x4 0) aL)) i4)
   (aW (eT i4))
   iZ)
  (aW (eT (lZ (x4 0) (mX (x4 1) (iY bK (aF (x4 0) aL)))))))
abbrev jD:Stmt:=top 27
theorem x8:bD ["_law_cell_here", "_law_k", "_law_salt", "_law_one", "_law_two"] ["_law_cell_here", "_law_k", "_law_salt"] (aH jD):=⟨rfl,rfl,rfl,by decide +kernel,rfl,by decide +kernel,by decide +kernel⟩
theorem HU {kk:Nat} (F:lY K "_law_mixed" "_law_mixed" jD f fd):aN P w K mg base dS (kk+1) f fd ["_law_cell_here", "_law_k", "_law_salt"] (eR K LL.eM):=by
 refine i0 F x8 rfl rfl (fun cdv A outer s H E hr=>?_)
 have nd:=x8.nd
 exact (bT (fQ (i:=3) nd (mX (uH (gJ (gJ (gJ (x4 0) (uH (uH i4 (x4 1)) (x4 1))) (uH i4 (x4 1))) (x4 2)) i4) i4))
  (bT (fQ (i:=4) nd (mX (gJ (gJ (uH (x4 3) (gJ (RJ (x4 3) i4) i4)) (uH i4 (x4 1))) (x4 2)) i4))
  (aW (eT (mX (uH (x4 4) i4) i4)))))
abbrev jE:Stmt:=top 28
theorem x9:bD ["_law_cell_here", "_law_many", "_law_salt", "_law_found", "_law_left", "_law_k"] ["_law_cell_here", "_law_many", "_law_salt"] (aH jE):=⟨rfl,rfl,rfl,by decide +kernel,rfl,by decide +kernel,by decide +kernel⟩
theorem HV {kk:Nat} {g1:Addr} {d1:FuncData} (F:lY K "_law_draws" "_law_draws" jE f fd) (tE:aN P w K mg base dS kk g1 d1 ["_law_cell_here", "_law_k", "_law_salt"] (eR K LL.eM)) (tF:mg "_law_mixed" = some (.ref g1)) (tG:PySem.W.keepIn K (.ref g1)=true) (tH:Binds K d1 ["_law_cell_here", "_law_k", "_law_salt"] []) (aY:mg "range" = none):aN P w K mg base dS (kk+1) f fd ["_law_cell_here", "_law_many", "_law_salt"] (eR K LL.cM):=by
 refine i0 F x9 rfl rfl (fun cdv A outer s H E hr=>?_)
 have nd:=x9.nd
 exact (bT (EK (i:=3) nd (uI aL))
  (bT (fQ (i:=4) nd i4)
  (bT (iP (aDF (x4 0) (aAc i4 i4))
   (aW (fQ (i:=4) nd (x4 0)))
   iZ)
  (bT (rA rfl PassesOwn.never (fF aY (x4 1)) (kQ (i:=5) nd)
   (aW (iP (V6 (x4 4) i4)
    (bT (xK (MN (i:=3) (yU (mX (x4 4) i4))))
    (aW (fQ (i:=4) nd (RJ (x4 4) i4))))
    (aW (xK (MN (i:=3) (yU (cH tE hr tF tG tH (aF (x4 0) (aF (x4 5) (aF (x4 2) aL)))))))))))
  (aW (eT (x4 3)))))))
abbrev jF:Stmt:=top 29
theorem yA:bD ["_law_cell_here", "_law_most", "_law_salt", "_law_found", "_law_k"] ["_law_cell_here", "_law_most", "_law_salt"] (aH jF):=⟨rfl,rfl,rfl,by decide +kernel,rfl,by decide +kernel,by decide +kernel⟩
theorem HW {kk:Nat} {g1:Addr} {d1:FuncData} (F:lY K "_law_great" "_law_great" jF f fd) (tE:aN P w K mg base dS kk g1 d1 ["_law_cell_here", "_law_k", "_law_salt"] (eR K LL.eM)) (tF:mg "_law_mixed" = some (.ref g1)) (tG:PySem.W.keepIn K (.ref g1)=true) (tH:Binds K d1 ["_law_cell_here", "_law_k", "_law_salt"] []) (aY:mg "range" = none):aN P w K mg base dS (kk+1) f fd ["_law_cell_here", "_law_most", "_law_salt"] (eR K LL.fS):=by
 refine i0 F yA rfl rfl (fun cdv A outer s H E hr=>?_)
 have nd:=yA.nd
 exact (bT (iP (aDF (x4 0) (aAc i4 i4))
   (aW (eT (mX (RJ (x4 0) i4) (x4 1))))
   iZ)
  (bT (fQ (i:=3) nd i4)
  (bT (rA rfl PassesOwn.never (fF aY i4) (kQ (i:=4) nd)
   (aW (fQ (i:=3) nd (gJ (uH (x4 3) i4) (cH tE hr tF tG tH (aF (x4 0) (aF (x4 4) (aF (x4 2) aL))))))))
  (aW (eT (mX (x4 3) (x4 1)))))))
abbrev kX:Stmt:=top 30
theorem A5:bD ["_law_found", "_law_due"] ["_law_found", "_law_due"] (aH kX):=⟨rfl,rfl,rfl,by decide +kernel,rfl,by decide +kernel,by decide +kernel⟩
theorem A6 {kk:Nat} (F:lY K "_law_same" "_law_same" kX f fd) (kZ:mg "_law_same" = some (.ref f)) (lA:PySem.W.keepIn K (.ref f)=true) (lB:Binds K fd ["_law_found", "_law_due"] []) (cU:mg "isinstance" = none) (J4:mg "str" = none) (FD:mg "int" = none) (tI:mg "bool" = none) (bP:mg "tuple" = none) (bK:mg "len" = none) (aY:mg "range" = none) (x6:mg "all" = none):∀ n:Nat,aN P w K mg base dS (kk+n) f fd ["_law_found", "_law_due"] (eR K (LL.bE n))
 | 0=>aDV
 | n+1=>by
  have nO:=A6 (kk:=kk) F kZ lA lB cU J4 FD tI bP bK aY x6 n
  refine i0 F A5 rfl rfl (fun cdv A outer s H E hr=>?_)
  have nd:=A5.nd
  exact (bT (iP (sV (EJ G4.t cU bP PyProof.Rows.boot_tuple (x4 1)))
   (bT (iP (HA.pt (RL (xF (sV (EJ G4.t cU bP PyProof.Rows.boot_tuple (x4 0)))) (RK (aI9 (iY bK (aF (x4 0) aL)) (iY bK (aF (x4 1) aL))))))
    (aW (eT b4))
    iZ)
   (aW (eT (aDX rfl x6 (aF (n6.pe (qZ (ls:=["_law_k"]) (fs:=["_law_found", "_law_due"]) (fr:=[0,1]) rfl (fF aY (iY bK (aF (x4 1) aL))) (fun _ _ _ _ _ _ nd=>lR (i:=0) nd (by decide)) (fun _ _ _ _ _ _=>AN) (fun _ _ _ _ _ _=>(cH nO hr kZ lA lB (aF (lZ (x4 1) (x4 0)) (aF (lZ (x4 2) (x4 0)) aL)))))) aL)))))
   iZ)
  (bT (iP (aIa (x4 1) n4)
   (aW (eT (is4 (x4 0) n4)))
   iZ)
  (bT (iP (sV (EJ G4.b cU tI PyProof.Rows.boot_bool (x4 1)))
   (aW (eT (EH (EJ G4.b cU tI PyProof.Rows.boot_bool (x4 0)) (EG (eq4 (x4 0) (x4 1))))))
   iZ)
  (bT (iP (sV (EJ G4.i cU FD PyProof.Rows.boot_int (x4 1)))
   (aW (eT (EH (EJ G4.i cU FD PyProof.Rows.boot_int (x4 0)) (EH (aDJ (EJ G4.b cU tI PyProof.Rows.boot_bool (x4 0))) (EG (eq4 (x4 0) (x4 1)))))))
   iZ)
  (aW (eT (EH (EJ G4.s cU J4 PyProof.Rows.boot_str (x4 0)) (EG (eq4 (x4 0) (x4 1))))))))))
abbrev hJ:Stmt:=top 31
theorem yB:bD ["_law_draws_here", "_law_n", "_law_thick", "_law_rest", "_law_word", "_law_k", "_law_low", "_law_at", "_law_j", "_law_under", "_law_i"] ["_law_draws_here", "_law_n", "_law_thick"] (aH hJ):=⟨rfl,rfl,rfl,by decide +kernel,rfl,by decide +kernel,by decide +kernel⟩
theorem HX {kk:Nat} (F:lY K "_law_order" "_law_order" hJ f fd) (aY:mg "range" = none) (eW:mg "sorted" = none) (bP:mg "tuple" = none) (bK:mg "len" = none) (pQ:mg "list" = none):aN P w K mg base dS (kk+1) f fd ["_law_draws_here", "_law_n", "_law_thick"] (eR K LL.i6):=by
 refine i0 F yB rfl rfl (fun cdv A outer s H E hr=>?_)
 have nd:=yB.nd
 have hu:(A.deeper (PyProof.Rows.envOfC "_law_order" (aH hJ) s.heap.objs.size f cdv)).units+1<cLine:=by have:=hr.un; omega
 exact (bT (EK (i:=3) nd (HD rfl pQ aY (aF (x4 1) aL)))
  (bT (EK (i:=4) nd (uI aL))
  (bT (rA rfl PassesOwn.never (fF aY (x4 1)) (kQ (i:=5) nd)
   (aW (xK (MN (i:=4) (aJF (i:=3) (px4 (mX (lZ (x4 0) (x4 5)) (iY bK (aF (x4 3) aL)))))))))
  (bT (RQ (i:=6) nd)
  (bT (fQ (i:=7) nd (x4 1))
  (bT (rA rfl PassesOwn.never (fF aY (x4 1)) (kQ (i:=8) nd)
   (bT (fQ (i:=9) nd (n6.pe (uI aL)))
   (bT (rA rfl PassesOwn.never (fF aY (x4 8)) (kQ (i:=10) nd)
    (bT (iP (aI8 (mX (lZ (x4 0) (x4 7)) i4) (x4 2))
     (aW (aDQ (i:=9) nd (aDA (x4 9) (n6.pe (qZ (ls:=["_law_a"]) (fs:=["_law_under"]) (fr:=[9]) rfl (xG (gJ (aDL hu (x4 6) (lZ (x4 4) (x4 10))) (n6.pe (uI (aF (lZ (x4 4) (x4 10)) aL))))) (fun _ _ _ _ _ _ nd=>lR (i:=0) nd (by decide)) (fun _ _ _ _ _ _=>xJ (EE (x4 0) (x4 1))) (fun _ _ _ _ _ _=>(x4 0)))))))
     iZ)
    (aW (fQ (i:=7) nd (gJ (x4 7) i4)))))
   (aW (aDR (i:=6) hu (yU (x4 9)) (lZ (x4 4) (x4 8)))))))
  (aW (eT (kE bP (aF (n6.pe (qZ (ls:=["_law_b"]) (fs:=["_law_low"]) (fr:=[6]) rfl (fF aY (x4 1)) (fun _ _ _ _ _ _ nd=>lR (i:=0) nd (by decide)) (fun _ _ _ _ _ _=>AN) (fun _ _ _ _ _ _=>(kE bP (aF (n6.pe (JR eW (aF (aDL hu (x4 1) (x4 0)) aL))) aL))))) aL))))))))))
abbrev jG:Stmt:=top 32
theorem yC:bD ["_law_script", "_law_k", "_law_most", "_law_salt", "_law_head", "_law_n", "_law_draws_here"] ["_law_script", "_law_k", "_law_most", "_law_salt"] (aH jG):=⟨rfl,rfl,rfl,by decide +kernel,rfl,by decide +kernel,by decide +kernel⟩
theorem HY {kk:Nat} {g1 g2 g3:Addr} {d1 d2 d3:FuncData} (F:lY K "_law_drawn" "_law_drawn" jG f fd) (NA:aN P w K mg base dS kk g1 d1 ["_law_draws_here", "_law_n", "_law_thick"] (eR K LL.i6)) (NB:mg "_law_order" = some (.ref g1)) (NC:PySem.W.keepIn K (.ref g1)=true) (ND:Binds K d1 ["_law_draws_here", "_law_n", "_law_thick"] []) (hV:aN P w K mg base dS kk g2 d2 ["_law_cell_here", "_law_many", "_law_salt"] (eR K LL.cM)) (hW:mg "_law_draws" = some (.ref g2)) (h8:PySem.W.keepIn K (.ref g2)=true) (h9:Binds K d2 ["_law_cell_here", "_law_many", "_law_salt"] []) (iI:aN P w K mg base dS kk g3 d3 ["_law_script", "_law_k"] (eR K LL.cL)) (iJ:mg "_law_cell" = some (.ref g3)) (iK:PySem.W.keepIn K (.ref g3)=true) (iL:Binds K d3 ["_law_script", "_law_k"] []):aN P w K mg base dS (kk+1) f fd ["_law_script", "_law_k", "_law_most", "_law_salt"] (eR K LL.eO):=by
 refine i0 F yC rfl rfl (fun cdv A outer s H E hr=>?_)
 have nd:=yC.nd
 exact (bT (fQ (i:=4) nd (cH hV hr hW h8 h9 (aF (cH iI hr iJ iK iL (aF (x4 0) (aF (x4 1) aL))) (aF i4 (aF (x4 3) aL)))))
  (bT (fQ (i:=5) nd (mX (lZ (x4 4) i4) (gJ (x4 2) i4)))
  (bT (fQ (i:=6) nd (cH hV hr hW h8 h9 (aF (cH iI hr iJ iK iL (aF (x4 0) (aF (gJ (x4 1) i4) aL))) (aF (gJ (x4 5) (RJ (uH (x4 5) (RI (x4 5) i4)) i4)) (aF (gJ (x4 3) i4) aL)))))
  (aW (eT (cH NA hr NB NC ND (aF (x4 6) (aF (x4 5) (aF (lZ (n6.pe (uI (aF i4 (aF i4 (aF i4 (aF i4 (aF i4 (aF i4 (aF i4 (aF i4 aL)))))))))) (mX (lZ (x4 4) i4) i4)) aL)))))))))
abbrev jH:Stmt:=top 33
theorem yD:bD ["_law_order_here", "_law_filling", "_law_b", "_law_a"] ["_law_order_here", "_law_filling"] (aH jH):=⟨rfl,rfl,rfl,by decide +kernel,rfl,by decide +kernel,by decide +kernel⟩
theorem HZ {kk:Nat} (F:lY K "_law_rises" "_law_rises" jH f fd) (bK:mg "len" = none) (aY:mg "range" = none):aN P w K mg base dS (kk+1) f fd ["_law_order_here", "_law_filling"] (eR K LL.dD):=by
 refine i0 F yD rfl rfl (fun cdv A outer s H E hr=>?_)
 have nd:=yD.nd
 exact (bT (rA rfl PassesOwn.never (fF aY (iY bK (aF (x4 0) aL))) (kQ (i:=2) nd)
   (aW (rA rfl PassesOwn.never (xG (lZ (x4 0) (x4 2))) (kQ (i:=3) nd)
    (aW (iP (HA.pt (RL (V6 (lZ (x4 1) (x4 3)) (lZ (x4 1) (x4 2))) (RK (HA.pt (X5 (V6 (x4 3) (x4 2)) (X4 (CM (lZ (x4 1) (x4 3)) (lZ (x4 1) (x4 2)))))))))
     (aW (eT b4))
     iZ)))))
  (aW (eT b4)))
abbrev jI:Stmt:=top 34
theorem yE:bD ["_law_order_here", "_law_found", "_law_a", "_law_b"] ["_law_order_here"] (aH jI):=⟨rfl,rfl,rfl,by decide +kernel,rfl,by decide +kernel,by decide +kernel⟩
theorem IA {kk:Nat} (F:lY K "_law_loose" "_law_loose" jI f fd) (bK:mg "len" = none) (aY:mg "range" = none):aN P w K mg base dS (kk+1) f fd ["_law_order_here"] (eR K gU):=by
 refine i0 F yE rfl rfl (fun cdv A outer s H E hr=>?_)
 have nd:=yE.nd
 exact (bT (EK (i:=1) nd (uI aL))
  (bT (rA rfl PassesOwn.never (fF aY (iY bK (aF (x4 0) aL))) (kQ (i:=2) nd)
   (aW (rA rfl PassesOwn.never (JS aY (gJ (x4 2) i4) (iY bK (aF (x4 0) aL))) (kQ (i:=3) nd)
    (aW (iP (HA.pt (X5 (EE (x4 2) (lZ (x4 0) (x4 3))) (X4 (EE (x4 3) (lZ (x4 0) (x4 2))))))
     (aW (xK (MN (i:=1) (yU (yT (aF (x4 2) (aF (x4 3) aL)))))))
     iZ)))))
  (aW (eT (x4 1)))))
abbrev oA:Stmt:=top 35
theorem FE:bD ["_law_order_here", "_law_a", "_law_b", "_law_low", "_law_found", "_law_c", "_law_under"] ["_law_order_here", "_law_a", "_law_b"] (aH oA):=⟨rfl,rfl,rfl,by decide +kernel,rfl,by decide +kernel,by decide +kernel⟩
theorem SY {kk:Nat} (F:lY K "_law_put" "_law_put" oA f fd) (bP:mg "tuple" = none) (bK:mg "len" = none) (aY:mg "range" = none) (eW:mg "sorted" = none) (pQ:mg "list" = none):aN P w K mg base dS (kk+1) f fd ["_law_order_here", "_law_a", "_law_b"] (eR K LL.iV):=by
 refine i0 F FE rfl rfl (fun cdv A outer s H E hr=>?_)
 have nd:=FE.nd
 exact (bT (fQ (i:=3) nd (gJ (n6.pe (X6 pQ (aF (lZ (x4 0) (x4 1)) aL))) (n6.pe (uI (aF (x4 1) aL)))))
  (bT (EK (i:=4) nd (uI aL))
  (bT (rA rfl PassesOwn.never (fF aY (iY bK (aF (x4 0) aL))) (kQ (i:=5) nd)
   (bT (fQ (i:=6) nd (n6.pe (X6 pQ (aF (lZ (x4 0) (x4 5)) aL))))
   (bT (iP (HA.pt (RL (CM (x4 5) (x4 2)) (RK (aDG (x4 2) (lZ (x4 0) (x4 5))))))
    (aW (fQ (i:=6) nd (gJ (x4 6) (n6.pe (qZ (ls:=["_law_x"]) (fs:=["_law_under"]) (fr:=[6]) rfl (xG (x4 3)) (fun _ _ _ _ _ _ nd=>lR (i:=0) nd (by decide)) (fun _ _ _ _ _ _=>xJ (EE (x4 0) (x4 1))) (fun _ _ _ _ _ _=>(x4 0)))))))
    iZ)
   (aW (xK (MN (i:=4) (yU (kE bP (aF (n6.pe (JR eW (aF (x4 6) aL))) aL)))))))))
  (aW (eT (kE bP (aF (x4 4) aL)))))))
abbrev oB:Stmt:=top 36
theorem FF:bD ["_law_script", "_law_k", "_law_salt", "_law_head", "_law_found"] ["_law_script", "_law_k", "_law_salt"] (aH oB):=⟨rfl,rfl,rfl,by decide +kernel,rfl,by decide +kernel,by decide +kernel⟩
theorem S2 {kk:Nat} {g1 g2 g3:Addr} {d1 d2 d3:FuncData} (F:lY K "_law_any" "_law_any" oB f fd) (NF:aN P w K mg base dS kk g1 d1 ["_law_cell_here", "_law_most", "_law_salt"] (eR K LL.fS)) (NG:mg "_law_great" = some (.ref g1)) (NH:PySem.W.keepIn K (.ref g1)=true) (NI:Binds K d1 ["_law_cell_here", "_law_most", "_law_salt"] []) (iI:aN P w K mg base dS kk g2 d2 ["_law_script", "_law_k"] (eR K LL.cL)) (iJ:mg "_law_cell" = some (.ref g2)) (iK:PySem.W.keepIn K (.ref g2)=true) (iL:Binds K d2 ["_law_script", "_law_k"] []) (hV:aN P w K mg base dS kk g3 d3 ["_law_cell_here", "_law_many", "_law_salt"] (eR K LL.cM)) (hW:mg "_law_draws" = some (.ref g3)) (h8:PySem.W.keepIn K (.ref g3)=true) (h9:Binds K d3 ["_law_cell_here", "_law_many", "_law_salt"] []):aN P w K mg base dS (kk+1) f fd ["_law_script", "_law_k", "_law_salt"] (eR K lI):=by
 refine i0 F FF rfl rfl (fun cdv A outer s H E hr=>?_)
 have nd:=FF.nd
 exact (bT (fQ (i:=3) nd (cH hV hr hW h8 h9 (aF (cH iI hr iJ iK iL (aF (x4 0) (aF (x4 1) aL))) (aF i4 (aF (x4 2) aL)))))
  (bT (iP (CM (mX (lZ (x4 3) i4) i4) i4)
   (aW (eT (RI (mX (lZ (x4 3) i4) i4) i4)))
   iZ)
  (bT (fQ (i:=4) nd (cH NF hr NG NH NI (aF (cH iI hr iJ iK iL (aF (x4 0) (aF (gJ (x4 1) i4) aL))) (aF (aAc i4 i4) (aF (gJ (x4 2) i4) aL)))))
  (bT (iP (CM (mX (lZ (x4 3) i4) i4) i4)
   (aW (eT (aDK (x4 4))))
   iZ)
  (aW (eT (x4 4)))))))
abbrev rK:Stmt:=top 37
theorem S3:bD ["_law_script", "_law_order_here", "_law_pairs", "_law_size", "_law_a", "_law_b", "_law_due", "_law_k", "_law_numbers", "_law_first", "_law_second"] ["_law_script"] (aH rK):=⟨rfl,rfl,rfl,by decide +kernel,rfl,by decide +kernel,by decide +kernel⟩
theorem aAw {kk:Nat} {g1 g2 g3 g4 g5 g6 g7 g8 g9 g10 g11:Addr} {d1 d2 d3 d4 d5 d6 d7 d8 d9 d10 d11:FuncData} (F:lY K "law" "law" rK f fd) (tJ:aN P w K mg base dS kk g1 d1 ["_law_order_here", "_law_filling"] (eR K LL.dD)) (tK:mg "_law_rises" = some (.ref g1)) (tL:PySem.W.keepIn K (.ref g1)=true) (tM:Binds K d1 ["_law_order_here", "_law_filling"] []) (hV:aN P w K mg base dS kk g2 d2 ["_law_cell_here", "_law_many", "_law_salt"] (eR K LL.cM)) (hW:mg "_law_draws" = some (.ref g2)) (h8:PySem.W.keepIn K (.ref g2)=true) (h9:Binds K d2 ["_law_cell_here", "_law_many", "_law_salt"] []) (iI:aN P w K mg base dS kk g3 d3 ["_law_script", "_law_k"] (eR K LL.cL)) (iJ:mg "_law_cell" = some (.ref g3)) (iK:PySem.W.keepIn K (.ref g3)=true) (iL:Binds K d3 ["_law_script", "_law_k"] []) (nO:aN P w K mg base dS kk g4 d4 ["_law_found", "_law_due"] (eR K (LL.bE 6))) (kZ:mg "_law_same" = some (.ref g4)) (lA:PySem.W.keepIn K (.ref g4)=true) (lB:Binds K d4 ["_law_found", "_law_due"] []) (pR:aN P w K mg base dS kk g5 d5 ["order", "k"] (eR K LL.dO)) (pS:mg "count_at" = some (.ref g5)) (pT:PySem.W.keepIn K (.ref g5)=true) (pU:Binds K d5 ["order", "k"] []) (WQ:aN P w K mg base dS kk g6 d6 ["_law_script", "_law_k", "_law_salt"] (eR K lI)) (WR:mg "_law_any" = some (.ref g6)) (WU:PySem.W.keepIn K (.ref g6)=true) (WV:Binds K d6 ["_law_script", "_law_k", "_law_salt"] []) (aEG:aN P w K mg base (yJ P w) kk g7 d7 ["order", "a", "b"] (JU K mg wJ)) (aEH:mg "cut" = some (.ref g7)) (aEI:PySem.W.keepIn K (.ref g7)=true) (aEJ:Binds K d7 ["order", "a", "b"] []) (J5:aN P w K mg base dS kk g8 d8 ["_law_order_here", "_law_a", "_law_b"] (eR K LL.iV)) (J6:mg "_law_put" = some (.ref g8)) (J7:PySem.W.keepIn K (.ref g8)=true) (J8:Binds K d8 ["_law_order_here", "_law_a", "_law_b"] []) (yW:aN P w K mg base dS kk g9 d9 ["order"] (eR K LL.eF)) (yX:mg "loose_pairs" = some (.ref g9)) (yY:PySem.W.keepIn K (.ref g9)=true) (yZ:Binds K d9 ["order"] []) (NJ:aN P w K mg base dS kk g10 d10 ["_law_order_here"] (eR K gU)) (NK:mg "_law_loose" = some (.ref g10)) (NL:PySem.W.keepIn K (.ref g10)=true) (NM:Binds K d10 ["_law_order_here"] []) (NN:aN P w K mg base dS kk g11 d11 ["_law_script", "_law_k", "_law_most", "_law_salt"] (eR K LL.eO)) (NO:mg "_law_drawn" = some (.ref g11)) (NP:PySem.W.keepIn K (.ref g11)=true) (NQ:Binds K d11 ["_law_script", "_law_k", "_law_most", "_law_salt"] []) (bK:mg "len" = none) (bP:mg "tuple" = none):aN P w K mg base dS (kk+1) f fd ["_law_script"] (eR K qE):=by
 refine i0 F S3 rfl rfl (fun cdv A outer s H E hr=>?_)
 have nd:=S3.nd
 exact (bT (fQ (i:=1) nd (cH NN hr NO NP NQ (aF (x4 0) (aF i4 (aF i4 (aF i4 aL))))))
  (bT (fQ (i:=2) nd (cH NJ hr NK NL NM (aF (x4 1) aL)))
  (bT (iP (xF (sV (cH nO hr kZ lA lB (aF (cH yW hr yX yY yZ (aF (x4 1) aL)) (aF (kE bP (aF (x4 2) aL)) aL)))))
   (aW (eT b4))
   iZ)
  (bT (iP (CM (iY bK (aF (x4 2) aL)) i4)
   (aW (eT b4))
   iZ)
  (bT (fQ (i:=3) nd (cH hV hr hW h8 h9 (aF (cH iI hr iJ iK iL (aF (x4 0) (aF i4 aL))) (aF i4 (aF i4 aL)))))
  (bT (aDc (yU (lZ (x4 2) (mX (gJ (lZ (x4 3) i4) (uH i4 (lZ (x4 3) i4))) (iY bK (aF (x4 2) aL))))) (X7 (i:=4) (j:=5) rfl nd))
  (bT (iP (CM (mX (lZ (x4 3) i4) i4) i4)
   (aW (aJL (i:=4) (j:=5) rfl nd (aF (x4 5) (aF (x4 4) aL))))
   iZ)
  (bT (fQ (i:=6) nd (yT (aF (cH J5 hr J6 J7 J8 (aF (x4 1) (aF (x4 4) (aF (x4 5) aL)))) (aF (cH J5 hr J6 J7 J8 (aF (x4 1) (aF (x4 5) (aF (x4 4) aL)))) aL))))
  (bT (iP (xF (sV (cH nO hr kZ lA lB (aF (AS aEG hr aEH aEI aEJ (aF (x4 1) (aF (x4 4) (aF (x4 5) aL)))) (aF (x4 6) aL)))))
   (aW (eT b4))
   iZ)
  (bT (fQ (i:=7) nd (cH WQ hr WR WU WV (aF (x4 0) (aF i4 (aF i4 aL)))))
  (bT (iP (xF (sV (cH nO hr kZ lA lB (aF (cH pR hr pS pT pU (aF (x4 1) (aF (x4 7) aL))) (aF (gJ (cH pR hr pS pT pU (aF (lZ (x4 6) i4) (aF (x4 7) aL))) (cH pR hr pS pT pU (aF (lZ (x4 6) i4) (aF (x4 7) aL)))) aL)))))
   (aW (eT b4))
   iZ)
  (bT (AO (i:=8) (ls:=["_law_d"]) (fs:=[]) (fr:=[]) nd rfl (xG (cH hV hr hW h8 h9 (aF (cH iI hr iJ iK iL (aF (x4 0) (aF i4 aL))) (aF (iY bK (aF (x4 1) aL)) (aF i4 aL))))) (fun _ _ _ _ _ _ nd=>lR (i:=0) nd (by decide)) (fun _ _ _ _ _ _=>AN) (fun _ _ _ _ _ _=>(gJ i4 (mX (x4 0) i4))))
  (bT (fQ (i:=9) nd (cH tJ hr tK tL tM (aF (lZ (x4 6) i4) (aF (x4 8) aL))))
  (bT (fQ (i:=10) nd (cH tJ hr tK tL tM (aF (lZ (x4 6) i4) (aF (x4 8) aL))))
  (aW (eT (EH (aDJ (EH (x4 9) (EG (x4 10)))) (EG (eq4 (cH tJ hr tK tL tM (aF (x4 1) (aF (x4 8) aL))) (or4 (x4 9) (EG (x4 10))))))))))))))))))))))
end
theorem rL:∀ (us:List Value),us.length=1 -> ∃ a0,us=[a0]
 | [a0],_=>⟨a0,rfl⟩
theorem i5:∀ (us:List Value),us.length=2 -> ∃ a0 a1,us=[a0,a1]
 | [a0,a1],_=>⟨a0,a1,rfl⟩
theorem gP:∀ (us:List Value),us.length=3 -> ∃ a0 a1 a2,us=[a0,a1,a2]
 | [a0,a1,a2],_=>⟨a0,a1,a2,rfl⟩
theorem J9:∀ (us:List Value),us.length=4 -> ∃ a0 a1 a2 a3,us=[a0,a1,a2,a3]
 | [a0,a1,a2,a3],_=>⟨a0,a1,a2,a3,rfl⟩
theorem all_mk {l:PySem.W.OpenLaw} {w:World} {K:PySem.W.Frag} {h:Heap} {mg:Str->Option Value} {fa f1 f2 f3 f4 f5 f6 f7 f8 f9 f10 f11 f12 f13 f14 f15 f16 f17 f18 f19 f20 f21 f22 f23 f24 f25 f26 f27 f28:Addr} (X:K.In h) (G:h.Ns mainGlobals mg) (hfa:mg "law" = some (.ref fa))
  {od1 an1 od2 an2 od3 an3 od4 an4 od5 an5 od6 an6 od7 an7 od8 an8 od9 an9 aJT aJU aJV aJW aJX aJY aJZ aJ0 aJ1 aJ2 aJ3 aJ4 aJ5 aJ6 aJ7 aJ8 aJ9 aJa aJb aJc aJd aJe aJf aJg aJh aJi aJj aJk aJl aJm aJn aJo aJp aJq aJr aJs aJt aEK:Option Addr} {sl1 sl2 sl3 sl4 sl5 sl6 sl7 sl8 sl9 aJu aJv aJw aJx aJy aJz aKA aKB aKC aKD aKE aKF aKG aKH aKI aKJ aKK aKL aKM:Array (Option Value)}
  {oc1 kV1 dc1 pm1 cd1 ct1 oc2 kV2 dc2 pm2 cd2 ct2 oc3 kV3 dc3 pm3 cd3 ct3 oc4 kV4 dc4 pm4 cd4 ct4 oc5 kV5 dc5 pm5 cd5 ct5 oc6 kV6 dc6 pm6 cd6 ct6 oc7 kV7 dc7 pm7 cd7 ct7 oc8 kV8 dc8 pm8 cd8 ct8 oc9 kV9 dc9 pm9 cd9 ct9 aKN aKO aKP aKQ aEL aKR aKS aKT aKU aKV aEM aKW aKX aKY aKZ aK0 aEN aK1 aK2 aK3 aK4 aK5 aEO aK6 aK7 aK8 aK9 aKa aEP aKb aKc aKd aKe aKf aEQ aKg aKh aKi aKj aKk aER aKl aKm aKn aKo aKp aES aKq aKr aKs aKt aKu aET aKv aKw aKx aKy aKz aEU aLA aLB aLC aLD aLE aEV aLF aLG aLH aLI aLJ aEW aLK aLL aLM aLN aLO aEX aLP aLQ aLR aLS aLT aEY aLU aLV aLW aLX aLY aEZ aLZ aL0 aL1 aL2 aL3 aE0 aL4 aL5 aL6 aL7 aL8 aE1 aL9 aLa aLb aLc aLd aE2 aLe aLf aE3 aE4 aE5 aAx aE6:Value}
  {mZ kR jS:Addr}
  (a1:PySem.W.nsIn K mainGlobals "is_thing" = some (some (.ref f1))) (l1:K.lookup f1=some ⟨oc1,od1,.func (PySem.W.fnOf "is_thing" "is_thing" (bF gY) (aX gY) (aH gY) .none kV1 dc1 pm1 an1 cd1 ct1),sl1⟩) (c1:PySem.W.codeIn K cd1 "is_thing" = true) (k1:PySem.W.keepIn K (.ref f1)=true)
  (a2:PySem.W.nsIn K mainGlobals "refuse_strangers" = some (some (.ref f2))) (l2:K.lookup f2=some ⟨oc2,od2,.func (PySem.W.fnOf "refuse_strangers" "refuse_strangers" (bF dE) (aX dE) (aH dE) .none kV2 dc2 pm2 an2 cd2 ct2),sl2⟩) (c2:PySem.W.codeIn K cd2 "refuse_strangers" = true) (k2:PySem.W.keepIn K (.ref f2)=true)
  (a3:PySem.W.nsIn K mainGlobals "put_under" = some (some (.ref f3))) (l3:K.lookup f3=some ⟨oc3,od3,.func (PySem.W.fnOf "put_under" "put_under" (bF fV) (aX fV) (aH fV) .none kV3 dc3 pm3 an3 cd3 ct3),sl3⟩) (c3:PySem.W.codeIn K cd3 "put_under" = true) (k3:PySem.W.keepIn K (.ref f3)=true)
  (a4:PySem.W.nsIn K mainGlobals "are_loose" = some (some (.ref f4))) (l4:K.lookup f4=some ⟨oc4,od4,.func (PySem.W.fnOf "are_loose" "are_loose" (bF fX) (aX fX) (aH fX) .none kV4 dc4 pm4 an4 cd4 ct4),sl4⟩) (c4:PySem.W.codeIn K cd4 "are_loose" = true) (k4:PySem.W.keepIn K (.ref f4)=true)
  (a5:PySem.W.nsIn K mainGlobals "loose_pairs" = some (some (.ref f5))) (l5:K.lookup f5=some ⟨oc5,od5,.func (PySem.W.fnOf "loose_pairs" "loose_pairs" (bF eX) (aX eX) (aH eX) .none kV5 dc5 pm5 an5 cd5 ct5),sl5⟩) (c5:PySem.W.codeIn K cd5 "loose_pairs" = true) (k5:PySem.W.keepIn K (.ref f5)=true)
  (a6:PySem.W.nsIn K mainGlobals "cut" = some (some (.ref f6))) (l6:K.lookup f6=some ⟨oc6,od6,.func (PySem.W.fnOf "cut" "cut" (bF A1) (aX A1) (aH A1) .none kV6 dc6 pm6 an6 cd6 ct6),sl6⟩) (c6:PySem.W.codeIn K cd6 "cut" = true) (k6:PySem.W.keepIn K (.ref f6)=true)
  (a7:PySem.W.nsIn K mainGlobals "ready_things" = some (some (.ref f7))) (l7:K.lookup f7=some ⟨oc7,od7,.func (PySem.W.fnOf "ready_things" "ready_things" (bF eQ) (aX eQ) (aH eQ) .none kV7 dc7 pm7 an7 cd7 ct7),sl7⟩) (c7:PySem.W.codeIn K cd7 "ready_things" = true) (k7:PySem.W.keepIn K (.ref f7)=true)
  (a8:PySem.W.nsIn K mainGlobals "joined" = some (some (.ref f8))) (l8:K.lookup f8=some ⟨oc8,od8,.func (PySem.W.fnOf "joined" "joined" (bF kT) (aX kT) (aH kT) .none kV8 dc8 pm8 an8 cd8 ct8),sl8⟩) (c8:PySem.W.codeIn K cd8 "joined" = true) (k8:PySem.W.keepIn K (.ref f8)=true)
  (a9:PySem.W.nsIn K mainGlobals "added" = some (some (.ref f9))) (l9:K.lookup f9=some ⟨oc9,od9,.func (PySem.W.fnOf "added" "added" (bF n9) (aX n9) (aH n9) .none kV9 dc9 pm9 an9 cd9 ct9),sl9⟩) (c9:PySem.W.codeIn K cd9 "added" = true) (k9:PySem.W.keepIn K (.ref f9)=true)
  (a10:PySem.W.nsIn K mainGlobals "one_descent_more" = some (some (.ref f10))) (l10:K.lookup f10=some ⟨aKN,aJT,.func (PySem.W.fnOf "one_descent_more" "one_descent_more" (bF dF) (aX dF) (aH dF) .none aKO aKP aKQ aJU aEL aKR),aJu⟩) (c10:PySem.W.codeIn K aEL "one_descent_more" = true) (k10:PySem.W.keepIn K (.ref f10)=true)
  (a11:PySem.W.nsIn K mainGlobals "find_shares" = some (some (.ref f11))) (l11:K.lookup f11=some ⟨aKS,aJV,.func (PySem.W.fnOf "find_shares" "find_shares" (bF eG) (aX eG) (aH eG) .none aKT aKU aKV aJW aEM aKW),aJv⟩) (c11:PySem.W.codeIn K aEM "find_shares" = true) (k11:PySem.W.keepIn K (.ref f11)=true)
  (a12:PySem.W.nsIn K mainGlobals "shares_on" = some (some (.ref f12))) (l12:K.lookup f12=some ⟨aKX,aJX,.func (PySem.W.fnOf "shares_on" "shares_on" (bF fY) (aX fY) (aH fY) .none aKY aKZ aK0 aJY aEN aK1),aJw⟩) (c12:PySem.W.codeIn K aEN "shares_on" = true) (k12:PySem.W.keepIn K (.ref f12)=true)
  (a13:PySem.W.nsIn K mainGlobals "shares_by_descents" = some (some (.ref f13))) (l13:K.lookup f13=some ⟨aK2,aJZ,.func (PySem.W.fnOf "shares_by_descents" "shares_by_descents" (bF bY) (aX bY) (aH bY) .none aK3 aK4 aK5 aJ0 aEO aK6),aJx⟩) (c13:PySem.W.codeIn K aEO "shares_by_descents" = true) (k13:PySem.W.keepIn K (.ref f13)=true)
  (a14:PySem.W.nsIn K mainGlobals "chosen" = some (some (.ref f14))) (l14:K.lookup f14=some ⟨aK7,aJ1,.func (PySem.W.fnOf "chosen" "chosen" (bF kU) (aX kU) (aH kU) .none aK8 aK9 aKa aJ2 aEP aKb),aJy⟩) (c14:PySem.W.codeIn K aEP "chosen" = true) (k14:PySem.W.keepIn K (.ref f14)=true)
  (a15:PySem.W.nsIn K mainGlobals "sum_over_descents" = some (some (.ref f15))) (l15:K.lookup f15=some ⟨aKc,aJ3,.func (PySem.W.fnOf "sum_over_descents" "sum_over_descents" (bF cV) (aX cV) (aH cV) .none aKd aKe aKf aJ4 aEQ aKg),aJz⟩) (c15:PySem.W.codeIn K aEQ "sum_over_descents" = true) (k15:PySem.W.keepIn K (.ref f15)=true)
  (a16:PySem.W.nsIn K mainGlobals "count_at" = some (some (.ref f16))) (l16:K.lookup f16=some ⟨aKh,aJ5,.func (PySem.W.fnOf "count_at" "count_at" (bF gZ) (aX gZ) (aH gZ) .none aKi aKj aKk aJ6 aER aKl),aKA⟩) (c16:PySem.W.codeIn K aER "count_at" = true) (k16:PySem.W.keepIn K (.ref f16)=true)
  (a17:PySem.W.nsIn K mainGlobals "_law_cell" = some (some (.ref f17))) (l17:K.lookup f17=some ⟨aKm,aJ7,.func (PySem.W.fnOf "_law_cell" "_law_cell" (bF kW) (aX kW) (aH kW) .none aKn aKo aKp aJ8 aES aKq),aKB⟩) (c17:PySem.W.codeIn K aES "_law_cell" = true) (k17:PySem.W.keepIn K (.ref f17)=true)
  (a18:PySem.W.nsIn K mainGlobals "_law_mixed" = some (some (.ref f18))) (l18:K.lookup f18=some ⟨aKr,aJ9,.func (PySem.W.fnOf "_law_mixed" "_law_mixed" (bF jD) (aX jD) (aH jD) .none aKs aKt aKu aJa aET aKv),aKC⟩) (c18:PySem.W.codeIn K aET "_law_mixed" = true) (k18:PySem.W.keepIn K (.ref f18)=true)
  (a19:PySem.W.nsIn K mainGlobals "_law_draws" = some (some (.ref f19))) (l19:K.lookup f19=some ⟨aKw,aJb,.func (PySem.W.fnOf "_law_draws" "_law_draws" (bF jE) (aX jE) (aH jE) .none aKx aKy aKz aJc aEU aLA),aKD⟩) (c19:PySem.W.codeIn K aEU "_law_draws" = true) (k19:PySem.W.keepIn K (.ref f19)=true)
  (a20:PySem.W.nsIn K mainGlobals "_law_great" = some (some (.ref f20))) (l20:K.lookup f20=some ⟨aLB,aJd,.func (PySem.W.fnOf "_law_great" "_law_great" (bF jF) (aX jF) (aH jF) .none aLC aLD aLE aJe aEV aLF),aKE⟩) (c20:PySem.W.codeIn K aEV "_law_great" = true) (k20:PySem.W.keepIn K (.ref f20)=true)
  (a21:PySem.W.nsIn K mainGlobals "_law_same" = some (some (.ref f21))) (l21:K.lookup f21=some ⟨aLG,aJf,.func (PySem.W.fnOf "_law_same" "_law_same" (bF kX) (aX kX) (aH kX) .none aLH aLI aLJ aJg aEW aLK),aKF⟩) (c21:PySem.W.codeIn K aEW "_law_same" = true) (k21:PySem.W.keepIn K (.ref f21)=true)
  (a22:PySem.W.nsIn K mainGlobals "_law_order" = some (some (.ref f22))) (l22:K.lookup f22=some ⟨aLL,aJh,.func (PySem.W.fnOf "_law_order" "_law_order" (bF hJ) (aX hJ) (aH hJ) .none aLM aLN aLO aJi aEX aLP),aKG⟩) (c22:PySem.W.codeIn K aEX "_law_order" = true) (k22:PySem.W.keepIn K (.ref f22)=true)
  (a23:PySem.W.nsIn K mainGlobals "_law_drawn" = some (some (.ref f23))) (l23:K.lookup f23=some ⟨aLQ,aJj,.func (PySem.W.fnOf "_law_drawn" "_law_drawn" (bF jG) (aX jG) (aH jG) .none aLR aLS aLT aJk aEY aLU),aKH⟩) (c23:PySem.W.codeIn K aEY "_law_drawn" = true) (k23:PySem.W.keepIn K (.ref f23)=true)
  (a24:PySem.W.nsIn K mainGlobals "_law_rises" = some (some (.ref f24))) (l24:K.lookup f24=some ⟨aLV,aJl,.func (PySem.W.fnOf "_law_rises" "_law_rises" (bF jH) (aX jH) (aH jH) .none aLW aLX aLY aJm aEZ aLZ),aKI⟩) (c24:PySem.W.codeIn K aEZ "_law_rises" = true) (k24:PySem.W.keepIn K (.ref f24)=true)
  (a25:PySem.W.nsIn K mainGlobals "_law_loose" = some (some (.ref f25))) (l25:K.lookup f25=some ⟨aL0,aJn,.func (PySem.W.fnOf "_law_loose" "_law_loose" (bF jI) (aX jI) (aH jI) .none aL1 aL2 aL3 aJo aE0 aL4),aKJ⟩) (c25:PySem.W.codeIn K aE0 "_law_loose" = true) (k25:PySem.W.keepIn K (.ref f25)=true)
  (a26:PySem.W.nsIn K mainGlobals "_law_put" = some (some (.ref f26))) (l26:K.lookup f26=some ⟨aL5,aJp,.func (PySem.W.fnOf "_law_put" "_law_put" (bF oA) (aX oA) (aH oA) .none aL6 aL7 aL8 aJq aE1 aL9),aKK⟩) (c26:PySem.W.codeIn K aE1 "_law_put" = true) (k26:PySem.W.keepIn K (.ref f26)=true)
  (a27:PySem.W.nsIn K mainGlobals "_law_any" = some (some (.ref f27))) (l27:K.lookup f27=some ⟨aLa,aJr,.func (PySem.W.fnOf "_law_any" "_law_any" (bF oB) (aX oB) (aH oB) .none aLb aLc aLd aJs aE2 aLe),aKL⟩) (c27:PySem.W.codeIn K aE2 "_law_any" = true) (k27:PySem.W.keepIn K (.ref f27)=true)
  (a28:PySem.W.nsIn K mainGlobals "law" = some (some (.ref f28))) (l28:K.lookup f28=some ⟨aLf,aJt,.func (PySem.W.fnOf "law" "law" (bF rK) (aX rK) (aH rK) .none aE3 aE4 aE5 aEK aAx aE6),aKM⟩) (c28:PySem.W.codeIn K aAx "law" = true) (k28:PySem.W.keepIn K (.ref f28)=true)
  (yF:PySem.W.nsIn K mainGlobals "Looped" = some (some (.ref mZ)))
  (tN:PySem.W.nsIn K mainGlobals "NoThing" = some (some (.ref kR)))
  (pV:PySem.W.nsIn K mainGlobals "NotLoose" = some (some (.ref jS)))
  (yG:PySem.W.excIn K mZ bmV "ValueError.__new__" = true)
  (tO:PySem.W.excIn K kR bmV "ValueError.__new__" = true)
  (pW:PySem.W.excIn K jS bmV "ValueError.__new__" = true)
  (z1:PySem.W.nsIn K mainGlobals "tuple" = some none) (z2:PySem.W.nsIn K mainGlobals "enumerate" = some none) (z3:PySem.W.nsIn K mainGlobals "sorted" = some none) (z4:PySem.W.nsIn K mainGlobals "set" = some none) (z5:PySem.W.nsIn K mainGlobals "len" = some none) (z6:PySem.W.nsIn K mainGlobals "range" = some none) (z7:PySem.W.nsIn K mainGlobals "all" = some none) (z8:PySem.W.nsIn K mainGlobals "zip" = some none) (z9:PySem.W.nsIn K mainGlobals "max" = some none) (z10:PySem.W.nsIn K mainGlobals "sum" = some none) (z11:PySem.W.nsIn K mainGlobals "isinstance" = some none) (z12:PySem.W.nsIn K mainGlobals "str" = some none) (z13:PySem.W.nsIn K mainGlobals "int" = some none) (z14:PySem.W.nsIn K mainGlobals "bool" = some none) (z15:PySem.W.nsIn K mainGlobals "list" = some none) :
  ∃ fd:FuncData,(∀ (s:Shared) (v:Value),BindsTo s fd ⟨[v],[]⟩ [("_law_script",v)]) /\ ∀ base:Heap,K.In base->base.Ns mainGlobals mg->aN l.prog w K mg base dS 19 fa fd ["_law_script"] (eR K qE):=by
 have e:=hfa.symm.trans (PySem.W.mg_of X G a28)
 cases e
 have F1:=dB (st:=gY) l1 c1 k1
 have F2:=dB (st:=dE) l2 c2 k2
 have F3:=dB (st:=fV) l3 c3 k3
 have F4:=dB (st:=fX) l4 c4 k4
 have F5:=dB (st:=eX) l5 c5 k5
 have F6:=dB (st:=A1) l6 c6 k6
 have F7:=dB (st:=eQ) l7 c7 k7
 have F8:=dB (st:=kT) l8 c8 k8
 have F9:=dB (st:=n9) l9 c9 k9
 have F10:=dB (st:=dF) l10 c10 k10
 have F11:=dB (st:=eG) l11 c11 k11
 have F12:=dB (st:=fY) l12 c12 k12
 have F13:=dB (st:=bY) l13 c13 k13
 have F14:=dB (st:=kU) l14 c14 k14
 have F15:=dB (st:=cV) l15 c15 k15
 have F16:=dB (st:=gZ) l16 c16 k16
 have F17:=dB (st:=kW) l17 c17 k17
 have F18:=dB (st:=jD) l18 c18 k18
 have F19:=dB (st:=jE) l19 c19 k19
 have F20:=dB (st:=jF) l20 c20 k20
 have F21:=dB (st:=kX) l21 c21 k21
 have F22:=dB (st:=hJ) l22 c22 k22
 have F23:=dB (st:=jG) l23 c23 k23
 have F24:=dB (st:=jH) l24 c24 k24
 have F25:=dB (st:=jI) l25 c25 k25
 have F26:=dB (st:=oA) l26 c26 k26
 have F27:=dB (st:=oB) l27 c27 k27
 have F28:=dB (st:=rK) l28 c28 k28
 have b1:=F1.binds (ps:=["number", "n"]) fun _ _ _ _ _ _ us hl=>by obtain ⟨_,_,rfl⟩:=i5 us hl; rfl
 have g1:=PySem.W.mg_of X G a1
 have b2:=F2.binds (ps:=["n", "a", "b"]) fun _ _ _ _ _ _ us hl=>by obtain ⟨_,_,_,rfl⟩:=gP us hl; rfl
 have g2:=PySem.W.mg_of X G a2
 have b3:=F3.binds (ps:=["order", "a", "b"]) fun _ _ _ _ _ _ us hl=>by obtain ⟨_,_,_,rfl⟩:=gP us hl; rfl
 have g3:=PySem.W.mg_of X G a3
 have b4:=F4.binds (ps:=["order", "a", "b"]) fun _ _ _ _ _ _ us hl=>by obtain ⟨_,_,_,rfl⟩:=gP us hl; rfl
 have g4:=PySem.W.mg_of X G a4
 have b5:=F5.binds (ps:=["order"]) fun _ _ _ _ _ _ us hl=>by obtain ⟨_,rfl⟩:=rL us hl; rfl
 have g5:=PySem.W.mg_of X G a5
 have b6:=F6.binds (ps:=["order", "a", "b"]) fun _ _ _ _ _ _ us hl=>by obtain ⟨_,_,_,rfl⟩:=gP us hl; rfl
 have g6:=PySem.W.mg_of X G a6
 have b7:=F7.binds (ps:=["order", "ahead"]) fun _ _ _ _ _ _ us hl=>by obtain ⟨_,_,rfl⟩:=i5 us hl; rfl
 have g7:=PySem.W.mg_of X G a7
 have b8:=F8.binds (ps:=["ahead", "thing"]) fun _ _ _ _ _ _ us hl=>by obtain ⟨_,_,rfl⟩:=i5 us hl; rfl
 have g8:=PySem.W.mg_of X G a8
 have b9:=F9.binds (ps:=["one", "other"]) fun _ _ _ _ _ _ us hl=>by obtain ⟨_,_,rfl⟩:=i5 us hl; rfl
 have g9:=PySem.W.mg_of X G a9
 have b10:=F10.binds (ps:=["shares"]) fun _ _ _ _ _ _ us hl=>by obtain ⟨_,rfl⟩:=rL us hl; rfl
 have g10:=PySem.W.mg_of X G a10
 have b11:=F11.binds (ps:=["order", "ahead", "last", "shares"]) fun _ _ _ _ _ _ us hl=>by obtain ⟨_,_,_,_,rfl⟩:=J9 us hl; rfl
 have g11:=PySem.W.mg_of X G a11
 have b12:=F12.binds (ps:=["order"]) fun _ _ _ _ _ _ us hl=>by obtain ⟨_,rfl⟩:=rL us hl; rfl
 have g12:=PySem.W.mg_of X G a12
 have b13:=F13.binds (ps:=["order"]) fun _ _ _ _ _ _ us hl=>by obtain ⟨_,rfl⟩:=rL us hl; rfl
 have g13:=PySem.W.mg_of X G a13
 have b14:=F14.binds (ps:=["x", "m"]) fun _ _ _ _ _ _ us hl=>by obtain ⟨_,_,rfl⟩:=i5 us hl; rfl
 have g14:=PySem.W.mg_of X G a14
 have b15:=F15.binds (ps:=["shares", "n", "k"]) fun _ _ _ _ _ _ us hl=>by obtain ⟨_,_,_,rfl⟩:=gP us hl; rfl
 have g15:=PySem.W.mg_of X G a15
 have b16:=F16.binds (ps:=["order", "k"]) fun _ _ _ _ _ _ us hl=>by obtain ⟨_,_,rfl⟩:=i5 us hl; rfl
 have g16:=PySem.W.mg_of X G a16
 have b17:=F17.binds (ps:=["_law_script", "_law_k"]) fun _ _ _ _ _ _ us hl=>by obtain ⟨_,_,rfl⟩:=i5 us hl; rfl
 have g17:=PySem.W.mg_of X G a17
 have b18:=F18.binds (ps:=["_law_cell_here", "_law_k", "_law_salt"]) fun _ _ _ _ _ _ us hl=>by obtain ⟨_,_,_,rfl⟩:=gP us hl; rfl
 have g18:=PySem.W.mg_of X G a18
 have b19:=F19.binds (ps:=["_law_cell_here", "_law_many", "_law_salt"]) fun _ _ _ _ _ _ us hl=>by obtain ⟨_,_,_,rfl⟩:=gP us hl; rfl
 have g19:=PySem.W.mg_of X G a19
 have b20:=F20.binds (ps:=["_law_cell_here", "_law_most", "_law_salt"]) fun _ _ _ _ _ _ us hl=>by obtain ⟨_,_,_,rfl⟩:=gP us hl; rfl
 have g20:=PySem.W.mg_of X G a20
 have b21:=F21.binds (ps:=["_law_found", "_law_due"]) fun _ _ _ _ _ _ us hl=>by obtain ⟨_,_,rfl⟩:=i5 us hl; rfl
 have g21:=PySem.W.mg_of X G a21
 have b22:=F22.binds (ps:=["_law_draws_here", "_law_n", "_law_thick"]) fun _ _ _ _ _ _ us hl=>by obtain ⟨_,_,_,rfl⟩:=gP us hl; rfl
 have g22:=PySem.W.mg_of X G a22
 have b23:=F23.binds (ps:=["_law_script", "_law_k", "_law_most", "_law_salt"]) fun _ _ _ _ _ _ us hl=>by obtain ⟨_,_,_,_,rfl⟩:=J9 us hl; rfl
 have g23:=PySem.W.mg_of X G a23
 have b24:=F24.binds (ps:=["_law_order_here", "_law_filling"]) fun _ _ _ _ _ _ us hl=>by obtain ⟨_,_,rfl⟩:=i5 us hl; rfl
 have g24:=PySem.W.mg_of X G a24
 have b25:=F25.binds (ps:=["_law_order_here"]) fun _ _ _ _ _ _ us hl=>by obtain ⟨_,rfl⟩:=rL us hl; rfl
 have g25:=PySem.W.mg_of X G a25
 have b26:=F26.binds (ps:=["_law_order_here", "_law_a", "_law_b"]) fun _ _ _ _ _ _ us hl=>by obtain ⟨_,_,_,rfl⟩:=gP us hl; rfl
 have g26:=PySem.W.mg_of X G a26
 have b27:=F27.binds (ps:=["_law_script", "_law_k", "_law_salt"]) fun _ _ _ _ _ _ us hl=>by obtain ⟨_,_,_,rfl⟩:=gP us hl; rfl
 have g27:=PySem.W.mg_of X G a27
 have bP:=PySem.W.mg_none_of X G z1
 have fW:=PySem.W.mg_none_of X G z2
 have eW:=PySem.W.mg_none_of X G z3
 have SM:=PySem.W.mg_none_of X G z4
 have bK:=PySem.W.mg_none_of X G z5
 have aY:=PySem.W.mg_none_of X G z6
 have x6:=PySem.W.mg_none_of X G z7
 have SR:=PySem.W.mg_none_of X G z8
 have J3:=PySem.W.mg_none_of X G z9
 have SX:=PySem.W.mg_none_of X G z10
 have cU:=PySem.W.mg_none_of X G z11
 have J4:=PySem.W.mg_none_of X G z12
 have FD:=PySem.W.mg_none_of X G z13
 have tI:=PySem.W.mg_none_of X G z14
 have pQ:=PySem.W.mg_none_of X G z15
 have xX:=PySem.W.mg_of X G yF
 have sZ:=PySem.W.mg_of X G tN
 have pO:=PySem.W.mg_of X G pV
 have xZ:=CP yG
 have tD:=CP tO
 have pP:=CP pW
 refine ⟨PySem.W.fnOf "law" "law" (bF rK) (aX rK) (aH rK) .none aE3 aE4 aE5 aEK aAx aE6,fun s v=>.of_eq rfl,fun base _ _=>?_⟩
 have o1:aN l.prog w K mg base dS 4 f1 _ _ (eR K LL.fP):=E2 (kk:=3) F1 
 have o2:aN l.prog w K mg base (yJ l.prog w) 5 f2 _ _ (JU K mg LL.aT):=oG (kk:=4) F2 (o1.mono (by decide)) g1 k1 b1 sZ tD
 have o3:aN l.prog w K mg base (yJ l.prog w) 6 f3 _ _ (JU K mg LL.eS):=CU (kk:=5) F3 (o2.mono (by decide)) g2 k2 b2 xX xZ bP fW eW SM bK
 have o4:aN l.prog w K mg base dS 4 f4 _ _ (eR K LL.dJ):=CV (kk:=3) F4 
 have o5:aN l.prog w K mg base dS 5 f5 _ _ (eR K LL.eF):=x5 (kk:=4) F5 (o4.mono (by decide)) g4 k4 b4 bP bK aY
 have o6:aN l.prog w K mg base (yJ l.prog w) 7 f6 _ _ (JU K mg wJ):=aAv (kk:=6) F6 (o3.mono (by decide)) g3 k3 b3 (o4.mono (by decide)) g4 k4 b4 (o2.mono (by decide)) g2 k2 b2 pO pP bK
 have o7:aN l.prog w K mg base dS 4 f7 _ _ (eR K LL.dW):=uJ (kk:=3) F7 x6 bK aY
 have o8:aN l.prog w K mg base dS 4 f8 _ _ (eR K LL.fB):=M7 (kk:=3) F8 eW bP
 have o9:aN l.prog w K mg base dS 4 f9 _ _ (eR K LL.iW):=SQ (kk:=3) F9 SR
 have o10:aN l.prog w K mg base dS 4 f10 _ _ (eR K LL.bJ):=oH (kk:=3) F10 
 have o11:aN l.prog w K mg base dS 15 f11 _ _ (WN K (LL.aZ 11)):=nF (kk:=4) F11 (o7.mono (by decide)) g7 k7 b7 (o9.mono (by decide)) g9 k9 b9 (o10.mono (by decide)) g10 k10 b10 (o8.mono (by decide)) g8 k8 b8 g11 k11 b11 bK J3 11
 have o12:aN l.prog w K mg base dS 16 f12 _ _ (eR K LL.fU):=CW (kk:=15) F12 (o11.mono (by decide)) g11 k11 b11
 have o13:aN l.prog w K mg base dS 17 f13 _ _ (eR K LL.bC):=l0 (kk:=16) F13 (o12.mono (by decide)) g12 k12 b12 bP
 have o14:aN l.prog w K mg base dS 4 f14 _ _ (eR K LL.kJ):=M8 (kk:=3) F14 aY
 have o15:aN l.prog w K mg base dS 5 f15 _ _ (eR K LL.cD):=nJ (kk:=4) F15 (o14.mono (by decide)) g14 k14 b14 fW SX
 have o16:aN l.prog w K mg base dS 18 f16 _ _ (eR K LL.dO):=FC (kk:=17) F16 (o15.mono (by decide)) g15 k15 b15 (o13.mono (by decide)) g13 k13 b13 bK
 have o17:aN l.prog w K mg base dS 4 f17 _ _ (eR K LL.cL):=M9 (kk:=3) F17 bK
 have o18:aN l.prog w K mg base dS 4 f18 _ _ (eR K LL.eM):=HU (kk:=3) F18 
 have o19:aN l.prog w K mg base dS 5 f19 _ _ (eR K LL.cM):=HV (kk:=4) F19 (o18.mono (by decide)) g18 k18 b18 aY
 have o20:aN l.prog w K mg base dS 5 f20 _ _ (eR K LL.fS):=HW (kk:=4) F20 (o18.mono (by decide)) g18 k18 b18 aY
 have o21:aN l.prog w K mg base dS 9 f21 _ _ (eR K (LL.bE 6)):=A6 (kk:=3) F21 g21 k21 b21 cU J4 FD tI bP bK aY x6 6
 have o22:aN l.prog w K mg base dS 4 f22 _ _ (eR K LL.i6):=HX (kk:=3) F22 aY eW bP bK pQ
 have o23:aN l.prog w K mg base dS 6 f23 _ _ (eR K LL.eO):=HY (kk:=5) F23 (o22.mono (by decide)) g22 k22 b22 (o19.mono (by decide)) g19 k19 b19 (o17.mono (by decide)) g17 k17 b17
 have o24:aN l.prog w K mg base dS 4 f24 _ _ (eR K LL.dD):=HZ (kk:=3) F24 bK aY
 have o25:aN l.prog w K mg base dS 4 f25 _ _ (eR K gU):=IA (kk:=3) F25 bK aY
 have o26:aN l.prog w K mg base dS 4 f26 _ _ (eR K LL.iV):=SY (kk:=3) F26 bP bK aY eW pQ
 have o27:aN l.prog w K mg base dS 6 f27 _ _ (eR K lI):=S2 (kk:=5) F27 (o20.mono (by decide)) g20 k20 b20 (o17.mono (by decide)) g17 k17 b17 (o19.mono (by decide)) g19 k19 b19
 exact aAw (kk:=18) F28 (o24.mono (by decide)) g24 k24 b24 (o19.mono (by decide)) g19 k19 b19 (o17.mono (by decide)) g17 k17 b17 (o21.mono (by decide)) g21 k21 b21 (o16.mono (by decide)) g16 k16 b16 (o27.mono (by decide)) g27 k27 b27 (o6.mono (by decide)) g6 k6 b6 (o26.mono (by decide)) g26 k26 b26 (o5.mono (by decide)) g5 k5 b5 (o25.mono (by decide)) g25 k25 b25 (o23.mono (by decide)) g23 k23 b23 bK bP
theorem aAy {K:PySem.W.Frag} {H:Hp} {a:Addr} {ns:List Int} (o:Only H) (h:eV K H a (ns.map V.int)):XW K H a ns:=by
 rcases h with h | h
 ·rcases h with h | ⟨b,h⟩
  ·rcases o a with z | ⟨_,_,z⟩<;>rw [z] at h<;>cases h
  ·exact .inl ⟨b,h⟩
 ·exact .inr (.inr h)
theorem walk {l:PySem.W.OpenLaw} {q:Program} {loose:List Str} {XP:(Str->Option Value)->Heap->Prop} {YP:World->Heap->Prop} {d:DefRec} {K:Params->PySem.W.Frag} (hn:l.most=some 63) (hdf:d.params.defaults=[])
  (hY:∀ (w:World) (h:Heap),YP w h->(K w.params).In h)
  (F:∀ (w:World) (mg:Str->Option Value) (fa:Addr) (h:Heap),(K w.params).In h->h.Ns mainGlobals mg->mg d.name=some (.ref fa) ->
   ∃ fd:FuncData,(∀ (s:Shared) (u:Value),BindsTo s fd ⟨[u],[]⟩ [("_law_script",u)]) /\ ∀ base:Heap,(K w.params).In base->base.Ns mainGlobals mg->aN l.prog w (K w.params) mg base dS 19 fa fd ["_law_script"] (eR (K w.params) qE)) :
  PySem.W.WalkO q loose XP YP l.row.toRowW d [] (fun f vs=>PySem.call f vs) :=
 L2.VA (n:=63) (k:=19) (x := "_law_script") (CX:=fun _=>dS) (sp:=fun w=>eR (K w.params) qE) hn (by decide) hdf ⟨rfl,by decide,by decide⟩ hY F
  (fun _ H a ns hl o hS=>⟨fun a=>H a=none,[.lD ns],fun d=>d=.bl true,fun _ h=>h,⟨_,_,rfl,⟨a,rfl,aAy o hS⟩,rfl⟩,⟨_,PF ns hl,rfl⟩,fun v H' d _ hd e=>by subst e; exact hd⟩) fun _ _ _ _ _ z=>z
end K30
open PySem PySem.W PyProof.Rows
def PySem.W.Fast.tw7108174160918350392 := 0
def PySem.W.Fast.tw1294401061772950460 := 0
def PySem.W.Fast.tw12229813889057386550 := 0
def PySem.W.Fast.tw9896275668214889189 := 0
def PySem.W.Fast.tw8481040602357207177 := 0
def PySem.W.Fast.tw17171376130728040161 := 0
def PySem.W.Fast.tw301613018698738651 := 0
def PySem.W.Fast.tw17121592406713065970 := 0
def PySem.W.Fast.tw11031523632819636331 := 0
def PySem.W.Fast.tw11906435038992991273 := 0
set_option maxRecDepth 100000 in
set_option maxHeartbeats 0 in
theorem PySem.Challenge.cw_risecount_k30_loose_pairs_and_cut_holds : PySem.Challenge.rw_risecount_k30_loose_pairs_and_cut.Holds := by
 w_on; o_law; k_head; (case hw=>w_witness2)
 k_fill
 refine K30.walk (l := PySem.Challenge.rw_risecount_k30_loose_pairs_and_cut) rfl rfl (fun w h Y => PySem.W.kIn_of Y) ?F
 case F =>
  intro w mg fa h KX G hmg
  refine' K30.all_mk KX G hmg ?a1 ?l1 ?c1 ?k1 ?a2 ?l2 ?c2 ?k2 ?a3 ?l3 ?c3 ?k3 ?a4 ?l4 ?c4 ?k4 ?a5 ?l5 ?c5 ?k5 ?a6 ?l6 ?c6 ?k6 ?a7 ?l7 ?c7 ?k7 ?a8 ?l8 ?c8 ?k8 ?a9 ?l9 ?c9 ?k9 ?a10 ?l10 ?c10 ?k10 ?a11 ?l11 ?c11 ?k11 ?a12 ?l12 ?c12 ?k12 ?a13 ?l13 ?c13 ?k13 ?a14 ?l14 ?c14 ?k14 ?a15 ?l15 ?c15 ?k15 ?a16 ?l16 ?c16 ?k16 ?a17 ?l17 ?c17 ?k17 ?a18 ?l18 ?c18 ?k18 ?a19 ?l19 ?c19 ?k19 ?a20 ?l20 ?c20 ?k20 ?a21 ?l21 ?c21 ?k21 ?a22 ?l22 ?c22 ?k22 ?a23 ?l23 ?c23 ?k23 ?a24 ?l24 ?c24 ?k24 ?a25 ?l25 ?c25 ?k25 ?a26 ?l26 ?c26 ?k26 ?a27 ?l27 ?c27 ?k27 ?a28 ?l28 ?c28 ?k28 ?yF ?tN ?pV ?yG ?tO ?pW ?z1 ?z2 ?z3 ?z4 ?z5 ?z6 ?z7 ?z8 ?z9 ?z10 ?z11 ?z12 ?z13 ?z14 ?z15 
  (case a1=>k_is); (case l1=>k_is); (case c1=>k_is); (case k1=>k_is)
  (case a2=>k_is); (case l2=>k_is); (case c2=>k_is); (case k2=>k_is)
  (case a3=>k_is); (case l3=>k_is); (case c3=>k_is); (case k3=>k_is)
  (case a4=>k_is); (case l4=>k_is); (case c4=>k_is); (case k4=>k_is)
  (case a5=>k_is); (case l5=>k_is); (case c5=>k_is); (case k5=>k_is)
  (case a6=>k_is); (case l6=>k_is); (case c6=>k_is); (case k6=>k_is)
  (case a7=>k_is); (case l7=>k_is); (case c7=>k_is); (case k7=>k_is)
  (case a8=>k_is); (case l8=>k_is); (case c8=>k_is); (case k8=>k_is)
  (case a9=>k_is); (case l9=>k_is); (case c9=>k_is); (case k9=>k_is)
  (case a10=>k_is); (case l10=>k_is); (case c10=>k_is); (case k10=>k_is)
  (case a11=>k_is); (case l11=>k_is); (case c11=>k_is); (case k11=>k_is)
  (case a12=>k_is); (case l12=>k_is); (case c12=>k_is); (case k12=>k_is)
  (case a13=>k_is); (case l13=>k_is); (case c13=>k_is); (case k13=>k_is)
  (case a14=>k_is); (case l14=>k_is); (case c14=>k_is); (case k14=>k_is)
  (case a15=>k_is); (case l15=>k_is); (case c15=>k_is); (case k15=>k_is)
  (case a16=>k_is); (case l16=>k_is); (case c16=>k_is); (case k16=>k_is)
  (case a17=>k_is); (case l17=>k_is); (case c17=>k_is); (case k17=>k_is)
  (case a18=>k_is); (case l18=>k_is); (case c18=>k_is); (case k18=>k_is)
  (case a19=>k_is); (case l19=>k_is); (case c19=>k_is); (case k19=>k_is)
  (case a20=>k_is); (case l20=>k_is); (case c20=>k_is); (case k20=>k_is)
  (case a21=>k_is); (case l21=>k_is); (case c21=>k_is); (case k21=>k_is)
  (case a22=>k_is); (case l22=>k_is); (case c22=>k_is); (case k22=>k_is)
  (case a23=>k_is); (case l23=>k_is); (case c23=>k_is); (case k23=>k_is)
  (case a24=>k_is); (case l24=>k_is); (case c24=>k_is); (case k24=>k_is)
  (case a25=>k_is); (case l25=>k_is); (case c25=>k_is); (case k25=>k_is)
  (case a26=>k_is); (case l26=>k_is); (case c26=>k_is); (case k26=>k_is)
  (case a27=>k_is); (case l27=>k_is); (case c27=>k_is); (case k27=>k_is)
  (case a28=>k_is); (case l28=>k_is); (case c28=>k_is); (case k28=>k_is)
  (case yF=>k_is)
  (case tN=>k_is)
  (case pV=>k_is)
  (case yG=>k_exc)
  (case tO=>k_exc)
  (case pW=>k_exc)
  (case z1=>k_is)
  (case z2=>k_is)
  (case z3=>k_is)
  (case z4=>k_is)
  (case z5=>k_is)
  (case z6=>k_is)
  (case z7=>k_is)
  (case z8=>k_is)
  (case z9=>k_is)
  (case z10=>k_is)
  (case z11=>k_is)
  (case z12=>k_is)
  (case z13=>k_is)
  (case z14=>k_is)
  (case z15=>k_is)
end
