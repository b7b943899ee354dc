import PyProof.Rows.All
import PySem.Str
import PySem.Sem
import PyProof.StrBlockL
import PyProof.Rows.Walk
import Wide.All
import OpenK.AllK
import Wide.FinOn
import Lean
import PyProof.EqAt
import PyProof.EqKinds
import PyProof.TupleCall
import PyProof.SeqRoads2
import PyProof.ExcArgs
import KE.KIsAll
import PyProof.DictIter
import PySem.Challenge.RW_risecount_k32_looker_right
set_option Elab.async false
set_option linter.all false
set_option maxRecDepth 100000
set_option maxHeartbeats 3999999
open PySem
noncomputable section
open List (all_cons all_eq_true all_map any_cons append_inj' append_nil append_of_mem cons_append drop_zero filterMap_cons find?_cons flatMap_append flatMap_cons foldl_cons forIn_cons forIn_nil getD_eq_getElem?_getD getElem?_append_left getElem?_append_right getElem?_eq_getElem getElem?_eq_none getElem?_map getElem?_replicate getElem?_set_ne getElem?_set_self getElem?_zipIdx getElem_mem getElem_of_mem length_cons length_drop length_filter_le length_map length_nil length_range length_replicate length_set length_take lookup_cons map_append map_congr_left map_cons map_map map_nil mem_append mem_append_left mem_append_right mem_cons mem_cons_of_mem mem_cons_self mem_filter mem_of_getElem? mem_singleton nil_append nodup_append nodup_cons nodup_nil of_mem_zip size_toArray sum_cons take_of_length_le zip_cons_cons)
open Nat (le_refl le_trans lt_of_lt_of_le ne_of_lt lt_irrefl)
open Heap (lt_size get?_push_of_some get?_push_size)
open Option (bind_some map_some)
abbrev Q0Q:=Value->Shared->Prop
abbrev Q0Z:=Str->Option Value
variable{K:W.Frag}{kk:Nat}{w:World}
section
namespace L3
open PySem
inductive D where
 | non
 | bl (b:Bool)
 | int (i:Int)
 | str (x:Str)
 | tup (xs:List D)
 | lst (xs:List D)
 | jW (ns:List Int)
 | lB (ks:List (Sum Int Str)) (xs:List D)
 | dF (q:Nat->Obj->Prop) (ks:List (Sum (Sum Int Str) (List (Sum (Sum Int Str) (List (Sum Int Str)))))) (xs:List D)
 | exc (c:Str) (a:Nat)
mutual
def D.vN:D->Bool
 | .non=>true
 | .bl _=>true
 | .int _=>true
 | .str _=>true
 | .tup ds=>kW ds
 | .lst _=>false
 | .jW _=>true
 | .lB _ _=>false
 | .dF _ _ _=>false
 | .exc _ _=>true
def kW:List D->Bool
 | []=>true
 | d::ds=>d.vN&&kW ds
end
abbrev bR:=List (Option D)
inductive Sv where
 | no
 | ro (d:D)
 | ow (d:D)
abbrev aP:=List Sv
def Sv.all:Sv->Option D
 | .no=>none
 | .ro d=>some d
 | .ow d=>some d
def Sv.rd:Sv->Option D
 | .ro d=>some d
 | _=>none
def bT(Z:aP):bR:=Z.map Sv.all
def kD(Z:aP):bR:=Z.map Sv.rd
end L3
namespace L4
open PySem L3
inductive M (α:Type) where
 | no
 | ex (c:Str)
 | ok (a:α)
inductive Out where
 | no
 | nx (Z:aP)
 | rt (d:D)
 | ex (c:Str)
abbrev EF:=bR->Option D
abbrev TF:=bR->Option Bool
abbrev AF:=bR->Option (List D)
abbrev XF:=aP->Option (aP×D)
abbrev SF:=aP->Out
abbrev eT:=List D->M D
def uK:Nat:=16777216
def aB(i:Nat):EF:=λZ=>(Z[i]?).join
def eC(d:D):EF:=λ_=>some d
def aC(g:D->D->Option D)(a b:EF):EF:=λZ=>(a Z).bind λx=>(b Z).bind λy=>g x y
def iP:D->Option Bool
 | .bl b=>some b
 | .lst ds=>some (!ds.isEmpty)
 | .tup ds=>some (!ds.isEmpty)
 | _=>none
def tV(f:EF):TF:=λZ=>(f Z).bind iP
def hZ(t:TF):TF:=λZ=>(t Z).map (!·)
def kX(t u:TF):TF:=λZ=>(t Z).bind λb=>if b=true then u Z else some false
def u4(t u:TF):TF:=λZ=>(t Z).bind λb=>if b=true then some true else u Z
def EQ:D->Option Bool
 | .bl b=>some b
 | _=>none
def kE(a b:EF):EF:=λZ=>(a Z).bind λx=>(EQ x).bind λc=>if c=true then b Z else some (.bl false)
def eOr(a b:EF):EF:=λZ=>(a Z).bind λx=>(EQ x).bind λc=>if c=true then some (.bl true) else b Z
def W8(a:EF):EF:=λZ=>(a Z).bind λx=>(EQ x).map λc=>.bl (!c)
def eIf(t:TF)(a b:EF):EF:=λZ=>(t Z).bind λc=>if c=true then a Z else b Z
def aDb:D->Option D
 | .int i=>some (.int (-i))
 | _=>none
def mW(a:EF):EF:=λZ=>(a Z).bind aDb
def kF(f g:D->D->Option D)(a b c:EF):EF:=λZ=>(a Z).bind λx=>(b Z).bind λy=>(f x y).bind λz=>(EQ z).bind λk=>if k=true then (c Z).bind λw=>g y w else some (.bl false)
def HP(g:Int->Int->D):D->D->Option D
 | .int i,.int j=>some (g i j)
 | _,_=>none
def lC(c:Int->Int->Bool)(g:Int->Int->D):D->D->Option D
 | .int i,.int j=>if c i j=true then some (g i j) else none
 | _,_=>none
def bO:D->D->Option D
 | .int i,.int j=>some (.int (i+j))
 | .lst a,.lst b=>if a.length+b.length<=uK then some (.lst (a++b)) else none
 | .tup a,.tup b=>if a.length+b.length<=uK then some (.tup (a++b)) else none
 | .str a,.str b=>if a.length+b.length<=uK then some (.str (a++b)) else none
 | _,_=>none
def fE:D->D->Option D:=HP λi j=>.int (i - j)
def ER(i j:Int):Bool:=decide (i.natAbs<18446744073709551616)||decide (j.natAbs<18446744073709551616)||decide (i.natAbs.log2+j.natAbs.log2<=134217700)
def mulM:D->D->Option D:=lC ER λi j=>.int (i*j)
def dI:D->D->Option D:=lC (λ_ j=>decide (0<j)) λi j=>.int (i % j)
def mX:D->D->Option D:=lC (λ_ j=>decide (0<j)&&decide (j.natAbs<1073741824)) λi j=>.int (i / j)
def HQ:D->D->Option D:=lC (λi j=>decide (0<=j)&&decide (j.natAbs<=1000000)&&decide (i.natAbs<18446744073709551616)) λi j=>.int (i ^ j.toNat)
def W2:D->D->Option D:=HP λi j=>.bl (decide (i<j))
def W9:D->D->Option D:=HP λi j=>.bl (decide (i<=j))
def tL:D->D->Option D:=HP λi j=>.bl (decide (j<i))
def geM:D->D->Option D:=HP λi j=>.bl (decide (j<=i))
def aAO:D->D->Option Bool
 | .int i,.int j=>some (decide (i=j))
 | .bl i,.bl j=>some (decide (i=j))
 | .str i,.str j=>some (decide (i=j))
 | .non,.non=>some true
 | _,_=>none
def kT:D->D->Option D:=λx y=>(aAO x y).map .bl
def KU:D->D->Option D:=λx y=>(aAO x y).map λb=>.bl (!b)
def KW:D->Bool
 | .non=>true
 | _=>false
def isM:D->D->Option D:=λx y=>if KW y=true then some (.bl (KW x)) else none
def intsOf:List D->Option (List Int)
 | []=>some []
 | .int i::ds=>(intsOf ds).map (i :: ·)
 | _::_=>none
def lY(neg:Bool):D->D->Option D
 | .int i,.tup ds=>(intsOf ds).map λns=>.bl (if neg then !ns.contains i else ns.contains i)
 | .int i,.lst ds=>(intsOf ds).map λns=>.bl (if neg then !ns.contains i else ns.contains i)
 | _,_=>none
def XA(n:Nat)(i:Int):Option Nat:=if 0<=i then (if i<n then some i.toNat else none) else if -(n:Int)<=i then some (i+n).toNat else none
def zG{α:Type}(xs:List α)(i:Int):Option α:=(XA xs.length i).bind λj=>xs[j]?
def aY:D->D->Option D
 | .lst a,.int i=>zG a i
 | .tup a,.int i=>zG a i
 | .jW a,.int i=>(zG a i).map D.int
 | _,_=>none
def v0:D->Option (Sum Int Str)
 | .int i=>some (.inl i)
 | .str x=>some (.inr x)
 | _=>none
def lD(ks:List (Sum Int Str))(ds:List D)(k:Sum Int Str):Option D:=((ks.zip ds).find? λkv=>decide (kv.1=k)).map (·.2)
def wB:D->D->Option D
 | .lB ks ds,d=>(v0 d).bind λk=>lD ks ds k
 | _,_=>none
def aE:AF:=λ_=>some []
def aA(a:EF)(t:AF):AF:=λZ=>(a Z).bind λd=>(t Z).bind λds=>some (d::ds)
def dG(t:AF):EF:=λZ=>(t Z).bind λds=>if ds.length<=uK then some (.tup ds) else none
def dL(t:AF):EF:=λZ=>(t Z).bind λds=>if ds.length<=uK then some (.lst ds) else none
def bF(g:List D->Option D)(t:AF):EF:=λZ=>(t Z).bind g
def Q5:M D->Option D
 | .ok d=>some d
 | _=>none
def aG(R:eT)(t:AF):EF:=λZ=>(t Z).bind λds=>Q5 (R ds)
def aV:List D->Option D
 | [.lst a]=>some (.int a.length)
 | [.tup a]=>some (.int a.length)
 | [.jW a]=>some (.int a.length)
 | _=>none
def bW:List D->Option D
 | [.lst a]=>some (.tup a)
 | [.tup a]=>some (.tup a)
 | _=>none
def rM:List D->Option D
 | [.lst a]=>some (.lst a)
 | [.tup a]=>some (.lst a)
 | _=>none
def insI(a:Int):List Int->List Int
 | []=>[a]
 | b::l=>if a<=b then a::b::l else b::insI a l
def sortI:List Int->List Int
 | []=>[]
 | a::l=>insI a (sortI l)
def gE:List D->Option D
 | [.lst a]=>(intsOf a).bind λns=>if ns.length<64 then some (.lst ((sortI ns).map D.int)) else none
 | _=>none
def u7:List D->Option D
 | [.lst a]=>(intsOf a).map λns=>.int ns.sum
 | _=>none
def qC:List D->Option (List Bool)
 | []=>some []
 | d::ds=>(iP d).bind λb=>(qC ds).map (b :: ·)
def allM:List D->Option D
 | [.lst a]=>(qC a).map λbs=>.bl (bs.all id)
 | _=>none
def anyM:List D->Option D
 | [.lst a]=>(qC a).map λbs=>.bl (bs.any id)
 | _=>none
def tyM:D->String
 | .non => "NoneType"
 | .bl _ => "bool"
 | .int _ => "int"
 | .str _ => "str"
 | .tup _ => "tuple"
 | .lst _ => "list"
 | .jW _ => "list"
 | .lB _ _ => "dict"
 | .dF _ _ _ => "dict"
 | .exc _ _ => "NoneType"
def aBE(T:String)(d:D):Bool:=tyM d == T||(T == "int" && tyM d == "bool")
def aBF:D->Bool
 | .exc _ _=>false
 | .dF _ _ _=>false
 | _=>true
def nP(T:String)(a:EF):EF:=λZ=>(a Z).bind λd=>if aBF d=true then some (.bl (aBE T d)) else none
def bG(lo:Int)(n:Nat):List Int:=(List.range n).map λk:Nat=>lo+(k:Int)
def aII(hi:Int)(n:Nat):List Int:=(List.range n).map λk:Nat=>hi - (k:Int)
def HR(t:AF):EF:=λZ=>(t Z).bind λds=>match ds with
 | [.int j]=>if j.natAbs<=16777216 then some (.lst ((bG 0 j.toNat).map D.int)) else none
 | _=>none
def aAP:List D->Option D
 | [.int i,.int j]=>some (.int (if j>i then j else i))
 | _=>none
def repLM:D->D->Option D
 | .lst a,.int n=>if a.length*n.toNat<=uK/\n.natAbs<9223372036854775808 then some (.lst (List.replicate n.toNat a).flatten) else none
 | _,_=>none
def ES:D->D->Option D
 | .lst a,.lst b=>if a.length+b.length<=uK then some (.lst (a++b)) else none
 | _,_=>none
def ET:D->Option (List D)
 | .lst ds=>some ds
 | .tup ds=>some ds
 | _=>none
def dD(f:EF):AF:=λZ=>(f Z).bind ET
def HS:List D->Option (List D)
 | [.int j]=>if j.natAbs<4611686018427387904 then some ((bG 0 j.toNat).map D.int) else none
 | [.int i,.int j]=>if i.natAbs<4611686018427387904/\j.natAbs<4611686018427387904 then some ((bG i (j - i).toNat).map D.int) else none
 | [.int i,.int j,.int k]=>if k=-1/\i.natAbs<1000000/\j.natAbs<1000000 then some ((aII i (i - j).toNat).map D.int) else none
 | _=>none
def aR(t:AF):AF:=λZ=>(t Z).bind HS
def KY:List D->Option (List D)
 | [.lst ds]=>some (ds.zipIdx.map λp=>.tup [.int (p.2:Int),p.1])
 | [.tup ds]=>some (ds.zipIdx.map λp=>.tup [.int (p.2:Int),p.1])
 | _=>none
def nV(t:AF):AF:=λZ=>(t Z).bind KY
def aIJ:List D->Option (List D)
 | [a,b]=>(ET a).bind λxs=>(ET b).map λys=>(xs.zip ys).map λp=>.tup [p.1,p.2]
 | _=>none
def aIK(t:AF):AF:=λZ=>(t Z).bind aIJ
def aBG:List D->Option (List D)
 | [.lst ds]=>some ds.reverse
 | [.tup ds]=>some ds.reverse
 | _=>none
def XB(t:AF):AF:=λZ=>(t Z).bind aBG
abbrev HU:=D->bR->Option bR
def g1(i:Nat):HU:=λd Z=>some (Z.set i (some d))
def KZ:D->Option (D×D)
 | .tup [x,y]=>some (x,y)
 | _=>none
def g2(i j:Nat):HU:=λd Z=>(KZ d).map λp=>(Z.set i (some p.1)).set j (some p.2)
def cH:TF:=λ_=>some true
def benv(nl:Nat)(fr:List Nat)(Z:bR):bR:=List.replicate nl none++fr.map λj=>(Z[j]?).join
def kG(g:HU)(t:TF)(e:EF)(Z:bR):List D->Option (List D)
 | []=>some []
 | d::ds=>(g d Z).bind λρ1=>(t ρ1).bind λb=>if b=true then (e ρ1).bind λy=>(kG g t e Z ds).map (y :: ·) else kG g t e Z ds
def bJ(nl:Nat)(fr:List Nat)(it:AF)(g:HU)(t:TF)(e:EF):EF:=λZ=>(it Z).bind λds=>if ds.length<=uK then (kG g t e (benv nl fr Z) ds).map D.lst else none
abbrev OF:=bR->Option (Option Int)
def W3:OF:=λ_=>some none
def asInt:D->Option Int
 | .int i=>some i
 | _=>none
def oE(f:EF):OF:=λZ=>(f Z).bind λd=>(asInt d).map some
def EU(n d:Nat):Option Int->Nat
 | none=>d
 | some i=>if i<0 then (i+n).toNat else min i.toNat n
def wD(xs:List D)(lo hi:Option Int):List D:=(xs.drop (EU xs.length 0 lo)).take (EU xs.length xs.length hi - EU xs.length 0 lo)
def slM(d:D)(lo hi:Option Int):Option D:=match d with
 | .lst ds=>some (.lst (wD ds lo hi))
 | .tup ds=>some (.tup (wD ds lo hi))
 | _=>none
def K0(f:EF)(lo hi:OF):EF:=λZ=>(f Z).bind λd=>(lo Z).bind λl=>(hi Z).bind λh=>slM d l h
def fZ(f:EF):XF:=λZ=>(f (bT Z)).bind λd=>if d.vN=true then some (Z,d) else none
def aZ(f:EF):XF:=λZ=>(f (kD Z)).bind λd=>some (Z,d)
def nQ:Option Sv->Option (List D)
 | some (.ow (.lst ds))=>some ds
 | _=>none
def kU(i:Nat)(m:List D->D->Option (List D×D))(x:XF):XF:=λZ=>(nQ Z[i]?).bind λ_=>(x Z).bind λp=>(nQ p.1[i]?).bind λds=>(m ds p.2).map λq=>(p.1.set i (.ow (.lst q.1)),q.2)
def eX:List D->D->Option (List D×D):=λds d=>if ds.length<uK then some (ds++[d],.non) else none
def XD:List D->D->Option (List D×D)
 | ds,.int k=>if k.natAbs<9223372036854775808 then (XA ds.length k).bind λj=>(ds[j]?).map λd=>(ds.eraseIdx j,d) else none
 | _,_=>none
def NC:List D->D->Option (List D×D)
 | ds,.lst es=>if ds.length+es.length<=uK then some (ds++es,.non) else none
 | _,_=>none
def AN(i:Nat):XF:=λZ=>(nQ Z[i]?).bind λds=>(ds[ds.length - 1]?).map λd=>(Z.set i (.ow (.lst ds.dropLast)),d)
def bY:SF:=λZ=>.nx Z
def aH(f g:SF):SF:=λZ=>match f Z with
 | .nx ρ'=>g ρ'
 | o=>o
def aU(f:EF):SF:=λZ=>match f (bT Z) with
 | some d=>.rt d
 | none=>.no
def eV(t:TF)(a b:SF):SF:=λZ=>match t (bT Z) with
 | some true=>a Z
 | some false=>b Z
 | none=>.no
def aN(i:Nat)(f:EF):SF:=λZ=>match f (kD Z) with
 | some d=>.nx (Z.set i (.ro d))
 | none=>.no
def uL(i:Nat)(x:XF):SF:=λZ=>match x Z with
 | some p=>.nx (p.1.set i (.ro p.2))
 | none=>.no
def iA(i:Nat)(f:EF):SF:=λZ=>match f (kD Z) with
 | some d=>.nx (Z.set i (.ow d))
 | none=>.no
def qD:D->Bool
 | .lst ds=>kW ds
 | _=>false
def aDc(i:Nat)(f:EF):SF:=λZ=>match f (bT Z) with
 | some d=>if qD d=true then .nx (Z.set i (.ow d)) else .no
 | none=>.no
def lZ(i:Nat)(f:EF):SF:=λZ=>match f (bT Z) with
 | some d=>if qD d=true then .nx (Z.set i (.ro d)) else .no
 | none=>.no
def Q6(i:Nat):SF:=λZ=>.nx (Z.set i (.ow (.lB [] [])))
def sX(x:XF):SF:=λZ=>match x Z with
 | some p=>.nx p.1
 | none=>.no
def aIL(i:Nat)(x:XF)(k:EF):SF:=λZ=>match ((x Z).bind λp=>(nQ p.1[i]?).bind λds=>(k (bT p.1)).bind λkd=>(asInt kd).bind λkk=>(XA ds.length kk).map λj=>p.1.set i (.ow (.lst (ds.set j p.2)))) with
 | some ρ'=>.nx ρ'
 | none=>.no
def wF:Option Sv->Option (List (Sum Int Str)×List D)
 | some (.ow (.lB ks ds))=>some (ks,ds)
 | _=>none
def K1(i:Nat)(x:XF)(k:EF):SF:=λZ=>match ((x Z).bind λp=>(wF p.1[i]?).bind λkd=>(k (bT p.1)).bind λkv=>(v0 kv).bind λkk =>
  if (lD kd.1 kd.2 kk).isNone=true/\kd.2.length<uK then some (p.1.set i (.ow (.lB (kd.1++[kk]) (kd.2++[p.2])))) else none) with
 | some ρ'=>.nx ρ'
 | none=>.no
abbrev K2:=D->aP->Option aP
def lE(i:Nat):K2:=λd Z=>some (Z.set i (.ro d))
def HK(i j:Nat):K2:=λd Z=>(KZ d).map λp=>(Z.set i (.ro p.1)).set j (.ro p.2)
def gU(g:K2)(b:SF):List D->aP->Out
 | [],Z=>.nx Z
 | d::ds,Z=>match g d Z with
  | none=>.no
  | some ρ1=>match b ρ1 with
   | .nx ρ2=>gU g b ds ρ2
   | o=>o
def dE(it:AF)(g:K2)(b:SF):SF:=λZ=>match it (kD Z) with
 | some ds=>gU g b ds Z
 | none=>.no
def eZ(t:TF)(b:SF):Nat->aP->Out
 | 0,_=>.no
 | n+1,Z=>match t (bT Z) with
  | none=>.no
  | some false=>.nx Z
  | some true=>match b Z with
   | .nx ρ'=>eZ t b n ρ'
   | o=>o
def Q7:Nat:=1000000
def CJ(n:Nat)(t:TF)(b:SF):SF:=eZ t b n
def fA(n:Nat)(ds:List D):aP:=ds.map Sv.ro++List.replicate (n - ds.length) Sv.no
def bK(n np:Nat)(b:SF):eT:=λds=>if ds.length=np then (match b (fA n ds) with
 | .rt d=>.ok d
 | .nx _=>.ok .non
 | .ex c=>.ex c
 | .no=>.no) else .no
end L4
end
section
namespace L4
open PySem L3
def aDd:List Int->List Int->Bool
 | [],[]=>false
 | [],_::_=>true
 | _::_,[]=>false
 | a::as,b::bs=>if a=b then aDd as bs else decide (a<b)
def aDe(t:List Int):List (List Int)->List (List Int)
 | []=>[t]
 | u::us=>if aDd u t=true then u::aDe t us else t::u::us
def Q8:List (List Int)->List (List Int)
 | []=>[]
 | t::ts=>aDe t (Q8 ts)
def aIM(t:List Int):D:=.tup (t.map D.int)
def aDf:D->Option (List Int)
 | .tup ds=>intsOf ds
 | _=>none
def Q9:List D->Option (List (List Int))
 | []=>some []
 | d::ds=>(aDf d).bind λt=>(Q9 ds).map (t :: ·)
def CK:List D->Option D
 | [.lst a]=>(Q9 a).bind λts=>if ts.length<64/\ts.all (λt=>!t.isEmpty)=true then some (.lst ((Q8 ts).map aIM)) else none
 | _=>none
def u9(f:D->D->Option Bool):List D->List D->Option Bool
 | d::ds,e::es=>(f d e).bind λx=>(u9 f ds es).map (x && ·)
 | _,_=>some true
def eqP:Nat->D->D->Option Bool
 | _,.int i,.int j=>some (decide (i=j))
 | _,.bl i,.bl j=>if i=j then some true else none
 | _,.str i,.str j=>if i=j then some true else none
 | n+1,.tup a,.tup b=>(u9 (eqP n) a b).map λr=>r&&decide (a.length=b.length)
 | _,_,_=>none
def qE:D->D->Option D:=λx y=>(eqP 8 x y).map D.bl
def EV:D->D->Option D:=λx y=>(eqP 8 x y).map λb=>.bl (!b)
theorem mB{f:D->D->Option Bool}:∀ {a b:List D} {r:Bool},u9 f a b=some r -> ∃ e:Nat->Bool,(∀ (j:Nat) (x y:D),a[j]? = some x->b[j]? = some y->f x y=some (e j))/\r=(List.range (min a.length b.length)).all e
 | [],b,r,h=>by cases h; exact ⟨λ_=>true,λj x y h1=>by simp at h1,by simp⟩
 | d::ds,[],r,h=>by cases h; exact ⟨λ_=>true,λj x y _ h2=>by simp at h2,by simp⟩
 | d::ds,c::cs,r,h=>by
  unfold u9 at h
  cases q:f d c with
  | none=>rw [q] at h; cases h
  | some x =>
   rw [q] at h
   cases q2:u9 f ds cs with
   | none=>simp [q2] at h
   | some y =>
    simp [q2] at h;obtain ⟨e,h1,h2⟩:=mB q2;refine ⟨λj=>match j with | 0=>x | j+1=>e j,λj u v e1 e2=>?_,?_⟩
    .cases j with
     | zero=>cases e1; cases e2; exact q
     | succ j=>exact h1 j u v (by simpa using e1) (by simpa using e2)
    .rw [<- h,h2,length_cons,length_cons,show min (ds.length+1) (cs.length+1)=min ds.length cs.length+1 by omega,List.range_succ_eq_map,all_cons,all_map];rfl
def aIN(Z:aP)(i:Nat):aP:=match Z[i]? with
 | some (.ow d)=>Z.set i (.ro d)
 | _=>Z
def XE(i:Nat)(f:SF):SF:=λZ=>f (aIN Z i)
def aIO:List D->Option D
 | [.lst [d]]=>some (.lst [d])
 | ds=>CK ds
def aDg:List D->Option D
 | [.tup a]=>(intsOf a).map λns=>.int ns.sum
 | _=>none
abbrev RF:=bR->Option Str
def aDh:M D->Option Str
 | .ex c=>some c
 | _=>none
def wH(R:eT)(t:AF):RF:=λZ=>(t Z).bind λds=>aDh (R ds)
def wJ(r:RF)(f:SF):SF:=λZ=>match r (bT Z) with
 | some c=>.ex c
 | none=>f Z
def rN(t:AF)(c:Str):SF:=λZ=>match t (bT Z) with
 | some ds=>if ds.length<=10 then .ex c else .no
 | none=>.no
def aPN:D->Option D
 | .lst ds=>some (.lst ds.reverse)
 | _=>none
def HV(x:XF)(g:K2):SF:=λZ=>match (x Z).bind λp=>g p.2 p.1 with
 | some ρ'=>.nx ρ'
 | none=>.no
def aIP:D->D->Option Bool
 | .lst a,.lst b=>(intsOf a).bind λx=>(intsOf b).map λy=>decide (x=y)
 | _,_=>none
def CL:List Int->Int
 | []=>0
 | a::l=>l.foldl (λm b=>if m<b then b else m) a
def XG(f:SF):SF:=λZ=>match f Z with
 | .ex _=>.no
 | o=>o
def putN(ns:List Int)(k:Int):List Int:=if k∈ns then ns else ns++[k]
def CM(ns:List Int):List Int:=ns.foldl putN []
def gF:List D->Option D
 | [.tup ds]=>(intsOf ds).bind λns=>if ns.length<64 then some (.lst ((sortI (CM ns)).map D.int)) else none
 | _=>none
def ND(i j:Nat)(t:AF):SF:=λZ=>match t (kD Z) with
 | some [x,y]=>.nx ((Z.set i (.ro x)).set j (.ro y))
 | _=>.no
def RA:List D->Option D
 | [.tup ds]=>(intsOf ds).bind λns=>if ns.length<64 then some (.lst ((sortI ns).map D.int)) else none
 | _=>none
abbrev vA:Nat->Obj->Prop:=λ_ _=>True
def adr(q:Nat->Obj->Prop):Nat->Obj->Prop:=λa _=>∃ o,q a o
abbrev zL:=Sum Int Str
abbrev PN1:=List (Sum zL (List zL))
abbrev vO:=Sum zL PN1
def AO:List D->Option (List zL)
 | []=>some []
 | d::ds=>(v0 d).bind λk=>(AO ds).map (k :: ·)
def aAQ:D->Option (Sum zL (List zL))
 | .tup ds=>(AO ds).map .inr
 | d=>(v0 d).map .inl
def tM:List D->Option PN1
 | []=>some []
 | d::ds=>(aAQ d).bind λk=>(tM ds).map (k :: ·)
def nW:D->Option vO
 | .tup ds=>(tM ds).map .inr
 | d=>(v0 d).map .inl
def dK:zL->D
 | .inl i=>.int i
 | .inr x=>.str x
def RB:Sum zL (List zL)->D
 | .inl k=>dK k
 | .inr ks=>.tup (ks.map dK)
def dKX:vO->D
 | .inl k=>dK k
 | .inr ks=>.tup (ks.map RB)
def cP(ks:List vO)(ds:List D)(k:vO):Option D:=((ks.zip ds).find? λp=>decide (p.1=k)).map (·.2)
def kindB(ks:List vO)(k:vO):Bool:=ks.all λq=>q.isLeft == k.isLeft
def pS:D->D->Option D
 | .dF _ ks ds,d=>(nW d).bind λk=>if kindB ks k=true then cP ks ds k else none
 | _,_=>none
def zM(neg:Bool):D->D->Option D
 | d,.dF _ ks ds=>(nW d).bind λk=>if kindB ks k=true then some (.bl (if neg then !(cP ks ds k).isSome else (cP ks ds k).isSome)) else none
 | _,_=>none
def RC:D->D->D->Option D
 | .dF _ ks ds,d,z=>(nW d).bind λk=>if kindB ks k=true then some ((cP ks ds k).getD z) else none
 | _,_,_=>none
def K3(a b c:EF):EF:=λZ=>(a Z).bind λx=>(b Z).bind λy=>(c Z).bind λz=>RC x y z
def fO(ks:List vO)(ds:List D)(k:vO)(v:D):List vO×List D :=
 if ks.any (λq=>decide (q=k))=true then (ks,(ks.zip ds).map λp=>if p.1=k then v else p.2) else (ks++[k],ds++[v])
def RD:D->Option (List D)
 | .dF _ ks _=>some (ks.map dKX)
 | _=>none
def HW(f:EF):AF:=λZ=>(f Z).bind RD
def EW:Option Sv->Option ((Nat->Obj->Prop)×List vO×List D)
 | some (.ow (.dF q ks ds))=>some (q,ks,ds)
 | _=>none
def EX(i:Nat):SF:=λZ=>.nx (Z.set i (.ow (.dF vA [] [])))
def CN(i:Nat)(k v:EF):SF:=λZ=>match (k (kD Z)).bind λkd=>(v (kD Z)).bind λd=>(nW kd).map λkk=>(kk,d) with
 | some p=>.nx (Z.set i (.ow (.dF vA [p.1] [p.2])))
 | none=>.no
def mC(i:Nat)(x:XF)(k:EF):SF:=λZ=>match ((x Z).bind λp=>(EW p.1[i]?).bind λkd=>(k (bT p.1)).bind λkv=>(nW kv).bind λkk =>
  if kindB kd.2.1 kk=true/\kd.2.2.length<uK then some (p.1.set i (.ow (.dF (adr kd.1) (fO kd.2.1 kd.2.2 kk p.2).1 (fO kd.2.1 kd.2.2 kk p.2).2))) else none) with
 | some ρ'=>.nx ρ'
 | none=>.no
def K4(i j:Nat):SF:=λZ=>match Z[j]? with
 | some (.ow d)=>if i=j then .no else .nx ((Z.set j .no).set i (.ow d))
 | _=>.no
def aDi:List D->Option (List D)
 | [.lst xs,.lst ys]=>some ((xs.zip ys).map λp=>.tup [p.1,p.2])
 | _=>none
def RE(t:AF):AF:=λZ=>(t Z).bind aDi
def aIQ:List Int->Int
 | []=>0
 | a::l=>l.foldl (λm b=>if b<m then b else m) a
def aAR:List D->Option D
 | [.tup ds]=>(intsOf ds).bind λns=>if ns=[] then none else some (.int (aIQ ns))
 | _=>none
def aIR:D->D->Option D:=λx y=>(aIP x y).map D.bl
abbrev KD:=List vO×List D
abbrev FnM:=List D->KD->M (D×KD)
def startM(n:Nat)(ds:List D)(q:Nat->Obj->Prop)(kd:KD):aP:=ds.map Sv.ro++Sv.ow (.dF q kd.1 kd.2)::List.replicate (n - (ds.length+1)) Sv.no
def aIS(j:Nat)(k:EF)(q:Nat->Obj->Prop):aP->Option (D×KD):=λZ=>(EW Z[j]?).bind λkd=>(k (kD Z)).bind λkv=>(nW kv).bind λkk=>@ite _ (kindB kd.2.1 kk=true /\ ∀ a o,kd.1 a o -> ∃ o2,q a o2) (Classical.propDecidable _) ((cP kd.2.1 kd.2.2 kk).map λd=>(d,kd.2)) none
def aDk(n np:Nat)(b:SF)(k:EF)(q:Nat->Obj->Prop)(ds:List D)(kd:KD):Option (D×KD):=if ds.length+1=np then (match b (startM n ds q kd) with
 | .nx Z=>aIS (np - 1) k q Z
 | _=>none) else none
def runM(n np:Nat)(b:SF)(k:EF):FnM:=λds kd=>@dite _ (∃ r,∀ q,aDk n np b k q ds kd=some r) (Classical.propDecidable _) (λh=>.ok h.choose) λ_=>.no
def stepM(R:FnM)(t:AF)(j:Nat)(Z:aP):Option ((Nat->Obj->Prop)×D×KD):=(t (kD Z)).bind λds=>(EW Z[j]?).bind λkd=>match R ds kd.2 with
 | .ok r=>some (kd.1,r)
 | _=>none
def aBI(i:Nat)(R:FnM)(t:AF)(j:Nat):SF:=λZ=>match stepM R t j Z with
 | some r=>.nx ((Z.set j (.ow (.dF (adr r.1) r.2.2.1 r.2.2.2))).set i (.ro r.2.1))
 | none=>.no
def aIT(R:FnM)(t:AF)(j:Nat):SF:=λZ=>match stepM R t j Z with
 | some r=>.nx (Z.set j (.ow (.dF (adr r.1) r.2.2.1 r.2.2.2)))
 | none=>.no
def nnC(i j:Int):Bool:=decide (0<=i)&&decide (0<=j)
def wK:D->D->Option D:=lC (λi j=>decide (0<=j)&&decide (j.natAbs<=1000000)&&decide (i.natAbs<18446744073709551616)) λi j=>.int (i*2 ^ j.toNat)
def HX:D->D->Option D:=lC (λ_ j=>decide (0<=j)) λi j=>.int (i / 2 ^ j.toNat)
def nX:D->D->Option D:=lC nnC λi j=>.int ((i.toNat &&& j.toNat:Nat):Int)
def HY:D->D->Option D:=lC nnC λi j=>.int ((i.toNat ||| j.toNat:Nat):Int)
def K5:List D->Option D
 | [.lst ds]=>(intsOf ds).bind λns=>if ns=[] then none else some (.int (CL ns))
 | _=>none
end L4
end
section
namespace Ord
structure Rows (rows:List (List Int)):Prop where
 up:∀ (b:Nat) (r:List Int),rows[b]? = some r->r.Pairwise (·<·)
 rng:∀ (b:Nat) (r:List Int),rows[b]? = some r -> ∀ a∈r,0<=a/\a<(rows.length:Int)
 tr:∀ (b a:Nat) (r v:List Int),rows[b]? = some r->(a:Int)∈r->rows[a]? = some v -> ∀ c∈v,c∈r
 W4:∀ (b:Nat) (r:List Int),rows[b]? = some r->(b:Int)∉r
theorem wL{α:Type}:∀ (l:List α) (j:Nat) (x:α),l[j]? = some x->(x::l.eraseIdx j).Perm l
 | [],j,x,h=>by simp at h
 | a::l,0,x,h=>by simp at h; subst h; simp
 | a::l,j+1,x,h=>by have ih:=wL l j x (by simpa using h);rw [List.eraseIdx_cons_succ];exact (List.Perm.swap a x _).trans (ih.cons a)
theorem CO{l:List Int}(p:Int->Bool)(h:l.Nodup):(l.filter p).Nodup:=List.Pairwise.filter p h
def Under(word:List Int)(us:List (List Int))(t:Nat)(u:List Int):Prop :=
 u.Nodup /\ ∀ a∈u,∃ (s:Nat) (v:List Int),s<t/\word[s]? = some a/\us[s]? = some v /\ ∀ c∈v,c∈u
def Good(word:List Int)(us:List (List Int)):Prop:=∀ (t:Nat) (u:List Int),us[t]? = some u->Under word us t u
theorem Under.mono{word:List Int}{us:List (List Int)}{t t':Nat}{u:List Int}(h:Under word us t u)(ht:t<=t'):Under word us t' u :=
 ⟨h.1,λa ha=>by obtain ⟨s,v,h1,h2,h3,h4⟩:=h.2 a ha; exact ⟨s,v,by omega,h2,h3,h4⟩⟩
theorem wM{word:List Int}(h:word.Nodup){i j:Nat}{a:Int}(hi:word[i]? = some a)(hj:word[j]? = some a):i=j:=by obtain ⟨h1,e1⟩:=List.getElem?_eq_some_iff.mp hi;obtain ⟨h2,e2⟩:=List.getElem?_eq_some_iff.mp hj;exact (List.getElem_inj h).mp (e1.trans e2.symm)
theorem Under.step{word:List Int}{us:List (List Int)}{i:Nat}{u v:List Int}{x:Int}(hw:word.Nodup)(g:Good word us)(h:Under word us i u)(hx:word[i]? = some x)(hv:us[i]? = some v) :
  Under word us (i+1) (u++(v++[x]).filter λa=>!u.contains a):=by
 have gv:=g i v hv;have mem:∀ c,c∈v++[x]->c∈u++(v++[x]).filter λa=>!u.contains a:=λc hc=>by
  by_cases hu:c∈u
  .exact mem_append_left _ hu
  .exact mem_append_right _ (List.mem_filter.mpr ⟨hc,by simpa using hu⟩)
 have nv:(v++[x]).Nodup:=by refine List.nodup_append.mpr ⟨gv.1,by simp,λa ha b hb e=>?_⟩;have hb:=List.mem_singleton.mp hb;subst hb;subst e;obtain ⟨s,_,h1,h2,_⟩:=gv.2 a ha;have:=wM hw h2 hx;omega
 refine ⟨List.nodup_append.mpr ⟨h.1,CO _ nv,λa ha b hb e=>?_⟩,λa ha=>?_⟩
 .subst e;have:=(List.mem_filter.mp hb).2;simp at this;exact this ha
 .rcases List.mem_append.mp ha with h1 | h1
  .obtain ⟨s,z,a1,a2,a3,a4⟩:=h.2 a h1;exact ⟨s,z,by omega,a2,a3,λc hc=>mem_append_left _ (a4 c hc)⟩
  .rcases List.mem_append.mp (List.mem_filter.mp h1).1 with h2 | h2
   .obtain ⟨s,z,a1,a2,a3,a4⟩:=gv.2 a h2;exact ⟨s,z,by omega,a2,a3,λc hc=>mem c (mem_append_left _ (a4 c hc))⟩
   .have e:=List.mem_singleton.mp h2;subst e;exact ⟨i,v,by omega,hx,hv,λc hc=>mem c (mem_append_left _ hc)⟩
theorem Good.snoc{word:List Int}{us:List (List Int)}{u:List Int}(g:Good word us)(h:Under word us us.length u):Good word (us++[u]):=λt z e=>by
 have old:∀ {s:Nat} {v:List Int},us[s]? = some v->(us++[u])[s]? = some v:=λ{s v} e=>by rw [getElem?_append_left (List.getElem?_eq_some_iff.mp e).1]; exact e
 have up:∀ {t:Nat} {z:List Int},Under word us t z->Under word (us++[u]) t z:=λ{t z} q=>⟨q.1,λa ha=>by obtain ⟨s,v,a1,a2,a3,a4⟩:=q.2 a ha; exact ⟨s,v,a1,a2,old a3,a4⟩⟩;by_cases ht:t<us.length
 .rw [getElem?_append_left ht] at e;exact up (g t z e)
 .have et:t=us.length:=by have:=(List.getElem?_eq_some_iff.mp e).1;simp at this;omega
  subst et;rw [getElem?_append_right (le_refl _),Nat.sub_self] at e;have e:u=z:=by simpa using e
  subst e;exact up h
theorem Good.rows{word:List Int}{us rows:List (List Int)}{n:Nat}(g:Good word us)(hu:us.length=n)(hw:word.Perm ((List.range n).map λk:Nat=>(k:Int)))(hr:rows.length=n)
  (h:∀ (b t:Nat) (r u:List Int),rows[b]? = some r->word[t]? = some (b:Int)->us[t]? = some u->r.Perm u/\r.Pairwise (· <= ·)):Rows rows:=by
 have nd:word.Nodup:=hw.nodup_iff.mpr (by
  refine List.Pairwise.map _ (λa b hab=>?_) List.nodup_range;intro e;exact hab (by omega))
 have find:∀ (b:Nat),b<n -> ∃ t u,word[t]? = some (b:Int)/\us[t]? = some u:=λb hb=>by
  have hm:(b:Int)∈word:=hw.mem_iff.mpr (List.mem_map.mpr ⟨b,List.mem_range.mpr hb,rfl⟩);obtain ⟨t,ht⟩:=List.mem_iff_getElem?.mp hm;have hl:word.length=n:=by rw [hw.length_eq,length_map,length_range]
  have:=(List.getElem?_eq_some_iff.mp ht).1;exact ⟨t,us[t]'(by omega),ht,getElem?_eq_getElem (by omega)⟩
 have row:∀ (b:Nat) (r:List Int),rows[b]? = some r -> ∃ t u,word[t]? = some (b:Int)/\us[t]? = some u/\r.Perm u/\r.Pairwise (· <= ·):=λb r e=>by have hb:=(List.getElem?_eq_some_iff.mp e).1;obtain ⟨t,u,h1,h2⟩:=find b (by omega);exact ⟨t,u,h1,h2,h b t r u e h1 h2⟩
 refine ⟨λb r e=>?_,λb r e a ha=>?_,λb a r v e ha ev c hc=>?_,λb r e hb=>?_⟩
 .obtain ⟨t,u,h1,h2,h3,h4⟩:=row b r e;have n1:r.Nodup:=h3.nodup_iff.mpr (g t u h2).1;exact (List.pairwise_and_iff.mpr ⟨h4,n1⟩).imp λq=>by have:=q.1; have:=q.2; omega
 .obtain ⟨t,u,h1,h2,h3,h4⟩:=row b r e;obtain ⟨s,z,_,a2,_⟩:=(g t u h2).2 a (h3.mem_iff.mp ha);have hm:=hw.mem_iff.mp (mem_of_getElem? a2);obtain ⟨k,hk,rfl⟩:=List.mem_map.mp hm;have:=List.mem_range.mp hk;omega
 .obtain ⟨t,u,h1,h2,h3,h4⟩:=row b r e;obtain ⟨t2,u2,k1,k2,k3,k4⟩:=row a v ev;obtain ⟨s,z,_,a2,a3,a4⟩:=(g t u h2).2 _ (h3.mem_iff.mp ha);have es:=wM nd a2 k1;subst es;rw [k2] at a3;cases a3;exact h3.mem_iff.mpr (a4 c (k3.mem_iff.mp hc))
 .obtain ⟨t,u,h1,h2,h3,h4⟩:=row b r e;obtain ⟨s,z,a1,a2,_⟩:=(g t u h2).2 _ (h3.mem_iff.mp hb);have:=wM nd a2 h1;omega
def tri:Nat->Nat
 | 0=>0
 | j+1=>tri j+j
theorem aBJ{i j:Nat}(h:i<=j):tri i<=tri j:=by
 induction h with
 | refl=>exact le_refl _
 | step _ ih=>exact le_trans ih (Nat.le_add_right _ _)
theorem aBK{n j i:Nat}(hj:j<n)(hi:i<j):tri j+i<tri n:=by have:=aBJ (show j+1<=n by omega);show tri j+i<tri n;have e:tri (j+1)=tri j+j:=rfl;omega
theorem eJ:∀ (l m:List Int),l.Nodup->(∀ a∈l,a∈m)->l.length<=m.length
 | [],m,_,_=>Nat.zero_le _
 | a::l,m,h,hs=>by
  obtain ⟨h1,h2⟩:=List.nodup_cons.mp h;have ha:=hs a mem_cons_self;have ih:=eJ l (m.erase a) h2 λb hb=>by have:b≠a:=λe=>h1 (e▸hb);exact (List.mem_erase_of_ne this).mpr (hs b (mem_cons_of_mem _ hb))
  rw [List.length_erase_of_mem ha] at ih;have:0<m.length:=List.length_pos_of_mem ha;rw [length_cons];omega
end Ord
end
section
namespace LL
open PySem L3 L4
def cM:eT:=bK 2 2
  (aH (eV (tV (aC kT (bF aV (aA (aB 0) aE)) (eC (.int 0))))
   (aU (eC (.int 0)))
   bY)
  (aU (aC aY (aB 0) (aC dI (aB 1) (bF aV (aA (aB 0) aE))))))
def fU:eT:=bK 5 3
  (aH (aN 3 (aC dI (aC mulM (aC bO (aC bO (aC bO (aB 0) (aC mulM (aC mulM (eC (.int 11)) (aB 1)) (aB 1))) (aC mulM (eC (.int 17)) (aB 1))) (aB 2)) (eC (.int 48271))) (eC (.int 2147483647))))
  (aH (aN 4 (aC dI (aC bO (aC bO (aC mulM (aB 3) (aC bO (aC mX (aB 3) (eC (.int 4096))) (eC (.int 5)))) (aC mulM (eC (.int 29)) (aB 1))) (aB 2)) (eC (.int 2147483629))))
  (aU (aC dI (aC mulM (aB 4) (eC (.int 39373))) (eC (.int 1000000007))))))
def bX:eT:=bK 6 3
  (aH (iA 3 (dL aE))
  (aH (aN 4 (eC (.int 0)))
  (aH (eV (tV (aC geM (aB 0) (aC HQ (eC (.int 10)) (eC (.int 18)))))
   (aN 4 (aB 0))
   bY)
  (aH (dE (aR (aA (aB 1) aE)) (lE 5)
   (eV (tV (aC tL (aB 4) (eC (.int 0))))
    (aH (sX (kU 3 eX (aZ (aC dI (aB 4) (eC (.int 64))))))
    (aN 4 (aC mX (aB 4) (eC (.int 64)))))
    (sX (kU 3 eX (aZ (aG LL.fU (aA (aB 0) (aA (aB 5) (aA (aB 2) aE)))))))))
  (aU (aB 3))))))
def iD:Nat->eT
 | 0=>λ_=>.no
 | n+1=>bK 2 2
  (aH (eV (tV (nP "tuple" (aB 1)))
   (aH (eV (u4 (hZ (tV (nP "tuple" (aB 0)))) (tV (aC KU (bF aV (aA (aB 0) aE)) (bF aV (aA (aB 1) aE)))))
    (aU (eC (.bl false)))
    bY)
   (aU (bF allM (aA (bJ 1 [0,1] (aR (aA (bF aV (aA (aB 1) aE)) aE)) (g1 0) cH (aG (iD n) (aA (aC aY (aB 1) (aB 0)) (aA (aC aY (aB 2) (aB 0)) aE)))) aE))))
   bY)
  (aH (eV (tV (aC isM (aB 1) (eC .non)))
   (aU (aC isM (aB 0) (eC .non)))
   bY)
  (aH (eV (tV (nP "bool" (aB 1)))
   (aU (kE (nP "bool" (aB 0)) (aC kT (aB 0) (aB 1))))
   bY)
  (aH (eV (tV (nP "int" (aB 1)))
   (aU (kE (nP "int" (aB 0)) (kE (W8 (nP "bool" (aB 0))) (aC kT (aB 0) (aB 1)))))
   bY)
  (aU (kE (nP "str" (aB 0)) (aC kT (aB 0) (aB 1))))))))
def dM:eT:=bK 11 3
  (aH (iA 3 (HR (aA (aB 1) aE)))
  (aH (iA 4 (dL aE))
  (aH (dE (aR (aA (aB 1) aE)) (lE 5)
   (sX (kU 4 eX (kU 3 XD (fZ (aC dI (aC aY (aB 0) (aB 5)) (bF aV (aA (aB 3) aE))))))))
  (aH (Q6 6)
  (aH (aN 7 (aB 1))
  (aH (dE (aR (aA (aB 1) aE)) (lE 8)
   (aH (aN 9 (dL aE))
   (aH (dE (aR (aA (aB 8) aE)) (lE 10)
    (aH (eV (tV (aC W2 (aC dI (aC aY (aB 0) (aB 7)) (eC (.int 4))) (aB 2)))
     (lZ 9 (aC ES (aB 9) (bJ 1 [9] (dD (aC bO (aC wB (aB 6) (aC aY (aB 4) (aB 10))) (dL (aA (aC aY (aB 4) (aB 10)) aE)))) (g1 0) (tV (aC (lY true) (aB 0) (aB 1))) (aB 0))))
     bY)
    (aN 7 (aC bO (aB 7) (eC (.int 1))))))
   (K1 6 (aZ (aB 9)) (aC aY (aB 4) (aB 8))))))
  (aU (bF bW (aA (bJ 1 [6] (aR (aA (aB 1) aE)) (g1 0) cH (bF bW (aA (bF gE (aA (aC wB (aB 1) (aB 0)) aE)) aE))) aE)))))))))
def pA:eT:=bK 7 4
  (aH (aN 4 (aG LL.bX (aA (aG LL.cM (aA (aB 0) (aA (aB 1) aE))) (aA (eC (.int 4)) (aA (aB 3) aE)))))
  (aH (aN 5 (aC dI (aC aY (aB 4) (eC (.int 0))) (aC bO (aB 2) (eC (.int 1)))))
  (aH (aN 6 (aG LL.bX (aA (aG LL.cM (aA (aB 0) (aA (aC bO (aB 1) (eC (.int 1))) aE))) (aA (aC bO (aB 5) (aC mX (aC mulM (aB 5) (aC fE (aB 5) (eC (.int 1)))) (eC (.int 2)))) (aA (aC bO (aB 3) (eC (.int 10007))) aE)))))
  (aU (aG LL.dM (aA (aB 6) (aA (aB 5) (aA (aC aY (dL (aA (eC (.int 1)) (aA (eC (.int 1)) (aA (eC (.int 2)) (aA (eC (.int 2)) (aA (eC (.int 3)) (aA (eC (.int 1)) (aA (eC (.int 0)) (aA (eC (.int 4)) aE))))))))) (aC dI (aC aY (aB 4) (eC (.int 1))) (eC (.int 8)))) aE))))))))
def tupI(xs:List Int):D:=.tup (xs.map D.int)
def aK(xs:List Int):D:=.lst (xs.map D.int)
def aJ(rows:List (List Int)):D:=.tup (rows.map tupI)
theorem jE{i j:Int}:bO (.int i) (.int j)=some (.int (i+j)):=rfl
theorem rO{i j:Int}:fE (.int i) (.int j)=some (.int (i - j)):=rfl
theorem bZ{i j:Int}(h:0<j):dI (.int i) (.int j)=some (.int (i % j)):=by simp [dI,lC,h]
theorem mD{i j:Int}(h:0<j)(h2:j<1073741824):mX (.int i) (.int j)=some (.int (i / j)):=by simp [mX,lC,h,show j.natAbs<1073741824 by omega]
theorem K6{i j:Int}:W2 (.int i) (.int j)=some (.bl (decide (i<j))):=rfl
theorem CP{i j:Int}:W9 (.int i) (.int j)=some (.bl (decide (i<=j))):=rfl
theorem jX{i j:Int}:tL (.int i) (.int j)=some (.bl (decide (j<i))):=rfl
theorem K7{i j:Int}:geM (.int i) (.int j)=some (.bl (decide (j<=i))):=rfl
theorem fV{i j:Int}:kT (.int i) (.int j)=some (.bl (decide (i=j))):=rfl
theorem CQ{i j:Int}:KU (.int i) (.int j)=some (.bl (!decide (i=j))):=rfl
theorem aBL{i j:Bool}:kT (.bl i) (.bl j)=some (.bl (decide (i=j))):=rfl
theorem XH{i j:Str}:kT (.str i) (.str j)=some (.bl (decide (i=j))):=rfl
theorem XI{d:D}:isM d .non=some (.bl (KW d)):=rfl
theorem K8{a:List D}{i:Int}:aY (.lst a) (.int i)=zG a i:=rfl
theorem K9{a:List D}{i:Int}:aY (.tup a) (.int i)=zG a i:=rfl
theorem XJ{a:List Int}{i:Int}:aY (.jW a) (.int i)=(zG a i).map D.int:=rfl
theorem RG{a:List D}:aV [.lst a]=some (.int a.length):=rfl
theorem wN{a:List D}:aV [.tup a]=some (.int a.length):=rfl
theorem RH{a:List Int}:aV [.jW a]=some (.int a.length):=rfl
theorem HZ{a:List D}:bW [.lst a]=some (.tup a):=rfl
theorem IA{a:List D}:bW [.tup a]=some (.tup a):=rfl
theorem NE{a:List D}:rM [.lst a]=some (.lst a):=rfl
theorem NF{a:List D}:rM [.tup a]=some (.lst a):=rfl
theorem NG{a:List D}:ET (.lst a)=some a:=rfl
theorem NH{a:List D}:ET (.tup a)=some a:=rfl
theorem AQ{b:Bool}:iP (.bl b)=some b:=rfl
theorem IB{b:List D}:iP (.lst b)=some (!b.isEmpty):=rfl
theorem IC{b:List D}:iP (.tup b)=some (!b.isEmpty):=rfl
theorem rR{b:Bool}:EQ (.bl b)=some b:=rfl
theorem pB{ds:List D}{d:D}(h:ds.length<16777216):eX ds d=some (ds++[d],.non):=if_pos h
theorem XM{ds es:List D}(h:ds.length+es.length<=16777216):NC ds (.lst es)=some (ds++es,.non):=if_pos h
theorem AR{ds:List D}:KY [.tup ds]=some (ds.zipIdx.map λp=>.tup [.int (p.2:Int),p.1]):=rfl
theorem NI{ds:List D}:KY [.lst ds]=some (ds.zipIdx.map λp=>.tup [.int (p.2:Int),p.1]):=rfl
theorem RI{ds:List D}:aBG [.tup ds]=some ds.reverse:=rfl
theorem RJ{ds:List D}:aBG [.lst ds]=some ds.reverse:=rfl
theorem LA{t:AF}{Z:bR}{ds:List D}(h:t Z=some ds)(hl:ds.length<=16777216):dG t Z=some (.tup ds):=by unfold dG; rw [h]; exact if_pos hl
theorem jP{n np:Nat}{b:SF}{ds:List D}{d:D}(hl:ds.length=np)(h:b (fA n ds)=.rt d):bK n np b ds=.ok d:=by unfold bK; rw [if_pos hl,h]
theorem fF{f g:SF}{Z:aP}{o:Out}(ρ':aP)(h1:f Z=.nx ρ')(h2:g ρ' = o):aH f g Z=o:=by unfold aH; rw [h1]; exact h2
theorem aDl{f g:SF}{Z:aP}{d:D}(h1:f Z=.rt d):aH f g Z=.rt d:=by unfold aH; rw [h1]
theorem kH{f:EF}{Z:aP}{d:D}(h:f (bT Z)=some d):aU f Z=.rt d:=by unfold aU; rw [h]
theorem iE{i:Nat}{f:EF}{Z:aP}(d:D){ρ':aP}(h:f (kD Z)=some d)(hr:Z.set i (.ro d)=ρ'):aN i f Z=.nx ρ':=by unfold aN; rw [h,<- hr]
theorem ifT{t:TF}{a b:SF}{Z:aP}{o:Out}(h:t (bT Z)=some true)(h2:a Z=o):eV t a b Z=o:=by unfold eV; rw [h]; exact h2
theorem NJ{t:TF}{a b:SF}{Z:aP}{o:Out}(h:t (bT Z)=some false)(h2:b Z=o):eV t a b Z=o:=by unfold eV; rw [h]; exact h2
theorem RK{it:AF}{g:K2}{b:SF}{Z:aP}{o:Out}(ds:List D)(h:it (kD Z)=some ds)(h2:gU g b ds Z=o):dE it g b Z=o:=by unfold dE; rw [h]; exact h2
theorem mE{nl:Nat}{fr:List Nat}{it:AF}{g:HU}{t:TF}{e:EF}{Z:bR}(ds:List D){ys:List D}(h:it Z=some ds)(hl:ds.length<=16777216)(h2:kG g t e (benv nl fr Z) ds=some ys):bJ nl fr it g t e Z=some (.lst ys):=by unfold bJ; rw [h];show (if ds.length<=uK then _ else _)=_;rw [if_pos (show ds.length<=uK from hl),h2]; rfl
theorem kJ{a b:List D}(h:a.length+b.length<=16777216):bO (.lst a) (.lst b)=some (.lst (a++b)):=if_pos h
theorem EY{a b:List D}(h:a.length+b.length<=16777216):bO (.tup a) (.tup b)=some (.tup (a++b)):=if_pos h
theorem EZ{a b:List D}(h:a.length+b.length<=16777216):ES (.lst a) (.lst b)=some (.lst (a++b)):=if_pos h
theorem qF{i j:Int}(h:i.natAbs<18446744073709551616):mulM (.int i) (.int j)=some (.int (i*j)):=by simp [mulM,lC,ER,h]
theorem ID{i j:Int}(h:j.natAbs<18446744073709551616):mulM (.int i) (.int j)=some (.int (i*j)):=by simp [mulM,lC,ER,h]
theorem E2{j:Int}(h:j.natAbs<4611686018427387904):HS [.int j]=some ((bG 0 j.toNat).map D.int):=if_pos h
theorem wQ{n:Nat}(h:n<4611686018427387904):HS [.int (n:Int)]=some ((bG 0 n).map D.int):=by rw [E2 (by omega)]; rfl
theorem eK:∀ ns:List Int,intsOf (ns.map D.int)=some ns
 | []=>rfl
 | n::ns=>by simp [intsOf,eK ns]
theorem pC{neg:Bool}{i:Int}{ns:List Int}:lY neg (.int i) (.tup (ns.map D.int))=some (.bl (if neg then !ns.contains i else ns.contains i)):=by simp [lY,eK]
theorem LB{neg:Bool}{i:Int}{ns:List Int}:lY neg (.int i) (.lst (ns.map D.int))=some (.bl (if neg then !ns.contains i else ns.contains i)):=by simp [lY,eK]
theorem sorted_ints{ns:List Int}(h:ns.length<64):gE [.lst (ns.map D.int)]=some (.lst ((sortI ns).map D.int)):=by simp [gE,eK,h]
theorem sum_ints{ns:List Int}:u7 [.lst (ns.map D.int)]=some (.int ns.sum):=by simp [u7,eK]
theorem AS:∀ bs:List Bool,qC (bs.map D.bl)=some bs
 | []=>rfl
 | b::bs=>by simp [qC,iP,AS bs]
theorem CS{bs:List Bool}:allM [.lst (bs.map D.bl)]=some (.bl (bs.all id)):=by simp [allM,AS]
theorem CT{n:Nat}{i:Int}(h0:0<=i)(h1:i<n):XA n i=some i.toNat:=by unfold XA; rw [if_pos h0,if_pos h1]
theorem XN{n k:Nat}(h:k<n):XA n (k:Int)=some k:=by rw [CT (by omega) (by omega)]; rfl
theorem XO{α:Type}{xs:List α}{k:Nat}(h:k<xs.length):zG xs (k:Int)=xs[k]?:=by unfold zG; rw [XN h]; rfl
theorem RL{α:Type}{xs:List α}{i:Int}(h0:0<=i)(h1:i<xs.length):∃ x∈xs,zG xs i=some x/\xs[i.toNat]? = some x:=by
 have hl:i.toNat<xs.length:=by omega
 refine ⟨xs[i.toNat],getElem_mem hl,?_,by simp [hl]⟩;unfold zG; rw [CT h0 h1]; simp [hl]
theorem CU{α β:Type}(f:α->β)(xs:List α)(i:Int):zG (xs.map f) i=(zG xs i).map f:=by
 unfold zG;rw [length_map]
 cases XA xs.length i with
 | none=>rfl
 | some j=>simp
theorem vP{α:Type}{xs:List α}{k:Nat}{x:α}(h:xs[k]? = some x):zG xs (k:Int)=some x:=by rw [XO (List.getElem?_eq_some_iff.mp h).1,h]
theorem aQ(lo:Int)(n:Nat):(bG lo n).length=n:=by simp [bG]
theorem nY{lo:Int}{n i:Nat}(h:i<n):(bG lo n)[i]? = some (lo+(i:Int)):=by simp [bG,h]
theorem iQ(lo:Int)(n:Nat):bG lo (n+1)=bG lo n++[lo+(n:Int)]:=by simp [bG,List.range_succ]
theorem cB{lo:Int}{n:Nat}{x:Int}:x∈bG lo n↔lo<=x/\x<lo+n:=by
 unfold bG;rw [List.mem_map];simp only [List.mem_range]
 constructor
 .rintro ⟨k,hk,rfl⟩; omega
 .rintro ⟨h1,h2⟩; exact ⟨(x - lo).toNat,by omega,by omega⟩
theorem wR{g:K2}{b:SF}(P:Nat->aP->Prop)(ds:List D){Z:aP}(h0:P 0 Z)(step:∀ (i:Nat) (d:D) (Z:aP),ds[i]? = some d->P i Z -> ∃ ρ1 ρ2,g d Z=some ρ1/\b ρ1=.nx ρ2/\P (i+1) ρ2) :
  ∃ ρ',gU g b ds Z=.nx ρ'/\P ds.length ρ':=by
 suffices H:∀ (l:List D) (k:Nat) (Z:aP),ds.drop k=l->k<=ds.length->P k Z -> ∃ ρ',gU g b l Z=.nx ρ'/\P ds.length ρ' from H ds 0 Z (by simp) (Nat.zero_le _) h0
 intro l
 induction l with
 | nil =>
  intro k Z hl hk hp;have:ds.length<=k:=by simpa using hl
  exact ⟨Z,rfl,by rwa [show ds.length=k by omega]⟩
 | cons d l ih =>
  intro k Z hl hk hp;have hk':k<ds.length:=by apply Classical.byContradiction;intro h;rw [List.drop_eq_nil_of_le (by omega)] at hl;cases hl
  have hd:ds[k]? = some d:=by have:=congrArg (λx=>x[0]?) hl;simpa using this
  obtain ⟨ρ1,ρ2,e1,e2,p2⟩:=step k d Z hd hp;have hl2:ds.drop (k+1)=l:=by rw [List.drop_eq_getElem_cons hk'] at hl;exact (List.cons.inj hl).2
  obtain ⟨ρ',e3,p3⟩:=ih (k+1) ρ2 hl2 hk' p2;exact ⟨ρ',by simp only [gU,e1,e2,e3],p3⟩
theorem RM{g:K2}{b:SF}(P:Nat->aP->Prop)(lo:Int)(n:Nat){Z:aP}(h0:P 0 Z)(step:∀ (i:Nat) (Z:aP),i<n->P i Z -> ∃ ρ1 ρ2,g (.int (lo+(i:Int))) Z=some ρ1/\b ρ1=.nx ρ2/\P (i+1) ρ2) :
  ∃ ρ',gU g b ((bG lo n).map D.int) Z=.nx ρ'/\P n ρ':=by
 have:=wR (g:=g) (b:=b) P ((bG lo n).map D.int) h0 λi d Z hd hp=>by
  have hi:i<n:=by have:=(List.getElem?_eq_some_iff.mp hd).1;simpa [aQ] using this
  rw [getElem?_map,nY hi] at hd;cases hd;exact step i Z hi hp
 simpa [aQ] using this
theorem NK{α:Type}{g:HU}{e:EF}{Z:bR}(mk:α->D)(f:α->D)(l:List α)(h:∀ a∈l,(g (mk a) Z).bind e=some (f a)):kG g cH e Z (l.map mk)=some (l.map f):=by
 induction l with
 | nil=>rfl
 | cons a l ih =>
  have h1:=h a (by simp);have h2:=ih λx hx=>h x (by simp [hx])
  cases hg:g (mk a) Z with
  | none=>rw [hg] at h1; cases h1
  | some ρ1 =>
   rw [hg] at h1;have h1':e ρ1=some (f a):=h1;simp only [map_cons,kG,hg,bind_some,cH,if_true,h1',h2,map_some]
theorem iR{α:Type}{g:HU}{e:EF}{Z:bR}(mk:α->D)(f:α->D)(l:List α)(h:∀ a∈l,∃ ρ1,g (mk a) Z=some ρ1/\e ρ1=some (f a)):kG g cH e Z (l.map mk)=some (l.map f) :=
 NK mk f l λa ha=>by obtain ⟨ρ1,h1,h2⟩:=h a ha;rw [h1]; exact h2
theorem jF{α:Type}{g:HU}{t:TF}{e:EF}{Z:bR}(mk:α->D)(p:α->Bool)(f:α->D)(l:List α)(h:∀ a∈l,∃ ρ1,g (mk a) Z=some ρ1/\t ρ1=some (p a)/\(p a=true->e ρ1=some (f a))) :
  kG g t e Z (l.map mk)=some ((l.filter p).map f):=by
 induction l with
 | nil=>rfl
 | cons a l ih =>
  obtain ⟨ρ1,h1,h2,h3⟩:=h a (by simp);have ih:=ih λx hx=>h x (by simp [hx])
  cases hp:p a with
  | false=>simp [kG,h1,h2,hp,ih]
  | true=>simp [kG,h1,h2,hp,h3 hp,ih]
theorem RN{α β:Type}{g:HU}{e:EF}{Z:bR}(mk:α->D)(out:β->D)(R:α->β->Prop)(l:List α)(h:∀ a∈l,∃ ρ1 b,g (mk a) Z=some ρ1/\e ρ1=some (out b)/\R a b) :
  ∃ bs:List β,bs.length=l.length/\(∀ (i:Nat) (a:α) (b:β),l[i]? = some a->bs[i]? = some b->R a b)/\kG g cH e Z (l.map mk)=some (bs.map out):=by
 induction l with
 | nil=>exact ⟨[],rfl,λi a b h=>by simp at h,rfl⟩
 | cons a l ih =>
  obtain ⟨ρ1,b,h1,h2,h3⟩:=h a (by simp);obtain ⟨bs,hl,hr,hc⟩:=ih λx hx=>h x (by simp [hx]);refine ⟨b::bs,by simp [hl],λi x y hx hy=>?_,by simp [kG,h1,h2,hc,cH]⟩
  cases i with
  | zero=>simp at hx hy; subst hx hy; exact h3
  | succ i=>exact hr i x y (by simpa using hx) (by simpa using hy)
def Rt(o:Out)(Q:D->Prop):Prop:=∃ d,o=.rt d/\Q d
def Nx(o:Out)(Q:aP->Prop):Prop:=∃ Z,o=.nx Z/\Q Z
theorem kK{f g:SF}{Z:aP}{Q:D->Prop}(M:aP->Prop)(h1:Nx (f Z) M)(h2:∀ ρ',M ρ'->Rt (g ρ') Q):Rt (aH f g Z) Q:=by obtain ⟨ρ',e,m⟩:=h1; unfold aH; rw [e]; exact h2 ρ' m
theorem tN{f g:SF}{Z:aP}{Q:aP->Prop}(M:aP->Prop)(h1:Nx (f Z) M)(h2:∀ ρ',M ρ'->Nx (g ρ') Q):Nx (aH f g Z) Q:=by obtain ⟨ρ',e,m⟩:=h1; unfold aH; rw [e]; exact h2 ρ' m
theorem cV{f g:SF}{Z:aP}{Q:D->Prop}(ρ':aP)(h1:f Z=.nx ρ')(h2:Rt (g ρ') Q):Rt (aH f g Z) Q:=by unfold aH; rw [h1]; exact h2
theorem fN{f g:SF}{Z:aP}{Q:aP->Prop}(ρ':aP)(h1:f Z=.nx ρ')(h2:Nx (g ρ') Q):Nx (aH f g Z) Q:=by unfold aH; rw [h1]; exact h2
theorem jG{t:TF}{a b:SF}{Z:aP}{Q:aP->Prop}(c:Bool)(h:t (bT Z)=some c)(h1:c=true->Nx (a Z) Q)(h2:c=false->Nx (b Z) Q):Nx (eV t a b Z) Q:=by unfold eV; rw [h]; cases c; exact h2 rfl; exact h1 rfl
theorem qG{f:EF}{Z:aP}{Q:D->Prop}(d:D)(h:f (bT Z)=some d)(q:Q d):Rt (aU f Z) Q:=⟨d,kH h,q⟩
theorem tO{i:Nat}{f:EF}{Z:aP}{Q:aP->Prop}(d:D)(h:f (kD Z)=some d)(q:Q (Z.set i (.ro d))):Nx (aN i f Z) Q:=⟨_,iE d h rfl,q⟩
theorem iS{Z:aP}{Q:aP->Prop}(q:Q Z):Nx (bY Z) Q:=⟨Z,rfl,q⟩
theorem CV{it:AF}{g:K2}{b:SF}{Z:aP}{Q:aP->Prop}(ds:List D)(P:Nat->aP->Prop)(h:it (kD Z)=some ds)(h0:P 0 Z)(step:∀ (i:Nat) (d:D) (Z:aP),ds[i]? = some d->P i Z -> ∃ ρ1,g d Z=some ρ1/\Nx (b ρ1) (P (i+1)))
  (fin:∀ ρ',P ds.length ρ'->Q ρ'):Nx (dE it g b Z) Q:=by
 obtain ⟨ρ',e,p⟩:=wR (g:=g) (b:=b) P ds h0 λi d Z hd hp=>by obtain ⟨ρ1,e1,ρ2,e2,p2⟩:=step i d Z hd hp;exact ⟨ρ1,ρ2,e1,e2,p2⟩
 exact ⟨ρ',RK ds h e,fin ρ' p⟩
theorem nZ{t:AF}{g:K2}{b:SF}{Z:aP}{Q:aP->Prop}(n:Nat)(P:Nat->aP->Prop)(h:t (kD Z)=some [.int (n:Int)])(hn:n<4611686018427387904)(h0:P 0 Z)(step:∀ (i:Nat) (Z:aP),i<n->P i Z -> ∃ ρ1,g (.int (i:Int)) Z=some ρ1/\Nx (b ρ1) (P (i+1)))
  (fin:∀ ρ',P n ρ'->Q ρ'):Nx (dE (aR t) g b Z) Q:=by
 refine CV ((bG 0 n).map D.int) P (by unfold aR; rw [h,bind_some,wQ hn]) h0 (λi d Z hd hp=>?_) (λρ' p=>fin ρ' (by simpa [aQ] using p));have hi:i<n:=by have:=(List.getElem?_eq_some_iff.mp hd).1;simpa [aQ] using this
 rw [getElem?_map,nY hi] at hd;have hd:D.int (0+(i:Int))=d:=by simpa using hd
 subst hd;obtain ⟨ρ1,e,q⟩:=step i Z hi hp;exact ⟨ρ1,by rw [Int.zero_add]; exact e,q⟩
theorem qH{n np:Nat}{b:SF}{ds:List D}{Q:D->Prop}(hl:ds.length=np)(h:Rt (b (fA n ds)) Q):∃ d,bK n np b ds=.ok d/\Q d:=by obtain ⟨d,e,q⟩:=h; exact ⟨d,jP hl e,q⟩
theorem AT:∀ (l:List Int) (j:Nat),(l.map D.int).eraseIdx j=(l.eraseIdx j).map D.int
 | [],j=>by simp
 | a::l,0=>by simp
 | a::l,j+1=>by simp [AT l j]
theorem aM{g:D->D->Option D}{a b:EF}{Z:bR}{z:Option D}{x y:D}(ha:a Z=some x)(hb:b Z=some y)(h:g x y=z):aC g a b Z=z:=by unfold aC; rw [ha,hb]; exact h
theorem dJ{g:List D->Option D}{a:EF}{Z:bR}{z:Option D}{x:D}(ha:a Z=some x)(h:g [x]=z):bF g (aA a aE) Z=z:=by unfold bF aA aE; rw [ha]; exact h
theorem mY{f:eT}{a:EF}{Z:bR}{d x:D}(ha:a Z=some x)(h:f [x]=.ok d):aG f (aA a aE) Z=some d:=by unfold aG aA aE; rw [ha]; show Q5 (f [x])=_; rw [h]; rfl
theorem eM{f:eT}{a b:EF}{Z:bR}{d x y:D}(ha:a Z=some x)(hb:b Z=some y)(h:f [x,y]=.ok d):aG f (aA a (aA b aE)) Z=some d:=by unfold aG aA aE; rw [ha,hb]; show Q5 (f [x,y])=_; rw [h]; rfl
theorem fL{f:eT}{a b c:EF}{Z:bR}{d x y z:D}(ha:a Z=some x)(hb:b Z=some y)(hc:c Z=some z)(h:f [x,y,z]=.ok d):aG f (aA a (aA b (aA c aE))) Z=some d:=by unfold aG aA aE; rw [ha,hb,hc]; show Q5 (f [x,y,z])=_; rw [h]; rfl
theorem args1{a:EF}{Z:bR}{x:D}(ha:a Z=some x):aA a aE Z=some [x]:=by unfold aA aE; rw [ha]; rfl
theorem args2{a b:EF}{Z:bR}{x y:D}(ha:a Z=some x)(hb:b Z=some y):aA a (aA b aE) Z=some [x,y]:=by unfold aA aE; rw [ha,hb]; rfl
theorem RO{a:EF}{Z:bR}{n:Nat}(ha:a Z=some (.int (n:Int)))(hn:n<4611686018427387904):aR (aA a aE) Z=some ((bG 0 n).map D.int):=by unfold aR; rw [args1 ha,bind_some,wQ hn]
theorem aAS{a b:EF}{Z:bR}{i j:Int}(ha:a Z=some (.int i))(hb:b Z=some (.int j))(hi:i.natAbs<4611686018427387904)(hj:j.natAbs<4611686018427387904):aR (aA a (aA b aE)) Z=some ((bG i (j - i).toNat).map D.int):=by unfold aR; rw [args2 ha hb,bind_some];exact if_pos ⟨hi,hj⟩
theorem mZ{f:EF}{Z:bR}{d:D}{b:Bool}(h:f Z=some d)(ht:iP d=some b):tV f Z=some b:=by unfold tV; rw [h]; exact ht
theorem XQ{t:TF}{Z:bR}{b c:Bool}(h:t Z=some b)(hc:(!b)=c):hZ t Z=some c:=by unfold hZ; rw [h,<- hc]; rfl
theorem AU{t u:TF}{Z:bR}{b c:Bool}(h:t Z=some b)(h2:b=true->u Z=some c)(h3:b=false->c=false):kX t u Z=some c:=by
 unfold kX; rw [h]; cases b
 .rw [h3 rfl]; rfl
 .exact h2 rfl
theorem RP{t u:TF}{Z:bR}{b c:Bool}(h:t Z=some b)(h2:b=false->u Z=some c)(h3:b=true->c=true):u4 t u Z=some c:=by
 unfold u4; rw [h]; cases b
 .exact h2 rfl
 .rw [h3 rfl]; rfl
theorem XR{l:List Int}{i:Int}{y:Int}(h0:0<=i)(h1:i<l.length)(h2:l.length<=16777216)(hy:l[i.toNat]? = some y):XD (l.map D.int) (.int i)=some ((l.eraseIdx i.toNat).map D.int,.int y):=by show (if i.natAbs<9223372036854775808 then _ else _)=_;rw [if_pos (by omega),length_map,CT h0 h1,bind_some,getElem?_map,hy,AT];rfl
theorem lF{ws:List Int}{j:Nat}{x:Int}(h:ws[j]? = some x):zG (ws.map D.int) (j:Int)=some (.int x):=by rw [CU,vP h]; rfl
theorem RQ{α:Type}{l:List α}{i j:Nat}{x:α}(h:l[i]? = some x)(hij:i<j):(l.take j)[i]? = some x:=by rw [List.getElem?_take_of_lt hij]; exact h
theorem j4:∀ ns:List Int,kW (ns.map D.int)=true
 | []=>rfl
 | n::ns=>by rw [map_cons,kW,j4 ns]; rfl
theorem qI{k q:Sum Int Str}{ks:List (Sum Int Str)}{d:D}{ds:List D}:lD (q::ks) (d::ds) k=if q=k then some d else lD ks ds k:=by
 by_cases e:q=k
 .simp [lD,e]
 .simp [lD,e]
theorem tP:∀ {word:List Int} {us:List (List Int)} {i:Nat} {x:Int} {v:List Int},word.Nodup->word[i]? = some x->us[i]? = some v->lD (word.map Sum.inl) (us.map aK) (Sum.inl x)=some (aK v)
 | [],us,i,x,v,_,h,_=>by simp at h
 | w::ws,[],i,x,v,_,_,h=>by simp at h
 | w::ws,u::us,0,x,v,_,h1,h2=>by simp at h1 h2;subst h1 h2;rw [map_cons,map_cons,qI,if_pos rfl]
 | w::ws,u::us,i+1,x,v,hn,h1,h2=>by
  obtain ⟨n1,n2⟩:=List.nodup_cons.mp hn;have h1':ws[i]? = some x:=by simpa using h1
  have ne:(Sum.inl w:Sum Int Str)≠Sum.inl x:=λe=>n1 (by cases e; exact mem_of_getElem? h1');rw [map_cons,map_cons,qI,if_neg ne];exact tP n2 h1' (by simpa using h2)
theorem AV:∀ {word:List Int} {us:List (List Int)} {x:Int},x∉word->lD (word.map Sum.inl) (us.map aK) (Sum.inl x)=none
 | [],us,x,_=>by simp [lD]
 | w::ws,[],x,_=>by simp [lD]
 | w::ws,u::us,x,h=>by have ne:(Sum.inl w:Sum Int Str)≠Sum.inl x:=λe=>h (by cases e; exact mem_cons_self);rw [map_cons,map_cons,qI,if_neg ne];exact AV λz=>h (mem_cons_of_mem _ z)
theorem insI_perm(a:Int):∀ l:List Int,(insI a l).Perm (a::l)
 | []=>.refl _
 | b::l=>by
  unfold insI;split
  .exact .refl _
  .exact ((insI_perm a l).cons b).trans (.swap a b l)
theorem sortI_perm:∀ l:List Int,(sortI l).Perm l
 | []=>.refl _
 | a::l=>(insI_perm a (sortI l)).trans ((sortI_perm l).cons a)
theorem uM(a:Int):∀ l:List Int,l.Pairwise (· <= ·)->(insI a l).Pairwise (· <= ·)
 | [],_=>by simp [insI]
 | b::l,h=>by
  unfold insI;split
  .rename_i hab;refine List.pairwise_cons.mpr ⟨λc hc=>?_,h⟩;rcases List.mem_cons.mp hc with e | e
   .subst e; exact hab
   .exact Int.le_trans hab ((List.pairwise_cons.mp h).1 c e)
  .rename_i hab;refine List.pairwise_cons.mpr ⟨λc hc=>?_,uM a l (List.pairwise_cons.mp h).2⟩;rcases List.mem_cons.mp ((insI_perm a l).mem_iff.mp hc) with e | e
   .subst e; omega
   .exact (List.pairwise_cons.mp h).1 c e
theorem jY:∀ l:List Int,(sortI l).Pairwise (· <= ·)
 | []=>List.Pairwise.nil
 | a::l=>uM a _ (jY l)
theorem AW:∀ {l m:List Int},l.Perm m->l.Pairwise (· <= ·)->m.Pairwise (· <= ·)->l=m
 | [],m,p,_,_=>by rw [p.nil_eq]
 | a::l,[],p,_,_=>by have:=p.length_eq; simp at this
 | a::l,b::m,p,h1,h2=>by
  have e:a=b:=by
   have m1:=p.mem_iff.mp (mem_cons_self (a:=a) (l:=l));have m2:=p.mem_iff.mpr (mem_cons_self (a:=b) (l:=m));rcases List.mem_cons.mp m1 with e | e
   .exact e
   .rcases List.mem_cons.mp m2 with e2 | e2
    .exact e2.symm
    .have:=(List.pairwise_cons.mp h2).1 a e;have:=(List.pairwise_cons.mp h1).1 b e2;omega
  subst e;rw [AW p.cons_inv (List.pairwise_cons.mp h1).2 (List.pairwise_cons.mp h2).2]
theorem E3{l m:List Int}(p:m.Perm l)(h:m.Pairwise (· <= ·)):sortI l=m:=AW ((sortI_perm l).trans p.symm) (jY l) h
local macro_rules | `(tactic| walk_at "ev") => `(tactic| simp only [fA, aH, eV, aU, aN, uL, iA, aDc, lZ, Q6, sX, dE, bY, aB, eC, aC, tV, hZ, kX, u4, kE, eOr, W8, eIf, mW, kF, aE, aA, bF, aG, Q5, nP, dD, aR, nV, aIK, XB, g1, g2, lE, HK, KZ, cH, benv, K0, W3, oE, asInt, aZ, kU, nQ, bT, kD, Sv.all, Sv.rd, map_cons, map_nil, List.getElem?_cons_zero, List.getElem?_cons_succ, List.getElem?_nil, Option.join_some, Option.join_none, bind_some, Option.bind_none, map_some, Option.map_none, List.set_cons_zero, List.set_cons_succ, List.set_nil, length_cons, length_nil, length_map, cons_append, nil_append, List.replicate_succ, List.replicate_zero, Nat.reduceSub, Nat.reduceAdd, Nat.reduceEqDiff, AQ, IB, IC, rR, aDb, jE, rO, K6, CP, jX, K7, fV, CQ, aBL, XH, XI, KW, K8, K9, XJ, RG, wN, RH, HZ, IA, NE, NF, NG, NH, AR, NI, RI, RJ, if_true, if_false, ite_true, ite_false, reduceIte, decide_true, decide_false, decide_eq_true_eq, Bool.false_eq_true, Bool.not_true, Bool.not_false, pC, LB])
theorem vQ(ns:List Int)(k:Int):∃ c,cM [.jW ns,.int k]=.ok (.int c):=by
 unfold cM;by_cases h:(ns.length:Int)=0
 .exact ⟨0,jP rfl (aDl (ifT (by walk_at "ev"; rw [decide_eq_true h]) rfl))⟩
 .obtain ⟨x,_,e,_⟩:=RL (xs:=ns) (i:=k % (ns.length:Int)) (Int.emod_nonneg _ (by omega)) (Int.emod_lt_of_pos _ (by omega));refine ⟨x,jP rfl (fF _ (NJ (by walk_at "ev"; rw [decide_eq_false h]) rfl) (kH ?_))⟩
  walk_at "ev"
  rw [bZ (by omega)]
  walk_at "ev"
  rw [e]; rfl
def RR(c k s:Int):Int:=(c+11*k*k+17*k+s)*48271 % 2147483647
def aDm(c k s:Int):Int:=(RR c k s*(RR c k s / 4096+5)+29*k+s) % 2147483629
theorem RS(c k s:Int)(h0:0<=k)(h1:k<1000000):∃ r,0<=r/\fU [.int c,.int k,.int s]=.ok (.int r):=by
 unfold fU;have ha:0<=RR c k s:=Int.emod_nonneg ((c+11*k*k+17*k+s)*48271) (b:=2147483647) (by decide);have hb:RR c k s<2147483647:=Int.emod_lt_of_pos ((c+11*k*k+17*k+s)*48271) (b:=2147483647) (by decide);refine ⟨aDm c k s*39373 % 1000000007,Int.emod_nonneg _ (b:=1000000007) (by decide),jP rfl (fF _ (iE (.int (RR c k s)) ?_ rfl) (fF _ (iE (.int (aDm c k s)) ?_ rfl) (kH ?_)))⟩
 .walk_at "ev"
  rw [qF (by decide)]
  walk_at "ev"
  rw [ID (by omega),qF (i:=17) (by decide)]
  walk_at "ev"
  rw [ID (j:=48271) (by decide)]
  walk_at "ev"
  rw [bZ (by decide)];rfl
 .walk_at "ev"
  rw [mD (by decide) (by decide)]
  walk_at "ev"
  rw [qF (by omega),qF (i:=29) (by decide)]
  walk_at "ev"
  rw [bZ (by decide)];rfl
 .walk_at "ev"
  rw [ID (j:=39373) (by decide)]
  walk_at "ev"
  rw [bZ (by decide)]
theorem AX(xs:List Int)(x:Int):D.lst (xs.map D.int++[.int x])=aK (xs++[x]):=by simp [aK]
theorem rS(c many s:Int)(h0:0<=many)(h1:many<1000000):∃ xs:List Int,xs.length=many.toNat/\(∀ x∈xs,0<=x)/\bX [.int c,.int many,.int s]=.ok (aK xs):=by
 unfold bX;have key:∀ left:Int,∃ ρ',gU (lE 5) (eV (tV (aC tL (aB 4) (eC (.int 0))))
    (aH (sX (kU 3 eX (aZ (aC dI (aB 4) (eC (.int 64))))))
    (aN 4 (aC mX (aB 4) (eC (.int 64)))))
    (sX (kU 3 eX (aZ (aG LL.fU (aA (aB 0) (aA (aB 5) (aA (aB 2) aE))))))))
    ((bG 0 many.toNat).map D.int) [Sv.ro (.int c),Sv.ro (.int many),Sv.ro (.int s),Sv.ow (.lst []),Sv.ro (.int left),Sv.no]=.nx ρ' /\
    ∃ (xs:List Int) (l:Int) (v:Sv),xs.length=many.toNat/\(∀ x∈xs,0<=x)/\ρ' = [Sv.ro (.int c),Sv.ro (.int many),Sv.ro (.int s),Sv.ow (aK xs),Sv.ro (.int l),v]:=by
  intro left;refine RM (λi ρ'=>∃ (xs:List Int) (l:Int) (v:Sv),xs.length=i/\(∀ x∈xs,0<=x)/\ρ' = [Sv.ro (.int c),Sv.ro (.int many),Sv.ro (.int s),Sv.ow (aK xs),Sv.ro (.int l),v]) 0 _ ⟨[],left,_,rfl,by simp,rfl⟩ ?_;rintro i _ hi ⟨xs,l,v,hx,hn,rfl⟩;have hlen:(xs.map D.int).length<16777216:=by rw [length_map]; omega
  by_cases hl:0<l
  .refine ⟨_,_,rfl,ifT (by walk_at "ev"; rw [decide_eq_true hl]) (fF [Sv.ro (.int c),Sv.ro (.int many),Sv.ro (.int s),Sv.ow (aK (xs++[l % 64])),Sv.ro (.int l),Sv.ro (.int (0+(i:Int)))] ?_ (iE (.int (l / 64)) ?_ rfl)),xs++[l % 64],l / 64,_,by simp [hx],?_,rfl⟩
   .walk_at "ev"
    rw [bZ (by decide)]
    walk_at "ev"
    simp only [aK,nQ]
    walk_at "ev"
    rw [pB hlen]
    walk_at "ev"
    rw [AX];rfl
   .walk_at "ev"
    rw [mD (by decide) (by decide)]
   .intro x hx;rcases List.mem_append.mp hx with h | h
    .exact hn x h
    .rw [List.mem_singleton.mp h]; exact Int.emod_nonneg _ (by decide)
  .obtain ⟨r,hr,e⟩:=RS c (0+(i:Int)) s (by omega) (by omega);refine ⟨_,[Sv.ro (.int c),Sv.ro (.int many),Sv.ro (.int s),Sv.ow (aK (xs++[r])),Sv.ro (.int l),Sv.ro (.int (0+(i:Int)))],rfl,NJ (by walk_at "ev"; rw [decide_eq_false hl]) ?_,xs++[r],l,_,by simp [hx],?_,rfl⟩
   .walk_at "ev"
    rw [e];simp only [aK,nQ]
    walk_at "ev"
    rw [pB hlen]
    walk_at "ev"
    rw [AX];rfl
   .intro x hx;rcases List.mem_append.mp hx with h | h
    .exact hn x h
    .rw [List.mem_singleton.mp h]; exact hr
 have hp:HQ (.int 10) (.int 18)=some (.int 1000000000000000000):=rfl;have fin:∀ left:Int,(0=0) -> ∃ xs:List Int,xs.length=many.toNat/\(∀ x∈xs,0<=x)/\aH (dE (aR (aA (aB 1) aE)) (lE 5) (eV (tV (aC tL (aB 4) (eC (.int 0))))
    (aH (sX (kU 3 eX (aZ (aC dI (aB 4) (eC (.int 64))))))
    (aN 4 (aC mX (aB 4) (eC (.int 64)))))
    (sX (kU 3 eX (aZ (aG LL.fU (aA (aB 0) (aA (aB 5) (aA (aB 2) aE))))))))) (aU (aB 3)) [Sv.ro (.int c),Sv.ro (.int many),Sv.ro (.int s),Sv.ow (.lst []),Sv.ro (.int left),Sv.no]=.rt (aK xs):=by
  intro left _;obtain ⟨ρ',e,xs,l,v,h1',h2',rfl⟩:=key left;refine ⟨xs,h1',h2',fF _ (RK _ ?_ e) (kH rfl)⟩
  walk_at "ev"
  exact E2 (by omega)
 by_cases hc:1000000000000000000<=c
 .obtain ⟨xs,a,b,e⟩:=fin c rfl;refine ⟨xs,a,b,jP rfl (fF _ rfl (fF _ rfl (fF _ (ifT ?_ rfl) e)))⟩
  walk_at "ev"
  rw [hp]
  walk_at "ev"
  rw [decide_eq_true hc]
 .obtain ⟨xs,a,b,e⟩:=fin 0 rfl;refine ⟨xs,a,b,jP rfl (fF _ rfl (fF _ rfl (fF _ (NJ ?_ rfl) e)))⟩
  walk_at "ev"
  rw [hp]
  walk_at "ev"
  rw [decide_eq_false hc]
theorem wU(dr:List Int)(n:Nat)(th:Int)(hn:n<=9)(hl:n+Ord.tri n<=dr.length) :
  ∃ d,dM [aK dr,.int n,.int th]=.ok d /\ ∃ rows:List (List Int),rows.length=n/\Ord.Rows rows/\d=aJ rows:=by
 unfold dM;refine qH rfl ?_;rw [show fA 11 [aK dr,.int n,.int th]=[Sv.ro (aK dr),Sv.ro (.int n),Sv.ro (.int th),Sv.no,Sv.no,Sv.no,Sv.no,Sv.no,Sv.no,Sv.no,Sv.no] from rfl];refine cV [Sv.ro (aK dr),Sv.ro (.int n),Sv.ro (.int th),Sv.ow (.lst ((bG 0 n).map D.int)),Sv.no,Sv.no,Sv.no,Sv.no,Sv.no,Sv.no,Sv.no] ?_ ?_
 .walk_at "ev"
  simp only [HR]
  walk_at "ev"
  rw [if_pos (by omega)];rfl
 refine cV [Sv.ro (aK dr),Sv.ro (.int n),Sv.ro (.int th),Sv.ow (.lst ((bG 0 n).map D.int)),Sv.ow (.lst []),Sv.no,Sv.no,Sv.no,Sv.no,Sv.no,Sv.no] rfl ?_;refine kK (λZ=>∃ (word:List Int) (kv v3:Sv),word.Perm (bG 0 n)/\Z=[Sv.ro (aK dr),Sv.ro (.int n),Sv.ro (.int th),v3,Sv.ow (aK word),kv,Sv.no,Sv.no,Sv.no,Sv.no,Sv.no]) ?_ ?_
 .refine nZ n (λi Z=>∃ (rest word:List Int) (kv:Sv),word.length=i/\(word++rest).Perm (bG 0 n)/\Z=[Sv.ro (aK dr),Sv.ro (.int n),Sv.ro (.int th),Sv.ow (aK rest),Sv.ow (aK word),kv,Sv.no,Sv.no,Sv.no,Sv.no,Sv.no])
   rfl (by omega) ⟨bG 0 n,[],Sv.no,rfl,.refl _,rfl⟩ ?_ ?_
  .rintro i _ hi ⟨rest,word,kv,hw,hp,rfl⟩;have hlr:word.length+rest.length=n:=by have:=hp.length_eq;rw [List.length_append,aQ] at this;exact this
   obtain ⟨x,hx⟩:∃ x,dr[i]? = some x:=⟨_,getElem?_eq_getElem (by omega)⟩;have hr0:(0:Int)<rest.length:=by omega
   have h0:=Int.emod_nonneg x (show (rest.length:Int)≠0 by omega);have h1:=Int.emod_lt_of_pos x hr0;obtain ⟨y,hy⟩:∃ y,rest[(x % (rest.length:Int)).toNat]? = some y:=⟨_,getElem?_eq_getElem (by omega)⟩;refine ⟨_,rfl,[Sv.ro (aK dr),Sv.ro (.int n),Sv.ro (.int th),Sv.ow (aK (rest.eraseIdx (x % (rest.length:Int)).toNat)),Sv.ow (aK (word++[y])),Sv.ro (.int i),Sv.no,Sv.no,Sv.no,Sv.no,Sv.no],?_,rest.eraseIdx (x % (rest.length:Int)).toNat,word++[y],Sv.ro (.int i),by simp [hw],?_,rfl⟩
   .have e1:=XR h0 h1 (by omega) hy;simp only [aK]
    walk_at "ev"
    simp only [fZ]
    walk_at "ev"
    rw [lF hx]
    walk_at "ev"
    rw [bZ hr0]
    walk_at "ev"
    simp only [D.vN,ite_true,bind_some]
    walk_at "ev"
    rw [e1]
    walk_at "ev"
    rw [pB (by rw [length_map]; omega)]
    walk_at "ev"
    rw [map_append];rfl
   .rw [List.append_assoc];exact ((Ord.wL rest _ y hy).append_left word).trans hp
  .rintro _ ⟨rest,word,kv,hw,hp,rfl⟩;have hlr:word.length+rest.length=n:=by have:=hp.length_eq;rw [List.length_append,aQ] at this;exact this
   have e:rest=[]:=List.length_eq_zero_iff.mp (by omega);subst e;rw [append_nil] at hp;exact ⟨word,kv,_,hp,rfl⟩
 rintro _ ⟨word,kv,v3,hp,rfl⟩;have hpw:word.Perm ((List.range n).map λk:Nat=>(k:Int)):=by
  have e:bG 0 n=(List.range n).map λk:Nat=>(k:Int):=map_congr_left λk _=>by show 0+(k:Int)=k; omega
  rw [<- e];exact hp
 have hlw:word.length=n:=by rw [hpw.length_eq,length_map,length_range]
 have ndw:word.Nodup:=hpw.nodup_iff.mpr (List.Pairwise.map _ (λa b hab e=>hab (by omega)) List.nodup_range);have aBM:∀ {us:List (List Int)} (t:Nat) (u:List Int),Ord.Under word us t u->u.length<=n:=λ{us} t u h=>by rw [<- hlw];exact Ord.eJ u word h.1 λa ha=>by obtain ⟨s,_,_,h2,_⟩:=h.2 a ha; exact mem_of_getElem? h2
 refine cV [Sv.ro (aK dr),Sv.ro (.int n),Sv.ro (.int th),v3,Sv.ow (aK word),kv,Sv.ow (.lB [] []),Sv.no,Sv.no,Sv.no,Sv.no] rfl ?_;refine cV [Sv.ro (aK dr),Sv.ro (.int n),Sv.ro (.int th),v3,Sv.ow (aK word),kv,Sv.ow (.lB [] []),Sv.ro (.int n),Sv.no,Sv.no,Sv.no] rfl ?_;refine kK (λZ=>∃ (us:List (List Int)) (v7 v8 v9 v10:Sv),us.length=n/\Ord.Good word us/\Z=[Sv.ro (aK dr),Sv.ro (.int n),Sv.ro (.int th),v3,Sv.ow (aK word),kv,Sv.ow (.lB (word.map Sum.inl) (us.map aK)),v7,v8,v9,v10]) ?_ ?_
 .refine nZ n (λj Z=>∃ (us:List (List Int)) (v8 v9 v10:Sv),us.length=j/\Ord.Good word us/\Z=[Sv.ro (aK dr),Sv.ro (.int n),Sv.ro (.int th),v3,Sv.ow (aK word),kv,Sv.ow (.lB ((word.take j).map Sum.inl) (us.map aK)),Sv.ro (.int ((n+Ord.tri j:Nat):Int)),v8,v9,v10])
   rfl (by omega) ⟨[],Sv.no,Sv.no,Sv.no,rfl,(λt u e=>by simp at e),rfl⟩ ?_ ?_
  .rintro j _ hj ⟨us,v8,v9,v10,hul,hg,rfl⟩;refine ⟨_,rfl,?_⟩;refine fN [Sv.ro (aK dr),Sv.ro (.int n),Sv.ro (.int th),v3,Sv.ow (aK word),kv,Sv.ow (.lB ((word.take j).map Sum.inl) (us.map aK)),Sv.ro (.int ((n+Ord.tri j:Nat):Int)),Sv.ro (.int j),Sv.ro (.lst []),v10] rfl ?_;refine tN (λZ=>∃ (u:List Int) (v10:Sv),Ord.Under word us j u/\Z=[Sv.ro (aK dr),Sv.ro (.int n),Sv.ro (.int th),v3,Sv.ow (aK word),kv,Sv.ow (.lB ((word.take j).map Sum.inl) (us.map aK)),Sv.ro (.int ((n+Ord.tri (j+1):Nat):Int)),Sv.ro (.int j),Sv.ro (aK u),v10]) ?_ ?_
   .refine nZ j (λi Z=>∃ (u:List Int) (v10:Sv),Ord.Under word us i u/\Z=[Sv.ro (aK dr),Sv.ro (.int n),Sv.ro (.int th),v3,Sv.ow (aK word),kv,Sv.ow (.lB ((word.take j).map Sum.inl) (us.map aK)),Sv.ro (.int ((n+Ord.tri j+i:Nat):Int)),Sv.ro (.int j),Sv.ro (aK u),v10])
     rfl (by omega) ⟨[],_,⟨nodup_nil,λa ha=>(nomatch ha)⟩,rfl⟩ ?_ ?_
    .rintro i _ hi ⟨u,v10,hU,rfl⟩;have tl:=Ord.aBK hj hi;obtain ⟨y,hy⟩:∃ y,dr[n+Ord.tri j+i]? = some y:=⟨_,getElem?_eq_getElem (by omega)⟩;obtain ⟨x,hx⟩:∃ x,word[i]? = some x:=⟨_,getElem?_eq_getElem (by omega)⟩;obtain ⟨v,hv⟩:∃ v,us[i]? = some v:=⟨_,getElem?_eq_getElem (by omega)⟩;have lv:=aBM _ _ (hg i v hv);have lu:=aBM _ _ hU;refine ⟨_,rfl,?_⟩;refine tN (λZ=>∃ u':List Int,Ord.Under word us (i+1) u'/\Z=[Sv.ro (aK dr),Sv.ro (.int n),Sv.ro (.int th),v3,Sv.ow (aK word),kv,Sv.ow (.lB ((word.take j).map Sum.inl) (us.map aK)),Sv.ro (.int ((n+Ord.tri j+i:Nat):Int)),Sv.ro (.int j),Sv.ro (aK u'),Sv.ro (.int i)]) ?_ ?_
     .refine jG (decide (y % 4<th)) ?_ (λ_=>?_) (λ_=>iS ⟨u,hU.mono (by omega),rfl⟩)
      .simp only [aK]
       walk_at "ev"
       rw [lF hy]
       walk_at "ev"
       rw [bZ (by decide)]
       walk_at "ev"
      .refine ⟨_,?_,_,hU.step ndw hg hx hv,rfl⟩;have hf:=length_filter_le (λa=>!u.contains a) (v++[x]);have e1:kG (g1 0) (tV (aC (lY true) (aB 0) (aB 1))) (aB 0) [none,some (.lst (u.map D.int))] ((v++[x]).map D.int)=some (((v++[x]).filter λa=>!u.contains a).map D.int) :=
        jF D.int _ D.int (v++[x]) λa _=>⟨_,rfl,by walk_at "ev",λ_=>rfl⟩
       have e2:aC bO (aC wB (aB 6) (aC aY (aB 4) (aB 10))) (dL (aA (aC aY (aB 4) (aB 10)) aE)) [some (aK dr),some (.int n),some (.int th),v3.all,some (aK word),kv.all,some (.lB ((word.take j).map Sum.inl) (us.map aK)),some (.int ((n+Ord.tri j+i:Nat):Int)),some (.int j),some (aK u),some (.int i)]=some (.lst ((v++[x]).map D.int)):=by
        simp only [aK]
        walk_at "ev"
        rw [lF hx]
        walk_at "ev"
        simp only [wB,v0,bind_some];have:=tP (List.Nodup.sublist (List.take_sublist j word) ndw) (RQ hx hi) hv;simp only [aK] at this;rw [this];simp only [dL]
        walk_at "ev"
        rw [lF hx]
        walk_at "ev"
        rw [if_pos (by decide),bind_some,kJ (by simp; omega)];simp
       have e3:bJ 1 [9] (dD (aC bO (aC wB (aB 6) (aC aY (aB 4) (aB 10))) (dL (aA (aC aY (aB 4) (aB 10)) aE)))) (g1 0) (tV (aC (lY true) (aB 0) (aB 1))) (aB 0) [some (aK dr),some (.int n),some (.int th),v3.all,some (aK word),kv.all,some (.lB ((word.take j).map Sum.inl) (us.map aK)),some (.int ((n+Ord.tri j+i:Nat):Int)),some (.int j),some (aK u),some (.int i)]=some (.lst (((v++[x]).filter λa=>!u.contains a).map D.int)) :=
        mE ((v++[x]).map D.int) (by unfold dD; rw [e2]; rfl) (by simp; omega) e1
       unfold lZ;have e4:aC ES (aB 9) (bJ 1 [9] (dD (aC bO (aC wB (aB 6) (aC aY (aB 4) (aB 10))) (dL (aA (aC aY (aB 4) (aB 10)) aE)))) (g1 0) (tV (aC (lY true) (aB 0) (aB 1))) (aB 0)) [some (aK dr),some (.int n),some (.int th),v3.all,some (aK word),kv.all,some (.lB ((word.take j).map Sum.inl) (us.map aK)),some (.int ((n+Ord.tri j+i:Nat):Int)),some (.int j),some (aK u),some (.int i)]=some (aK (u++(v++[x]).filter λa=>!u.contains a)):=by refine aM (x:=aK u) rfl e3 ?_;show ES (.lst (u.map D.int)) _=_;rw [EZ (by simp only [length_map,List.length_append,length_cons,length_nil] at hf ⊢; omega),<- map_append];rfl
       rw [show bT _=[some (aK dr),some (.int n),some (.int th),v3.all,some (aK word),kv.all,some (.lB ((word.take j).map Sum.inl) (us.map aK)),some (.int ((n+Ord.tri j+i:Nat):Int)),some (.int j),some (aK u),some (.int i)] from rfl,e4];show (if qD (aK _)=true then _ else _)=_;rw [if_pos (show qD (aK _)=true from j4 _)];rfl
     rintro _ ⟨u',hU',rfl⟩;exact ⟨_,rfl,u',_,hU',rfl⟩
    .rintro _ ⟨u,v10,hU,rfl⟩;exact ⟨u,v10,hU,by rw [Nat.add_assoc]; rfl⟩
   rintro _ ⟨u,v10,hU,rfl⟩;obtain ⟨x,hx⟩:∃ x,word[j]? = some x:=⟨_,getElem?_eq_getElem (by omega)⟩;refine ⟨[Sv.ro (aK dr),Sv.ro (.int n),Sv.ro (.int th),v3,Sv.ow (aK word),kv,Sv.ow (.lB ((word.take (j+1)).map Sum.inl) ((us++[u]).map aK)),Sv.ro (.int ((n+Ord.tri (j+1):Nat):Int)),Sv.ro (.int j),Sv.ro (aK u),v10],?_,us++[u],Sv.ro (.int j),Sv.ro (aK u),v10,by simp [hul],hg.snoc (by rw [hul]; exact hU),rfl⟩;have hno:lD ((word.take j).map Sum.inl) (us.map aK) (Sum.inl x)=none:=AV λhm=>by
    obtain ⟨t,ht⟩:=List.mem_iff_getElem?.mp hm;have htl:t<j:=by have:=(List.getElem?_eq_some_iff.mp ht).1;rw [length_take] at this;omega
    rw [List.getElem?_take_of_lt htl] at ht;have:=Ord.wM ndw ht hx;omega
   unfold K1
   walk_at "ev"
   simp only [wF,bind_some];have e5:aY (aK word) (.int (j:Int))=some (.int x):=lF hx;rw [e5];simp only [bind_some,v0,hno,Option.isNone_none,true_and];rw [if_pos (by rw [length_map]; show us.length<16777216; omega),List.take_succ,hx,map_append,map_append];rfl
  .rintro _ ⟨us,v8,v9,v10,hul,hg,rfl⟩;refine ⟨us,Sv.ro (.int ((n+Ord.tri n:Nat):Int)),v8,v9,v10,hul,hg,?_⟩;rw [take_of_length_le (by omega)]
 rintro _ ⟨us,v7,v8,v9,v10,hul,hg,rfl⟩;have ec:∃ rows:List (List Int),rows.length=(List.range n).length/\(∀ (i:Nat) (b:Nat) (r:List Int),(List.range n)[i]? = some b->rows[i]? = some r -> ∀ (t:Nat) (u:List Int),word[t]? = some (b:Int)->us[t]? = some u->r.Perm u/\r.Pairwise (· <= ·)) /\
   kG (g1 0) cH (bF bW (aA (bF gE (aA (aC wB (aB 1) (aB 0)) aE)) aE)) [none,some (.lB (word.map Sum.inl) (us.map aK))] ((List.range n).map λb:Nat=>D.int (b:Int))=some (rows.map tupI):=by
  refine RN (λb:Nat=>D.int (b:Int)) tupI _ (List.range n) λb hb=>?_;have hb2:=List.mem_range.mp hb;have hm:(b:Int)∈word:=hpw.mem_iff.mpr (List.mem_map.mpr ⟨b,hb,rfl⟩);obtain ⟨t,ht⟩:=List.mem_iff_getElem?.mp hm;obtain ⟨u,hu2⟩:∃ u,us[t]? = some u:=⟨_,getElem?_eq_getElem (by have:=(List.getElem?_eq_some_iff.mp ht).1; omega)⟩;have lu:=aBM _ _ (hg t u hu2);refine ⟨_,sortI u,rfl,?_,λt' u' e1 e2=>?_⟩
  .walk_at "ev"
   simp only [wB,v0,bind_some];rw [tP ndw ht hu2];simp only [aK]
   walk_at "ev"
   rw [sorted_ints (by omega)];rfl
  .have e:=Ord.wM ndw e1 ht;subst e;rw [hu2] at e2;cases e2;exact ⟨sortI_perm u,jY u⟩
 obtain ⟨rows,hr1,hr2,ec⟩:=ec;rw [length_range] at hr1;refine qG (aJ rows) ?_ ⟨rows,hr1,hg.rows hul hpw hr1 λb t r u e1 e2 e3=>hr2 b b r (by rw [List.getElem?_range (by have:=(List.getElem?_eq_some_iff.mp e1).1; omega)]) e1 t u e2 e3,rfl⟩;have e6:(bG 0 n).map D.int=(List.range n).map λb:Nat=>D.int (b:Int):=by unfold bG;rw [map_map];exact map_congr_left λb _=>by show D.int (0+(b:Int))=_; rw [Int.zero_add]
 have e7:=mE (nl:=1) (fr:=[6]) (it:=aR (aA (aB 1) aE)) (g:=g1 0) (t:=cH) (e:=bF bW (aA (bF gE (aA (aC wB (aB 1) (aB 0)) aE)) aE)) (Z:=bT [Sv.ro (aK dr),Sv.ro (.int n),Sv.ro (.int th),v3,Sv.ow (aK word),kv,Sv.ow (.lB (word.map Sum.inl) (us.map aK)),v7,v8,v9,v10]) ((bG 0 n).map D.int)
  (by walk_at "ev"; exact wQ (by omega)) (by rw [length_map,aQ]; omega) (by rw [e6]; exact ec)
 exact dJ e7 rfl
theorem LC(n:Nat):2*Ord.tri n+n=n*n:=by
 induction n with
 | zero=>rfl
 | succ n ih =>
  show 2*(Ord.tri n+n)+(n+1)=(n+1)*(n+1);have:(n+1)*(n+1)=n*n+2*n+1:=by rw [Nat.add_mul,Nat.mul_add]; omega
  omega
def dA:eT:=bK 2 2
  (aU (kF W9 W2 (eC (.int 0)) (aB 0) (aB 1)))
def gW:eT:=bK 4 2
  (aH (dE (nV (aA (aB 0) aE)) (HK 2 3)
   (aH (eV (hZ (tV (aG LL.dA (aA (aB 3) (aA (aB 1) aE)))))
    (aU (eC (.bl false)))
    bY)
   (eV (kX (tV (aC tL (aB 2) (eC (.int 0)))) (tV (aC geM (aC aY (aB 0) (aC fE (aB 2) (eC (.int 1)))) (aB 3))))
    (aU (eC (.bl false)))
    bY)))
  (aU (eC (.bl true))))
def cK:eT:=bK 3 3
  (aU (kE (aC KU (aB 1) (aB 2)) (kE (aC (lY true) (aB 1) (aC aY (aB 0) (aB 2))) (aC (lY true) (aB 2) (aC aY (aB 0) (aB 1))))))
def fH:eT:=bK 3 1
  (aH (iA 1 (dL aE))
  (aH (dE (aR (aA (bF aV (aA (aB 0) aE)) aE)) (lE 2)
   (sX (kU 1 NC (aZ (bJ 1 [2,0] (aR (aA (aC bO (aB 2) (eC (.int 1))) (aA (bF aV (aA (aB 0) aE)) aE))) (g1 0) (tV (aG LL.cK (aA (aB 2) (aA (aB 1) (aA (aB 0) aE))))) (dG (aA (aB 1) (aA (aB 0) aE))))))))
  (aU (bF bW (aA (aB 1) aE)))))
def wV:eT:=bK 2 2
  (aU (bF bW (aA (bJ 2 [1] (nV (aA (aB 0) aE)) (g2 0 1) (tV (aC (lY false) (aB 2) (aB 1))) (aB 0)) aE)))
def lN:eT:=bK 1 1
  (aU (bF bW (aA (bJ 1 [0] (aR (aA (bF aV (aA (aB 0) aE)) aE)) (g1 0) cH (aG LL.wV (aA (aB 1) (aA (aB 0) aE)))) aE)))
def jZ:eT:=bK 7 3
  (aH (aN 3 (aC bO (bF rM (aA (aC aY (aB 0) (aB 1)) aE)) (dL (aA (aB 1) aE))))
  (aH (iA 4 (dL aE))
  (aH (dE (aR (aA (bF aV (aA (aB 0) aE)) aE)) (lE 5)
   (aH (aN 6 (bF rM (aA (aC aY (aB 0) (aB 5)) aE)))
   (aH (eV (u4 (tV (aC kT (aB 5) (aB 2))) (tV (aC (lY false) (aB 2) (aC aY (aB 0) (aB 5)))))
    (aN 6 (aC bO (aB 6) (bJ 1 [6] (dD (aB 3)) (g1 0) (tV (aC (lY true) (aB 0) (aB 1))) (aB 0))))
    bY)
   (sX (kU 4 eX (aZ (bF bW (aA (bF gE (aA (aB 6) aE)) aE))))))))
  (aU (bF bW (aA (aB 4) aE))))))
theorem isi{T:String}{f:EF}{Z:bR}{d:D}(h:f Z=some d)(hn:aBF d=true:=by rfl):nP T f Z=some (.bl (aBE T d)):=by unfold nP; rw [h]; exact if_pos hn
theorem AZ{α:Type}{g:K2}{b:SF}{z:D}(P:aP->Prop)(mk:α->D)(ok:α->Bool):∀ (l:List α) (Z:aP),P Z->(∀ a∈l,∀ Z,P Z -> ∃ ρ1,g (mk a) Z=some ρ1/\(ok a=true->Nx (b ρ1) P)/\(ok a=false->b ρ1=.rt z)) ->
  (l.all ok=true->Nx (gU g b (l.map mk) Z) P)/\(l.all ok=false->gU g b (l.map mk) Z=.rt z)
 | [],Z,h,_=>⟨λ_=>⟨Z,rfl,h⟩,λe=>by cases e⟩
 | a::l,Z,h,step=>by
  obtain ⟨ρ1,e1,h1,h2⟩:=step a (by simp) Z h
  cases hd:ok a with
  | true =>
   obtain ⟨ρ2,e2,p2⟩:=h1 hd;have ih:=AZ P mk ok l ρ2 p2 λd' hd'=>step d' (by simp [hd']);simp only [map_cons,gU,e1,e2,all_cons,hd,Bool.true_and];exact ih
  | false =>
   have e2:=h2 hd;simp only [map_cons,gU,e1,e2,all_cons,hd,Bool.false_and];exact ⟨λe=>(by cases e),λ_=>trivial⟩
def row(rows:List (List Int))(b:Int):List Int:=(rows[b.toNat]?).getD []
theorem kL{rows:List (List Int)}{i:Int}(h0:0<=i)(h1:i<rows.length):aY (aJ rows) (.int i)=some (tupI (row rows i)):=by
 have hl:i.toNat<rows.length:=by omega
 rw [show aJ rows=.tup (rows.map tupI) from rfl,K9,CU];unfold zG row;rw [CT h0 h1];simp [hl]
theorem IE{i:Int}{xs:List Int}:lY false (.int i) (tupI xs)=some (.bl (xs.contains i)):=by unfold tupI; rw [pC]; rfl
theorem CW{i:Int}{xs:List Int}:lY true (.int i) (tupI xs)=some (.bl (!xs.contains i)):=by unfold tupI; rw [pC]; rfl
theorem dZ{rows:List (List Int)}:aV [aJ rows]=some (.int rows.length):=by unfold aJ; rw [wN,length_map]
theorem E4{xs:List Int}:aV [tupI xs]=some (.int xs.length):=by unfold tupI; rw [wN,length_map]
theorem zipIdx_map{α β:Type}(f:α->β)(l:List α)(m:Nat):(l.map f).zipIdx m=(l.zipIdx m).map λp=>(f p.1,p.2):=by
 induction l generalizing m with
 | nil=>rfl
 | cons a l ih=>simp [List.zipIdx_cons,ih]
theorem jH(a n:Int):dA [.int a,.int n]=.ok (.bl (decide (0<=a)&&decide (a<n))):=by
 unfold dA;refine jP rfl (kH ?_);show kF W9 W2 (eC (.int 0)) (aB 0) (aB 1) [some (.int a),some (.int n)]=_;unfold kF;simp only [eC,aB,List.getElem?_cons_zero,List.getElem?_cons_succ,Option.join_some,bind_some,CP,K6,rR];by_cases h:0<=a
 .simp [h]
 .simp [h]
theorem CY{xs:List Int}{n:Int}(hl:xs.length<=1000000)(hu:xs.Pairwise (·<·))(hr:∀ x∈xs,0<=x/\x<n):gW [tupI xs,.int n]=.ok (.bl true):=by
 unfold gW;have key:=wR (g:=HK 2 3) (b:=aH (eV (hZ (tV (aG LL.dA (aA (aB 3) (aA (aB 1) aE)))))
    (aU (eC (.bl false)))
    bY)
   (eV (kX (tV (aC tL (aB 2) (eC (.int 0)))) (tV (aC geM (aC aY (aB 0) (aC fE (aB 2) (eC (.int 1)))) (aB 3))))
    (aU (eC (.bl false)))
    bY)) (λ_ Z=>∃ v2 v3,Z=[Sv.ro (tupI xs),Sv.ro (.int n),v2,v3]) ((xs.map D.int).zipIdx.map λp=>.tup [.int (p.2:Int),p.1])
   (Z:=[Sv.ro (tupI xs),Sv.ro (.int n),Sv.no,Sv.no]) ⟨_,_,rfl⟩ λi d Z hd hp=>by
  obtain ⟨v2,v3,rfl⟩:=hp;rw [zipIdx_map,map_map,getElem?_map] at hd;obtain ⟨⟨x,j⟩,hz,rfl⟩:∃ p,xs.zipIdx[i]? = some p/\((λp=>D.tup [.int (p.2:Int),p.1])∘λp:Int×Nat=>(D.int p.1,p.2)) p=d:=by
   cases q:xs.zipIdx[i]? with
   | none=>rw [q] at hd; cases hd
   | some p=>rw [q] at hd; exact ⟨p,rfl,Option.some.inj hd⟩
  rw [getElem?_zipIdx] at hz;obtain ⟨hx,ej⟩:xs[i]? = some x/\j=i:=by
   cases q:xs[i]? with
   | none=>rw [q] at hz; cases hz
   | some y=>rw [q] at hz; simp at hz; exact ⟨by rw [hz.1],hz.2.symm⟩
  subst ej;have hm:=hr x (mem_of_getElem? hx);refine ⟨[Sv.ro (tupI xs),Sv.ro (.int n),Sv.ro (.int j),Sv.ro (.int x)],[Sv.ro (tupI xs),Sv.ro (.int n),Sv.ro (.int j),Sv.ro (.int x)],rfl,fF _ (NJ ?_ rfl) (NJ ?_ rfl),_,_,rfl⟩
  .show Option.map _ ((aG _ _ _).bind iP)=_;rw [eM rfl rfl (jH x n)];simp [iP,hm]
  .show ((aC tL _ _ _).bind iP).bind _=_;rw [aM (x:=.int j) (y:=.int 0) rfl rfl jX];by_cases h0:(0:Int)<(j:Int)
   .obtain ⟨y,hy⟩:∃ y,xs[j - 1]? = some y:=⟨_,getElem?_eq_getElem (by have:=(List.getElem?_eq_some_iff.mp hx).1; omega)⟩;have hxy:y<x:=by obtain ⟨q1,rfl⟩:=List.getElem?_eq_some_iff.mp hx;obtain ⟨q2,rfl⟩:=List.getElem?_eq_some_iff.mp hy;exact List.pairwise_iff_getElem.mp hu (j - 1) j q2 q1 (by omega)
    have e2:aC aY (aB 0) (aC fE (aB 2) (eC (.int 1))) (bT [Sv.ro (tupI xs),Sv.ro (.int n),Sv.ro (.int j),Sv.ro (.int x)])=some (.int y):=by refine aM rfl (aM rfl rfl rO) ?_;rw [show (j:Int) - 1=((j - 1:Nat):Int) by omega];exact lF hy
    simp only [h0,decide_true,AQ,bind_some,if_true];show (aC geM _ _ _).bind iP=_;rw [aM e2 rfl K7];simp [iP]; omega
   .rw [decide_eq_false h0]; rfl
 obtain ⟨ρ',e,v2,v3,rfl⟩:=key;exact jP rfl (fF _ (RK _ rfl e) (kH rfl))
def fM(rows:List (List Int))(a b:Int):Bool:=!decide (a=b)&&(!(row rows b).contains a && !(row rows a).contains b)
theorem m9{rows:List (List Int)}{a b:Int}(ha:0<=a/\a<(rows.length:Int))(hb:0<=b/\b<(rows.length:Int)):cK [aJ rows,.int a,.int b]=.ok (.bl (fM rows a b)):=by unfold cK;refine jP rfl (kH ?_);show kE (aC KU (aB 1) (aB 2)) _ _=_;unfold kE;rw [aM (x:=.int a) (y:=.int b) rfl rfl CQ,aM (x:=.int a) (y:=tupI (row rows b)) rfl (aM rfl rfl (kL hb.1 hb.2)) CW,aM (x:=.int b) (y:=tupI (row rows a)) rfl (aM rfl rfl (kL ha.1 ha.2)) CW];simp only [bind_some,rR,fM];cases decide (a=b)<;>cases (row rows b).contains a<;>rfl
def pairD(p:Int×Int):D:=.tup [.int p.1,.int p.2]
def cZ(rows:List (List Int))(a:Int):List (Int×Int):=((bG (a+1) (rows.length - (a+1)).toNat).filter λb=>fM rows a b).map λb=>(a,b)
def loose(rows:List (List Int)):List (Int×Int):=(bG 0 rows.length).flatMap (cZ rows)
theorem n4(rows:List (List Int)){a:Int}(ha:0<=a):(cZ rows a).length<=rows.length:=by unfold cZ;rw [length_map];refine le_trans (length_filter_le _ _) ?_;rw [aQ]; omega
theorem wW{rows:List (List Int)}(hn:rows.length<=1000):fH [aJ rows]=.ok (.tup ((loose rows).map pairD)):=by
 unfold fH;have hlen:∀ k,k<=rows.length->((bG 0 k).flatMap (cZ rows)).length<=k*rows.length:=by
  intro k
  induction k with
  | zero=>intro _; simp [bG]
  | succ k ih =>
   intro hk;rw [iQ,flatMap_append,List.length_append];have:=ih (by omega);have h2:=n4 rows (a:=0+(k:Int)) (by omega);simp only [flatMap_cons,List.flatMap_nil,append_nil];rw [Nat.add_mul];omega
 obtain ⟨ρ',e,v2,rfl⟩:Nx (dE (aR (aA (bF aV (aA (aB 0) aE)) aE)) (lE 2)
   (sX (kU 1 NC (aZ (bJ 1 [2,0] (aR (aA (aC bO (aB 2) (eC (.int 1))) (aA (bF aV (aA (aB 0) aE)) aE))) (g1 0) (tV (aG LL.cK (aA (aB 2) (aA (aB 1) (aA (aB 0) aE))))) (dG (aA (aB 1) (aA (aB 0) aE)))))))
   [Sv.ro (aJ rows),Sv.ow (.lst []),Sv.no]) (λZ=>∃ v2,Z=[Sv.ro (aJ rows),Sv.ow (.lst ((loose rows).map pairD)),v2]):=by
  refine nZ rows.length (λi Z=>∃ v2,Z=[Sv.ro (aJ rows),Sv.ow (.lst (((bG 0 i).flatMap (cZ rows)).map pairD)),v2]) ?_ (by omega) ⟨_,rfl⟩ ?_ ?_
  .exact args1 (dJ rfl dZ)
  .rintro i _ hi ⟨v2,rfl⟩;refine ⟨_,rfl,[Sv.ro (aJ rows),Sv.ow (.lst (((bG 0 (i+1)).flatMap (cZ rows)).map pairD)),Sv.ro (.int i)],?_,_,rfl⟩;have ec:=mE (nl:=1) (fr:=[2,0]) (it:=aR (aA (aC bO (aB 2) (eC (.int 1))) (aA (bF aV (aA (aB 0) aE)) aE))) (g:=g1 0) (t:=tV (aG LL.cK (aA (aB 2) (aA (aB 1) (aA (aB 0) aE))))) (e:=dG (aA (aB 1) (aA (aB 0) aE)))
    (Z:=[some (aJ rows),none,some (.int (i:Int))]) ((bG ((i:Int)+1) (rows.length - ((i:Int)+1)).toNat).map D.int) (ys:=(cZ rows (i:Int)).map pairD)
    (aAS (aM (x:=.int i) (y:=.int 1) rfl rfl jE) (dJ rfl dZ) (by omega) (by omega))
    (by rw [length_map,aQ]; omega)
    (by
     unfold cZ;rw [map_map];refine jF D.int (λb=>fM rows (i:Int) b) _ _ λb hb=>⟨_,rfl,?_,λ_=>rfl⟩;have hb:=cB.mp hb;show (aG _ _ _).bind iP=_;rw [fL (x:=aJ rows) (y:=.int i) (z:=.int b) rfl rfl rfl (m9 ⟨by omega,by omega⟩ ⟨by omega,by omega⟩)];rfl)
   have ex:aZ (bJ 1 [2,0] (aR (aA (aC bO (aB 2) (eC (.int 1))) (aA (bF aV (aA (aB 0) aE)) aE))) (g1 0) (tV (aG LL.cK (aA (aB 2) (aA (aB 1) (aA (aB 0) aE))))) (dG (aA (aB 1) (aA (aB 0) aE)))) [Sv.ro (aJ rows),Sv.ow (.lst (((bG 0 i).flatMap (cZ rows)).map pairD)),Sv.ro (.int i)]=some ([Sv.ro (aJ rows),Sv.ow (.lst (((bG 0 i).flatMap (cZ rows)).map pairD)),Sv.ro (.int i)],.lst ((cZ rows (i:Int)).map pairD)):=by unfold aZ;rw [show kD _=[some (aJ rows),none,some (.int (i:Int))] from rfl,ec];rfl
   unfold sX kU;show (match ((nQ (some (Sv.ow (.lst _)))).bind _:Option (aP×D)) with | some p=>_ | none=>_)=_;simp only [nQ,bind_some];rw [show [Sv.ro (aJ rows),Sv.ow (.lst (((bG 0 i).flatMap (cZ rows)).map pairD)),v2].set 2 (Sv.ro (.int (i:Int)))=[Sv.ro (aJ rows),Sv.ow (.lst (((bG 0 i).flatMap (cZ rows)).map pairD)),Sv.ro (.int i)] from rfl,ex];simp only [bind_some,List.getElem?_cons_succ,List.getElem?_cons_zero,nQ];rw [XM (by
    have h1:=hlen i (by omega);have h2:=n4 rows (a:=(i:Int)) (by omega);have h3:i*rows.length<=1000*1000:=Nat.mul_le_mul (by omega) hn;rw [length_map,length_map]; omega)]
   simp only [map_some,List.set_cons_succ,List.set_cons_zero];rw [iQ,flatMap_append,map_append];simp
  .rintro _ ⟨v2,rfl⟩;exact ⟨v2,rfl⟩
 exact jP rfl (fF _ rfl (fF _ e (kH rfl)))
end LL
end
section
namespace Ord
def rel(rows:List (List Int))(a b:Nat):Bool:=(rows.getD b []).contains (a:Int)
end Ord
end
section
namespace Ord
theorem LD{x:List (List Int)}{a b:Nat}{r:List Int}(h:x[b]? = some r):rel x a b=true↔(a:Int)∈r:=by unfold rel;rw [getD_eq_getElem?_getD,h];simp
theorem RT{y:List (List Int)}(h:Rows y){b:Nat}{v:List Int}(hv:y[b]? = some v){z:Int}:z∈v ↔ ∃ a:Nat,z=(a:Int)/\a<y.length/\rel y a b=true:=by
 constructor
 .intro hz;obtain ⟨q1,q2⟩:=h.rng _ _ hv _ hz;refine ⟨z.toNat,by omega,by omega,?_⟩;rw [LD hv,show ((z.toNat:Nat):Int)=z by omega];exact hz
 .rintro ⟨a,rfl,h1,h2⟩
  rwa [LD hv] at h2
theorem Rows.short{x:List (List Int)}(h:Rows x){r:List Int}(hr:r∈x):r.length<=x.length:=by
 obtain ⟨b,hb⟩:=List.mem_iff_getElem?.mp hr;have nd:r.Nodup:=(h.up b r hb).imp λq=>by omega
 have:=eJ r (L4.bG 0 x.length) nd λa ha=>LL.cB.mpr (by have:=h.rng b r hb a ha; omega)
 rwa [LL.aQ] at this
end Ord
end
section
namespace XS
open PySem L3 L4
def nR:eT:=bK 2 2
  (aU (bF bW (aA (bJ 1 [1] (XB (aA (aB 0) aE)) (g1 0) cH (aC fE (aC fE (aB 1) (eC (.int 1))) (aB 0))) aE)))
def kM:eT:=bK 1 1
  (aU (bF bW (aA (bJ 1 [0] (XB (aA (aB 0) aE)) (g1 0) cH (aG nR (aA (aB 0) (aA (bF aV (aA (aB 1) aE)) aE)))) aE)))
def rT:eT:=bK 3 1
  (aH (aN 1 (dL aE))
  (aH (dE (aR (aA (bF aV (aA (aB 0) aE)) aE)) (lE 2)
   (aN 1 (aC bO (aB 1) (bJ 1 [2] (dD (aC aY (aB 0) (aB 2))) (g1 0) cH (dG (aA (aB 0) (aA (aB 1) aE)))))))
  (aU (bF CK (aA (aB 1) aE)))))
def wZ:eT:=bK 2 2
  (aU (bF bW (aA (bJ 1 [1] (aR (aA (aB 0) aE)) (g1 0) cH (bF bW (aA (bF gE (aA (bJ 2 [0] (dD (aB 1)) (g2 0 1) (tV (aC kT (aB 1) (aB 2))) (aB 0)) aE)) aE))) aE)))
def rV:eT:=bK 7 1
  (aH (aN 1 (aG LL.pA (aA (aB 0) (aA (eC (.int 0)) (aA (eC (.int 9)) (aA (eC (.int 100003)) aE))))))
  (aH (aN 2 (bF aV (aA (aB 1) aE)))
  (aH (aN 3 (aG rT (aA (aB 1) aE)))
  (aH (aN 4 (aG wZ (aA (aB 2) (aA (bJ 2 [2] (dD (aB 3)) (g2 0 1) cH (dG (aA (aC fE (aC fE (aB 2) (eC (.int 1))) (aB 0)) (aA (aC fE (aC fE (aB 2) (eC (.int 1))) (aB 1)) aE)))) aE))))
  (aH (aN 5 (aG wZ (aA (aB 2) (aA (bJ 2 [] (dD (aB 3)) (g2 0 1) cH (dG (aA (aB 1) (aA (aB 0) aE)))) aE))))
  (aH (aN 6 (aG wZ (aA (aB 2) (aA (bJ 2 [2] (dD (aB 3)) (g2 0 1) cH (dG (aA (aC fE (aC fE (aB 2) (eC (.int 1))) (aB 1)) (aA (aC fE (aC fE (aB 2) (eC (.int 1))) (aB 0)) aE)))) aE))))
  (aH (eV (u4 (hZ (tV (aG (LL.iD 6) (aA (aG kM (aA (aB 1) aE)) (aA (aB 4) aE))))) (hZ (tV (aG (LL.iD 6) (aA (aG LL.lN (aA (aB 1) aE)) (aA (aB 5) aE))))))
   (aU (eC (.bl false)))
   bY)
  (aH (eV (u4 (hZ (tV (aG (LL.iD 6) (aA (aG kM (aA (aB 4) aE)) (aA (aB 1) aE))))) (hZ (tV (aG (LL.iD 6) (aA (aG LL.lN (aA (aB 5) aE)) (aA (aB 1) aE))))))
   (aU (eC (.bl false)))
   bY)
  (aU (kE (aG (LL.iD 6) (aA (aG kM (aA (aB 5) aE)) (aA (aB 6) aE))) (aG (LL.iD 6) (aA (aG LL.lN (aA (aB 4) aE)) (aA (aB 6) aE)))))))))))))
end XS
end
section
namespace XS
open PySem L3 L4 LL
def pr(p:Int×Int):List Int:=[p.1,p.2]
def aDo(x:List (List Int))(k:Nat):List (Int×Int):=(bG 0 k).flatMap λb=>(row x b).map λa=>(a,b)
theorem j0{x:List (List Int)}{b:Int}(h0:0<=b)(h1:b<(x.length:Int)):x[b.toNat]? = some (row x b):=by
 have:b.toNat<x.length:=by omega
 unfold row;rw [getElem?_eq_getElem this];rfl
def un(t:List Int):Int×Int:=(t.getD 0 0,t.getD 1 0)
def srt(l:List (Int×Int)):List (Int×Int):=(Q8 (l.map pr)).map un
end XS
end
section
namespace K03
open PySem L3 L4
def A1:eT:=bK 4 1
  (aH (iA 1 (dL aE))
  (aH (dE (nV (aA (aB 0) aE)) (HK 2 3)
   (sX (kU 1 NC (aZ (bJ 1 [2] (dD (aB 3)) (g1 0) cH (dG (aA (aB 0) (aA (aB 1) aE))))))))
  (aU (bF bW (aA (bF CK (aA (aB 1) aE)) aE)))))
def NL:eT:=bK 4 2
  (aH (aN 2 (aC aY (aB 1) (eC (.int 0))))
  (aH (aN 3 (aC aY (aB 1) (eC (.int 1))))
  (aU (W8 (bF anyM (aA (bJ 1 [2,0] (dD (aC aY (aB 0) (aB 3))) (g1 0) cH (aC (lY false) (aB 1) (aC aY (aB 2) (aB 0)))) aE))))))
def E5:eT:=bK 1 1
  (aU (bF bW (aA (bJ 1 [0] (dD (aG A1 (aA (aB 0) aE))) (g1 0) (tV (aG NL (aA (aB 1) (aA (aB 0) aE)))) (aB 0)) aE)))
def rT:eT:=bK 3 1
  (aH (aN 1 (dL aE))
  (aH (dE (aR (aA (bF aV (aA (aB 0) aE)) aE)) (lE 2)
   (aN 1 (aC bO (aB 1) (bJ 1 [2] (dD (aC aY (aB 0) (aB 2))) (g1 0) cH (dG (aA (aB 0) (aA (aB 1) aE)))))))
  (aU (bF CK (aA (aB 1) aE)))))
def IF:eT:=bK 9 2
  (aH (iA 2 (dL aE))
  (aH (dE (aR (aA (aB 0) aE)) (lE 3)
   (aH (iA 4 (dL aE))
   (aH (iA 5 (dL (aA (aB 3) aE)))
   (aH (CJ Q7 (tV (aC tL (bF aV (aA (aB 5) aE)) (eC (.int 0))))
    (aH (uL 6 (AN 5))
    (dE (dD (aB 1)) (HK 7 8)
     (eV (kX (tV (aC kT (aB 8) (aB 6))) (tV (aC (lY true) (aB 7) (aB 4))))
      (aH (sX (kU 4 eX (aZ (aB 7))))
      (sX (kU 5 eX (aZ (aB 7)))))
      bY))))
   (aH (eV (tV (aC (lY false) (aB 3) (aB 4)))
    (aU (eC .non))
    bY)
   (sX (kU 2 eX (fZ (bF bW (aA (bF gE (aA (aB 4) aE)) aE))))))))))
  (aU (bF bW (aA (aB 2) aE)))))
def RU:eT:=bK 5 1
  (aH (iA 1 (dL aE))
  (aH (dE (dD (aG rT (aA (aB 0) aE))) (HK 2 3)
   (aH (aN 4 (bJ 1 [2,0,3] (aR (aA (bF aV (aA (aB 0) aE)) aE)) (g1 0) (kX (tV (aC (lY false) (aB 1) (aC aY (aB 2) (aB 0)))) (tV (aC (lY false) (aB 0) (aC aY (aB 2) (aB 3))))) (aB 0)))
   (eV (tV (aC kT (bF aV (aA (aB 4) aE)) (eC (.int 0))))
    (sX (kU 1 eX (aZ (dG (aA (aB 2) (aA (aB 3) aE))))))
    bY)))
  (aU (aB 1))))
def tQ:eT:=bK 2 1
  (aH (aN 1 (aG E5 (aA (aB 0) aE)))
  (aH (eV (u4 (hZ (tV (aG (LL.iD 6) (aA (aG A1 (aA (aB 0) aE)) (aA (bF bW (aA (aG rT (aA (aB 0) aE)) aE)) aE))))) (hZ (tV (aG (LL.iD 6) (aA (aB 1) (aA (bF bW (aA (aG RU (aA (aB 0) aE)) aE)) aE))))))
   (aU (eC (.bl false)))
   bY)
  (aU (aC qE (aG IF (aA (bF aV (aA (aB 0) aE)) (aA (aB 1) aE))) (aB 0)))))
def rV:eT:=bK 3 1
  (aH (aN 1 (aG LL.pA (aA (aB 0) (aA (eC (.int 0)) (aA (eC (.int 9)) (aA (eC (.int 100003)) aE))))))
  (aH (aN 2 (aG LL.pA (aA (aB 0) (aA (eC (.int 2)) (aA (eC (.int 9)) (aA (eC (.int 300007)) aE))))))
  (aU (kE (aG tQ (aA (aB 1) aE)) (kE (aG tQ (aA (aB 2) aE)) (aG tQ (aA (aB 1) aE)))))))
end K03
end
section
namespace K03
open PySem L3 L4 LL XS
theorem aIU{i:Nat}{m:List D->D->Option (List D×D)}{x:XF}{Z ρ1:aP}{d:D}{ds0 ds:List D}{q:List D×D}(h0:nQ Z[i]? = some ds0)(hx:x Z=some (ρ1,d))(h1:nQ ρ1[i]? = some ds)(hm:m ds d=some q) :
  kU i m x Z=some (ρ1.set i (.ow (.lst q.1)),q.2):=by
 unfold kU;rw [h0,bind_some,hx,bind_some,h1,bind_some,hm];rfl
section
variable{x:List (List Int)}(hx:Ord.Rows x)
include hx
theorem E6{a c:Int}(h0:0<=c)(h1:c<(x.length:Int))(h:a∈row x c):0<=a/\a<(x.length:Int):=hx.rng _ _ (j0 h0 h1) a h
theorem XT{a b c:Int}(h0:0<=c)(h1:c<(x.length:Int))(hb:b∈row x c)(ha:a∈row x b):a∈row x c:=by obtain ⟨b0,b1⟩:=E6 hx h0 h1 hb;exact hx.tr c.toNat b.toNat _ _ (j0 h0 h1) (by rw [show ((b.toNat:Nat):Int)=b by omega]; exact hb) (j0 b0 b1) a ha
theorem aDq{c:Int}(h0:0<=c)(h1:c<(x.length:Int)):c∉row x c:=λh=>hx.W4 c.toNat _ (j0 h0 h1) (by rw [show ((c.toNat:Nat):Int)=c by omega]; exact h)
end
def aBN(x:List (List Int))(p:Int×Int):Bool:=!(row x p.2).any λc=>(row x c).contains p.1
structure Cl (x:List (List Int)) (P:List (Int×Int)) (b:Int) (u f:List Int):Prop where
 nd:u.Nodup
 sub:∀ a∈u,a∈row x b
 fr:∀ a∈f,a=b\/a∈u
 cl:∀ c,(c=b\/c∈u)->c∉f -> ∀ a,(a,c)∈P->a∈u
abbrev T(x:List (List Int)):List (Int×Int):=srt (aDo x x.length)
abbrev B(x:List (List Int)):List (Int×Int):=(T x).filter (aBN x)
end K03
end
section
namespace LL
open PySem L3 L4
def NM:eT:=bK 5 3
  (aH (eV (tV (aC geM (aB 0) (aC HQ (eC (.int 10)) (eC (.int 18)))))
   (aU (aC dI (aC mX (aB 0) (eC (.int 64))) (aB 1)))
   bY)
  (aH (aN 3 (eC (.int 0)))
  (aH (dE (aR (aA (eC (.int 20)) aE)) (lE 4)
   (aN 3 (aC bO (aC mulM (aB 3) (eC (.int 1000000007))) (aG LL.fU (aA (aB 0) (aA (aB 4) (aA (aB 2) aE)))))))
  (aU (aC dI (aB 3) (aB 1))))))
theorem runN{n np:Nat}{b:SF}{ds:List D}{Z:aP}(hl:ds.length=np)(h:b (fA n ds)=.nx Z):bK n np b ds=.ok .non:=by unfold bK;rw [if_pos hl,h]
theorem aIW{r:RF}{f:SF}{Z:aP}{o:Out}(h:r (bT Z)=none)(h2:f Z=o):wJ r f Z=o:=by unfold wJ;rw [h];exact h2
theorem aIX{a:EF}{Z:bR}{x:D}(ha:a Z=some x):dG (aA a aE) Z=some (.tup [x]):=LA (args1 ha) (by simp)
theorem NN{a b:EF}{Z:bR}{x y:D}(ha:a Z=some x)(hb:b Z=some y):dG (aA a (aA b aE)) Z=some (.tup [x,y]):=LA (args2 ha hb) (by simp)
def at0(fl:List Int)(a:Int):Int:=(fl[a.toNat]?).getD 0
theorem aBO{fl:List Int}{a:Int}(h0:0<=a)(h1:a<(fl.length:Int)):aY (tupI fl) (.int a)=some (.int (at0 fl a)):=by obtain ⟨x,_,e,e2⟩:=RL h0 h1;show zG (fl.map D.int) a=_;rw [CU,e];unfold at0;rw [e2];rfl
theorem w4{fl:List Int}{a:Int}(h0:0<=a)(h1:a<(fl.length:Int)):aY (aK fl) (.int a)=some (.int (at0 fl a)):=aBO h0 h1
def bA:eT:=bK 3 3
  (eV (u4 (hZ (tV (aG LL.dA (aA (aB 1) (aA (aB 0) aE))))) (hZ (tV (aG LL.dA (aA (aB 2) (aA (aB 0) aE))))))
   (rN (aA (eC (.str "a number that is no thing of the order")) aE) "NoThing")
   bY)
def eW:eT:=bK 8 3
  (aH (wJ (wH LL.bA (aA (bF aV (aA (aB 0) aE)) (aA (aB 1) (aA (aB 2) aE)))) (sX (aZ (aG LL.bA (aA (bF aV (aA (aB 0) aE)) (aA (aB 1) (aA (aB 2) aE)))))))
  (aH (eV (u4 (tV (aC kT (aB 1) (aB 2))) (tV (aC (lY false) (aB 2) (aC aY (aB 0) (aB 1)))))
   (rN (aA (eC (.str "a thing would lie under itself")) aE) "Looped")
   bY)
  (aH (aN 3 (aC bO (aC aY (aB 0) (aB 1)) (dG (aA (aB 1) aE))))
  (aH (iA 4 (dL aE))
  (aH (XG (dE (nV (aA (aB 0) aE)) (HK 5 6)
   (aH (aN 7 (eOr (aC kT (aB 5) (aB 2)) (aC (lY false) (aB 2) (aB 6))))
   (sX (kU 4 eX (aZ (eIf (tV (aB 7)) (bF bW (aA (bF gF (aA (aC bO (aB 6) (aB 3)) aE)) aE)) (aB 6))))))))
  (aU (bF bW (aA (aB 4) aE))))))))
theorem RV{ns:List Int}{k a:Int}:a∈putN ns k↔a∈ns\/a=k:=by
 unfold putN;split
 .rename_i h;exact ⟨.inl,λq=>q.elim id λz=>z▸h⟩
 .rw [mem_append,mem_singleton]
theorem IG{ns:List Int}{k:Int}(h:ns.Nodup):(putN ns k).Nodup:=by
 unfold putN;split
 .exact h
 .rename_i z;exact List.nodup_append.mpr ⟨h,by simp,λa ha b hb=>by rw [mem_singleton] at hb;intro e;subst e;subst hb;exact z ha⟩
theorem A2:∀ (ks ns:List Int),ns.Nodup->(ks.foldl putN ns).Nodup /\ ∀ a,a∈ks.foldl putN ns↔a∈ns\/a∈ks
 | [],ns,h=>⟨h,λa=>by simp⟩
 | k::ks,ns,h=>by obtain ⟨h1,h2⟩:=A2 ks (putN ns k) (IG h);refine ⟨h1,λa=>?_⟩;rw [foldl_cons,h2,RV,mem_cons,or_assoc]
theorem RW(ns:List Int):(CM ns).Nodup /\ ∀ a,a∈CM ns↔a∈ns:=by obtain ⟨h1,h2⟩:=A2 ns [] (by simp);exact ⟨h1,λa=>by unfold CM; rw [h2]; simp⟩
def both(r l:List Int):List Int:=sortI (CM (r++l))
theorem CZ(r l:List Int):(both r l).Pairwise (·<·):=by have h1:=jY (CM (r++l));have h2:(both r l).Nodup:=(sortI_perm (CM (r++l))).nodup_iff.mpr (RW _).1;exact (List.Pairwise.and h1 h2).imp λq=>by omega
theorem E7{r l:List Int}{a:Int}:a∈both r l↔a∈r\/a∈l:=by unfold both;rw [(sortI_perm _).mem_iff,(RW _).2,mem_append]
theorem XU{r l:List Int}(h:r.length+l.length<64):gF [.tup (r.map D.int++l.map D.int)]=some (.lst ((both r l).map D.int)):=by unfold gF;rw [<- map_append];dsimp only;rw [eK];show (if (r++l).length<64 then _ else _)=_;rw [if_pos (by rw [List.length_append]; exact h)];rfl
theorem rc3{R:eT}{a b c:EF}{Z:bR}{x y z:D}{o:Option Str}(ha:a Z=some x)(hb:b Z=some y)(hc:c Z=some z)(h:aDh (R [x,y,z])=o):wH R (aA a (aA b (aA c aE))) Z=o:=by unfold wH aA aE;rw [ha,hb,hc];exact h
def thing(n a:Int):Bool:=decide (0<=a)&&decide (a<n)
theorem A3{n a b:Int}(ha:thing n a=true)(hb:thing n b=true):bA [.int n,.int a,.int b]=.ok .non:=by unfold bA;refine runN (Z:=[Sv.ro (.int n),Sv.ro (.int a),Sv.ro (.int b)]) rfl (NJ ?_ rfl);refine RP (b:=false) (XQ (mZ (eM rfl rfl (jH a n)) rfl) (by rw [show (decide (0<=a)&&decide (a<n))=true from ha]; rfl)) (λ_=>?_) (λz=>by cases z);exact XQ (mZ (eM rfl rfl (jH b n)) rfl) (by rw [show (decide (0<=b)&&decide (b<n))=true from hb]; rfl)
theorem fI{n a:Int}:thing n a=true↔0<=a/\a<n:=by simp [thing]
theorem aDr{Z:aP}{x:List (List Int)}{a b:Int}{r:aP}(hr:Z=Sv.ro (aJ x)::Sv.ro (.int a)::Sv.ro (.int b)::r)(ha:thing x.length a=true)(hb:thing x.length b=true) :
  wJ (wH LL.bA (aA (bF aV (aA (aB 0) aE)) (aA (aB 1) (aA (aB 2) aE)))) (sX (aZ (aG LL.bA (aA (bF aV (aA (aB 0) aE)) (aA (aB 1) (aA (aB 2) aE)))))) Z=.nx Z:=by
 subst hr;refine aIW (rc3 (dJ rfl dZ) rfl rfl (by rw [A3 ha hb]; rfl)) ?_;unfold sX aZ;rw [fL (dJ rfl dZ) rfl rfl (A3 ha hb)];rfl
def vB(b:Int)(lower:List Int)(p:List Int×Nat):List Int:=if decide ((p.2:Int)=b)||p.1.contains b then both p.1 lower else p.1
def put(x:List (List Int))(a b:Int):List (List Int):=x.zipIdx.map (vB b (row x a++[a]))
def nL(x:List (List Int))(a b:Int):Bool:=decide (a=b)||(row x a).contains b
theorem NO{x:List (List Int)}{a b:Int}{r:aP}(ha:thing x.length a=true):(u4 (tV (aC kT (aB 1) (aB 2))) (tV (aC (lY false) (aB 2) (aC aY (aB 0) (aB 1))))) (bT (Sv.ro (aJ x)::Sv.ro (.int a)::Sv.ro (.int b)::r))=some (nL x a b):=by obtain ⟨h0,h1⟩:=fI.mp ha;refine RP (b:=decide (a=b)) (mZ (aM (x:=.int a) (y:=.int b) rfl rfl fV) rfl) (λz=>?_) (λz=>by unfold nL; rw [z]; rfl);unfold nL;rw [z,Bool.false_or];exact mZ (aM (x:=.int b) (y:=tupI (row x a)) rfl (aM (x:=aJ x) (y:=.int a) rfl rfl (kL h0 h1)) IE) rfl
theorem RX{x:List (List Int)}{a b:Int}(hn:x.length<=1000)(hr:∀ r∈x,r.length<=9)(ha:thing x.length a=true)(hb:thing x.length b=true)(h:nL x a b=false):eW [aJ x,.int a,.int b]=.ok (aJ (put x a b)):=by
 obtain ⟨h0,h1⟩:=fI.mp ha;have hw:(row x a).length<=9:=by unfold row;rw [getElem?_eq_getElem (by omega)];exact hr _ (getElem_mem _)
 unfold eW;refine jP rfl (fF _ (aDr rfl ha hb) (fF _ (NJ ((NO ha).trans (congrArg some h)) rfl) (fF _ (iE (tupI (row x a++[a])) (aM (x:=tupI (row x a)) (y:=.tup [.int a]) (aM (x:=aJ x) (y:=.int a) rfl rfl (kL h0 h1)) (aIX rfl) ?_) rfl) (fF [Sv.ro (aJ x),Sv.ro (.int a),Sv.ro (.int b),Sv.ro (tupI (row x a++[a])),Sv.ow (.lst []),Sv.no,Sv.no,Sv.no] rfl ?_))))
 .unfold tupI;rw [EY (by simp; omega),map_append];rfl
 .have L:Nx (dE (nV (aA (aB 0) aE)) (HK 5 6)
    (aH (aN 7 (eOr (aC kT (aB 5) (aB 2)) (aC (lY false) (aB 2) (aB 6))))
    (sX (kU 4 eX (aZ (eIf (tV (aB 7)) (bF bW (aA (bF gF (aA (aC bO (aB 6) (aB 3)) aE)) aE)) (aB 6)))))) [Sv.ro (aJ x),Sv.ro (.int a),Sv.ro (.int b),Sv.ro (tupI (row x a++[a])),Sv.ow (.lst []),Sv.no,Sv.no,Sv.no])
    λZ=>∃ v5 v6 v7,Z=[Sv.ro (aJ x),Sv.ro (.int a),Sv.ro (.int b),Sv.ro (tupI (row x a++[a])),Sv.ow (.lst ((put x a b).map tupI)),v5,v6,v7]:=by
   refine CV ((x.map tupI).zipIdx.map λp=>D.tup [.int (p.2:Int),p.1]) (λi Z=>∃ v5 v6 v7,Z=[Sv.ro (aJ x),Sv.ro (.int a),Sv.ro (.int b),Sv.ro (tupI (row x a++[a])),Sv.ow (.lst (((put x a b).take i).map tupI)),v5,v6,v7]) rfl ⟨_,_,_,rfl⟩ ?_ ?_
   .rintro i d _ hd ⟨v5,v6,v7,rfl⟩;rw [zipIdx_map,map_map,getElem?_map] at hd;obtain ⟨⟨r,j⟩,hz,rfl⟩:=Option.map_eq_some_iff.mp hd;have hj:j=i/\x[i]? = some r:=by rw [getElem?_zipIdx] at hz;obtain ⟨r',e1,e2⟩:=Option.map_eq_some_iff.mp hz;cases e2;exact ⟨by omega,e1⟩
    obtain ⟨rfl,hx⟩:=hj;have rl:r.length<=9:=hr r (mem_of_getElem? hx);refine ⟨[Sv.ro (aJ x),Sv.ro (.int a),Sv.ro (.int b),Sv.ro (tupI (row x a++[a])),Sv.ow (.lst (((put x a b).take j).map tupI)),Sv.ro (.int j),Sv.ro (tupI r),v7],rfl,?_⟩;have hpj:(put x a b)[j]? = some (vB b (row x a++[a]) (r,j)):=by unfold put;rw [getElem?_map,hz];rfl
    have tk:(put x a b).take (j+1)=(put x a b).take j++[vB b (row x a++[a]) (r,j)]:=by rw [List.take_add_one,hpj];rfl
    have e7:(eOr (aC kT (aB 5) (aB 2)) (aC (lY false) (aB 2) (aB 6))) (kD [Sv.ro (aJ x),Sv.ro (.int a),Sv.ro (.int b),Sv.ro (tupI (row x a++[a])),Sv.ow (.lst (((put x a b).take j).map tupI)),Sv.ro (.int j),Sv.ro (tupI r),v7])=some (.bl (decide ((j:Int)=b)||r.contains b)):=by unfold eOr;rw [aM (x:=.int j) (y:=.int b) rfl rfl fV,aM (x:=.int b) (y:=tupI r) rfl rfl IE];simp only [bind_some,rR];cases decide ((j:Int)=b)<;>rfl
    refine ⟨_,fF _ (iE _ e7 rfl) ?_,Sv.ro (.int j),Sv.ro (tupI r),Sv.ro (.bl (decide ((j:Int)=b)||r.contains b)),rfl⟩;rw [tk];unfold sX;have ev:(aZ (eIf (tV (aB 7)) (bF bW (aA (bF gF (aA (aC bO (aB 6) (aB 3)) aE)) aE)) (aB 6))) [Sv.ro (aJ x),Sv.ro (.int a),Sv.ro (.int b),Sv.ro (tupI (row x a++[a])),Sv.ow (.lst (((put x a b).take j).map tupI)),Sv.ro (.int j),Sv.ro (tupI r),Sv.ro (.bl (decide ((j:Int)=b)||r.contains b))]
      = some ([Sv.ro (aJ x),Sv.ro (.int a),Sv.ro (.int b),Sv.ro (tupI (row x a++[a])),Sv.ow (.lst (((put x a b).take j).map tupI)),Sv.ro (.int j),Sv.ro (tupI r),Sv.ro (.bl (decide ((j:Int)=b)||r.contains b))],tupI (vB b (row x a++[a]) (r,j))):=by
     unfold aZ eIf;rw [mZ (b:=decide ((j:Int)=b)||r.contains b) rfl rfl];unfold vB
     cases decide ((j:Int)=b)||r.contains b with
     | false=>rfl
     | true =>
      simp only [bind_some,if_true];rw [dJ (x:=.lst ((both r (row x a++[a])).map D.int)) (dJ (x:=.tup (r.map D.int++(row x a++[a]).map D.int)) (aM (x:=tupI r) (y:=tupI (row x a++[a])) rfl rfl (EY (by simp; omega))) (XU (by simp; omega))) rfl];rfl
    have pl:((put x a b).take j).length<1000+1:=by
     rw [length_take];have:(put x a b).length=x.length:=by simp [put]
     omega
    have ex:=K03.aIU (i:=4) (m:=eX) rfl ev rfl (pB (d:=tupI (vB b (row x a++[a]) (r,j))) (ds:=((put x a b).take j).map tupI) (by rw [length_map]; omega));refine (congrArg (λo:Option (aP×D)=>match o with | some p=>Out.nx p.1 | none=>Out.no) ex).trans ?_;rw [map_append];rfl
   .rintro ρ' ⟨v5,v6,v7,rfl⟩;refine ⟨v5,v6,v7,?_⟩;rw [take_of_length_le (by simp [put])]
  obtain ⟨ρ',e,v5,v6,v7,rfl⟩:=L;refine fF _ (by unfold XG; rw [e]) (kH ?_);exact dJ rfl rfl
end LL
end
section
namespace LL
open PySem L3 L4 K03 XS
theorem XW{y:List (List Int)}(up:∀ d:Int,0<=d->d<(y.length:Int)->(row y d).Pairwise (·<·))(rng:∀ c d:Int,0<=d->d<(y.length:Int)->c∈row y d->0<=c/\c<(y.length:Int))
  (tr:∀ c v d:Int,0<=d->d<(y.length:Int)->v∈row y d->c∈row y v->c∈row y d) (W4:∀ d:Int,0<=d->d<(y.length:Int)->d∉row y d):Ord.Rows y:=by
 have w8:∀ (b:Nat) (r:List Int),y[b]? = some r->row y (b:Int)=r/\(b:Int)<(y.length:Int):=λb r h=>by unfold row;rw [Int.toNat_natCast,h];have:=(List.getElem?_eq_some_iff.1 h).1;exact ⟨rfl,by omega⟩
 refine ⟨λb r h=>?_,λb r h a ha=>?_,λb a r v h ha hv c hc=>?_,λb r h=>?_⟩
 .obtain ⟨e,l⟩:=w8 b r h;rw [<- e];exact up b (by omega) l
 .obtain ⟨e,l⟩:=w8 b r h;rw [<- e] at ha;exact rng a b (by omega) l ha
 .obtain ⟨e,l⟩:=w8 b r h;obtain ⟨e2,l2⟩:=w8 a v hv;rw [<- e] at ha ⊢;rw [<- e2] at hc;exact tr c a b (by omega) l ha hc
 .obtain ⟨e,l⟩:=w8 b r h;rw [<- e];exact W4 b (by omega) l
theorem dP(x:List (List Int))(a b:Int):(put x a b).length=x.length:=by simp [put]
theorem C0{x:List (List Int)}{a b d:Int}(h0:0<=d)(h1:d<(x.length:Int)):row (put x a b) d=vB b (row x a++[a]) (row x d,d.toNat):=by
 have hk:d.toNat<x.length:=by omega
 unfold row put;rw [getElem?_map,getElem?_zipIdx,getElem?_eq_getElem hk];simp [row]
theorem lG{x:List (List Int)}{a b c d:Int}(h0:0<=d)(h1:d<(x.length:Int)):c∈row (put x a b) d↔c∈row x d\/((d=b\/b∈row x d)/\(c=a\/c∈row x a)):=by
 rw [C0 h0 h1];unfold vB;have e:((d.toNat:Nat):Int)=d:=by omega
 rw [e];by_cases h:(decide (d=b)||(row x d).contains b)=true
 .rw [if_pos h,E7,mem_append,mem_singleton];have h':d=b\/b∈row x d:=by simpa using h
  constructor
  .rintro (z | z | z)
   .exact .inl z
   .exact .inr ⟨h',.inr z⟩
   .exact .inr ⟨h',.inl z⟩
  .rintro (z | ⟨_,z | z⟩)
   .exact .inl z
   .exact .inr (.inr z)
   .exact .inr (.inl z)
 .rw [if_neg h];have h':¬ (d=b\/b∈row x d):=by simpa using h
  exact ⟨.inl,λz=>z.elim id λq=>absurd q.1 h'⟩
theorem RY{x:List (List Int)}{a b:Int}(h:nL x a b=false):a≠b/\b∉row x a:=by unfold nL at h;simpa using h
theorem E8{x:List (List Int)}(hx:Ord.Rows x){a b:Int}(ha:thing x.length a=true)(hb:thing x.length b=true)(h:nL x a b=false):Ord.Rows (put x a b):=by
 obtain ⟨a0,a1⟩:=fI.mp ha;obtain ⟨b0,b1⟩:=fI.mp hb;obtain ⟨nab,nba⟩:=RY h;refine XW (λd d0 d1=>?_) (λc d d0 d1 hc=>?_) (λc v d d0 d1 hv hc=>?_) λd d0 d1 hd=>?_
 .rw [dP] at d1;rw [C0 d0 d1];unfold vB;split
  .exact CZ _ _
  .exact hx.up _ _ (j0 d0 d1)
 .rw [dP] at d1 ⊢;rcases (lG d0 d1).1 hc with z | ⟨_,z | z⟩
  .exact E6 hx d0 d1 z
  .omega
  .exact E6 hx a0 a1 z
 .rw [dP] at d1;have hv':=(lG d0 d1).1 hv;have vr:0<=v/\v<(x.length:Int):=by
   rcases hv' with z | ⟨_,z | z⟩
   .exact E6 hx d0 d1 z
   .omega
   .exact E6 hx a0 a1 z
  refine (lG d0 d1).2 ?_;rcases (lG vr.1 vr.2).1 hc with z | ⟨u,l⟩
  .rcases hv' with y | ⟨u,l⟩
   .exact .inl (XT hx d0 d1 y z)
   .refine .inr ⟨u,.inr ?_⟩;rcases l with e | l
    .rw [e] at z;exact z
    .exact XT hx a0 a1 l z
  .refine .inr ⟨?_,l⟩;rcases hv' with y | ⟨u2,_⟩
   .rcases u with e | u
    .rw [e] at y;exact .inr y
    .exact .inr (XT hx d0 d1 y u)
   .exact u2
 .rw [dP] at d1;rcases (lG d0 d1).1 hd with z | ⟨u,l⟩
  .exact aDq hx d0 d1 z
  .rcases u with e | u
   .rcases l with e2 | l
    .exact nab (e2.symm.trans e)
    .rw [e] at l;exact nba l
   .rcases l with e2 | l
    .rw [e2] at u;exact nba u
    .exact nba (XT hx a0 a1 l u)
end LL
end
section
namespace LL
open PySem L3 L4
def RZ:eT:=bK 2 2
  (aU (bF bW (aA (bF RA (aA (aC bO (aB 0) (dG (aA (aB 1) aE))) aE)) aE)))
def w9:eT:=bK 3 2
  (aH (aN 2 (bJ 1 [1] (aR (aA (bF aV (aA (aB 0) aE)) aE)) (g1 0) (tV (aC (lY true) (aB 0) (aB 1))) (aB 0)))
  (aU (bJ 1 [1,0] (dD (aB 2)) (g1 0) (tV (bF allM (aA (bJ 1 [1] (dD (aC aY (aB 2) (aB 0))) (g1 0) cH (aC (lY false) (aB 0) (aB 1))) aE))) (aB 0))))
def bL(x:List (List Int))(a:List Int):List Int:=((bG 0 x.length).filter λt=>!a.contains t).filter λt=>(row x t).all λl=>a.contains l
def cQ(a:List Int)(t:Int):List Int:=sortI (a++[t])
def okI(x:List (List Int))(a:List Int):Prop:=a.Nodup /\ ∀ t∈a,0<=t/\t<(x.length:Int)
theorem iT{x:List (List Int)}{a:List Int}{t:Int}(h:t∈bL x a):(0<=t/\t<(x.length:Int))/\t∉a:=by unfold bL at h;have h1:=(List.mem_filter.mp h).1;have h2:=List.mem_filter.mp h1;have:=cB.mp h2.1;exact ⟨by omega,by simpa using h2.2⟩
theorem C4(n:Nat):(bG 0 n).Nodup:=by refine List.pairwise_iff_getElem.mpr λi j hi hj hij=>?_;have e1:=nY (lo:=0) (n:=n) (i:=i) (by simpa [aQ] using hi);have e2:=nY (lo:=0) (n:=n) (i:=j) (by simpa [aQ] using hj);rw [getElem?_eq_getElem hi] at e1;rw [getElem?_eq_getElem hj] at e2;have e1:=Option.some.inj e1;have e2:=Option.some.inj e2;omega
theorem NP{x:List (List Int)}{a:List Int}(h:okI x a):(bL x a).length+a.length<=x.length:=by
 have nd:(bL x a++a).Nodup:=by refine List.nodup_append.mpr ⟨?_,h.1,λu hu v hv e=>(iT hu).2 (e▸hv)⟩;unfold bL;exact List.Pairwise.filter _ (List.Pairwise.filter _ (C4 x.length))
 have:=Ord.eJ _ (bG 0 x.length) nd λt ht=>cB.mpr (by
  rcases List.mem_append.1 ht with z | z
  .have:=(iT z).1; omega
  .have:=h.2 t z; omega)
 rwa [List.length_append,aQ] at this
theorem XX{x:List (List Int)}:okI x []:=⟨nodup_nil,λt ht=>by cases ht⟩
end LL
end
section
namespace L7
open PySem L3 L4 LL
section
variable(rd:List Int->List (List Int))
def Wf:Nat->List Int->Int
 | 0,_=>1
 | m+1,a=>((rd a).map (Wf m)).sum
end
end L7
end
section
namespace K24
def fact:Nat->Int
 | 0=>1
 | k+1=>fact k*(k+1)
def ff(x:Int):Nat->Int
 | 0=>1
 | k+1=>ff x k*(x - k)
--CUT
def C(x:Int)(m:Nat):Int:=ff x m / fact m
def diffs:List Int->List Int
 | a::b::l=>(b - a)::diffs (b::l)
 | _=>[]
theorem rW:∀ l:List Int,(diffs l).length=l.length - 1
 | []=>rfl
 | [_]=>rfl
 | a::b::l=>by rw [diffs,length_cons,rW (b::l)]; simp
def fd(l:List Int):List Int:=match l with
 | []=>[]
 | a::r=>a::fd (diffs (a::r))
termination_by l.length
decreasing_by rw [rW]; simp
def vals(f:Int->Int):Nat->Int->List Int
 | 0,_=>[]
 | n+1,x=>f x::vals f n (x+1)
def DV(n:Nat)(d:Int):List Int->Int->Int
 | [],_=>0
 | w::l,k=>w*C (k+n - 1 - d) n+DV n (d+1) l k
end K24
end
section
namespace LL
open PySem L3 L4
def LF:eT:=bK 2 2
  (aU (bJ 2 [] (RE (aA (aB 0) (aA (aB 1) aE))) (g2 0 1) cH (aC bO (aB 0) (aB 1))))
def qJ:eT:=bK 1 1
  (aU (aC bO (dL (aA (eC (.int 0)) aE)) (K0 (aB 0) W3 (oE (mW (eC (.int 1)))))))
def p4:Nat->FnM
 | 0=>λ_ _=>.no
 | n+1=>runM 8 4
  ((aH (aN 4 (dG (aA (aB 1) (aA (aB 2) aE))))
  (eV (tV (aC (zM true) (aB 4) (aB 3)))
   (aH (iA 5 (aC repLM (dL (aA (eC (.int 0)) aE)) (bF aAP (aA (bF aV (aA (aB 0) aE)) (aA (eC (.int 1)) aE)))))
   (aH (eV (tV (aC kT (bF aV (aA (aB 1) aE)) (bF aV (aA (aB 0) aE))))
    (aIL 5 (aZ (eC (.int 1))) (eC (.int 0)))
    bY)
   (aH (XE 5 (dE (dD (aG LL.w9 (aA (aB 0) (aA (aB 1) aE)))) (lE 6)
    (aH (aBI 7 (p4 n) (aA (aB 0) (aA (aG LL.RZ (aA (aB 1) (aA (aB 6) aE))) (aA (aB 6) aE))) 3)
    (aN 5 (aG LL.LF (aA (aB 5) (aA (eIf (tV (aC tL (aB 2) (aB 6))) (aG LL.qJ (aA (aB 7) aE)) (aB 7)) aE)))))))
   (mC 3 (aZ (aB 5)) (aB 4)))))
   bY)))
  (aB 4)
def E9:eT:=bK 2 1
  (aH (EX 1)
  (aH (aIT (LL.p4 11) (aA (aB 0) (aA (dG aE) (aA (eC (.int 0)) aE))) 1)
  (aU (aB 1))))
def eE:eT:=bK 1 1
  (aU (bF bW (aA (aC pS (aG LL.E9 (aA (aB 0) aE)) (dG (aA (dG aE) (aA (eC (.int 0)) aE)))) aE)))
def R3:eT:=bK 4 2
  (aH (aN 2 (eC (.int 1)))
  (aH (dE (aR (aA (aB 1) aE)) (lE 3)
   (aN 2 (aC mX (aC mulM (aB 2) (aC fE (aB 0) (aB 3))) (aC bO (aB 3) (eC (.int 1))))))
  (aU (aB 2))))
def jT:eT:=bK 3 3
  (aU (bF u7 (aA (bJ 2 [1,2] (nV (aA (aB 0) aE)) (g2 0 1) cH (aC mulM (aB 1) (aG LL.R3 (aA (aC fE (aC fE (aC bO (aB 3) (aB 2)) (eC (.int 1))) (aB 0)) (aA (aB 2) aE))))) aE)))
def IH:eT:=bK 2 2
  (aU (aG LL.jT (aA (aG LL.eE (aA (aB 0) aE)) (aA (bF aV (aA (aB 0) aE)) (aA (aB 1) aE)))))
def zN:eT:=bK 2 2
  (aU (bJ 2 [1] (RE (aA (aC bO (aB 0) (dL (aA (eC (.int 0)) aE))) (aA (aC bO (dL (aA (eC (.int 0)) aE)) (aB 0)) aE))) (g2 0 1) cH (aC bO (aC mulM (aB 2) (aB 0)) (aB 1))))
def qK:eT:=bK 5 3
  (aH (aN 3 (dL (aA (aB 0) aE)))
  (aH (dE (aR (aA (aB 2) aE)) (lE 4)
   (aN 3 (aG LL.zN (aA (aB 3) (aA (aC fE (aB 1) (aB 4)) aE)))))
  (aU (aB 3))))
def C5:eT:=bK 5 1
  (aH (aN 1 (bF aV (aA (aB 0) aE)))
  (aH (aN 2 (aC repLM (dL (aA (eC (.int 0)) aE)) (aC bO (aB 1) (eC (.int 1)))))
  (aH (dE (nV (aA (aG LL.eE (aA (aB 0) aE)) aE)) (HK 3 4)
   (aN 2 (aG LL.LF (aA (aB 2) (aA (aG LL.qK (aA (aB 4) (aA (aC fE (aC fE (aB 1) (eC (.int 1))) (aB 3)) (aA (aB 1) aE)))) aE)))))
  (aU (bF bW (aA (aB 2) aE))))))
def pT:eT:=bK 3 1
  (aH (iA 1 (dL aE))
  (aH (aN 2 (aB 0))
  (aH (CJ Q7 (tV (aB 2))
   (aH (sX (kU 1 eX (aZ (aC aY (aB 2) (eC (.int 0))))))
   (aN 2 (bJ 2 [] (RE (aA (aB 2) (aA (K0 (aB 2) (oE (eC (.int 1))) W3) aE))) (g2 0 1) cH (aC fE (aB 1) (aB 0))))))
  (aU (bF bW (aA (aB 1) aE))))))
def rX:eT:=bK 3 1
  (aH (aN 1 (bF aV (aA (aB 0) aE)))
  (aH (aN 2 (aG LL.eE (aA (aB 0) aE)))
  (aU (aG LL.pT (aA (bJ 1 [2,1] (aR (aA (aC bO (aB 1) (eC (.int 1))) aE)) (g1 0) cH (aG LL.jT (aA (aB 1) (aA (aB 2) (aA (aB 0) aE))))) aE)))))
def qL:eT:=bK 5 2
  (aH (aN 2 (eC (.int 1)))
  (aH (aN 3 (eC (.int 1)))
  (aH (dE (aR (aA (aB 1) aE)) (lE 4)
   (aH (aN 2 (aC mulM (aB 2) (aC fE (aB 0) (aB 4))))
   (aN 3 (aC mulM (aB 3) (aC bO (aB 4) (eC (.int 1)))))))
  (aU (aC mX (aB 2) (aB 3))))))
def tT:eT:=bK 2 2
  (aH (eV (u4 (hZ (tV (nP "tuple" (aB 0)))) (tV (aC KU (bF aV (aA (aB 0) aE)) (aB 1))))
   (aU (eC (.bl false)))
   bY)
  (aU (bF allM (aA (bJ 1 [] (dD (aB 0)) (g1 0) cH (kE (nP "int" (aB 0)) (W8 (nP "bool" (aB 0))))) aE))))
def NQ:eT:=bK 5 3
  (aH (aN 3 (aG LL.bX (aA (aG LL.cM (aA (aB 0) (aA (aB 1) aE))) (aA (eC (.int 3)) (aA (aB 2) aE)))))
  (aH (eV (tV (aC kT (aC dI (aC aY (aB 3) (eC (.int 0))) (eC (.int 3))) (eC (.int 0))))
   (aU (aC fE (aC dI (aC aY (aB 3) (eC (.int 1))) (eC (.int 25))) (eC (.int 12))))
   bY)
  (aH (aN 4 (aG LL.NM (aA (aG LL.cM (aA (aB 0) (aA (aC bO (aB 1) (eC (.int 1))) aE))) (aA (aC aY (dL (aA (aC HQ (eC (.int 10)) (eC (.int 4))) (aA (aC HQ (eC (.int 10)) (eC (.int 20))) (aA (aC HQ (eC (.int 10)) (eC (.int 59))) aE)))) (aC dI (aC aY (aB 3) (eC (.int 1))) (eC (.int 3)))) (aA (aC bO (aB 2) (eC (.int 70001))) aE)))))
  (aU (aC mulM (aB 4) (aC fE (eC (.int 1)) (aC mulM (eC (.int 2)) (aC dI (aC aY (aB 3) (eC (.int 2))) (eC (.int 2))))))))))
def iU:eT:=bK 1 1
  (aU (bJ 1 [] (dD (aB 0)) (g1 0) cH (bF u7 (aA (bJ 1 [] (dD (aB 0)) (g1 0) cH (aC wK (eC (.int 1)) (aB 0))) aE))))
theorem R4{ks:List vO}{k k':vO}{v:D}:∀ {ks:List vO} {ds:List D},ks.length=ds.length->cP (fO ks ds k v).1 (fO ks ds k v).2 k' = if k' = k then some v else cP ks ds k':=by
 intro ks ds hl;unfold fO;split
 .rename_i hc;have go:∀ (ks:List vO) (ds:List D),ks.length=ds.length->cP ks ((ks.zip ds).map λp=>if p.1=k then v else p.2) k' = if k' = k then (cP ks ds k').map (λ_=>v) else cP ks ds k':=by
   intro ks
   induction ks with
   | nil=>intro ds _; simp [cP]
   | cons q ks ih =>
    intro ds hl
    cases ds with
    | nil=>simp at hl
    | cons d ds =>
     have:=ih ds (by simpa using hl);unfold cP at this ⊢;by_cases h1:q=k'
     .subst h1;by_cases h2:q=k
      .simp [h2]
      .simp [h2]
     .simpa [h1] using this
  have hin:k∈ks:=by rw [List.any_eq_true] at hc;obtain ⟨q,hq,e⟩:=hc;rw [<- of_decide_eq_true e];exact hq
  have some_of:∀ (ks:List vO) (ds:List D),ks.length=ds.length->k∈ks -> ∃ d,cP ks ds k=some d:=by
   intro ks
   induction ks with
   | nil=>intro ds _ h; cases h
   | cons q ks ih =>
    intro ds hl h
    cases ds with
    | nil=>simp at hl
    | cons d ds =>
     by_cases h1:q=k
     .exact ⟨d,by simp [cP,h1]⟩
     .obtain ⟨d',e⟩:=ih ds (by simpa using hl) ((List.mem_cons.1 h).resolve_left (Ne.symm h1));exact ⟨d',by unfold cP at e ⊢; simpa [h1] using e⟩
  rw [go ks ds hl];by_cases h:k' = k
  .subst h;obtain ⟨d,e⟩:=some_of ks ds hl hin;rw [e];simp
  .rw [if_neg h,if_neg h]
 .rename_i hc;have hn:k∉ks:=λh=>hc (List.any_eq_true.2 ⟨k,h,by simp⟩);unfold cP;dsimp only;rw [List.zip_append hl,List.find?_append];by_cases h:k' = k
  .subst h;have:((ks.zip ds).find? λp=>decide (p.1=k'))=none:=by rw [List.find?_eq_none];intro p hp;have:=of_mem_zip hp;simp only [decide_eq_true_eq];exact λe=>hn (e▸this.1)
   rw [this];simp
  .rw [if_neg h];have:([k].zip [v]).find? (λp=>decide (p.1=k'))=none:=by simp [Ne.symm h]
   rw [this,Option.or_none]
theorem XY{ks:List vO}{ds:List D}{k:vO}{v:D}(h:ks.length=ds.length):(fO ks ds k v).1.length=(fO ks ds k v).2.length/\(fO ks ds k v).1.length<=ks.length+1:=by
 unfold fO;split
 .simp [h]
 .simp [h]
theorem NR{ks:List vO}{ds:List D}{k:vO}{v:D}(h:∀ q∈ks,q.isLeft=false)(hk:k.isLeft=false):∀ q∈(fO ks ds k v).1,q.isLeft=false:=by
 unfold fO;split
 .exact h
 .intro q hq;rcases List.mem_append.1 hq with z | z
  .exact h q z
  .rw [List.mem_singleton.1 z]; exact hk
theorem A4:∀ a:List Int,AO (a.map D.int)=some (a.map Sum.inl)
 | []=>rfl
 | x::a=>by rw [map_cons,AO,A4 a]; rfl
def kS(a:List Int)(l:Int):vO:=.inr [.inr (a.map Sum.inl),.inl (.inl l)]
theorem C6:∀ {a b:List Int},a.map (Sum.inl:Int->zL)=b.map Sum.inl->a=b
 | [],[],_=>rfl
 | [],_::_,h=>by simp at h
 | _::_,[],h=>by simp at h
 | x::a,y::b,h=>by simp only [map_cons,List.cons.injEq,Sum.inl.injEq] at h;rw [h.1,C6 h.2]
theorem aBQ{a b:List Int}{l m:Int}(h:kS a l=kS b m):a=b/\l=m:=by unfold kS at h;simp only [Sum.inr.injEq,List.cons.injEq,Sum.inl.injEq,and_true] at h;exact ⟨C6 h.1,h.2⟩
def zO(a b:List Int):List Int:=(a.zip b).map λp=>p.1+p.2
def xA(l:List Int):List Int:=0::l.dropLast
def R5(n:Nat):List Int:=1::List.replicate (max n 1 - 1) 0
def R6(n:Nat):List Int:=List.replicate (max n 1) 0
section
variable(x:List (List Int))
def Sh:Nat->List Int->Int->List Int
 | 0,_,_=>R5 x.length
 | m+1,a,l=>(bL x a).foldl (λacc t=>zO acc (if t<l then xA (Sh m (cQ a t) t) else Sh m (cQ a t) t)) (R6 x.length)
end
theorem uN{a b:List Int}(h:a.length=b.length):(zO a b).length=a.length:=by unfold zO; simp [h]
theorem uO{a:List Int}(h:1<=a.length):(xA a).length=a.length:=by unfold xA; simp; omega
theorem xB(n:Nat):(R6 n).length=max n 1:=by simp [R6]
theorem FA(n:Nat):(R5 n).length=max n 1:=by simp [R5]; omega
theorem A5(x:List (List Int)):∀ (m:Nat) (a:List Int) (l:Int),(Sh x m a l).length=max x.length 1
 | 0,a,l=>FA _
 | m+1,a,l=>by
  unfold Sh;have go:∀ (ts:List Int) (acc:List Int),acc.length=max x.length 1->(ts.foldl (λacc t=>zO acc (if t<l then xA (Sh x m (cQ a t) t) else Sh x m (cQ a t) t)) acc).length=max x.length 1:=by
   intro ts
   induction ts with
   | nil=>intro acc h; exact h
   | cons t ts ih =>
    intro acc h;rw [foldl_cons];refine ih _ ?_;rw [uN]
    .exact h
    .rw [h];have:=A5 x m (cQ a t) t;split
     .rw [uO (by omega)]; exact this.symm
     .exact this.symm
  exact go _ _ (xB _)
def R7(x:List (List Int))(kd:KD):Prop:=kd.1.length=kd.2.length/\(∀ q∈kd.1,q.isLeft=false) /\ ∀ a l d,cP kd.1 kd.2 (kS a l)=some d->d=aK (Sh x (x.length - a.length) a l)
theorem R7.put{x:List (List Int)}{kd:KD}(h:R7 x kd)(a:List Int)(l:Int):R7 x (fO kd.1 kd.2 (kS a l) (aK (Sh x (x.length - a.length) a l))):=by
 refine ⟨(XY h.1).1,NR h.2.1 rfl,λb m d e=>?_⟩;rw [R4 (ks:=[]) h.1] at e;split at e
 .rename_i hk;obtain ⟨rfl,rfl⟩:=aBQ hk;exact (Option.some.inj e).symm
 .exact h.2.2 b m d e
def A6(x:List (List Int))(m:Nat)(a:List Int)(l:Int)(acc:List Int)(t:Int):List Int:=zO acc (if t<l then xA (Sh x m (cQ a t) t) else Sh x m (cQ a t) t)
def shares(x:List (List Int)):List Int:=Sh x x.length [] 0
end LL
end
section
namespace LL
open PySem L3 L4 K24
theorem NS{i:Nat}{f:EF}{Z:aP}{ds:List D}{d:D}(h1:f (kD Z)=some d)(h2:Z[i]? = some (.ow (.lst ds)))(hl:ds.length<16777216):sX (kU i eX (aZ f)) Z=.nx (Z.set i (.ow (.lst (ds++[d])))):=by
 have e:kU i eX (aZ f) Z=some (Z.set i (.ow (.lst (ds++[d]))),.non):=by unfold kU aZ;rw [h2,h1];show ((nQ Z[i]?).bind λds=>(eX ds d).map _)=_;rw [h2];show ((eX ds d).map _)=_;rw [pB hl];rfl
 unfold sX;rw [e]
def ev(k:Int):List Int->Int
 | []=>0
 | a::l=>a+k*ev k l
def aBR(s:Int)(l:List Int):List Int:=((l++[0]).zip (0::l)).map λp:Int×Int=>s*p.1+p.2
def aAT(s t:Int):Nat->List Int
 | 0=>[s]
 | n+1=>aBR (t - n) (aAT s t n)
def aAU(n:Nat):List Int->Nat->List Int->List Int
 | [],_,acc=>acc
 | s::w,d,acc=>aAU n w (d+1) (zO acc (aAT s ((n:Int) - 1 - d) n))
def aBS(x:List (List Int)):List Int:=fd (vals (DV x.length 0 (shares x)) (x.length+1) 0)
section
variable(x:List (List Int))
end
def Zr(w:List Int)(m:Nat):Prop:=∀ (d:Nat) (y:Int),w[d]? = some y->m<d->y=0
theorem Zr.mono{w:List Int}{m k:Nat}(h:Zr w m)(hk:m<=k):Zr w k:=λd y e hd=>h d y e (by omega)
theorem Zr.add{a b:List Int}{m:Nat}(ha:Zr a m)(hb:Zr b m):Zr (zO a b) m:=λd y e hd=>by unfold zO at e;rw [getElem?_map] at e;obtain ⟨p,ep,rfl⟩:=Option.map_eq_some_iff.1 e;obtain ⟨e1,e2⟩:=List.getElem?_zip_eq_some.1 ep;rw [ha d _ e1 hd,hb d _ e2 hd];rfl
theorem Zr.shl{w:List Int}{m:Nat}(h:Zr w m):Zr (xA w) (m+1):=λd y e hd=>by
 cases d with
 | zero=>omega
 | succ d =>
  have e:w.dropLast[d]? = some y:=e;rw [List.getElem?_dropLast] at e;split at e
  .exact h d y e (by omega)
  .cases e
theorem Zr.R6(n m:Nat):Zr (R6 n) m:=λd y e _=>by
 unfold LL.R6 at e;rw [getElem?_replicate] at e;split at e
 .cases e; rfl
 .cases e
theorem Zr.fold{x:List (List Int)}{m k:Nat}{a:List Int}{l:Int}(h:∀ t,Zr (if t<l then xA (Sh x m (cQ a t) t) else Sh x m (cQ a t) t) k):∀ (ts acc:List Int),Zr acc k->Zr (ts.foldl (A6 x m a l) acc) k
 | [],acc,hz=>hz
 | t::ts,acc,hz=>Zr.fold h ts _ (hz.add (h t))
theorem vR(x:List (List Int))(m:Nat)(a:List Int)(l:Int):Sh x (m+1) a l=(bL x a).foldl (A6 x m a l) (R6 x.length):=rfl
theorem R8(x:List (List Int)):∀ (m:Nat) (a:List Int) (l:Int),Zr (Sh x m a l) m
 | 0,a,l=>λd y e hd=>by
  cases d with
  | zero=>omega
  | succ d =>
   have e:(List.replicate (max x.length 1 - 1) (0:Int))[d]? = some y:=e;rw [getElem?_replicate] at e;split at e
   .cases e; rfl
   .cases e
 | m+1,a,l=>by
  rw [vR];refine Zr.fold (λt=>?_) _ _ (Zr.R6 _ _);split
  .exact (R8 x m _ _).shl
  .exact (R8 x m _ _).mono (by omega)
theorem FB{x:List (List Int)}{a:List Int}{t:Int}(h:t∈bL x a):0<=t:=(iT h).1.1
theorem fold_congr{α β:Type}{f g:β->α->β}:∀ (l:List α) (b:β),(∀ b,∀ t∈l,f b t=g b t)->l.foldl f b=l.foldl g b
 | [],b,_=>rfl
 | t::l,b,h=>by rw [foldl_cons,foldl_cons,h b t mem_cons_self]; exact fold_congr l _ λb u hu=>h b u (mem_cons_of_mem _ hu)
theorem R9(x:List (List Int))(m:Nat)(a:List Int){l l':Int}(h:l<=0)(h':l'<=0):Sh x m a l=Sh x m a l':=by
 cases m with
 | zero=>rfl
 | succ m =>
  rw [vR,vR];refine fold_congr _ _ λacc t ht=>?_;have:=FB ht;unfold A6;rw [if_neg (by omega),if_neg (by omega)]
theorem mF{a:List Int}{t u:Int}:u∈cQ a t↔u∈a\/u=t:=by unfold cQ;rw [(sortI_perm (a++[t])).mem_iff];simp
theorem xC(a:List Int)(t:Int):(cQ a t).length=a.length+1:=by unfold cQ;rw [(sortI_perm (a++[t])).length_eq];simp
theorem II:∀ a b:Nat,a+b=(a ||| b)+(a &&& b):=by
 intro a
 induction a using Nat.strongRecOn with
 | ind a ih =>
  intro b;by_cases h:a=0
  .subst h; simp
  .have e:=ih (a / 2) (by omega) (b / 2);have d1:(a ||| b) / 2=(a / 2 ||| b / 2):=Nat.or_div_two ..;have d3:(a &&& b) / 2=(a / 2 &&& b / 2):=Nat.and_div_two ..;have m1:(a ||| b) % 2=(a % 2 ||| b % 2):=Nat.or_mod_two_pow (n:=1);have m3:(a &&& b) % 2=(a % 2 &&& b % 2):=Nat.and_mod_two_pow (n:=1);have c:a % 2+b % 2=(a % 2 ||| b % 2)+(a % 2 &&& b % 2):=by rcases Nat.mod_two_eq_zero_or_one a with p | p<;>rcases Nat.mod_two_eq_zero_or_one b with q | q<;>rw [p,q]<;>decide
   omega
theorem XZ{S b:Nat}(h:S.testBit b=false):2 ^ b+S=(2 ^ b ||| S):=by
 have e:(2 ^ b &&& S)=0:=by
  apply Nat.eq_of_testBit_eq;intro i;rw [Nat.testBit_and,Nat.testBit_two_pow,Nat.zero_testBit];by_cases hi:b=i
  .subst hi; simp [h]
  .simp [hi]
 rw [II,e,Nat.add_zero]
theorem aBT(S b i:Nat):(S ||| 2 ^ b).testBit i=(S.testBit i||decide (b=i)):=by rw [Nat.testBit_or,Nat.testBit_two_pow]
theorem X0{M S:Nat}:(M &&& S=M) ↔ ∀ i,M.testBit i=true->S.testBit i=true:=by
 constructor
 .intro h i hi;have:=congrArg (λz=>z.testBit i) h;simp only [Nat.testBit_and,hi,Bool.true_and] at this;exact this
 .intro h;apply Nat.eq_of_testBit_eq;intro i;rw [Nat.testBit_and]
  cases e:M.testBit i with
  | false=>rfl
  | true=>rw [h i e]; rfl
theorem aDs{S b n:Nat}(h:S<2 ^ n)(hb:b<n):(S ||| 2 ^ b)<2 ^ n:=Nat.or_lt_two_pow h (Nat.pow_lt_pow_right (by decide) hb)
def NT:List Int->Nat
 | []=>0
 | a::r=>2 ^ a.toNat ||| NT r
theorem C7{i:Nat}:∀ {r:List Int},(∀ a∈r,0<=a)->((NT r).testBit i=true↔(i:Int)∈r)
 | [],_=>by simp [NT]
 | a::r,h=>by
  have ih:=C7 (i:=i) (r:=r) λb hb=>h b (mem_cons_of_mem _ hb);have h0:=h a mem_cons_self;rw [NT,Nat.testBit_or,Nat.testBit_two_pow,Bool.or_eq_true,ih,mem_cons,decide_eq_true_eq]
  constructor
  .rintro (e | e)
   .exact .inl (by omega)
   .exact .inr e
  .rintro (e | e)
   .exact .inl (by omega)
   .exact .inr e
theorem LG:∀ {r:List Int},(∀ a∈r,0<=a)->r.Nodup->(r.map λa=>(2:Int) ^ a.toNat).sum=(NT r:Int)
 | [],_,_=>rfl
 | a::r,h,nd=>by
  have h':∀ b∈r,0<=b:=λb hb=>h b (mem_cons_of_mem _ hb);have ih:=LG h' (List.nodup_cons.1 nd).2;have h0:=h a mem_cons_self;have hb:(NT r).testBit a.toNat=false:=by
   cases e:(NT r).testBit a.toNat with
   | false=>rfl
   | true =>
    have:=(C7 h').1 e;rw [show ((a.toNat:Nat):Int)=a by omega] at this;exact absurd this (List.nodup_cons.1 nd).1
  rw [map_cons,sum_cons,ih,NT,<- XZ hb]
  push_cast
  rfl
section
variable(x:List (List Int))
def things(S:Nat):List Int:=(bG 0 x.length).filter λt=>S.testBit t.toNat
def Mk(b:Nat):Nat:=NT (row x b)
def LH(b S:Nat):Bool:=!S.testBit b&&decide (Mk x b &&& S=Mk x b)
end
section
variable{x:List (List Int)}
theorem gG{S:Nat}{t:Int}:t∈things x S↔(0<=t/\t<(x.length:Int))/\S.testBit t.toNat=true:=by
 unfold things;rw [mem_filter,cB]
 constructor
 .rintro ⟨h1,h2⟩; exact ⟨by omega,h2⟩
 .rintro ⟨h1,h2⟩; exact ⟨by omega,h2⟩
theorem FC{a b:List Int}(h:∀ t,t∈a↔t∈b):bL x a=bL x b:=by
 have hc:∀ t,a.contains t=b.contains t:=λt=>by rw [Bool.eq_iff_iff];simp [h t]
 unfold bL;simp only [hc]
theorem SA(hx:Ord.Rows x){b i:Nat}(hb:b<x.length):(Mk x b).testBit i=true↔(i:Int)∈row x b:=by
 refine C7 λa ha=>?_;have e:row x b=x[b]:=by unfold row; simp [hb]
 rw [e] at ha;obtain ⟨c,rfl,_⟩:=(Ord.RT hx (getElem?_eq_getElem hb)).1 ha;omega
theorem aBU(hx:Ord.Rows x){b:Nat}(hb:b<x.length){a:Int}(h:a∈row x b):0<=a/\a<(x.length:Int):=by
 have e:row x b=x[b]:=by unfold row; simp [hb]
 rw [e] at h;exact hx.rng b _ (getElem?_eq_getElem hb) a h
theorem iV{a:List Int}{t:Int}:t∈bL x a↔(0<=t/\t<(x.length:Int))/\t∉a /\ ∀ l∈row x t,l∈a:=by
 unfold bL;rw [mem_filter,mem_filter,cB,all_eq_true];simp only [Bool.not_eq_true',List.contains_eq_mem,decide_eq_false_iff_not,decide_eq_true_eq]
 constructor
 .rintro ⟨⟨h1,h2⟩,h3⟩; exact ⟨by omega,h2,h3⟩
 .rintro ⟨h1,h2,h3⟩; exact ⟨⟨by omega,h2⟩,h3⟩
theorem X1(hx:Ord.Rows x){b S:Nat}(hb:b<x.length):LH x b S=true↔(b:Int)∈bL x (things x S):=by
 unfold LH;rw [Bool.and_eq_true,decide_eq_true_eq,X0,iV]
 constructor
 .rintro ⟨h1,h2⟩;refine ⟨by omega,λh=>?_,λl hl=>?_⟩
  .have:=(gG.1 h).2;rw [Int.toNat_natCast] at this;rw [this] at h1;cases h1
  .have r:=aBU hx hb hl;refine gG.2 ⟨r,h2 _ ((SA hx hb).2 ?_)⟩;rw [show ((l.toNat:Nat):Int)=l by omega];exact hl
 .rintro ⟨_,h1,h2⟩;refine ⟨?_,λi hi=>?_⟩
  .cases e:S.testBit b with
   | false=>rfl
   | true=>exact absurd (gG.2 ⟨by omega,by rw [Int.toNat_natCast]; exact e⟩) h1
  .have:=(gG.1 (h2 i ((SA hx hb).1 hi))).2
   rwa [Int.toNat_natCast] at this
theorem A7(S:Nat):(things x S).Nodup:=List.Pairwise.filter _ (C4 x.length)
theorem len_eq{a b:List Int}(ha:a.Nodup)(hb:b.Nodup)(h:∀ t,t∈a↔t∈b):a.length=b.length :=
 Nat.le_antisymm (Ord.eJ a b ha λt ht=>(h t).1 ht) (Ord.eJ b a hb λt ht=>(h t).2 ht)
theorem A8{S b:Nat}(hb:b<x.length)(t:Int):t∈things x (S ||| 2 ^ b)↔t∈cQ (things x S) b:=by
 rw [mF,gG,gG,aBT,Bool.or_eq_true,decide_eq_true_eq]
 constructor
 .rintro ⟨h1,h2 | h2⟩
  .exact .inl ⟨h1,h2⟩
  .exact .inr (by omega)
 .rintro (⟨h1,h2⟩ | h)
  .exact ⟨h1,.inl h2⟩
  .subst h;exact ⟨by omega,.inr (by omega)⟩
theorem IJ(S:Nat):(things x S).length<=x.length:=by
 have:=length_filter_le (λt:Int=>S.testBit t.toNat) (bG 0 x.length)
 rwa [aQ] at this
theorem n5{S b:Nat}(hb:b<x.length)(h:S.testBit b=false):(things x (S ||| 2 ^ b)).length=(things x S).length+1:=by rw [<- xC (things x S) b];refine len_eq (A7 _) ?_ (A8 hb);unfold cQ;refine (sortI_perm _).nodup_iff.2 (List.nodup_append.2 ⟨A7 S,by simp,λu hu v hv e=>?_⟩);rw [mem_singleton] at hv;subst hv;subst e;have:=(gG.1 hu).2;rw [Int.toNat_natCast,h] at this;cases this
theorem SC(a:List Int):(bL x a).Nodup:=List.Pairwise.filter _ (List.Pairwise.filter _ (C4 x.length))
end
abbrev Tab:=List (Nat×Int)
def kZ(A:Tab)(h:Nat):Option Int:=(A.find? λq=>decide (q.1=h)).map (·.2)
def zP(A:Tab)(h:Nat)(v:Int):Tab:=if A.any (λq=>decide (q.1=h))=true then A.map λq=>if q.1=h then (q.1,v) else q else A++[(h,v)]
def kN(h:Nat):vO:=.inl (.inl (h:Int))
def kdT(A:Tab):KD:=(A.map λq=>kN q.1,A.map λq=>D.int q.2)
theorem C8{a b:Nat}:kN a=kN b↔a=b:=by
 unfold kN
 constructor
 .intro h;simp only [Sum.inl.injEq] at h;omega
 .intro h; rw [h]
theorem SD(A:Tab)(h:Nat):cP (kdT A).1 (kdT A).2 (kN h)=(kZ A h).map D.int:=by
 unfold kdT cP kZ
 induction A with
 | nil=>rfl
 | cons q A ih =>
  simp only [map_cons,zip_cons_cons,find?_cons];by_cases e:q.1=h
  .simp [e]
  .have e':¬ kN q.1=kN h:=λz=>e (C8.1 z);simp only [decide_eq_false e,decide_eq_false e'];exact ih
theorem aDt(A:Tab)(h:Nat)(v:Int):fO (kdT A).1 (kdT A).2 (kN h) (.int v)=kdT (zP A h v):=by
 have e:(kdT A).1.any (λq=>decide (q=kN h))=A.any λq=>decide (q.1=h):=by
  unfold kdT;rw [List.any_map];congr 1
  funext q
  exact decide_eq_decide.2 C8
 unfold fO zP;rw [e];split
 .unfold kdT;refine Prod.ext ?_ ?_
  .simp only [map_map];refine map_congr_left λq _=>?_;simp only [Function.comp];split<;>rfl
  .simp only [map_map];have:((A.map λq=>kN q.1).zip (A.map λq=>D.int q.2))=A.map λq=>(kN q.1,D.int q.2):=by rw [List.zip_map']
   rw [this,map_map];refine map_congr_left λq _=>?_;simp only [Function.comp];by_cases z:q.1=h
   .rw [if_pos (C8.2 z),if_pos z]
   .rw [if_neg (λy=>z (C8.1 y)),if_neg z]
 .unfold kdT;simp
theorem IK(A:Tab)(h:Nat):kindB (kdT A).1 (kN h)=true:=by unfold kindB kdT;rw [all_map,all_eq_true];intro q _;rfl
def tot(A:Tab)(V:Nat->Int):Int:=(A.map λq=>q.2*V q.1).sum
structure LI (n:Nat) (A:Tab):Prop where
 nd:(A.map (·.1)).Nodup
 lt:∀ q∈A,q.1<2 ^ n
theorem get_none{A:Tab}{h:Nat}(e:A.any (λq=>decide (q.1=h))=false):kZ A h=none:=by unfold kZ;rw [List.find?_eq_none.2,Option.map_none];intro q hq;have:=List.any_eq_false.1 e q hq;simpa using this
theorem LI.put{n:Nat}{A:Tab}(o:LI n A){h:Nat}(hh:h<2 ^ n)(v:Int):LI n (zP A h v):=by
 unfold zP;split
 .refine ⟨?_,λq hq=>?_⟩
  .rw [map_map];have:(A.map ((λq:Nat×Int=>q.1)∘λq=>if q.1=h then (q.1,v) else q))=A.map (·.1):=map_congr_left λq _=>by simp only [Function.comp]; split<;>rfl
   rw [this];exact o.nd
  .obtain ⟨p,hp,rfl⟩:=List.mem_map.1 hq;split
   .exact o.lt p hp
   .exact o.lt p hp
 .rename_i hc;refine ⟨?_,λq hq=>?_⟩
  .rw [map_append,nodup_append];refine ⟨o.nd,by simp,λa ha b hb e=>?_⟩;obtain ⟨q,hq,rfl⟩:=List.mem_map.1 ha;simp only [map_nil,map_cons,mem_singleton] at hb;exact hc (List.any_eq_true.2 ⟨q,hq,by simp [e,hb]⟩)
  .rcases List.mem_append.1 hq with z | z
   .exact o.lt q z
   .rw [List.mem_singleton.1 z]; exact hh
theorem X2{A:Tab}(V:Nat->Int)(h:Nat)(w:Int)(nd:(A.map (·.1)).Nodup):tot (zP A h ((kZ A h).getD 0+w)) V=tot A V+w*V h:=by
 unfold zP;split
 .rename_i hc;have go:∀ (A:Tab),(A.map (·.1)).Nodup->A.any (λq=>decide (q.1=h))=true -> ∀ u,u=(kZ A h).getD 0+w->tot (A.map λq=>if q.1=h then (q.1,u) else q) V=tot A V+w*V h:=by
   intro A
   induction A with
   | nil=>intro _ hc; cases hc
   | cons q A ih =>
    intro nd hc u hu;rw [map_cons,nodup_cons] at nd;unfold tot;rw [map_cons,map_cons,sum_cons,map_cons,sum_cons];by_cases e:q.1=h
    .have e2:A.map (λq=>if q.1=h then (q.1,u) else q)=A:=by
      conv=>rhs; rw [<- List.map_id A]
      refine map_congr_left λp hp=>?_;rw [if_neg]
      .rfl
      .intro z;exact nd.1 (List.mem_map.2 ⟨p,hp,by rw [z,e]⟩)
     have e3:kZ (q::A) h=some q.2:=by unfold kZ; simp [e]
     rw [e3] at hu;rw [e2,if_pos e,hu,e];simp only [Option.getD_some];rw [Int.add_mul];omega
    .have e3:kZ (q::A) h=kZ A h:=by unfold kZ; simp [e]
     rw [e3] at hu;have hc':A.any (λq=>decide (q.1=h))=true:=by simpa [any_cons,e] using hc
     have:=ih nd.2 hc' u hu;unfold tot at this;rw [if_neg e,this];omega
  exact go A nd hc _ rfl
 .rename_i hc;have hc:A.any (λq=>decide (q.1=h))=false:=Bool.eq_false_iff.2 hc;rw [get_none hc];unfold tot;rw [map_append,List.sum_append];simp
theorem X3{n:Nat}{A:Tab}(o:LI n A):A.length<=2 ^ n:=by
 have h:=Ord.eJ (A.map λq=>(q.1:Int)) (bG 0 (2 ^ n)) ?_ ?_
 .rwa [length_map,aQ] at h
 .have e:A.map (λq=>(q.1:Int))=(A.map (·.1)).map λa:Nat=>(a:Int):=by rw [map_map]; rfl
  rw [e];exact List.Pairwise.map _ (λa b hab z=>hab (by omega)) o.nd
 .intro t ht;obtain ⟨q,hq,rfl⟩:=List.mem_map.1 ht;have:=o.lt q hq;refine cB.2 ⟨by omega,?_⟩;rw [Int.zero_add];exact Int.ofNat_lt.2 this
section
variable(x:List (List Int))
end
section
variable{x:List (List Int)}
theorem FD{S:Nat}(hS:S<2 ^ x.length):(things x S).length=x.length↔S=2 ^ x.length - 1:=by
 constructor
 .intro h;apply Nat.eq_of_testBit_eq;intro i;rw [Nat.testBit_two_pow_sub_one];by_cases hi:i<x.length
  .rw [decide_eq_true hi]
   cases e:S.testBit i with
   | true=>rfl
   | false =>
    have:=n5 hi e;have:=IJ (x:=x) (S ||| 2 ^ i);omega
  .rw [decide_eq_false hi];exact Nat.testBit_lt_two_pow (lt_of_lt_of_le hS (Nat.pow_le_pow_right (by decide) (by omega)))
 .intro h;subst h;have e:things x (2 ^ x.length - 1)=bG 0 x.length:=by unfold things;rw [List.filter_eq_self];intro t ht;have:=cB.1 ht;rw [Nat.testBit_two_pow_sub_one,decide_eq_true (by omega)]
  rw [e,aQ]
theorem uP:things x 0=[]:=by unfold things;rw [List.filter_eq_nil_iff];intro t _;simp
end
theorem n6{c:Int->Int->Bool}{g:Int->Int->D}{i j:Int}(h:c i j=true):lC c g (.int i) (.int j)=some (g i j):=if_pos h
theorem LJ(a b:Nat):nnC (a:Int) (b:Int)=true:=by unfold nnC; rw [decide_eq_true (by omega),decide_eq_true (by omega)]; rfl
theorem FE(a b:Nat):nX (.int a) (.int b)=some (.int ((a &&& b:Nat):Int)):=by refine (n6 (LJ a b)).trans ?_;rw [Int.toNat_natCast,Int.toNat_natCast]
theorem X4(a b:Nat):HY (.int a) (.int b)=some (.int ((a ||| b:Nat):Int)):=by refine (n6 (LJ a b)).trans ?_;rw [Int.toNat_natCast,Int.toNat_natCast]
theorem X5(a b:Nat):HX (.int a) (.int b)=some (.int ((a >>> b:Nat):Int)):=by refine (n6 (decide_eq_true (show (0:Int)<=(b:Int) by omega))).trans ?_;rw [Int.toNat_natCast,Nat.shiftRight_eq_div_pow];congr 2
theorem LK{a b:Nat}(ha:a<18446744073709551616)(hb:b<=1000000):wK (.int a) (.int b)=some (.int ((a <<< b:Nat):Int)):=by
 refine (n6 (by
  show (decide (0<=(b:Int))&&decide ((b:Int).natAbs<=1000000)&&decide ((a:Int).natAbs<18446744073709551616))=true;rw [decide_eq_true (by omega),decide_eq_true (by omega),decide_eq_true (by omega)];rfl)).trans ?_
 rw [Int.toNat_natCast,Nat.shiftLeft_eq];congr 2
theorem LM(b:Nat):(1 <<< b:Nat)=2 ^ b:=by rw [Nat.shiftLeft_eq,Nat.one_mul]
theorem X6(a b:Nat):(a >>> b &&& 1)=if a.testBit b=true then 1 else 0:=by
 rw [Nat.and_one_is_mod,Nat.shiftRight_eq_div_pow,Nat.testBit_eq_decide_div_mod_eq];by_cases h:a / 2 ^ b % 2=1
 .rw [decide_eq_true h,if_pos rfl]; exact h
 .rw [decide_eq_false h,if_neg (by decide)]; omega
theorem aIZ{f g:EF}{Z:bR}{h b:Nat}(hf:f Z=some (.int h))(hg:g Z=some (.int b)):aC nX (aC HX f g) (eC (.int 1)) Z=some (.int (if h.testBit b=true then 1 else 0)):=by refine aM (x:=.int ((h >>> b:Nat):Int)) (y:=.int ((1:Nat):Int)) (aM hf hg (X5 h b)) rfl ?_;rw [FE,X6];split<;>rfl
section
variable{x:List (List Int)}
def NU(x:List (List Int)):List Int:=x.map λr=>(NT r:Int)
theorem SE(hx:Ord.Rows x)(hn:x.length<=9):iU [aJ x]=.ok (aK (NU x)):=by
 unfold iU NU;have e5:aK (x.map λr=>(NT r:Int))=.lst (x.map λr=>D.int (NT r:Int)):=by unfold aK; rw [map_map]; rfl
 rw [e5];refine jP rfl (kH (mE (x.map tupI) rfl (by rw [length_map]; omega) (iR tupI (λr=>.int (NT r:Int)) x λr hr=>⟨[some (tupI r)],rfl,?_⟩)));obtain ⟨b,hb,rfl⟩:=getElem_of_mem hr;have hnn:∀ a∈x[b],0<=a/\a<(x.length:Int):=hx.rng b _ (getElem?_eq_getElem hb);have hup:=hx.up b _ (getElem?_eq_getElem hb);have hnd:(x[b]).Nodup:=hup.imp λh=>by omega
 have hsh:=Ord.Rows.short hx hr;rw [<- LG (λa ha=>(hnn a ha).1) hnd];refine dJ (x:=aK ((x[b]).map λa:Int=>(2:Int) ^ a.toNat)) ?_ sum_ints;have e6:aK ((x[b]).map λa=>(2:Int) ^ a.toNat)=.lst ((x[b]).map λa=>D.int ((2:Int) ^ a.toNat)):=by unfold aK; rw [map_map]; rfl
 rw [e6];refine mE ((x[b]).map D.int) rfl (by rw [length_map]; omega) (iR D.int (λa=>.int ((2:Int) ^ a.toNat)) _ λa ha=>⟨[some (.int a)],rfl,?_⟩);have r:=hnn a ha;refine aM (x:=.int 1) (y:=.int a) rfl rfl ?_;refine (n6 (by
  show (decide (0<=a)&&decide (a.natAbs<=1000000)&&decide ((1:Int).natAbs<18446744073709551616))=true;rw [decide_eq_true r.1,decide_eq_true (by omega)];rfl)).trans ?_
 rw [Int.one_mul]
theorem aBV{b:Nat}(hb:b<x.length):aY (aK (NU x)) (.int b)=some (.int (Mk x b:Int)):=by
 unfold aK;rw [K8];refine lF ?_;unfold NU;rw [getElem?_map,getElem?_eq_getElem hb];have e:row x b=x[b]:=by unfold row; simp [hb]
 unfold Mk;rw [e];rfl
theorem aBW(h:Nat):nW (.int (h:Int))=some (kN h):=rfl
theorem aDu(A:Tab)(q:Nat->Obj->Prop)(h:Nat):RC (.dF q (kdT A).1 (kdT A).2) (.int (h:Int)) (.int 0)=some (.int ((kZ A h).getD 0)):=by show ((nW (.int (h:Int))).bind λk=>if kindB (kdT A).1 k=true then some ((cP (kdT A).1 (kdT A).2 k).getD (.int 0)) else none)=_;rw [aBW,bind_some,if_pos (IK A h),SD];cases kZ A h<;>rfl
theorem aDv{A:Tab}{q:Nat->Obj->Prop}{h:Nat}{v:Int}(e:kZ A h=some v):pS (.dF q (kdT A).1 (kdT A).2) (.int (h:Int))=some (.int v):=by show ((nW (.int (h:Int))).bind λk=>if kindB (kdT A).1 k=true then cP (kdT A).1 (kdT A).2 k else none)=_;rw [aBW,bind_some,if_pos (IK A h),SD,e];rfl
def dT(q:Nat->Obj->Prop)(A:Tab):D:=.dF q (kdT A).1 (kdT A).2
theorem aBX(A:Tab)(q:Nat->Obj->Prop):RD (dT q A)=some (A.map λp=>D.int (p.1:Int)):=by show some (((A.map λq=>kN q.1)).map dKX)=_;rw [map_map];rfl
theorem get_mem{A:Tab}(nd:(A.map (·.1)).Nodup){p:Nat×Int}(hp:p∈A):kZ A p.1=some p.2:=by
 induction A with
 | nil=>cases hp
 | cons q A ih =>
  rw [map_cons,nodup_cons] at nd;unfold kZ;rw [find?_cons];by_cases e:q.1=p.1
  .rcases List.mem_cons.1 hp with z | z
   .subst z; simp
   .exact absurd (List.mem_map.2 ⟨p,z,e.symm⟩) nd.1
  .rcases List.mem_cons.1 hp with z | z
   .exact absurd (by rw [z]) e
   .rw [decide_eq_false e];exact ih nd.2 z
end
end LL
end
section
namespace K25
open PySem L3 L4
def vC:eT:=bK 3 2
  (aH (aN 2 (bF aV (aA (aB 0) aE)))
  (aU (bF u7 (aA (bJ 1 [0,2,1] (aR (aA (aB 2) aE)) (g1 0) cH (aC mulM (aC aY (aB 1) (aB 0)) (aG LL.qL (aA (aC fE (aC fE (aC bO (aB 3) (aB 2)) (eC (.int 1))) (aB 0)) (aA (aB 2) aE))))) aE))))
def C9:eT:=bK 2 2
  (aU (bF u7 (aA (bJ 1 [0,1] (aR (aA (bF aV (aA (aB 0) aE)) aE)) (g1 0) cH (aC mulM (aC aY (aB 1) (aB 0)) (aG LL.qL (aA (aB 2) (aA (aB 0) aE))))) aE)))
def NV:eT:=bK 4 2
  (aH (aN 2 (eC (.int 0)))
  (aH (dE (XB (aA (aB 0) aE)) (lE 3)
   (aN 2 (aC bO (aC mulM (aB 2) (aB 1)) (aB 3))))
  (aU (aB 2))))
def zQ:eT:=bK 3 1
  (aH (aN 1 (eC (.int 1)))
  (aH (dE (aR (aA (aB 0) aE)) (lE 2)
   (aN 1 (aC mulM (aB 1) (aC bO (aB 2) (eC (.int 1))))))
  (aU (aB 1))))
def zR:eT:=bK 7 5
  (aH (aN 5 (aG LL.IH (aA (aB 0) (aA (aB 4) aE))))
  (aH (eV (u4 (hZ (tV (nP "int" (aB 5)))) (tV (nP "bool" (aB 5))))
   (aU (eC (.bl false)))
   bY)
  (aH (aN 6 (eC (.int 1)))
  (aH (eV (tV (aC tL (bF aV (aA (aB 0) aE)) (eC (.int 0))))
   (aN 6 (aG vC (aA (aB 1) (aA (aB 4) aE))))
   bY)
  (aH (eV (u4 (tV (aC KU (aB 5) (aB 6))) (tV (aC KU (aG C9 (aA (aB 2) (aA (aB 4) aE))) (aB 5))))
   (aU (eC (.bl false)))
   bY)
  (aU (aC kT (aG NV (aA (aB 3) (aA (aB 4) aE))) (aC mulM (aB 5) (aG zQ (aA (bF aV (aA (aB 0) aE)) aE))))))))))
def rV:eT:=bK 10 1
  (aH (aN 1 (aG LL.pA (aA (aB 0) (aA (eC (.int 0)) (aA (eC (.int 9)) (aA (eC (.int 100003)) aE))))))
  (aH (aN 2 (bF aV (aA (aB 1) aE)))
  (aH (aN 3 (aG LL.eE (aA (aB 1) aE)))
  (aH (aN 4 (aG LL.rX (aA (aB 1) aE)))
  (aH (aN 5 (aG LL.C5 (aA (aB 1) aE)))
  (aH (eV (u4 (hZ (tV (aG LL.tT (aA (aB 3) (aA (bF aAP (aA (eC (.int 1)) (aA (aB 2) aE))) aE))))) (u4 (hZ (tV (aG LL.tT (aA (aB 4) (aA (aC bO (aB 2) (eC (.int 1))) aE))))) (hZ (tV (aG LL.tT (aA (aB 5) (aA (aC bO (aB 2) (eC (.int 1))) aE)))))))
   (aU (eC (.bl false)))
   bY)
  (aH (eV (u4 (tV (aC W2 (bF aAR (aA (aB 3) aE)) (eC (.int 0)))) (u4 (tV (aC W2 (bF aAR (aA (aB 4) aE)) (eC (.int 0)))) (u4 (tV (aC KU (bF aDg (aA (aB 3) aE)) (aC aY (aB 4) (mW (eC (.int 1)))))) (tV (aC KU (aC aY (aB 5) (mW (eC (.int 1)))) (aC aY (aB 4) (mW (eC (.int 1)))))))))
   (aU (eC (.bl false)))
   bY)
  (aH (aN 6 (aC dI (aC aY (aG LL.bX (aA (aG LL.cM (aA (aB 0) (aA (eC (.int 2)) aE))) (aA (eC (.int 1)) (aA (eC (.int 200017)) aE)))) (eC (.int 0))) (eC (.int 5))))
  (aH (dE (dD (dG (aA (aB 6) (aA (aG LL.NQ (aA (aB 0) (aA (eC (.int 3)) (aA (eC (.int 300007)) aE)))) aE)))) (lE 7)
   (eV (hZ (tV (aG zR (aA (aB 1) (aA (aB 3) (aA (aB 4) (aA (aB 5) (aA (aB 7) aE))))))))
    (aU (eC (.bl false)))
    bY))
  (aH (eV (tV (aC kT (aB 2) (eC (.int 0))))
   (aU (aC qE (aB 4) (dG (aA (eC (.int 1)) aE))))
   bY)
  (aH (iA 8 (dL (aA (eC (.int 0)) aE)))
  (aH (dE (aR (aA (eC (.int 1)) (aA (aC bO (aB 2) (eC (.int 1))) aE))) (lE 9)
   (sX (kU 8 eX (aZ (bF u7 (aA (bJ 1 [3,2,9] (aR (aA (aB 9) aE)) (g1 0) cH (aC mulM (aC aY (aB 1) (aB 0)) (aG LL.qL (aA (aC fE (aC fE (aB 2) (eC (.int 1))) (aB 0)) (aA (aC fE (aC fE (aB 3) (eC (.int 1))) (aB 0)) aE))))) aE))))))
  (aU (aC aIR (bF rM (aA (aB 4) aE)) (aB 8)))))))))))))))
end K25
end
section
namespace K25
open PySem L3 L4 K24 LL
section
variable{x:List (List Int)}
def aDw(x:List (List Int)):List Int:=aAU x.length (shares x) 0 (List.replicate (x.length+1) 0)
end
abbrev st(ns:List Int)(x:List (List Int))(nr:Int)(v7 v8 v9:Sv):aP:=[.ro (.jW ns),.ro (aJ x),.ro (.int x.length),.ro (tupI (shares x)),.ro (tupI (aBS x)),.ro (tupI (aDw x)),.ro (.int nr),v7,v8,v9]
end K25
end
section
namespace LL
open PySem L3 L4 K24
section
variable(x:List (List Int))
def cnt:Nat->List Int->Int
 | 0,_=>1
 | m+1,a=>((bL x a).map λt=>cnt m (cQ a t)).sum
def gls:Nat->List (List Int)
 | 0=>[[]]
 | i+1=>(gls i).flatMap λw=>(bL x w).map λt=>w++[t]
end
section
variable{x:List (List Int)}
theorem FF:∀ {a b:List Int},a.length=b.length->(zO a b).sum=a.sum+b.sum
 | [],[],_=>rfl
 | [],_::_,h=>by simp at h
 | _::_,[],h=>by simp at h
 | y::a,z::b,h=>by have ih:=FF (a:=a) (b:=b) (by simpa using h);show y+z+(zO a b).sum=_;rw [ih,sum_cons,sum_cons];omega
theorem X7{w:List Int}(h:w.getLast? = some 0):(xA w).sum=w.sum:=by obtain ⟨l,hl⟩:=List.getLast?_eq_some_iff.1 h;subst hl;unfold xA;simp
theorem IL:∀ (m:Nat) (a:List Int) (l:Int),a.length+m=x.length->(l=-1\/l∈a)->(Sh x m a l).sum=cnt x m a
 | 0,a,l,_,_=>by
  show (R5 x.length).sum=1;unfold R5;rw [sum_cons];have:(List.replicate (max x.length 1 - 1) (0:Int)).sum=0:=by simp
  rw [this];rfl
 | m+1,a,l,hl,hm=>by
  rw [vR];have go:∀ (ts acc:List Int),(∀ t∈ts,t∈bL x a)->acc.length=max x.length 1->(ts.foldl (A6 x m a l) acc).sum=acc.sum+(ts.map λt=>cnt x m (cQ a t)).sum:=by
   intro ts
   induction ts with
   | nil=>intro acc _ _; simp
   | cons t ts ih =>
    intro acc ht h;have hS:=A5 x m (cQ a t) t;have tr:=ht t mem_cons_self;have t0:=FB tr;have tn:=(iT tr).2;have hlen:acc.length=(if t<l then xA (Sh x m (cQ a t) t) else Sh x m (cQ a t) t).length:=by
     rw [h];split
     .rw [uO (by omega)]; exact hS.symm
     .exact hS.symm
    have es:(if t<l then xA (Sh x m (cQ a t) t) else Sh x m (cQ a t) t).sum=cnt x m (cQ a t):=by
     rw [<- IL m (cQ a t) t (by rw [xC]; omega) (.inr (mF.2 (.inr rfl)))];split
     .rename_i h1;refine X7 ?_;have la:l∈a:=hm.resolve_left (by omega)
      have a1:1<=a.length:=by cases a with
       | nil=>cases la
       | cons _ _=>simp
      have hz:=R8 x m (cQ a t) t;rw [List.getLast?_eq_getElem?,hS];have hlt:max x.length 1 - 1<(Sh x m (cQ a t) t).length:=by omega
      rw [getElem?_eq_getElem hlt];congr 1;exact hz _ _ (getElem?_eq_getElem hlt) (by omega)
     .rfl
    rw [foldl_cons,ih _ (λu hu=>ht u (mem_cons_of_mem _ hu)) (by unfold A6; rw [uN hlen,h]),map_cons,sum_cons];unfold A6;rw [FF hlen,es];omega
  have:=go (bL x a) (R6 x.length) (λt h=>h) (xB _);rw [this];have e0:(R6 x.length).sum=0:=by unfold R6; simp
  rw [e0,Int.zero_add];rfl
theorem tU:∀ (m:Nat) {a b:List Int},(∀ t,t∈a↔t∈b)->cnt x m a=cnt x m b
 | 0,a,b,_=>rfl
 | m+1,a,b,h=>by show ((bL x a).map λt=>cnt x m (cQ a t)).sum=((bL x b).map λt=>cnt x m (cQ b t)).sum;rw [FC h];congr 1;refine map_congr_left λt _=>tU m λu=>?_;rw [mF,mF,h u]
theorem LN:∀ (i r:Nat),((gls x i).map (cnt x r)).sum=cnt x (i+r) []
 | 0,r=>by simp [gls]
 | i+1,r=>by
  have ih:=LN i (r+1);rw [show i+1+r=i+(r+1) by omega,<- ih];have go:∀ L:List (List Int),((L.flatMap λw=>(bL x w).map λt=>w++[t]).map (cnt x r)).sum=(L.map (cnt x (r+1))).sum:=by
   intro L
   induction L with
   | nil=>rfl
   | cons w L ihL =>
    rw [flatMap_cons,map_append,List.sum_append,ihL,map_cons,sum_cons,map_map];congr 1;show _=((bL x w).map λt=>cnt x r (cQ w t)).sum;congr 1;refine map_congr_left λt _=>tU r λu=>?_;rw [mF];simp
  exact go _
theorem LO:((gls x x.length).length:Int)=(shares x).sum:=by
 have h:=LN (x:=x) x.length 0;have e:((gls x x.length).map (cnt x 0)).sum=((gls x x.length).length:Int):=by
  have:∀ L:List (List Int),(L.map (cnt x 0)).sum=(L.length:Int):=by
   intro L
   induction L with
   | nil=>rfl
   | cons w L ih =>
    rw [map_cons,sum_cons,ih,length_cons];show (1:Int)+_=_;omega
  exact this _
 rw [<- e,h,Nat.add_zero,<- IL x.length [] (-1) (by simp) (.inl rfl)];unfold shares;rw [R9 x x.length [] (l:=-1) (l':=0) (by decide) (by decide)]
end
theorem A9{α:Type}(c:Int)(f:α->Int):∀ L:List α,(L.map λa=>c*f a).sum=c*(L.map f).sum
 | []=>by simp
 | a::L=>by have ih:=A9 c f L;simp only [map_cons,sum_cons,ih,Int.mul_add]
theorem FG{α:Type}(p:α->Bool)(f:α->Int):∀ L:List α,((L.filter p).map f).sum=(L.map λa=>if p a=true then f a else 0).sum
 | []=>rfl
 | a::L=>by
  have ih:=FG p f L;by_cases h:p a=true
  .rw [List.filter_cons_of_pos h,map_cons,sum_cons,map_cons,sum_cons,ih,if_pos h]
  .rw [List.filter_cons_of_neg h,map_cons,sum_cons,ih,if_neg h,Int.zero_add]
section
variable(x:List (List Int))
end
section
variable{x:List (List Int)}
end
section
variable{x:List (List Int)}
theorem j5:∀ {i:Nat} {w:List Int},w∈gls x i->w.length=i /\ ∀ u t v,w=u++t::v->t∈bL x u
 | 0,w,h=>by
  have:w=[]:=by simpa [gls] using h
  subst this;exact ⟨rfl,λu t v e=>by simp at e⟩
 | i+1,w,h=>by
  obtain ⟨w',hw',hm⟩:=List.mem_flatMap.1 (show w∈(gls x i).flatMap λw=>(bL x w).map λt=>w++[t] from h);obtain ⟨t,ht,rfl⟩:=List.mem_map.1 hm;have ih:=j5 hw';refine ⟨by rw [List.length_append,ih.1]; rfl,λu s v e=>?_⟩;rcases List.eq_nil_or_concat v with rfl | ⟨v',b,rfl⟩
  .have h1:=append_inj' e rfl;have:t=s:=by simpa using h1.2
   rw [<- this,<- h1.1];exact ht
  .have e2:w'++[t]=(u++s::v')++[b]:=by rw [e]; simp
   have h1:=append_inj' e2 rfl;exact ih.2 u s v' h1.1
theorem tW:∀ {i:Nat} {w:List Int},w.length=i->(∀ u t v,w=u++t::v->t∈bL x u)->w∈gls x i
 | 0,w,h,_=>by have:w=[]:=List.length_eq_zero_iff.1 h;subst this;exact List.mem_singleton.2 rfl
 | i+1,w,h,hp=>by
  rcases List.eq_nil_or_concat w with rfl | ⟨w',b,rfl⟩
  .cases h
  .refine List.mem_flatMap.2 ⟨w',tW (by simpa using h) λu t v e=>hp u t (v++[b]) (by rw [e]; simp),List.mem_map.2 ⟨b,hp w' b [] (by simp),by simp⟩⟩
end
section
variable{x y:List (List Int)}
theorem DA:∀ i:Nat,(gls x i).Nodup
 | 0=>by simp [gls]
 | i+1=>by
  show ((gls x i).flatMap λw=>(bL x w).map λt=>w++[t]).Nodup;unfold List.Nodup;rw [List.pairwise_flatMap];refine ⟨λw _=>?_,(DA i).imp λ{a b} hab u hu v hv e=>?_⟩
  .exact List.pairwise_map.2 ((SC w).imp λ{a b} hab e=>hab (by have:=(append_inj' e rfl).2; simpa using this))
  .obtain ⟨t,_,rfl⟩:=List.mem_map.1 hu;obtain ⟨s,_,rfl⟩:=List.mem_map.1 hv;exact hab (append_inj' e rfl).1
theorem rY{w:List Int}(h:∀ u t v,w=u++t::v->t∈bL x u):w.Nodup /\ ∀ t∈w,0<=t/\t<(x.length:Int):=by
 have key:∀ (r u:List Int),(∀ p t v,u++r=p++t::v->t∈bL x p)->u.Nodup->(u++r).Nodup:=by
  intro r
  induction r with
  | nil=>intro u _ hu; rw [append_nil]; exact hu
  | cons t r ih =>
   intro u hp hu;have ht:=(iT (hp u t r rfl)).2;have e:u++t::r=(u++[t])++r:=by simp
   rw [e];refine ih (u++[t]) (λp s v e2=>hp p s v (by rw [e,e2])) ?_;rw [nodup_append];exact ⟨hu,by simp,λa ha b hb e=>ht (by rw [mem_singleton] at hb; rw [<- hb,<- e]; exact ha)⟩
 refine ⟨key w [] h nodup_nil,λt ht=>?_⟩;obtain ⟨u,v,rfl⟩:=append_of_mem ht;exact (iT (h u t v rfl)).1
theorem tX{w:List Int}(hl:w.length=x.length)(h:∀ u t v,w=u++t::v->t∈bL x u){b:Int}(h0:0<=b)(h1:b<(x.length:Int)):b∈w:=by
 obtain ⟨nd,hr⟩:=rY h;refine Classical.byContradiction λhb=>?_;have:=Ord.eJ (b::w) (bG 0 x.length) (List.nodup_cons.2 ⟨hb,nd⟩) λt ht=>by
  rcases List.mem_cons.1 ht with z | z
  .rw [z]; exact cB.2 ⟨h0,by omega⟩
  .have:=hr t z; exact cB.2 ⟨this.1,by omega⟩
 rw [length_cons,aQ] at this;omega
def Turned(x y:List (List Int)):Prop:=y.length=x.length /\ ∀ a b:Int,0<=b->b<(x.length:Int)->(a∈row y ((x.length:Int) - 1 - b)↔(x.length:Int) - 1 - a∈row x b)
theorem Turned.symm(h:Turned x y):Turned y x:=by refine ⟨h.1.symm,λa b h0 h1=>?_⟩;rw [h.1] at h1 ⊢;have e:=h.2 ((x.length:Int) - 1 - a) ((x.length:Int) - 1 - b) (by omega) (by omega);rw [show (x.length:Int) - 1 - ((x.length:Int) - 1 - b)=b by omega,show (x.length:Int) - 1 - ((x.length:Int) - 1 - a)=a by omega] at e;exact e.symm
def IM(x z:List (List Int)):Prop:=z.length=x.length /\ ∀ a b:Int,0<=a->a<(x.length:Int)->0<=b->b<(x.length:Int)->(a∈row x b↔b∈row z a)
theorem IM.symm(h:IM x y):IM y x:=⟨h.1.symm,λa b h0 h1 h2 h3=>by rw [h.1] at h1 h3; exact (h.2 b a h2 h3 h0 h1).symm⟩
end
section
variable{x:List (List Int)}
theorem pD{b:Int}:∀ {u u' v v':List Int},(u++b::v).Nodup->u++b::v=u'++b::v'->u=u'
 | [],[],_,_,_,_=>rfl
 | [],c::u',v,v',nd,e=>by simp only [nil_append,cons_append,List.cons.injEq] at e;rw [nil_append,nodup_cons] at nd;exact absurd (by rw [e.2]; exact mem_append_right _ mem_cons_self) nd.1
 | c::u,[],v,v',nd,e=>by simp only [nil_append,cons_append,List.cons.injEq] at e;rw [cons_append,nodup_cons] at nd;exact absurd (by rw [e.1]; exact mem_append_right _ mem_cons_self) nd.1
 | c::u,d::u',v,v',nd,e=>by simp only [cons_append,List.cons.injEq] at e;rw [cons_append,nodup_cons] at nd;rw [e.1,pD nd.2 e.2]
def Bef(a b:Int)(w:List Int):Prop:=∃ u v,w=u++b::v/\a∈u
theorem SG{a b:Int}(ha:0<=a/\a<(x.length:Int))(hb:0<=b/\b<(x.length:Int)){w:List Int}(hw:w∈gls x x.length)(h:Bef a b w):w∈gls (put x a b) x.length:=by
 have hg:=j5 hw;have nd:=(rY hg.2).1;obtain ⟨u,v,e,hu⟩:=h;refine tW hg.1 λp t q et=>?_;have hr:=iV.1 (hg.2 p t q et);have tail:∀ l,(l=a\/l∈row x a)->a∈p->l∈p:=λl hl hap=>by
  rcases hl with z | z
  .rw [z]; exact hap
  .obtain ⟨r1,r2,er⟩:=append_of_mem hap;have:=(iV.1 (hg.2 r1 a (r2++t::q) (by rw [et,er]; simp))).2.2 l z;rw [er];exact mem_append_left _ this
 refine iV.2 ⟨by rw [dP]; exact hr.1,hr.2.1,λl hl=>?_⟩;rcases (lG hr.1.1 hr.1.2).1 hl with z | ⟨z | z,hz⟩
 .exact hr.2.2 l z
 .subst z;refine tail l hz ?_;have:u=p:=pD (by rw [<- e]; exact nd) (by rw [<- e,et]);rw [<- this];exact hu
 .refine tail l hz ?_;have hbp:=hr.2.2 b z;obtain ⟨r1,r2,er⟩:=append_of_mem hbp;have:u=r1:=pD (b:=b) (v':=r2++t::q) (by rw [<- e]; exact nd) (by rw [<- e,et,er]; simp);rw [er,<- this];exact mem_append_left _ hu
theorem vS{a b:Int}(hb:0<=b/\b<(x.length:Int)){w:List Int}(hw:w∈gls (put x a b) x.length):w∈gls x x.length/\Bef a b w:=by
 have hg:=j5 hw;have hpl:=dP x a b;refine ⟨tW hg.1 λp t q et=>?_,?_⟩
 .have hr:=iV.1 (hg.2 p t q et);rw [hpl] at hr;exact iV.2 ⟨hr.1,hr.2.1,λl hl=>hr.2.2 l ((lG hr.1.1 hr.1.2).2 (.inl hl))⟩
 .have hbw:b∈w:=tX (x:=put x a b) (by rw [hg.1,hpl]) hg.2 hb.1 (by rw [hpl]; exact hb.2);obtain ⟨u,v,e⟩:=append_of_mem hbw;exact ⟨u,v,e,(iV.1 (hg.2 u b v e)).2.2 a ((lG hb.1 hb.2).2 (.inr ⟨.inl rfl,.inl rfl⟩))⟩
theorem X8{a b:Int}{w:List Int}(nd:w.Nodup)(h1:Bef a b w)(h2:Bef b a w):False:=by
 obtain ⟨u,v,e,hu⟩:=h1;obtain ⟨u',v',e',hu'⟩:=h2;obtain ⟨r1,r2,er⟩:=append_of_mem hu;have h3:u' = r1:=pD (b:=a) (v':=r2++b::v) (by rw [<- e']; exact nd) (by rw [<- e',e,er]; simp);have h4:b∈u:=by rw [er,<- h3]; exact mem_append_left _ hu'
 rw [e] at nd;exact (List.nodup_append.1 nd).2.2 b h4 b mem_cons_self rfl
theorem aBY{a b:Int}(hab:a≠b)(ha:0<=a/\a<(x.length:Int))(hb:0<=b/\b<(x.length:Int)){w:List Int}(hw:w∈gls x x.length):Bef a b w\/Bef b a w:=by
 have hg:=j5 hw;have h1:=tX hg.1 hg.2 ha.1 ha.2;obtain ⟨u,v,e⟩:=append_of_mem (tX hg.1 hg.2 hb.1 hb.2);rw [e] at h1;rcases List.mem_append.1 h1 with z | z
 .exact .inl ⟨u,v,e,z⟩
 .rcases List.mem_cons.1 z with z | z
  .exact absurd z hab
  .obtain ⟨v1,v2,ev⟩:=append_of_mem z;exact .inr ⟨u++b::v1,v2,by rw [e,ev]; simp,mem_append_right _ mem_cons_self⟩
end
section
variable{x y z:List (List Int)}
structure Sd (x y z:List (List Int)):Prop where
 len:z.length=x.length+y.length
 lo:∀ t:Int,0<=t->t<(x.length:Int) -> ∀ a,a∈row z t↔a∈row x t
 hi:∀ t:Int,0<=t->t<(y.length:Int) -> ∀ a,a∈row z (t+x.length)↔a - x.length∈row y t
 rx:∀ t:Int,0<=t->t<(x.length:Int) -> ∀ a∈row x t,0<=a/\a<(x.length:Int)
 ry:∀ t:Int,0<=t->t<(y.length:Int) -> ∀ a∈row y t,0<=a/\a<(y.length:Int)
structure Cb (x y:List (List Int)) (a b c:List Int):Prop where
 lo:∀ t:Int,0<=t->t<(x.length:Int)->(t∈c↔t∈a)
 hi:∀ t:Int,0<=t->t<(y.length:Int)->(t+x.length∈c↔t∈b)
theorem X9{a:List Int}{t:Int}(h:okI x a)(ht:t∈bL x a):okI x (cQ a t):=by
 obtain ⟨r,n⟩:=iT ht;refine ⟨?_,λs hs=>?_⟩
 .unfold cQ;refine ((sortI_perm (a++[t])).nodup_iff).2 ?_;rw [nodup_append];exact ⟨h.1,by simp,λp hp q hq e=>n (by rw [mem_singleton] at hq; rw [<- hq,<- e]; exact hp)⟩
 .rcases mF.1 hs with q | q
  .exact h.2 s q
  .rw [q]; exact r
end
section
variable{x y z:List (List Int)}
structure Av (x y z:List (List Int)) (s t:Int):Prop where
 len:z.length=x.length+y.length
 lo:∀ a:Int,0<=a->a<(x.length:Int) -> ∀ b,b∈row z (a+s)↔b - s∈row x a
 hi:∀ a:Int,0<=a->a<(y.length:Int) -> ∀ b,b∈row z (a+t)↔(s<=b/\b<s+x.length)\/b - t∈row y a
 rx:∀ a:Int,0<=a->a<(x.length:Int) -> ∀ b∈row x a,0<=b/\b<(x.length:Int)
 ry:∀ a:Int,0<=a->a<(y.length:Int) -> ∀ b∈row y a,0<=b/\b<(y.length:Int)
 st:(s=0/\t=x.length)\/(s=y.length/\t=0)
theorem BA{a:List Int}{t:Int}:t∈bL x a↔0<=t/\t<(x.length:Int)/\t∉a /\ ∀ l∈row x t,l∈a:=by
 unfold bL;rw [mem_filter,mem_filter,cB,all_eq_true]
 constructor
 .intro ⟨⟨⟨h0,h1⟩,h2⟩,h3⟩;exact ⟨h0,by omega,by simpa using h2,λl hl=>by simpa using h3 l hl⟩
 .intro ⟨h0,h1,h2,h3⟩;exact ⟨⟨⟨h0,by omega⟩,by simpa using h2⟩,λl hl=>by simpa using h3 l hl⟩
end
theorem aI2{i:Nat}{f:EF}{Z:aP}{d:D}(h:f (kD Z)=some d):iA i f Z=.nx (Z.set i (.ow d)):=by unfold iA;rw [h]
theorem DB(f:Int->Int)(n:Nat):((bG 0 (n+1)).map f).sum=((bG 0 n).map f).sum+f n:=by rw [iQ,map_append,List.sum_append];show _+(f (0+(n:Int))+0)=_;rw [Int.zero_add];omega
theorem YA{l:List Int}{i:Int}(h0:0<=i)(h1:i<(l.length:Int)):at0 l i∈l:=by unfold at0;rw [getElem?_eq_getElem (by omega)];exact getElem_mem _
end LL
end
section
namespace LL
open PySem L3 L4
def gB:eT:=bK 7 1
  (aH (aN 1 (aG LL.iU (aA (aB 0) aE)))
  (aH (CN 2 (eC (.int 0)) (eC (.int 1)))
  (aH (dE (aR (aA (bF aV (aA (aB 0) aE)) aE)) (lE 3)
   (aH (EX 4)
   (aH (XE 2 (dE (HW (aB 2)) (lE 5)
    (dE (aR (aA (bF aV (aA (aB 0) aE)) aE)) (lE 6)
     (eV (kX (tV (aC kT (aC nX (aC HX (aB 5) (aB 6)) (eC (.int 1))) (eC (.int 0)))) (tV (aC kT (aC nX (aC aY (aB 1) (aB 6)) (aB 5)) (aC aY (aB 1) (aB 6)))))
      (mC 4 (fZ (aC bO (K3 (aB 4) (aC HY (aB 5) (aC wK (eC (.int 1)) (aB 6))) (eC (.int 0))) (aC pS (aB 2) (aB 5)))) (aC HY (aB 5) (aC wK (eC (.int 1)) (aB 6))))
      bY))))
   (K4 2 4))))
  (aU (aC pS (aB 2) (aC fE (aC wK (eC (.int 1)) (bF aV (aA (aB 0) aE))) (eC (.int 1))))))))
end LL
end
section
namespace LL
open PySem L3 L4 K24
section
variable{x:List (List Int)}
theorem eO{t:Int}(h0:0<=t)(h1:t<(x.length:Int)):x[t.toNat]? = some (row x t):=by unfold row;rw [getElem?_eq_getElem (by omega)];rfl
theorem FH(hx:Ord.Rows x){t l:Int}(h0:0<=t)(h1:t<(x.length:Int))(hl:l∈row x t):(0<=l/\l<(x.length:Int))/\(row x l).length<(row x t).length:=by
 have hr:=hx.rng _ _ (eO h0 h1) l hl;refine ⟨hr,?_⟩;have e:((l.toNat:Nat):Int)=l:=by omega
 have sub:∀ c∈l::row x l,c∈row x t:=λc hc=>by
  rcases List.mem_cons.1 hc with q | q
  .rw [q]; exact hl
  .exact hx.tr t.toNat l.toNat _ _ (eO h0 h1) (by rw [e]; exact hl) (eO hr.1 hr.2) c q
 have nd:(l::row x l).Nodup:=List.nodup_cons.2 ⟨by have:=hx.W4 l.toNat _ (eO hr.1 hr.2); rwa [e] at this,(hx.up _ _ (eO hr.1 hr.2)).imp λ{a b} (q:a<b)=>by omega⟩;have:=Ord.eJ _ _ nd sub;rw [length_cons] at this;omega
theorem SH(hx:Ord.Rows x){a:List Int}(ha:okI x a)(hl:a.length<x.length):∃ t,t∈bL x a:=by
 have go:∀ (n:Nat) (t:Int),(row x t).length<=n->0<=t->t<(x.length:Int)->t∉a -> ∃ t,t∈bL x a:=by
  intro n
  induction n with
  | zero =>
   intro t hn h0 h1 ht;refine ⟨t,BA.2 ⟨h0,h1,ht,λl hm=>?_⟩⟩;have:=(FH hx h0 h1 hm).2;omega
  | succ n ih =>
   intro t hn h0 h1 ht;by_cases c:∃ l∈row x t,l∉a
   .obtain ⟨l,hm,hla⟩:=c;have:=FH hx h0 h1 hm;exact ih l (by omega) this.1.1 this.1.2 hla
   .exact ⟨t,BA.2 ⟨h0,h1,ht,λl hm=>Classical.byContradiction λq=>c ⟨l,hm,q⟩⟩⟩
 have:∃ t∈bG 0 x.length,t∉a:=by refine Classical.byContradiction λq=>?_;have:=Ord.eJ (bG 0 x.length) a (C4 _) λt ht=>Classical.byContradiction λc=>q ⟨t,ht,c⟩;rw [aQ] at this;omega
 obtain ⟨t,ht,hta⟩:=this;have hr:=cB.1 ht;exact go _ t (le_refl _) hr.1 (by omega) hta
theorem SI{α:Type}{f:α->Int}:∀ {l:List α} {a:α},(∀ b∈l,0<=f b)->a∈l->f a<=(l.map f).sum
 | b::l,a,h,ha=>by
  have nn:∀ {l:List α},(∀ b∈l,0<=f b)->0<=(l.map f).sum:=λ{l} h=>by
   induction l with
   | nil=>exact Int.le_refl 0
   | cons c l ih =>
    rw [map_cons,sum_cons];have:=h c mem_cons_self;have:=ih λb hb=>h b (mem_cons_of_mem _ hb);omega
  rw [map_cons,sum_cons];rcases List.mem_cons.1 ha with q | q
  .rw [q];have:=nn λc hc=>h c (mem_cons_of_mem _ hc);omega
  .have:=h b mem_cons_self;have:=SI (λc hc=>h c (mem_cons_of_mem _ hc)) q;omega
theorem SJ:∀ (m:Nat) (a:List Int),0<=cnt x m a
 | 0,a=>by show (0:Int)<=1; decide
 | m+1,a=>by
  show 0<=((bL x a).map λt=>cnt x m (cQ a t)).sum;have nn:∀ {l:List Int},0<=(l.map λt=>cnt x m (cQ a t)).sum:=λ{l}=>by
   induction l with
   | nil=>exact Int.le_refl 0
   | cons c l ih =>
    rw [map_cons,sum_cons];have:=SJ m (cQ a c);omega
  exact nn
theorem LP(hx:Ord.Rows x):∀ (m:Nat) (a:List Int),okI x a->a.length+m=x.length->1<=cnt x m a
 | 0,a,_,_=>by show (1:Int)<=1; decide
 | m+1,a,ha,hl=>by obtain ⟨t,ht⟩:=SH hx ha (by omega);have h1:=LP hx m (cQ a t) (X9 ha ht) (by rw [xC]; omega);have h2:=SI (f:=λt=>cnt x m (cQ a t)) (λb _=>SJ m _) ht;show 1<=((bL x a).map λt=>cnt x m (cQ a t)).sum;omega
theorem LQ:cnt x x.length []=(shares x).sum:=by rw [<- IL x.length [] (-1) (by simp) (.inl rfl),R9 x x.length [] (l:=-1) (l':=0) (by decide) (by decide)];rfl
theorem qM(hx:Ord.Rows x):1<=(shares x).sum:=by rw [<- LQ];exact LP hx _ [] XX (by simp)
theorem NW(hx:Ord.Rows x)(S:Nat)(f:Int->Int):((bL x (things x S)).map f).sum=((bG 0 x.length).map λt=>if LH x t.toNat S=true then f t else 0).sum:=by
 unfold bL;rw [List.filter_filter,FG];congr 1;refine map_congr_left λt ht=>?_;have hr:=cB.1 ht;have hi:=X1 hx (b:=t.toNat) (S:=S) (by omega);rw [show ((t.toNat:Nat):Int)=t by omega] at hi;have hm:t∈bL x (things x S)↔((LL.row x t).all λl=>(things x S).contains l)=true/\(!(things x S).contains t)=true:=by unfold bL;rw [mem_filter,mem_filter];exact ⟨λh=>⟨h.2,h.1.2⟩,λh=>⟨⟨ht,h.2⟩,h.1⟩⟩
 by_cases hc:LH x t.toNat S=true
 .rw [if_pos hc,if_pos (by have:=hm.1 (hi.1 hc); rw [Bool.and_eq_true]; exact this)]
 .rw [if_neg hc,if_neg];intro h;rw [Bool.and_eq_true] at h;exact hc (hi.2 (hm.2 h))
def Cm(x:List (List Int))(S:Nat):Int:=cnt x (x.length - (things x S).length) (things x S)
theorem YB(hx:Ord.Rows x){S:Nat}(hl:(things x S).length<x.length):Cm x S=((bG 0 x.length).map λt=>if LH x t.toNat S=true then Cm x (S ||| 2 ^ t.toNat) else 0).sum:=by
 obtain ⟨m,hm⟩:∃ m,x.length - (things x S).length=m+1:=⟨x.length - (things x S).length - 1,by omega⟩;unfold Cm;rw [hm];show ((bL x (things x S)).map λt=>cnt x m (cQ (things x S) t)).sum=_;rw [NW hx];congr 1;refine map_congr_left λt ht=>?_;have hr:=cB.1 ht;by_cases c:LH x t.toNat S=true
 .rw [if_pos c,if_pos c];have tb:S.testBit t.toNat=false:=by unfold LH at c;rw [Bool.and_eq_true] at c;simpa using c.1
  rw [n5 (by omega) tb,show x.length - ((things x S).length+1)=m by omega];refine tU m λu=>?_;have h:=A8 (x:=x) (S:=S) (b:=t.toNat) (by omega) u;rw [show ((t.toNat:Nat):Int)=t by omega] at h;exact h.symm
 .rw [if_neg c,if_neg c]
def stM(x:List (List Int))(F:Tab)(S:Nat)(v:Int)(b:Nat):Tab:=if LH x b S=true then zP F (S ||| 2 ^ b) ((kZ F (S ||| 2 ^ b)).getD 0+v) else F
def stN(x:List (List Int))(F:Tab)(S:Nat)(v:Int):Nat->Tab
 | 0=>F
 | b+1=>stM x (stN x F S v b) S v b
def Kl(x:List (List Int))(i:Nat)(F:Tab):Prop:=∀ q∈F,(things x q.1).length=i
theorem SK{A:Tab}{h:Nat}{v:Int}{q:Nat×Int}(hq:q∈zP A h v):q∈A\/q.1=h:=by
 unfold zP at hq;split at hq
 .obtain ⟨p,hp,e⟩:=List.mem_map.1 hq;by_cases c:p.1=h
  .rw [if_pos c] at e; exact .inr (by rw [<- e]; exact c)
  .rw [if_neg c] at e; exact .inl (by rw [<- e]; exact hp)
 .rcases List.mem_append.1 hq with z | z
  .exact .inl z
  .rw [mem_singleton] at z; exact .inr (by rw [z])
theorem IN{F:Tab}{S:Nat}{v:Int}{i:Nat}(o:LI x.length F)(k:Kl x (i+1) F)(hS:S<2 ^ x.length)(hi:(things x S).length=i):∀ b,b<=x.length->LI x.length (stN x F S v b)/\Kl x (i+1) (stN x F S v b)/\tot (stN x F S v b) (Cm x)=tot F (Cm x)+((bG 0 b).map λt=>if LH x t.toNat S=true then v*Cm x (S ||| 2 ^ t.toNat) else 0).sum
 | 0,_=>⟨o,k,(Int.add_zero _).symm⟩
 | b+1,hb=>by
  obtain ⟨o1,k1,t1⟩:=IN (v:=v) o k hS hi b (by omega);rw [DB];show LI x.length (stM x (stN x F S v b) S v b)/\Kl x (i+1) (stM x (stN x F S v b) S v b)/\tot (stM x (stN x F S v b) S v b) (Cm x)=_;unfold stM;rw [Int.toNat_natCast];by_cases c:LH x b S=true
  .rw [if_pos c,if_pos c,X2 _ _ _ o1.nd,t1];have tb:S.testBit b=false:=by unfold LH at c;rw [Bool.and_eq_true] at c;simpa using c.1
   refine ⟨o1.put (aDs hS (by omega)) _,λq hq=>?_,by omega⟩;rcases SK hq with z | z
   .exact k1 q z
   .rw [z,n5 (by omega) tb,hi]
  .rw [if_neg c,if_neg c,t1];exact ⟨o1,k1,by omega⟩
def NX(x:List (List Int))(F:Tab)(q:Nat×Int):Tab:=stN x F q.1 q.2 x.length
def aDx(x:List (List Int))(A:Tab):Tab:=A.foldl (NX x) []
def dQ(x:List (List Int)):Nat->Tab
 | 0=>[(0,1)]
 | i+1=>aDx x (dQ x i)
theorem aAV(hx:Ord.Rows x){F:Tab}{q:Nat×Int}{i:Nat}(o:LI x.length F)(k:Kl x (i+1) F)(hS:q.1<2 ^ x.length)(hi:(things x q.1).length=i)(hlt:i<x.length):LI x.length (NX x F q)/\Kl x (i+1) (NX x F q)/\tot (NX x F q) (Cm x)=tot F (Cm x)+q.2*Cm x q.1:=by
 obtain ⟨o1,k1,t1⟩:=IN (v:=q.2) o k hS hi x.length (le_refl _);refine ⟨o1,k1,?_⟩;unfold NX;rw [t1,YB hx (by omega),<- A9];congr 2;refine map_congr_left λt _=>?_;split
 .rfl
 .rw [Int.mul_zero]
theorem SL(hx:Ord.Rows x){i:Nat}(hlt:i<x.length):∀ (A F:Tab),(∀ q∈A,q.1<2 ^ x.length)->Kl x i A->LI x.length F->Kl x (i+1) F->LI x.length (A.foldl (NX x) F)/\Kl x (i+1) (A.foldl (NX x) F)/\tot (A.foldl (NX x) F) (Cm x)=tot F (Cm x)+tot A (Cm x)
 | [],F,_,_,o,k=>⟨o,k,(Int.add_zero _).symm⟩
 | q::A,F,hA,kA,o,k=>by obtain ⟨o1,k1,t1⟩:=aAV hx o k (hA q mem_cons_self) (kA q mem_cons_self) hlt;obtain ⟨o2,k2,t2⟩:=SL hx hlt A (NX x F q) (λr hr=>hA r (mem_cons_of_mem _ hr)) (λr hr=>kA r (mem_cons_of_mem _ hr)) o1 k1;rw [foldl_cons];refine ⟨o2,k2,?_⟩;rw [t2,t1];show _=_+(q.2*Cm x q.1+tot A (Cm x));omega
theorem DC(hx:Ord.Rows x):∀ i:Nat,i<=x.length->LI x.length (dQ x i)/\Kl x i (dQ x i)/\tot (dQ x i) (Cm x)=(shares x).sum
 | 0,_=>by
  refine ⟨⟨by simp [dQ],λq hq=>?_⟩,λq hq=>?_,?_⟩
  .rw [show dQ x 0=[(0,1)] from rfl,mem_singleton] at hq;rw [hq]; exact Nat.two_pow_pos _
  .rw [show dQ x 0=[(0,1)] from rfl,mem_singleton] at hq;rw [hq,uP]; rfl
  .show 1*Cm x 0+0=_;unfold Cm;rw [uP,<- LQ];show 1*cnt x (x.length - 0) []+0=_;rw [Nat.sub_zero];omega
 | i+1,h=>by
  obtain ⟨o,k,t⟩:=DC hx i (by omega);obtain ⟨o1,k1,t1⟩:=SL hx (i:=i) (by omega) (dQ x i) [] o.lt k ⟨nodup_nil,λ_ h=>by cases h⟩ λ_ h=>by cases h
  refine ⟨o1,k1,?_⟩;show tot ((dQ x i).foldl (NX x) []) (Cm x)=_;rw [t1,t];show 0+_=_;omega
theorem aBZ(hx:Ord.Rows x):kZ (dQ x x.length) (2 ^ x.length - 1)=some (shares x).sum:=by
 obtain ⟨o,k,t⟩:=DC hx x.length (le_refl _);have full:∀ q∈dQ x x.length,q.1=2 ^ x.length - 1:=λq hq=>(FD (o.lt q hq)).1 (k q hq);have one:∀ {S:Nat},(things x S).length=x.length->Cm x S=1:=λ{S} h=>by unfold Cm;rw [h,Nat.sub_self];rfl
 have hp:=qM hx;generalize dQ x x.length=A at o k t full
 match A,o,k,t,full with
 | [],_,_,t,_ =>
  have:(0:Int)=(shares x).sum:=t;omega
 | [q],o,k,t,full =>
  have e1:=full q mem_cons_self;have t2:q.2*Cm x q.1+0=(shares x).sum:=t;rw [one (k q mem_cons_self)] at t2;unfold kZ;rw [find?_cons,decide_eq_true e1];show some q.2=_;congr 1;omega
 | q::r::A,o,_,_,full =>
  have nd:=o.nd;rw [map_cons,map_cons,nodup_cons] at nd;exact absurd (by rw [full q mem_cons_self,full r (mem_cons_of_mem _ mem_cons_self)]; exact mem_cons_self) nd.1
abbrev SM(x:List (List Int))(s2 s3 s4 s5 s6:Sv):aP:=[.ro (aJ x),.ro (aK (NU x)),s2,s3,s4,s5,s6]
abbrev bMb:L4.SF:=eV (kX (tV (aC kT (aC nX (aC HX (aB 5) (aB 6)) (eC (.int 1))) (eC (.int 0)))) (tV (aC kT (aC nX (aC aY (aB 1) (aB 6)) (aB 5)) (aC aY (aB 1) (aB 6)))))
      (mC 4 (fZ (aC bO (K3 (aB 4) (aC HY (aB 5) (aC wK (eC (.int 1)) (aB 6))) (eC (.int 0))) (aC pS (aB 2) (aB 5)))) (aC HY (aB 5) (aC wK (eC (.int 1)) (aB 6))))
      bY
theorem aDy{i:Nat}{f k:EF}{Z:aP}{q:Nat->Obj->Prop}{F:Tab}{h:Nat}{v:Int}(h1:f (bT Z)=some (.int v))(h2:Z[i]? = some (.ow (dT q F)))(h3:k (bT Z)=some (.int (h:Int)))(h6:F.length<16000000):mC i (fZ f) k Z=.nx (Z.set i (.ow (dT (adr q) (zP F h v)))):=by unfold mC fZ;rw [h1];simp only [bind_some,D.vN,if_true];rw [h2];simp only [EW,dT,bind_some];rw [h3];simp only [bind_some];rw [aBW];simp only [bind_some];rw [if_pos ⟨IK F h,by unfold kdT uK; rw [length_map]; omega⟩,aDt]
theorem aB1(hx:Ord.Rows x)(hn:x.length<=9){A F:Tab}{qa qf:Nat->Obj->Prop}{S b:Nat}{v:Int}{s3:Sv}(hv:kZ A S=some v)(o:LI x.length F)(hb:b<x.length) :
  Nx (bMb (SM x (.ro (dT qa A)) s3 (.ow (dT qf F)) (.ro (.int (S:Int))) (.ro (.int (b:Int))))) λZ=>∃ q',Z=SM x (.ro (dT qa A)) s3 (.ow (dT q' (stM x F S v b))) (.ro (.int (S:Int))) (.ro (.int (b:Int))):=by
 have tst:(kX (tV (aC kT (aC nX (aC HX (aB 5) (aB 6)) (eC (.int 1))) (eC (.int 0)))) (tV (aC kT (aC nX (aC aY (aB 1) (aB 6)) (aB 5)) (aC aY (aB 1) (aB 6))))) (bT (SM x (.ro (dT qa A)) s3 (.ow (dT qf F)) (.ro (.int (S:Int))) (.ro (.int (b:Int)))))=some (LH x b S):=by
  have e1:tV (aC kT (aC nX (aC HX (aB 5) (aB 6)) (eC (.int 1))) (eC (.int 0))) (bT (SM x (.ro (dT qa A)) s3 (.ow (dT qf F)) (.ro (.int (S:Int))) (.ro (.int (b:Int)))))=some (!S.testBit b):=by refine mZ (aM (x:=.int (if S.testBit b=true then 1 else 0)) (y:=.int 0) (aIZ rfl rfl) rfl fV) ?_;show some (decide ((if S.testBit b=true then (1:Int) else 0)=0))=_;cases S.testBit b<;>rfl
  have e2:tV (aC kT (aC nX (aC aY (aB 1) (aB 6)) (aB 5)) (aC aY (aB 1) (aB 6))) (bT (SM x (.ro (dT qa A)) s3 (.ow (dT qf F)) (.ro (.int (S:Int))) (.ro (.int (b:Int)))))=some (decide (Mk x b &&& S=Mk x b)):=by have em:aC aY (aB 1) (aB 6) (bT (SM x (.ro (dT qa A)) s3 (.ow (dT qf F)) (.ro (.int (S:Int))) (.ro (.int (b:Int)))))=some (.int (Mk x b:Int)):=aM (x:=aK (NU x)) (y:=.int (b:Int)) rfl rfl (aBV hb);refine mZ (aM (x:=.int ((Mk x b &&& S:Nat):Int)) (y:=.int (Mk x b:Int)) (aM em rfl (FE _ _)) em fV) ?_;show some (decide (((Mk x b &&& S:Nat):Int)=(Mk x b:Int)))=_;congr 1;rw [decide_eq_decide];omega
  refine AU e1 (λ_=>?_) λh=>?_
  .rw [e2];unfold LH;rw [‹(!S.testBit b)=true›,Bool.true_and]
  .unfold LH;rw [h,Bool.false_and]
 refine jG _ tst (λhc=>?_) λhc=>?_
 .have hk:aC HY (aB 5) (aC wK (eC (.int 1)) (aB 6)) (bT (SM x (.ro (dT qa A)) s3 (.ow (dT qf F)) (.ro (.int (S:Int))) (.ro (.int (b:Int)))))=some (.int ((S ||| 2 ^ b:Nat):Int)):=by refine aM (x:=.int (S:Int)) (y:=.int ((2 ^ b:Nat):Int)) rfl (aM (x:=.int ((1:Nat):Int)) (y:=.int (b:Int)) rfl rfl (by rw [LK (by decide) (by omega),LM])) (X4 _ _)
  have hl:=X3 o;have h2:(2:Nat) ^ x.length<=2 ^ 9:=Nat.pow_le_pow_right (by decide) hn;refine ⟨_,aDy (q:=qf) (F:=F) (h:=S ||| 2 ^ b) (v:=(kZ F (S ||| 2 ^ b)).getD 0+v) ?_ rfl hk (by omega),adr qf,?_⟩
  .refine aM (x:=.int ((kZ F (S ||| 2 ^ b)).getD 0)) (y:=.int v) ?_ (aM (x:=dT qa A) (y:=.int (S:Int)) rfl rfl (aDv hv)) jE;unfold K3;rw [hk];show RC (dT qf F) (.int ((S ||| 2 ^ b:Nat):Int)) (.int 0)=_;exact aDu F qf _
  .unfold stM;rw [if_pos hc];rfl
 .refine iS ⟨qf,?_⟩;unfold stM;rw [if_neg (by rw [hc]; decide)]
theorem FI(hx:Ord.Rows x)(hn:x.length<=9):gB [aJ x]=.ok (.int (shares x).sum):=by
 unfold gB;have main:Rt ((aH (aN 1 (aG LL.iU (aA (aB 0) aE)))
  (aH (CN 2 (eC (.int 0)) (eC (.int 1)))
  (aH (dE (aR (aA (bF aV (aA (aB 0) aE)) aE)) (lE 3)
   (aH (EX 4)
   (aH (XE 2 (dE (HW (aB 2)) (lE 5)
    (dE (aR (aA (bF aV (aA (aB 0) aE)) aE)) (lE 6) bMb)))
   (K4 2 4))))
  (aU (aC pS (aB 2) (aC fE (aC wK (eC (.int 1)) (bF aV (aA (aB 0) aE))) (eC (.int 1)))))))) (fA 7 [aJ x])) λd=>d=.int (shares x).sum:=by
  refine cV (SM x .no .no .no .no .no) (iE _ (mY rfl (SE hx hn)) rfl) ?_;refine cV (SM x (.ow (dT vA [(0,1)])) .no .no .no .no) rfl ?_;refine kK (λZ=>∃ q v3 v4 v5 v6,Z=SM x (.ow (dT q (dQ x x.length))) v3 v4 v5 v6) ?_ λZ ⟨q,v3,v4,v5,v6,e⟩=>?_
  .refine nZ x.length (λi Z=>∃ q v3 v4 v5 v6,Z=SM x (.ow (dT q (dQ x i))) v3 v4 v5 v6) (args1 (dJ rfl dZ)) (by omega) ⟨_,_,_,_,_,rfl⟩ (λi Z hi ⟨q,v3,v4,v5,v6,e⟩=>?_) λZ h=>h;subst e;obtain ⟨oA,kA,tA⟩:=DC hx i (by omega);refine ⟨_,rfl,fN (SM x (.ow (dT q (dQ x i))) (.ro (.int i)) (.ow (dT vA [])) v5 v6) rfl ?_⟩;refine tN (λZ=>∃ q' u5 u6,Z=SM x (.ro (dT q (dQ x i))) (.ro (.int i)) (.ow (dT q' (aDx x (dQ x i)))) u5 u6) ?_ λZ ⟨q',u5,u6,e⟩=>?_
   .have hgo:∀ (B F:Tab) (qf:Nat->Obj->Prop) (w5 w6:Sv),LI x.length F->Kl x (i+1) F->(∀ p∈B,p∈dQ x i) -> ∃ q' u5 u6,gU (lE 5) (dE (aR (aA (bF aV (aA (aB 0) aE)) aE)) (lE 6) bMb) (B.map λp=>D.int (p.1:Int)) (SM x (.ro (dT q (dQ x i))) (.ro (.int i)) (.ow (dT qf F)) w5 w6)=.nx (SM x (.ro (dT q (dQ x i))) (.ro (.int i)) (.ow (dT q' (B.foldl (NX x) F))) u5 u6):=by
     intro B
     induction B with
     | nil=>intro F qf w5 w6 _ _ _; exact ⟨qf,w5,w6,rfl⟩
     | cons p B ih =>
      intro F qf w5 w6 o k hB;have hp:=hB p mem_cons_self;have hv:=get_mem oA.nd hp;have inner:Nx (dE (aR (aA (bF aV (aA (aB 0) aE)) aE)) (lE 6) bMb (SM x (.ro (dT q (dQ x i))) (.ro (.int i)) (.ow (dT qf F)) (.ro (.int (p.1:Int))) w6)) λZ=>∃ q' u6,Z=SM x (.ro (dT q (dQ x i))) (.ro (.int i)) (.ow (dT q' (NX x F p))) (.ro (.int (p.1:Int))) u6:=by refine nZ x.length (λb Z=>∃ q' u6,Z=SM x (.ro (dT q (dQ x i))) (.ro (.int i)) (.ow (dT q' (stN x F p.1 p.2 b))) (.ro (.int (p.1:Int))) u6) (args1 (dJ rfl dZ)) (by omega) ⟨_,_,rfl⟩ (λb Z hb ⟨q',u6,e⟩=>?_) λZ h=>h;subst e;obtain ⟨o1,k1,t1⟩:=IN (v:=p.2) o k (oA.lt p hp) (kA p hp) b (by omega);obtain ⟨ρ1,e1,q1,e2⟩:=aB1 hx hn (A:=dQ x i) (F:=stN x F p.1 p.2 b) (qa:=q) (qf:=q') (S:=p.1) (b:=b) (v:=p.2) (s3:=.ro (.int i)) hv o1 hb;exact ⟨_,rfl,ρ1,e1,q1,.ro (.int b),e2⟩
      obtain ⟨ρ1,e1,q1,u6,e2⟩:=inner;subst e2;obtain ⟨o1,k1,t1⟩:=aAV hx o k (oA.lt p hp) (kA p hp) hi;obtain ⟨q',u5,u6',e3⟩:=ih (NX x F p) q1 (.ro (.int (p.1:Int))) u6 o1 k1 λr hr=>hB r (mem_cons_of_mem _ hr);refine ⟨q',u5,u6',?_⟩
      have e4:gU (lE 5) (dE (aR (aA (bF aV (aA (aB 0) aE)) aE)) (lE 6) bMb) ((p::B).map λp=>D.int (p.1:Int)) (SM x (.ro (dT q (dQ x i))) (.ro (.int i)) (.ow (dT qf F)) w5 w6)=(match dE (aR (aA (bF aV (aA (aB 0) aE)) aE)) (lE 6) bMb (SM x (.ro (dT q (dQ x i))) (.ro (.int i)) (.ow (dT qf F)) (.ro (.int (p.1:Int))) w6) with
       | .nx ρ2=>gU (lE 5) (dE (aR (aA (bF aV (aA (aB 0) aE)) aE)) (lE 6) bMb) (B.map λp=>D.int (p.1:Int)) ρ2
       | o=>o):=rfl
      rw [e4,e1];exact e3
    obtain ⟨q',u5,u6,e⟩:=hgo (dQ x i) [] vA v5 v6 ⟨nodup_nil,λ_ h=>by cases h⟩ (λ_ h=>by cases h) λ_ h=>h;refine ⟨_,?_,q',u5,u6,rfl⟩;show dE _ _ _ (SM x (.ro (dT q (dQ x i))) (.ro (.int i)) (.ow (dT vA [])) v5 v6)=_;exact RK _ (aBX (dQ x i) q) e
   .subst e;exact ⟨_,rfl,q',_,_,_,_,rfl⟩
  .subst e;refine qG _ ?_ rfl;have e1:aC fE (aC wK (eC (.int 1)) (bF aV (aA (aB 0) aE))) (eC (.int 1)) (bT (SM x (.ow (dT q (dQ x x.length))) v3 v4 v5 v6))=some (.int ((2 ^ x.length - 1:Nat):Int)):=by refine aM (x:=.int ((2 ^ x.length:Nat):Int)) (y:=.int 1) (aM (x:=.int ((1:Nat):Int)) (y:=.int (x.length:Int)) rfl (dJ rfl dZ) (by rw [LK (by decide) (by omega),LM])) rfl ?_;rw [rO];have:=Nat.two_pow_pos x.length;congr 2;omega
   exact aM (x:=dT q (dQ x x.length)) rfl e1 (aDv (aBZ hx))
 obtain ⟨d,e,rfl⟩:=qH rfl main;exact e
end
section
variable{x:List (List Int)}
end
theorem xD{x:List (List Int)}(hx:Ord.Rows x)(hn:x.length<=9):∀ r∈x,r.length<=9:=λr hr=>le_trans (Ord.Rows.short hx hr) hn
theorem aDz{f:EF}{i j:Nat}{Z:aP}{p q:D}(h:f (kD Z)=some (.tup [p,q])):HV (aZ f) (HK i j) Z=.nx ((Z.set i (.ro p)).set j (.ro q)):=by unfold HV aZ;rw [h];rfl
theorem YC{r l:List Int}(hr:r.Nodup)(hl:l.Nodup):sortI (r++l.filter λt=>!r.contains t)=both r l:=by
 refine E3 ?_ ((CZ r l).imp λh=>by omega);refine (List.perm_ext_iff_of_nodup ((CZ r l).imp λh=>by omega) ?_).2 λt=>?_
 .rw [nodup_append];refine ⟨hr,List.Pairwise.filter _ hl,λa ha b hb e=>?_⟩;have:=(List.mem_filter.1 hb).2;rw [<- e] at this;simp [ha] at this
 .rw [E7,mem_append,mem_filter];by_cases h:t∈r
  .simp [h]
  .simp [h]
theorem FJ{x:List (List Int)}(hx:Ord.Rows x)(hn:x.length<=9){a b:Int}(ha:0<=a/\a<(x.length:Int))(hb:0<=b/\b<(x.length:Int)):jZ [aJ x,.int a,.int b]=.ok (aJ (put x a b)):=by
 unfold jZ;have hs:=xD hx hn;have rn:∀ c:Int,0<=c->c<(x.length:Int)->(row x c).Nodup/\(row x c).length<=9:=λc h0 h1=>by have e:=XS.j0 h0 h1;exact ⟨(hx.up _ _ e).imp λq=>by omega,hs _ (mem_of_getElem? e)⟩
 have ra:=rn a ha.1 ha.2;have hlow:(row x a++[a]).Nodup:=by rw [nodup_append];refine ⟨ra.1,by simp,λs h1 t h2 e=>?_⟩;rw [mem_singleton] at h2;have:=hx.W4 a.toNat (row x a) (XS.j0 ha.1 ha.2);rw [show ((a.toNat:Nat):Int)=a by omega] at this;exact this (by rw [e,h2] at h1; exact h1)
 have hpl:=dP x a b;have main:Rt ((aH (aN 3 (aC bO (bF rM (aA (aC aY (aB 0) (aB 1)) aE)) (dL (aA (aB 1) aE))))
  (aH (iA 4 (dL aE))
  (aH (dE (aR (aA (bF aV (aA (aB 0) aE)) aE)) (lE 5)
   (aH (aN 6 (bF rM (aA (aC aY (aB 0) (aB 5)) aE)))
   (aH (eV (u4 (tV (aC kT (aB 5) (aB 2))) (tV (aC (lY false) (aB 2) (aC aY (aB 0) (aB 5)))))
    (aN 6 (aC bO (aB 6) (bJ 1 [6] (dD (aB 3)) (g1 0) (tV (aC (lY true) (aB 0) (aB 1))) (aB 0))))
    bY)
   (sX (kU 4 eX (aZ (bF bW (aA (bF gE (aA (aB 6) aE)) aE))))))))
  (aU (bF bW (aA (aB 4) aE)))))) (fA 7 [aJ x,.int a,.int b])) λd=>d=aJ (put x a b):=by
  refine cV [.ro (aJ x),.ro (.int a),.ro (.int b),.ro (aK (row x a++[a])),.no,.no,.no] (iE (aK (row x a++[a])) (aM (x:=aK (row x a)) (y:=aK [a]) (dJ (x:=tupI (row x a)) (aM (x:=aJ x) (y:=.int a) rfl rfl (kL ha.1 ha.2)) rfl) rfl (by unfold aK; rw [kJ (by simp; omega),map_append])) rfl) ?_;refine cV [.ro (aJ x),.ro (.int a),.ro (.int b),.ro (aK (row x a++[a])),.ow (.lst []),.no,.no] rfl ?_;refine kK (λZ=>∃ v5 v6,Z=[.ro (aJ x),.ro (.int a),.ro (.int b),.ro (aK (row x a++[a])),.ow (.lst (((put x a b).take x.length).map tupI)),v5,v6]) ?_ λZ ⟨v5,v6,e⟩=>?_
  .refine nZ x.length (λi Z=>∃ v5 v6,Z=[.ro (aJ x),.ro (.int a),.ro (.int b),.ro (aK (row x a++[a])),.ow (.lst (((put x a b).take i).map tupI)),v5,v6]) (args1 (dJ rfl dZ)) (by omega) ⟨_,_,rfl⟩ (λi Z hi ⟨v5,v6,e⟩=>?_) λZ h=>h;subst e;have ri:=rn i (by omega) (by omega);have hrow:row (put x a b) (i:Int)=vB b (row x a++[a]) (row x i,i):=by have:=C0 (x:=x) (a:=a) (b:=b) (d:=(i:Int)) (by omega) (by omega);rw [Int.toNat_natCast] at this;exact this
   refine ⟨[.ro (aJ x),.ro (.int a),.ro (.int b),.ro (aK (row x a++[a])),.ow (.lst (((put x a b).take i).map tupI)),.ro (.int i),v6],rfl,?_⟩;refine fN [.ro (aJ x),.ro (.int a),.ro (.int b),.ro (aK (row x a++[a])),.ow (.lst (((put x a b).take i).map tupI)),.ro (.int i),.ro (aK (row x i))] (iE (aK (row x i)) (dJ (x:=tupI (row x i)) (aM (x:=aJ x) (y:=.int i) rfl rfl (kL (by omega) (by omega))) rfl) rfl) ?_;refine tN (λZ=>∃ r:List Int,(r.length<64/\sortI r=row (put x a b) (i:Int))/\Z=[.ro (aJ x),.ro (.int a),.ro (.int b),.ro (aK (row x a++[a])),.ow (.lst (((put x a b).take i).map tupI)),.ro (.int i),.ro (aK r)]) ?_ λZ ⟨r,hr,e⟩=>?_
   .refine jG (decide ((i:Int)=b)||(row x i).contains b) ?_ (λhc=>?_) λhc=>iS ⟨row x i,⟨by omega,?_⟩,rfl⟩
    .refine RP (b:=decide ((i:Int)=b)) (mZ (aM rfl rfl fV) rfl) (λh=>?_) λh=>by rw [h]; rfl
     rw [h,Bool.false_or];exact mZ (aM (x:=.int b) (y:=tupI (row x i)) rfl (aM (x:=aJ x) (y:=.int i) rfl rfl (kL (by omega) (by omega))) pC) rfl
    .have hfl:((row x a++[a]).filter λt=>!(row x i).contains t).length<=10:=le_trans (length_filter_le _ _) (by rw [List.length_append]; simp; omega);refine tO (aK (row x i++(row x a++[a]).filter λt=>!(row x i).contains t)) (aM (x:=aK (row x i)) (y:=aK ((row x a++[a]).filter λt=>!(row x i).contains t)) rfl ?_ ?_) ⟨_,⟨by rw [List.length_append]; omega,?_⟩,rfl⟩
     .refine mE ((row x a++[a]).map D.int) rfl (by rw [length_map,List.length_append]; simp; omega) ?_;exact jF D.int (λt=>!(row x i).contains t) D.int _ λt _=>⟨[some (.int t),some (aK (row x i))],rfl,mZ (aM rfl rfl LB) rfl,λ_=>rfl⟩
     .unfold aK;rw [kJ (by rw [length_map,length_map]; omega),map_append]
     .rw [YC ri.1 hlow,hrow];unfold vB;rw [if_pos hc]
    .rw [hrow];unfold vB;rw [if_neg (by rw [hc]; decide)];have e:=XS.j0 (x:=x) (b:=(i:Int)) (by omega) (by omega);exact E3 (List.Perm.refl _) ((hx.up _ _ e).imp λq=>by omega)
   .subst e;refine ⟨_,NS (d:=tupI (row (put x a b) i)) (ds:=((put x a b).take i).map tupI) (dJ (x:=aK (row (put x a b) i)) (dJ (x:=aK r) rfl (by rw [<- hr.2]; exact sorted_ints hr.1)) rfl) rfl (by rw [length_map,length_take]; omega),.ro (.int i),.ro (aK r),?_⟩;have e6:(put x a b).take (i+1)=(put x a b).take i++[row (put x a b) i]:=by rw [List.take_succ];have:=XS.j0 (x:=put x a b) (b:=(i:Int)) (by omega) (by rw [hpl]; omega);rw [Int.toNat_natCast] at this;rw [this];rfl
    rw [e6,map_append];rfl
  .subst e;rw [take_of_length_le (by rw [hpl]; exact le_refl _)];exact qG _ rfl rfl
 obtain ⟨d,e,rfl⟩:=qH rfl main;exact e
section
variable{x:List (List Int)}
end
end LL
end
section
namespace LL
open PySem L3 L4
def eP:eT:=bK 1 1
  (aU (aC tL (aB 0) (eC (.int 9))))
def eB:eT:=bK 3 2
  (aH (dE (dD (aB 1)) (lE 2)
   (eV (hZ (tV (bF allM (aA (bJ 1 [1] (dD (aC aY (aB 0) (aB 2))) (g1 0) cH (aC (lY false) (aB 0) (aB 1))) aE))))
    (aU (eC (.bl false)))
    bY))
  (aU (eC (.bl true))))
def mG:eT:=bK 3 2
  (aH (aN 2 (aC aY (aB 0) (aB 1)))
  (aU (kE (aG LL.gW (aA (aB 2) (aA (bF aV (aA (aB 0) aE)) aE))) (kE (aC (lY true) (aB 1) (aB 2)) (aG LL.eB (aA (aB 0) (aA (aB 2) aE)))))))
def iW:eT:=bK 1 1
  (aH (eV (tV (aG LL.eP (aA (bF aV (aA (aB 0) aE)) aE)))
   (aU (eC (.bl false)))
   bY)
  (aU (bF allM (aA (bJ 1 [0] (aR (aA (bF aV (aA (aB 0) aE)) aE)) (g1 0) cH (aG LL.mG (aA (aB 1) (aA (aB 0) aE)))) aE))))
def BB:eT:=bK 3 3
  (aH (wJ (wH LL.bA (aA (bF aV (aA (aB 0) aE)) (aA (aB 1) (aA (aB 2) aE)))) (sX (aZ (aG LL.bA (aA (bF aV (aA (aB 0) aE)) (aA (aB 1) (aA (aB 2) aE)))))))
  (aH (eV (hZ (tV (aG LL.cK (aA (aB 0) (aA (aB 1) (aA (aB 2) aE))))))
   (rN (aA (eC (.str "two things that are not loose")) aE) "NotLoose")
   bY)
  (wJ (wH LL.eW (aA (aB 0) (aA (aB 1) (aA (aB 2) aE)))) (aU (dG (aA (aG LL.eW (aA (aB 0) (aA (aB 1) (aA (aB 2) aE)))) (aA (aG LL.eW (aA (aB 0) (aA (aB 2) (aA (aB 1) aE)))) aE)))))))
def gC:eT:=bK 2 2
  (aU (kE (aC kT (bF aV (aA (aB 0) aE)) (aB 1)) (aG LL.iW (aA (aB 0) aE))))
def dR:eT:=bK 3 3
  (aU (kE (aG LL.dA (aA (aB 1) (aA (bF aV (aA (aB 0) aE)) aE))) (kE (aG LL.dA (aA (aB 2) (aA (bF aV (aA (aB 0) aE)) aE))) (aG LL.cK (aA (aB 0) (aA (aB 1) (aA (aB 2) aE)))))))
def gX:eT:=bK 4 2
  (aH (aN 2 (aC aY (aC aY (aB 0) (aB 1)) (eC (.int 0))))
  (aH (aN 3 (aC aY (aC aY (aB 0) (aB 1)) (eC (.int 1))))
  (aH (eV (hZ (tV (aG LL.fH (aA (aB 2) aE))))
   (aU (aC qE (aB 3) (dG aE)))
   bY)
  (aH (eV (u4 (tV (aC KU (bF aV (aA (aB 3) aE)) (eC (.int 4)))) (hZ (tV (aG LL.dR (aA (aB 2) (aA (aC aY (aB 3) (eC (.int 0))) (aA (aC aY (aB 3) (eC (.int 1))) aE)))))))
   (aU (eC (.bl false)))
   bY)
  (aH (eV (hZ (kX (tV (kF W9 W2 (eC (.int 0)) (aC aY (aB 3) (eC (.int 2))) (aB 1))) (tV (kF W9 W2 (eC (.int 0)) (aC aY (aB 3) (eC (.int 3))) (aB 1)))))
   (aU (eC (.bl false)))
   bY)
  (aU (aC qE (aG LL.BB (aA (aB 2) (aA (aC aY (aB 3) (eC (.int 0))) (aA (aC aY (aB 3) (eC (.int 1))) aE)))) (dG (aA (aC aY (aC aY (aB 0) (aC aY (aB 3) (eC (.int 2)))) (eC (.int 0))) (aA (aC aY (aC aY (aB 0) (aC aY (aB 3) (eC (.int 3)))) (eC (.int 0))) aE))))))))))
def fW:eT:=bK 2 2
  (aH (eV (u4 (hZ (tV (aB 1))) (tV (aC EV (aC aY (aC aY (aB 1) (mW (eC (.int 1)))) (eC (.int 0))) (aB 0))))
   (aU (eC (.bl false)))
   bY)
  (aU (bF allM (aA (bJ 2 [1,0] (nV (aA (aB 1) aE)) (g2 0 1) cH (kE (aG LL.gC (aA (aC aY (aB 1) (eC (.int 0))) (aA (bF aV (aA (aB 3) aE)) aE))) (aG LL.gX (aA (aB 2) (aA (aB 0) aE))))) aE))))
def iX:eT:=bK 4 1
  (aH (iA 1 (dL aE))
  (aH (dE (aR (aA (bF aV (aA (aB 0) aE)) aE)) (lE 2)
   (dE (aR (aA (aC bO (aB 2) (eC (.int 1))) (aA (bF aV (aA (aB 0) aE)) aE))) (lE 3)
    (eV (kX (tV (aC (lY true) (aB 2) (aC aY (aB 0) (aB 3)))) (tV (aC (lY true) (aB 3) (aC aY (aB 0) (aB 2)))))
     (sX (kU 1 eX (aZ (dG (aA (aB 2) (aA (aB 3) aE))))))
     bY)))
  (aU (aB 1))))
def fX:eT:=bK 12 2
  (aH (iA 2 (dL aE))
  (aH (EX 3)
  (aH (iA 4 (dL (aA (aB 0) aE)))
  (aH (CJ 3000000 (tV (aC tL (bF aV (aA (aB 4) aE)) (eC (.int 0))))
   (aH (uL 5 (fZ (aC aY (aB 4) (mW (eC (.int 1))))))
   (aH (aN 6 (aG LL.iX (aA (aB 5) aE)))
   (eV (tV (aC (zM false) (aB 5) (aB 3)))
    (sX (AN 4))
    (eV (tV (aC kT (bF aV (aA (aB 6) aE)) (eC (.int 0))))
     (aH (mC 3 (fZ (bF aV (aA (aB 2) aE))) (aB 5))
     (sX (kU 2 eX (aZ (dG (aA (aB 5) (aA (dG aE) aE)))))))
     (aH (aN 7 (aC aY (aB 1) (aC dI (bF u7 (aA (bJ 1 [] (dD (aB 5)) (g1 0) cH (bF aV (aA (aB 0) aE))) aE)) (bF aV (aA (aB 1) aE)))))
     (aH (HV (aZ (aC aY (aB 6) (aC dI (aB 7) (bF aV (aA (aB 6) aE))))) (HK 8 9))
     (aH (eV (tV (aC kT (aC dI (aC mX (aB 7) (eC (.int 7))) (eC (.int 2))) (eC (.int 1))))
      (ND 8 9 (aA (aB 9) (aA (aB 8) aE)))
      bY)
     (aH (aN 10 (dL (aA (aG LL.jZ (aA (aB 5) (aA (aB 8) (aA (aB 9) aE)))) (aA (aG LL.jZ (aA (aB 5) (aA (aB 9) (aA (aB 8) aE)))) aE))))
     (aH (lZ 11 (bJ 1 [3] (dD (aB 10)) (g1 0) (tV (aC (zM true) (aB 0) (aB 1))) (aB 0)))
     (eV (tV (aC tL (bF aV (aA (aB 11) aE)) (eC (.int 0))))
      (sX (kU 4 eX (aZ (aC aY (aB 11) (aC dI (aC mX (aB 7) (eC (.int 16))) (bF aV (aA (aB 11) aE)))))))
      (aH (mC 3 (fZ (bF aV (aA (aB 2) aE))) (aB 5))
      (sX (kU 2 eX (fZ (dG (aA (aB 5) (aA (dG (aA (aB 8) (aA (aB 9) (aA (aC pS (aB 3) (aC aY (aB 10) (eC (.int 0)))) (aA (aC pS (aB 3) (aC aY (aB 10) (eC (.int 1)))) aE))))) aE))))))))))))))))))
  (aU (aB 2))))))
def iY:eT:=bK 8 3
  (aH (aN 3 (aG LL.bX (aA (aG LL.cM (aA (aB 0) (aA (aB 1) aE))) (aA (eC (.int 3)) (aA (aB 2) aE)))))
  (aH (aN 4 (aC aY (dL (aA (eC (.int 5)) (aA (eC (.int 4)) (aA (eC (.int 3)) (aA (eC (.int 5)) (aA (eC (.int 4)) (aA (eC (.int 2)) (aA (eC (.int 1)) (aA (eC (.int 0)) aE))))))))) (aC dI (aC aY (aB 3) (eC (.int 0))) (eC (.int 8)))))
  (aH (aN 5 (aC aY (dL (aA (eC (.int 1)) (aA (eC (.int 1)) (aA (eC (.int 2)) (aA (eC (.int 2)) (aA (eC (.int 3)) (aA (eC (.int 1)) (aA (eC (.int 0)) (aA (eC (.int 2)) aE))))))))) (aC dI (aC aY (aB 3) (eC (.int 1))) (eC (.int 8)))))
  (aH (eV (tV (aC kT (aC dI (aC aY (aB 3) (eC (.int 2))) (eC (.int 8))) (eC (.int 3))))
   (aH (aN 4 (aC bO (eC (.int 6)) (aC dI (aC aY (aB 3) (eC (.int 0))) (eC (.int 4)))))
   (aN 5 (eC (.int 3))))
   bY)
  (aH (aN 6 (aG LL.bX (aA (aG LL.cM (aA (aB 0) (aA (aC bO (aB 1) (eC (.int 1))) aE))) (aA (aC bO (aB 4) (aC mX (aC mulM (aB 4) (aC fE (aB 4) (eC (.int 1)))) (eC (.int 2)))) (aA (aC bO (aB 2) (eC (.int 10007))) aE)))))
  (aH (aN 7 (aG LL.dM (aA (aB 6) (aA (aB 4) (aA (aB 5) aE)))))
  (aH (eV (kX (tV (aC tL (aB 4) (eC (.int 5)))) (tV (aC tL (aG LL.gB (aA (aB 7) aE)) (eC (.int 60)))))
   (aN 7 (aG LL.dM (aA (aB 6) (aA (aB 4) (aA (eC (.int 4)) aE)))))
   bY)
  (aU (aB 7)))))))))
def iZ:eT:=bK 5 2
  (aH (iA 2 (dL aE))
  (aH (dE (dD (aB 0)) (HK 3 4)
   (aH (eV (tV (aC tL (bF aV (aA (aB 4) aE)) (eC (.int 0))))
    (aN 4 (dG (aA (aC aY (aB 4) (eC (.int 0))) (aA (aC aY (aB 4) (eC (.int 1))) (aA (aC bO (aC aY (aB 4) (eC (.int 2))) (aB 1)) (aA (aC bO (aC aY (aB 4) (eC (.int 3))) (aB 1)) aE))))))
    bY)
   (sX (kU 2 eX (aZ (dG (aA (aB 3) (aA (aB 4) aE))))))))
  (aU (aB 2))))
def cJ:eT:=bK 2 2
  (aU (bF K5 (aA (bJ 1 [0,1] (aR (aA (aC fE (bF aV (aA (aB 0) aE)) (eC (.int 1))) aE)) (g1 0) (tV (aC qE (aC aY (aC aY (aB 1) (aB 0)) (eC (.int 0))) (aC aY (aC aY (aB 1) (aB 2)) (eC (.int 0))))) (aB 0)) aE)))
def i0:eT:=bK 9 1
  (aH (aN 1 (aG LL.iY (aA (aB 0) (aA (eC (.int 0)) (aA (eC (.int 100003)) aE)))))
  (aH (aN 2 (aG LL.bX (aA (aG LL.cM (aA (aB 0) (aA (eC (.int 2)) aE))) (aA (eC (.int 45)) (aA (eC (.int 200017)) aE)))))
  (aH (aN 3 (aG LL.bX (aA (aG LL.cM (aA (aB 0) (aA (eC (.int 3)) aE))) (aA (eC (.int 7)) (aA (eC (.int 300007)) aE)))))
  (aH (aN 4 (aG LL.fX (aA (aB 1) (aA (aB 2) aE))))
  (aH (eV (tV (aC kT (aC dI (aC aY (aB 3) (eC (.int 0))) (eC (.int 3))) (eC (.int 1))))
   (aH (aN 5 (aG LL.dM (aA (aC bO (K0 (aB 3) (oE (eC (.int 1))) (oE (eC (.int 5)))) (aB 2)) (aA (bF aV (aA (aB 1) aE)) (aA (eC (.int 3)) aE)))))
   (eV (tV (aC W9 (aC bO (aC mulM (eC (.int 2)) (aG LL.gB (aA (aB 5) aE))) (bF aV (aA (aB 4) aE))) (eC (.int 280))))
    (aH (aN 6 (aG LL.fX (aA (aB 5) (aA (aB 2) aE))))
    (aN 4 (aC bO (aB 6) (aG LL.iZ (aA (aB 4) (aA (bF aV (aA (aB 6) aE)) aE))))))
    bY))
   bY)
  (aH (iA 7 (bJ 1 [4,3] (aR (aA (aC dI (aC aY (aB 3) (eC (.int 3))) (eC (.int 4))) aE)) (g1 0) cH (aC aY (aB 1) (aC dI (aC bO (aC aY (aB 2) (eC (.int 1))) (aC mulM (aB 0) (aC aY (aB 2) (eC (.int 2))))) (bF aV (aA (aB 1) aE))))))
  (aH (aN 8 (aC aY (aC aY (aB 4) (mW (eC (.int 1)))) (eC (.int 1))))
  (aH (eV (kX (tV (aC tL (bF aV (aA (aB 8) aE)) (eC (.int 0)))) (tV (aC kT (aC dI (aC aY (aB 3) (eC (.int 5))) (eC (.int 2))) (eC (.int 1)))))
   (sX (kU 7 eX (aZ (aC aY (aB 4) (aC aY (aB 8) (aC bO (eC (.int 2)) (aC dI (aC aY (aB 3) (eC (.int 6))) (eC (.int 2)))))))))
   bY)
  (aH (lZ 4 (aC ES (aC bO (K0 (aB 4) W3 (oE (mW (eC (.int 1))))) (aB 7)) (K0 (aB 4) (oE (mW (eC (.int 1)))) W3)))
  (aH (eV (kX (tV (aC tL (bF aV (aA (aB 8) aE)) (eC (.int 0)))) (tV (aC kT (aC dI (aC mX (aC aY (aB 3) (eC (.int 5))) (eC (.int 2))) (eC (.int 2))) (eC (.int 1)))))
   (aN 8 (dG (aA (aC aY (aB 8) (eC (.int 0))) (aA (aC aY (aB 8) (eC (.int 1))) (aA (aG LL.cJ (aA (aB 4) (aA (aC aY (aB 8) (eC (.int 2))) aE))) (aA (aG LL.cJ (aA (aB 4) (aA (aC aY (aB 8) (eC (.int 3))) aE))) aE))))))
   bY)
  (aU (dG (aA (aB 1) (aA (aC bO (K0 (aB 4) W3 (oE (mW (eC (.int 1))))) (dL (aA (dG (aA (aC aY (aC aY (aB 4) (mW (eC (.int 1)))) (eC (.int 0))) (aA (aB 8) aE))) aE))) aE))))))))))))))
end LL
end
section
namespace LL
open PySem L3 L4 K24
theorem SN{x:List (List Int)}{p:Int×Int}(h:p∈loose x):(0<=p.1/\p.1<(x.length:Int))/\(0<=p.2/\p.2<(x.length:Int))/\fM x p.1 p.2=true:=by unfold loose at h;obtain ⟨a,ha,hp⟩:=List.mem_flatMap.1 h;unfold cZ at hp;obtain ⟨b,hb,rfl⟩:=List.mem_map.1 hp;have h1:=cB.1 ha;have h2:=List.mem_filter.1 hb;have h3:=cB.1 h2.1;exact ⟨by dsimp only; omega,by dsimp only; omega,h2.2⟩
theorem tY(x:List (List Int)):∀ k,k<=x.length->((bG 0 k).flatMap (cZ x)).length<=k*x.length
 | 0,_=>by simp [bG]
 | k+1,h=>by have ih:=tY x k (by omega);have h2:=n4 x (a:=0+(k:Int)) (by omega);rw [iQ,flatMap_append,List.length_append,Nat.succ_mul];simp only [flatMap_cons,List.flatMap_nil,append_nil];omega
theorem IP{x:List (List Int)}(hn:x.length<=9):iX [aJ x]=.ok (.lst ((loose x).map pairD)):=by
 unfold iX;have main:Rt ((aH (iA 1 (dL aE))
  (aH (dE (aR (aA (bF aV (aA (aB 0) aE)) aE)) (lE 2)
   (dE (aR (aA (aC bO (aB 2) (eC (.int 1))) (aA (bF aV (aA (aB 0) aE)) aE))) (lE 3)
    (eV (kX (tV (aC (lY true) (aB 2) (aC aY (aB 0) (aB 3)))) (tV (aC (lY true) (aB 3) (aC aY (aB 0) (aB 2)))))
     (sX (kU 1 eX (aZ (dG (aA (aB 2) (aA (aB 3) aE))))))
     bY)))
  (aU (aB 1)))) (fA 4 [aJ x])) λd=>d=.lst ((loose x).map pairD):=by
  refine cV [.ro (aJ x),.ow (.lst []),.no,.no] rfl ?_;refine kK (λZ=>∃ v2 v3,Z=[.ro (aJ x),.ow (.lst ((loose x).map pairD)),v2,v3]) ?_ λZ ⟨v2,v3,e⟩=>by subst e; exact qG _ rfl rfl
  refine nZ x.length (λi Z=>∃ v2 v3,Z=[.ro (aJ x),.ow (.lst (((bG 0 i).flatMap (cZ x)).map pairD)),v2,v3]) (args1 (dJ rfl dZ)) (by omega) ⟨_,_,rfl⟩ (λi Z hi ⟨v2,v3,e⟩=>?_) λZ h=>h;subst e;refine ⟨[.ro (aJ x),.ow (.lst (((bG 0 i).flatMap (cZ x)).map pairD)),.ro (.int i),v3],rfl,?_⟩;have hl0:=tY x i (by omega);have hl1:i*x.length<=9*9:=Nat.mul_le_mul (by omega) hn;generalize hA:(bG 0 i).flatMap (cZ x)=A at hl0;have hnext:(bG 0 (i+1)).flatMap (cZ x)=A++cZ x i:=by rw [iQ,flatMap_append,hA,Int.zero_add];simp
  rw [hnext];have hm:((x.length:Int) - ((i:Int)+1)).toNat=x.length - (i+1):=by omega
  let R:Nat->List (Int×Int):=λj=>((bG ((i:Int)+1) j).filter λb=>fM x i b).map λb=>((i:Int),b)
  refine CV ((bG ((i:Int)+1) (x.length - (i+1))).map D.int) (λj Z=>∃ v3,Z=[.ro (aJ x),.ow (.lst ((A++R j).map pairD)),.ro (.int i),v3]) ?_ ⟨v3,by simp [R,bG]⟩ (λj d Z hd ⟨v3,e⟩=>?_) λZ ⟨v3,e⟩=>⟨.ro (.int i),v3,?_⟩
  .have:=aAS (a:=aC bO (aB 2) (eC (.int 1))) (b:=bF aV (aA (aB 0) aE)) (Z:=kD [.ro (aJ x),.ow (.lst (A.map pairD)),.ro (.int i),v3]) (i:=(i:Int)+1) (j:=(x.length:Int)) rfl (dJ rfl dZ) (by omega) (by omega);rw [this,hm]
  .subst e;have hj:j<x.length - (i+1):=by have:=(List.getElem?_eq_some_iff.1 hd).1;simpa [aQ] using this
   rw [getElem?_map,nY hj] at hd;cases hd;obtain ⟨b,hb⟩:∃ b:Int,(i:Int)+1+(j:Int)=b:=⟨_,rfl⟩;rw [hb];have hlb:fM x i b=(!(row x b).contains (i:Int) && !(row x i).contains b):=by unfold fM;rw [decide_eq_false (by omega)]; skip;rfl
   have hRs:R (j+1)=R j++(if fM x i b=true then [((i:Int),b)] else []):=by
    show ((bG ((i:Int)+1) (j+1)).filter λb=>fM x i b).map _=_;rw [iQ,hb,List.filter_append,map_append];congr 1;by_cases h:fM x i b=true
    .rw [if_pos h,List.filter_cons_of_pos h]; rfl
    .rw [if_neg h,List.filter_cons_of_neg h]; rfl
   have hRl:(R j).length<=9:=by show (((bG ((i:Int)+1) j).filter _).map _).length<=9;rw [length_map];refine le_trans (length_filter_le _ _) ?_;rw [aQ];omega
   refine ⟨[.ro (aJ x),.ow (.lst ((A++R j).map pairD)),.ro (.int i),.ro (.int b)],rfl,?_⟩;refine jG (fM x i b) ?_ (λhc=>?_) λhc=>iS ⟨.ro (.int b),?_⟩
   .rw [hlb];refine AU (b:=!(row x b).contains (i:Int)) (mZ (aM (x:=.int i) (y:=tupI (row x b)) rfl (aM (x:=aJ x) (y:=.int b) rfl rfl (kL (by omega) (by omega))) pC) rfl) (λh=>?_) λh=>by rw [h]; rfl
    rw [h,Bool.true_and];exact mZ (aM (x:=.int b) (y:=tupI (row x i)) rfl (aM (x:=aJ x) (y:=.int i) rfl rfl (kL (by omega) (by omega))) pC) rfl
   .refine ⟨_,NS (d:=pairD ((i:Int),b)) (ds:=(A++R j).map pairD) rfl rfl (by rw [length_map,List.length_append]; omega),.ro (.int b),?_⟩;rw [hRs,if_pos hc,<- List.append_assoc,map_append (l₁:=A++R j)];rfl
   .rw [hRs,if_neg (by rw [hc]; decide),append_nil]
  .rw [e,length_map,aQ];show [Sv.ro (aJ x),Sv.ow (.lst ((A++R (x.length - (i+1))).map pairD)),Sv.ro (.int i),v3]=_;unfold cZ;rw [hm]
 obtain ⟨d,e,rfl⟩:=qH rfl main;exact e
theorem aB2{x:List (List Int)}{a b:Int}(hx:Ord.Rows x)(hn:x.length<=9)(ha:thing x.length a=true)(hb:thing x.length b=true)(h:fM x a b=true)(hl:nL x a b=false/\nL x b a=false):BB [aJ x,.int a,.int b]=.ok (.tup [aJ (put x a b),aJ (put x b a)]):=by unfold BB;have e1:=RX (by omega) (xD hx hn) ha hb hl.1;have e2:=RX (by omega) (xD hx hn) hb ha hl.2;refine jP rfl (fF _ (aDr rfl ha hb) (fF _ (NJ (XQ (b:=true) (mZ (fL rfl rfl rfl (m9 (fI.mp ha) (fI.mp hb))) (by rw [h]; rfl)) rfl) rfl) ?_));unfold wJ;rw [rc3 (o:=none) rfl rfl rfl (by rw [e1]; rfl)];refine kH ?_;unfold dG;rw [args2 (fL rfl rfl rfl e1) (fL rfl rfl rfl e2)];rfl
theorem pE{x:List (List Int)}{a b:Int}(h:fM x a b=true):fM x b a=true/\(a≠b)/\nL x a b=false/\nL x b a=false:=by unfold fM at h ⊢;unfold nL;simp only [Bool.and_eq_true,Bool.not_eq_true',decide_eq_false_iff_not] at h ⊢;obtain ⟨h1,h2,h3⟩:=h;rw [h2,h3];simp only [Bool.or_false,decide_eq_false_iff_not];exact ⟨⟨Ne.symm h1,trivial,trivial⟩,h1,h1,Ne.symm h1⟩
abbrev PR:=List (List Int)×List Int
def aO(r:PR):D:=.tup [aJ r.1,tupI r.2]
def kO(x:List (List Int)):vO:=.inr (x.map λr=>Sum.inr (r.map Sum.inl))
theorem LR:∀ x:List (List Int),tM (x.map tupI)=some (x.map λr=>Sum.inr (r.map Sum.inl))
 | []=>rfl
 | r::x=>by have ih:=LR x;show ((AO (r.map D.int)).map Sum.inr).bind (λk=>(tM (x.map tupI)).map (k :: ·))=_;rw [A4,ih];rfl
theorem SQ(x:List (List Int)):nW (aJ x)=some (kO x):=by show (tM (x.map tupI)).map Sum.inr=_;rw [LR];rfl
theorem map_inj{α β:Type}{f:α->β}(hf:∀ a b,f a=f b->a=b):∀ {l m:List α},l.map f=m.map f->l=m
 | [],[],_=>rfl
 | [],_::_,h=>by simp at h
 | _::_,[],h=>by simp at h
 | a::l,b::m,h=>by rw [map_cons,map_cons,List.cons.injEq] at h;rw [hf a b h.1,map_inj hf h.2]
theorem SR{x y:List (List Int)}(h:kO x=kO y):x=y:=by refine map_inj (λa b e=>?_) (Sum.inr.inj h);exact C6 (Sum.inr.inj e)
theorem aAW:∀ x:List (List Int),kW (x.map tupI)=true
 | []=>rfl
 | r::x=>by rw [map_cons,kW,aAW x,tupI,D.vN,j4];rfl
theorem xE(x:List (List Int)):(aJ x).vN=true:=aAW x
theorem SS:∀ W:List (List (List Int)),kW (W.map aJ)=true
 | []=>rfl
 | x::W=>by rw [map_cons,kW,SS W,xE];rfl
theorem FK(r:PR):(aO r).vN=true:=by show (kW [aJ r.1,tupI r.2])=true;simp only [kW,xE,tupI,D.vN,j4];rfl
def mV(R:List PR):KD:=(R.map λr=>kO r.1,(bG 0 R.length).map D.int)
def IQ(R:List PR)(y:List (List Int)):Option Nat:=R.findIdx? λr=>decide (r.1=y)
theorem LS(y:List (List Int)):∀ (R:List PR) (lo:Int),cP (R.map λr=>kO r.1) ((bG lo R.length).map D.int) (kO y)=(R.findIdx? λr=>decide (r.1=y)).map λi:Nat=>D.int (lo+(i:Int))
 | [],lo=>rfl
 | r::R,lo=>by
  have ih:=LS y R (lo+1);have e:bG lo (r::R).length=lo::bG (lo+1) R.length:=by
   unfold bG;rw [length_cons,List.range_succ_eq_map,map_cons,map_map];congr 1
   .simp
   .refine map_congr_left λk _=>?_;show lo+((k+1:Nat):Int)=lo+1+(k:Int);omega
  rw [e,map_cons,map_cons];unfold cP at ih ⊢;rw [zip_cons_cons,find?_cons,List.findIdx?_cons];by_cases h:r.1=y
  .rw [show decide ((kO r.1,D.int lo).1=kO y)=true from decide_eq_true (by show kO r.1=kO y; rw [h]),decide_eq_true h];show some (D.int lo)=some (D.int (lo+((0:Nat):Int)));congr 2;omega
  .rw [show decide ((kO r.1,D.int lo).1=kO y)=false from decide_eq_false λq=>h (SR q),decide_eq_false h];dsimp only;rw [ih]
   cases R.findIdx? λr=>decide (r.1=y) with
   | none=>rfl
   | some i =>
    show some (D.int (lo+1+(i:Int)))=some (D.int (lo+((i+1:Nat):Int)));congr 2;omega
theorem SU(R:List PR)(y:List (List Int)):cP (mV R).1 (mV R).2 (kO y)=(IQ R y).map λi:Nat=>D.int (i:Int):=by
 have:=LS y R 0;unfold mV IQ;rw [this];congr 1
 funext i
 rw [Int.zero_add]
theorem IR(R:List PR)(y:List (List Int)):kindB (mV R).1 (kO y)=true:=by unfold kindB mV;rw [all_eq_true];intro q hq;obtain ⟨r,_,rfl⟩:=List.mem_map.1 hq;rfl
def dH(R:List PR)(y:List (List Int)):Bool:=R.any λr=>decide (r.1=y)
theorem gD{R:List PR}{y:List (List Int)}:dH R y=true ↔ ∃ r∈R,r.1=y:=by unfold dH;rw [List.any_eq_true];exact ⟨λ⟨r,h,e⟩=>⟨r,h,by simpa using e⟩,λ⟨r,h,e⟩=>⟨r,h,by simpa using e⟩⟩
theorem n8{R:List PR}{y:List (List Int)}:(IQ R y).isSome=dH R y:=by unfold IQ dH;rw [List.findIdx?_isSome]
theorem DD{R:List PR}{y:List (List Int)}{i:Nat}(h:IQ R y=some i):∃ r,R[i]? = some r/\r.1=y:=by unfold IQ at h;obtain ⟨hi,hp,_⟩:=List.findIdx?_eq_some_iff_getElem.1 h;exact ⟨R[i],getElem?_eq_getElem hi,by simpa using hp⟩
theorem SV{R:List PR}{y:List (List Int)}{i:Nat}(h:IQ R y=some i):i<R.length:=by obtain ⟨r,hr,_⟩:=DD h;exact (List.getElem?_eq_some_iff.1 hr).1
theorem LU{R S:List PR}{y:List (List Int)}{i:Nat}(h:IQ R y=some i):IQ (R++S) y=some i:=by unfold IQ at h ⊢;rw [List.findIdx?_append,h];rfl
theorem aEA{R:List PR}{y:List (List Int)}(w:List Int)(h:dH R y=false):fO (mV R).1 (mV R).2 (kO y) (.int R.length)=mV (R++[(y,w)]):=by
 unfold fO;rw [if_neg]
 .unfold mV;rw [map_append,List.length_append,length_cons,length_nil,Nat.zero_add,iQ,map_append];show (_,_++[D.int R.length])=(_,_++[D.int (0+(R.length:Int))]);rw [Int.zero_add];rfl
 .intro q;rw [List.any_eq_true] at q;obtain ⟨k,hk,e⟩:=q;obtain ⟨r,hr,rfl⟩:=List.mem_map.1 (show k∈R.map λr=>kO r.1 from hk);have:dH R y=true:=gD.2 ⟨r,hr,SR (by simpa using e)⟩;rw [this] at h;cases h
structure p5 (n:Nat) (R:List PR) (i:Nat) (r:PR):Prop where
 rows:Ord.Rows r.1
 len:r.1.length=n
 why:(loose r.1=[]/\r.2=[]) \/ ∃ (a b:Int) (p q:Nat) (u v:PR),loose r.1≠[]/\r.2=[a,b,(p:Int),(q:Int)]/\(0<=a/\a<(n:Int))/\(0<=b/\b<(n:Int))/\fM r.1 a b=true/\p<i/\q<i/\R[p]? = some u/\u.1=put r.1 a b/\R[q]? = some v/\v.1=put r.1 b a
def GoodR(n:Nat)(R:List PR):Prop:=∀ (i:Nat) (r:PR),R[i]? = some r->p5 n R i r
theorem vT{R S:List PR}{i:Nat}{r:PR}(h:R[i]? = some r):(R++S)[i]? = some r:=by rw [getElem?_append_left (List.getElem?_eq_some_iff.1 h).1];exact h
theorem p5.app{n:Nat}{R S:List PR}{i j:Nat}{r:PR}(h:p5 n R i r)(hij:i<=j):p5 n (R++S) j r:=by
 refine ⟨h.rows,h.len,?_⟩;rcases h.why with z | ⟨a,b,p,q,u,v,h0,h1,h2,h3,h4,h5,h6,h7,h8,h9,h10⟩
 .exact .inl z
 .exact .inr ⟨a,b,p,q,u,v,h0,h1,h2,h3,h4,by omega,by omega,vT h7,h8,vT h9,h10⟩
theorem GoodR.snoc{n:Nat}{R:List PR}{r:PR}(g:GoodR n R)(h:p5 n R R.length r):GoodR n (R++[r]):=λi s hs=>by
 by_cases hi:i<R.length
 .rw [getElem?_append_left hi] at hs;exact (g i s hs).app (le_refl _)
 .have:=(List.getElem?_eq_some_iff.1 hs).1;rw [List.length_append,length_cons,length_nil] at this;have e:i=R.length:=by omega
  subst e;rw [getElem?_append_right (le_refl _),Nat.sub_self] at hs;cases hs;exact h.app (le_refl _)
def gl(x:List (List Int)):Nat:=(gls x x.length).length
theorem xF{x:List (List Int)}(hx:Ord.Rows x):1<=gl x:=by have h1:=qM hx;have h2:=LO (x:=x);unfold gl;omega
theorem aB3{x:List (List Int)}{a b:Int}(hab:a≠b)(ha:0<=a/\a<(x.length:Int))(hb:0<=b/\b<(x.length:Int)):gl x=gl (put x a b)+gl (put x b a):=by
 have hp:(gls x x.length).Perm (gls (put x a b) x.length++gls (put x b a) x.length):=by
  refine (List.perm_ext_iff_of_nodup (DA _) ?_).2 λw=>?_
  .rw [nodup_append];refine ⟨DA _,DA _,λw h1 w' h2 e=>?_⟩;subst e;have o1:=vS hb h1;have o2:=vS ha h2;exact X8 (rY (j5 o1.1).2).1 o1.2 o2.2
  .rw [mem_append];refine ⟨λh=>?_,λh=>?_⟩
   .rcases aBY hab ha hb h with z | z
    .exact .inl (SG ha hb h z)
    .exact .inr (SG hb ha h z)
   .rcases h with z | z
    .exact (vS hb z).1
    .exact (vS ha z).1
 unfold gl;rw [hp.length_eq,List.length_append,dP,dP]
def aB4:Nat->Nat->Nat
 | _,0=>1
 | n,i+1=>aB4 n i*(n - i)
theorem LV{x:List (List Int)}:∀ i:Nat,(gls x i).length<=aB4 x.length i
 | 0=>le_refl 1
 | i+1=>by
  have ih:=LV (x:=x) i;have go:∀ L:List (List Int),(∀ w∈L,w∈gls x i)->(L.flatMap λw=>(bL x w).map λt=>w++[t]).length<=L.length*(x.length - i):=by
   intro L
   induction L with
   | nil=>intro _; simp
   | cons w L ihL =>
    intro h;have hw:=j5 (h w mem_cons_self);have nd:=rY hw.2;have hf:=NP (x:=x) (a:=w) ⟨nd.1,nd.2⟩;have:=ihL λu hu=>h u (mem_cons_of_mem _ hu);rw [flatMap_cons,List.length_append,length_map,length_cons,Nat.add_mul];omega
  have h1:=go (gls x i) λw h=>h;exact le_trans h1 (Nat.mul_le_mul_right _ ih)
theorem SW{x:List (List Int)}(hn:x.length<=9):gl x<=362880:=by
 have h1:=LV (x:=x) x.length;have h2:∀ n:Nat,n<=9->aB4 n n<=362880:=by
  intro n hn;have:n=0\/n=1\/n=2\/n=3\/n=4\/n=5\/n=6\/n=7\/n=8\/n=9:=by omega
  rcases this with z | z | z | z | z | z | z | z | z | z<;>subst z<;>decide
 exact le_trans h1 (h2 _ hn)
def fB(dr:List Int)(y:List (List Int)):Int:=at0 dr ((y.map λr=>(r.length:Int)).sum % (dr.length:Int))
def cC(dr:List Int)(y:List (List Int)):Int×Int :=
 let p:=((loose y)[(fB dr y % ((loose y).length:Int)).toNat]?).getD (0,0)
 if fB dr y / 7 % 2=1 then (p.2,p.1) else p
theorem aAX{dr:List Int}{y:List (List Int)}(h:loose y≠[]):(0<=(cC dr y).1/\(cC dr y).1<(y.length:Int))/\(0<=(cC dr y).2/\(cC dr y).2<(y.length:Int))/\fM y (cC dr y).1 (cC dr y).2=true:=by
 have hl:0<(loose y).length:=List.length_pos_iff.2 h;have h0:=Int.emod_nonneg (fB dr y) (show ((loose y).length:Int)≠0 by omega);have h1:=Int.emod_lt_of_pos (fB dr y) (show (0:Int)<((loose y).length:Int) by omega);have hm:((loose y)[(fB dr y % ((loose y).length:Int)).toNat]?).getD (0,0)∈loose y:=by rw [getElem?_eq_getElem (by omega)];exact getElem_mem _
 obtain ⟨i1,i2,i3⟩:=SN hm;unfold cC;dsimp only;split
 .exact ⟨i2,i1,(pE i3).1⟩
 .exact ⟨i1,i2,i3⟩
theorem vU{ds:List D}{d:D}:aY (.lst (ds++[d])) (.int (-1))=some d:=by show zG (ds++[d]) (-1)=_;unfold zG XA;rw [if_neg (by decide),if_pos (by rw [List.length_append,length_cons,length_nil]; omega)];show (ds++[d])[(-1+((ds++[d]).length:Int)).toNat]? = _;rw [show (-1+((ds++[d]).length:Int)).toNat=ds.length by rw [List.length_append,length_cons,length_nil]; omega,getElem?_append_right (le_refl _),Nat.sub_self];rfl
theorem aEB{i:Nat}{f:EF}{Z:aP}(d:D){ρ':aP}(h:f (bT Z)=some d)(hi:d.vN=true)(hr:Z.set i (.ro d)=ρ'):uL i (fZ f) Z=.nx ρ':=by unfold uL fZ;rw [h,bind_some,if_pos hi];show Out.nx (Z.set i (.ro d))=_;rw [hr]
theorem aAY{i:Nat}{f:EF}{Z:aP}(ds:List D){ρ':aP}(h:f (bT Z)=some (.lst ds))(hi:kW ds=true)(hr:Z.set i (.ro (.lst ds))=ρ'):lZ i f Z=.nx ρ':=by unfold lZ;rw [h];show (if kW ds=true then _ else _)=_;rw [if_pos hi,hr]
theorem aI3{i:Nat}{f:EF}{Z:aP}{ds:List D}{d:D}(h1:f (bT Z)=some d)(hi:d.vN=true)(h2:Z[i]? = some (.ow (.lst ds)))(hl:ds.length<16777216):sX (kU i eX (fZ f)) Z=.nx (Z.set i (.ow (.lst (ds++[d])))):=by unfold sX kU fZ;rw [h2];simp only [nQ,bind_some];rw [h1];simp only [bind_some,hi,if_true];rw [h2];simp only [nQ,bind_some];rw [pB hl];rfl
theorem aI4{i:Nat}{Z:aP}{ds:List D}{d:D}(h2:Z[i]? = some (.ow (.lst (ds++[d])))):sX (AN i) Z=.nx (Z.set i (.ow (.lst ds))):=by unfold sX AN;rw [h2];simp only [nQ,bind_some];rw [show (ds++[d]).length - 1=ds.length by rw [List.length_append,length_cons,length_nil]; omega,getElem?_append_right (le_refl _),Nat.sub_self];show Out.nx (Z.set i (.ow (.lst (ds++[d]).dropLast)))=_;rw [List.dropLast_concat]
theorem aAZ{i:Nat}{f k:EF}{Z:aP}{q:Nat->Obj->Prop}{R:List PR}{y:List (List Int)}(w:List Int)(h:dH R y=false)(h1:f (bT Z)=some (.int R.length))(h2:Z[i]? = some (.ow (.dF q (mV R).1 (mV R).2)))(h3:k (bT Z)=some (aJ y))(h6:R.length<16000000):mC i (fZ f) k Z=.nx (Z.set i (.ow (.dF (adr q) (mV (R++[(y,w)])).1 (mV (R++[(y,w)])).2))):=by unfold mC fZ;rw [h1];simp only [bind_some,D.vN,if_true];rw [h2];simp only [EW,bind_some];rw [h3];simp only [bind_some];rw [SQ];simp only [bind_some];rw [if_pos ⟨IR R y,by unfold mV uK; rw [length_map,aQ]; omega⟩,aEA w h]
theorem aEC{R:List PR}{q:Nat->Obj->Prop}{y:List (List Int)}(neg:Bool):zM neg (aJ y) (.dF q (mV R).1 (mV R).2)=some (.bl (if neg then !dH R y else dH R y)):=by show ((nW (aJ y)).bind λk=>if kindB (mV R).1 k=true then some (D.bl (if neg then !(cP (mV R).1 (mV R).2 k).isSome else (cP (mV R).1 (mV R).2 k).isSome)) else none)=_;rw [SQ];simp only [bind_some];rw [if_pos (IR R y),SU,Option.isSome_map,n8]
theorem aED{R:List PR}{q:Nat->Obj->Prop}{y:List (List Int)}{i:Nat}(h:IQ R y=some i):pS (.dF q (mV R).1 (mV R).2) (aJ y)=some (.int (i:Int)):=by show ((nW (aJ y)).bind λk=>if kindB (mV R).1 k=true then cP (mV R).1 (mV R).2 k else none)=_;rw [SQ];simp only [bind_some];rw [if_pos (IR R y),SU,h];rfl
theorem aI5{i j:Nat}{t:AF}{Z:aP}{x y:D}(h:t (kD Z)=some [x,y]):ND i j t Z=.nx ((Z.set i (.ro x)).set j (.ro y)):=by unfold ND;rw [h]
abbrev n9:L4.SF:=(aH (uL 5 (fZ (aC aY (aB 4) (mW (eC (.int 1))))))
   (aH (aN 6 (aG LL.iX (aA (aB 5) aE)))
   (eV (tV (aC (zM false) (aB 5) (aB 3)))
    (sX (AN 4))
    (eV (tV (aC kT (bF aV (aA (aB 6) aE)) (eC (.int 0))))
     (aH (mC 3 (fZ (bF aV (aA (aB 2) aE))) (aB 5))
     (sX (kU 2 eX (aZ (dG (aA (aB 5) (aA (dG aE) aE)))))))
     (aH (aN 7 (aC aY (aB 1) (aC dI (bF u7 (aA (bJ 1 [] (dD (aB 5)) (g1 0) cH (bF aV (aA (aB 0) aE))) aE)) (bF aV (aA (aB 1) aE)))))
     (aH (HV (aZ (aC aY (aB 6) (aC dI (aB 7) (bF aV (aA (aB 6) aE))))) (HK 8 9))
     (aH (eV (tV (aC kT (aC dI (aC mX (aB 7) (eC (.int 7))) (eC (.int 2))) (eC (.int 1))))
      (ND 8 9 (aA (aB 9) (aA (aB 8) aE)))
      bY)
     (aH (aN 10 (dL (aA (aG LL.jZ (aA (aB 5) (aA (aB 8) (aA (aB 9) aE)))) (aA (aG LL.jZ (aA (aB 5) (aA (aB 9) (aA (aB 8) aE)))) aE))))
     (aH (lZ 11 (bJ 1 [3] (dD (aB 10)) (g1 0) (tV (aC (zM true) (aB 0) (aB 1))) (aB 0)))
     (eV (tV (aC tL (bF aV (aA (aB 11) aE)) (eC (.int 0))))
      (sX (kU 4 eX (aZ (aC aY (aB 11) (aC dI (aC mX (aB 7) (eC (.int 16))) (bF aV (aA (aB 11) aE)))))))
      (aH (mC 3 (fZ (bF aV (aA (aB 2) aE))) (aB 5))
      (sX (kU 2 eX (fZ (dG (aA (aB 5) (aA (dG (aA (aB 8) (aA (aB 9) (aA (aC pS (aB 3) (aC aY (aB 10) (eC (.int 0)))) (aA (aC pS (aB 3) (aC aY (aB 10) (eC (.int 1)))) aE))))) aE)))))))))))))))))
abbrev SP(x0:D)(dr:List Int)(q:Nat->Obj->Prop)(R:List PR)(W:List (List (List Int)))(v5 v6 v7 v8 v9 v10 v11:Sv):aP:=[.ro x0,.ro (aK dr),.ow (.lst (R.map aO)),.ow (.dF q (mV R).1 (mV R).2),.ow (.lst (W.map aJ)),v5,v6,v7,v8,v9,v10,v11]
def tZ(x0:D)(dr:List Int)(R:List PR)(W:List (List (List Int)))(Z:aP):Prop:=∃ q v5 v6 v7 v8 v9 v10 v11,Z=SP x0 dr q R W v5 v6 v7 v8 v9 v10 v11
inductive nA (dr:List Int) (R:List PR) (W:List (List (List Int))) (y:List (List Int)):List PR->List (List (List Int))->Prop
 | pop:dH R y=true->nA dr R W y R W
 | bare:dH R y=false->loose y=[]->nA dr R W y (R++[(y,[])]) (W++[y])
 | push (p:List (List Int)):dH R y=false->loose y≠[]->(p=put y (cC dr y).1 (cC dr y).2\/p=put y (cC dr y).2 (cC dr y).1)->dH R p=false->nA dr R W y R (W++[y]++[p])
 | done (i j:Nat):dH R y=false->loose y≠[]->IQ R (put y (cC dr y).1 (cC dr y).2)=some i->IQ R (put y (cC dr y).2 (cC dr y).1)=some j->nA dr R W y (R++[(y,[(cC dr y).1,(cC dr y).2,(i:Int),(j:Int)])]) (W++[y])
theorem IS{x0:D}{dr:List Int}{R:List PR}{W:List (List (List Int))}{y:List (List Int)}{Z:aP}(hy:Ord.Rows y)(hn:y.length<=9)(hd:dr.length=45)(hR:R.length<15000000)(hW:W.length<15000000)(h:tZ x0 dr R (W++[y]) Z) :
  Nx (n9 Z) λρ'=>∃ R' W',nA dr R W y R' W'/\tZ x0 dr R' W' ρ':=by
 obtain ⟨q,v5,v6,v7,v8,v9,v10,v11,rfl⟩:=h;have hll:(loose y).length<=81:=by have:=tY y y.length (le_refl _);have e:(bG 0 y.length).flatMap (cZ y)=loose y:=rfl;rw [e] at this;exact le_trans this (le_trans (Nat.mul_le_mul hn hn) (by decide))
 refine fN (SP x0 dr q R (W++[y]) (.ro (aJ y)) v6 v7 v8 v9 v10 v11) (aEB (aJ y) (aM (x:=.lst ((W++[y]).map aJ)) (y:=.int (-1)) rfl rfl (by rw [map_append]; exact vU)) (xE y) rfl) ?_;refine fN (SP x0 dr q R (W++[y]) (.ro (aJ y)) (.ro (.lst ((loose y).map pairD))) v7 v8 v9 v10 v11) (iE _ (mY rfl (IP hn)) rfl) ?_;refine jG (dH R y) (mZ (d:=.bl (dH R y)) (aM (x:=aJ y) (y:=.dF q (mV R).1 (mV R).2) rfl rfl (aEC false)) rfl) (λhh=>?_) λhh=>?_
 .refine ⟨_,aI4 (ds:=W.map aJ) (d:=aJ y) (by show some (Sv.ow (.lst ((W++[y]).map aJ)))=_; rw [map_append]; rfl),R,W,.pop hh,q,_,_,_,_,_,_,_,rfl⟩
 refine jG (decide (((loose y).length:Int)=0)) (mZ (aM (x:=.int (loose y).length) (y:=.int 0) (dJ (x:=.lst ((loose y).map pairD)) rfl (by show some (D.int ((loose y).map pairD).length)=_; rw [length_map])) rfl fV) rfl) (λhc=>?_) λhc=>?_
 .have hc:=of_decide_eq_true hc;have hl:loose y=[]:=List.length_eq_zero_iff.1 (by omega);refine fN (SP x0 dr q R (W++[y]) (.ro (aJ y)) (.ro (.lst ((loose y).map pairD))) v7 v8 v9 v10 v11 |>.set 3 (.ow (.dF (adr q) (mV (R++[(y,[])])).1 (mV (R++[(y,[])])).2))) (aAZ [] hh (dJ (x:=.lst (R.map aO)) rfl (by show some (D.int (R.map aO).length)=_; rw [length_map])) rfl rfl (by omega)) ?_;refine ⟨_,NS (d:=aO (y,[])) (ds:=R.map aO) ?_ rfl (by rw [length_map]; omega),R++[(y,[])],W++[y],.bare hh hl,adr q,.ro (aJ y),.ro (.lst ((loose y).map pairD)),v7,v8,v9,v10,v11,?_⟩
  .exact NN rfl rfl
  .rw [SP,SP,map_append (f:=aO)];rfl
 .have hc:=of_decide_eq_false hc;have hl:loose y≠[]:=λe=>hc (by rw [e]; rfl);obtain ⟨ab1,ab2,ab3⟩:=aAX (dr:=dr) hl;obtain ⟨s1,s2,s3,s4⟩:=pE ab3;generalize hA:(cC dr y).1=a at ab1 ab3 s1 s2 s3 s4;generalize hB:(cC dr y).2=b at ab2 ab3 s1 s2 s3 s4;have aEE:0<=(y.map λr:List Int=>(r.length:Int)).sum % (45:Int):=Int.emod_nonneg _ (by decide);have aEF:(y.map λr:List Int=>(r.length:Int)).sum % (45:Int)<45:=Int.emod_lt_of_pos _ (by decide);have hlen:aV [aK dr]=some (.int 45):=by show some (D.int ((dr.map D.int).length:Nat))=_;rw [length_map,hd];rfl
  have hlp:aV [.lst ((loose y).map pairD)]=some (.int (loose y).length):=by show some (D.int (((loose y).map pairD).length:Nat))=_;rw [length_map]
  refine fN (SP x0 dr q R (W++[y]) (.ro (aJ y)) (.ro (.lst ((loose y).map pairD))) (.ro (.int (fB dr y))) v8 v9 v10 v11) (iE (.int (fB dr y)) (aM (x:=aK dr) (y:=.int ((y.map λr:List Int=>(r.length:Int)).sum % 45)) rfl (aM (x:=.int (y.map λr:List Int=>(r.length:Int)).sum) (y:=.int 45) (dJ (x:=aK (y.map λr:List Int=>(r.length:Int))) ?_ sum_ints) (dJ rfl hlen) (bZ (by decide))) ?_) rfl) ?_
  .have e5:aK (y.map λr:List Int=>(r.length:Int))=.lst (y.map λr=>D.int (r.length:Int)):=by unfold aK; rw [map_map]; rfl
   rw [e5];exact mE (y.map tupI) rfl (by rw [length_map]; omega) (iR tupI (λr=>D.int (r.length:Int)) y λr _=>⟨_,rfl,dJ rfl E4⟩)
  .unfold fB;rw [hd];exact w4 aEE (by rw [hd]; exact aEF)
  have hl0:0<(loose y).length:=List.length_pos_iff.2 hl;have h0:=Int.emod_nonneg (fB dr y) (show ((loose y).length:Int)≠0 by omega);have h1:=Int.emod_lt_of_pos (fB dr y) (show (0:Int)<((loose y).length:Int) by omega);obtain ⟨p,hp⟩:∃ p,(loose y)[(fB dr y % ((loose y).length:Int)).toNat]? = some p:=⟨_,getElem?_eq_getElem (by omega)⟩;refine fN (SP x0 dr q R (W++[y]) (.ro (aJ y)) (.ro (.lst ((loose y).map pairD))) (.ro (.int (fB dr y))) (.ro (.int p.1)) (.ro (.int p.2)) v10 v11) (aDz (p:=.int p.1) (q:=.int p.2) (aM (x:=.lst ((loose y).map pairD)) (y:=.int (fB dr y % ((loose y).length:Int))) rfl (aM (x:=.int (fB dr y)) (y:=.int (loose y).length) rfl (dJ rfl hlp) (bZ (by omega))) ?_)) ?_
  .show zG ((loose y).map pairD) (fB dr y % ((loose y).length:Int))=_;have:=vP (xs:=(loose y).map pairD) (k:=(fB dr y % ((loose y).length:Int)).toNat) (x:=pairD p) (by rw [getElem?_map,hp]; rfl);rw [show (((fB dr y % ((loose y).length:Int)).toNat:Nat):Int)=fB dr y % ((loose y).length:Int) by omega] at this;rw [this];rfl
  have hab:cC dr y=if fB dr y / 7 % 2=1 then (p.2,p.1) else p:=by unfold cC;rw [hp];rfl
  refine tN (λZ=>Z=SP x0 dr q R (W++[y]) (.ro (aJ y)) (.ro (.lst ((loose y).map pairD))) (.ro (.int (fB dr y))) (.ro (.int a)) (.ro (.int b)) v10 v11) ?_ λZ e=>?_
  .refine jG (decide (fB dr y / 7 % 2=1)) (mZ (aM (x:=.int (fB dr y / 7 % 2)) (y:=.int 1) (aM (x:=.int (fB dr y / 7)) (y:=.int 2) (aM (x:=.int (fB dr y)) (y:=.int 7) rfl rfl (mD (by decide) (by decide))) rfl (bZ (by decide))) rfl fV) rfl) (λhc=>?_) λhc=>?_
   .rw [if_pos (of_decide_eq_true hc)] at hab;refine ⟨_,aI5 (args2 rfl rfl),?_⟩;rw [<- hA,<- hB,hab];rfl
   .rw [if_neg (of_decide_eq_false hc)] at hab;refine iS ?_;rw [<- hA,<- hB,hab]
  subst e;have u1:=FJ hy hn ab1 ab2;have u2:=FJ hy hn ab2 ab1;refine fN (SP x0 dr q R (W++[y]) (.ro (aJ y)) (.ro (.lst ((loose y).map pairD))) (.ro (.int (fB dr y))) (.ro (.int a)) (.ro (.int b)) (.ro (.lst ([put y a b,put y b a].map aJ))) v11) (iE _ ?_ rfl) ?_
  .unfold dL;rw [args2 (fL rfl rfl rfl u1) (fL rfl rfl rfl u2)];rfl
  generalize hM:([put y a b,put y b a].filter λz=>!dH R z)=M;have hMl:M.length<=2:=by rw [<- hM]; exact length_filter_le _ _
  refine fN (SP x0 dr q R (W++[y]) (.ro (aJ y)) (.ro (.lst ((loose y).map pairD))) (.ro (.int (fB dr y))) (.ro (.int a)) (.ro (.int b)) (.ro (.lst ([put y a b,put y b a].map aJ))) (.ro (.lst (M.map aJ)))) (aAY (M.map aJ) ?_ (SS M) rfl) ?_
  .rw [<- hM];refine mE ([put y a b,put y b a].map aJ) rfl (by simp) (jF aJ (λz=>!dH R z) aJ _ λz _=>⟨_,rfl,mZ (d:=.bl (!dH R z)) (aM (x:=aJ z) (y:=.dF q (mV R).1 (mV R).2) rfl rfl (aEC true)) rfl,λ_=>rfl⟩)
  have hlm:aV [.lst (M.map aJ)]=some (.int M.length):=by show some (D.int ((M.map aJ).length:Nat))=_;rw [length_map]
  refine jG (decide ((0:Int)<M.length)) (mZ (aM (x:=.int M.length) (y:=.int 0) (dJ rfl hlm) rfl jX) rfl) (λhc=>?_) λhc=>?_
  .have hc:=of_decide_eq_true hc;have g0:=Int.emod_nonneg (fB dr y / 16) (show (M.length:Int)≠0 by omega);have g1:=Int.emod_lt_of_pos (fB dr y / 16) hc;obtain ⟨z,hz⟩:∃ z,M[(fB dr y / 16 % (M.length:Int)).toNat]? = some z:=⟨_,getElem?_eq_getElem (by omega)⟩;have hzm:z∈M:=mem_of_getElem? hz;rw [<- hM,mem_filter] at hzm;refine ⟨_,NS (d:=aJ z) (ds:=(W++[y]).map aJ) (aM (x:=.lst (M.map aJ)) (y:=.int (fB dr y / 16 % (M.length:Int))) rfl (aM (x:=.int (fB dr y / 16)) (y:=.int M.length) (aM (x:=.int (fB dr y)) (y:=.int 16) rfl rfl (mD (by decide) (by decide))) (dJ rfl hlm) (bZ hc)) ?_) rfl (by rw [length_map,List.length_append,length_cons,length_nil]; omega),R,W++[y]++[z],.push z hh hl ?_ (by simpa using hzm.2),q,.ro (aJ y),.ro (.lst ((loose y).map pairD)),.ro (.int (fB dr y)),.ro (.int a),.ro (.int b),.ro (.lst ([put y a b,put y b a].map aJ)),.ro (.lst (M.map aJ)),?_⟩
   .show zG (M.map aJ) (fB dr y / 16 % (M.length:Int))=_;have:=vP (xs:=M.map aJ) (k:=(fB dr y / 16 % (M.length:Int)).toNat) (x:=aJ z) (by rw [getElem?_map,hz]; rfl);rw [show (((fB dr y / 16 % (M.length:Int)).toNat:Nat):Int)=fB dr y / 16 % (M.length:Int) by omega] at this;exact this
   .rw [hA,hB];have:=hzm.1;simpa using this
   .rw [SP,SP,map_append (l₁:=W++[y])];rfl
  .have hc:=of_decide_eq_false hc;have hMe:M=[]:=List.length_eq_zero_iff.1 (by omega);rw [hMe,List.filter_eq_nil_iff] at hM;have k1:dH R (put y a b)=true:=by simpa using hM (put y a b) (by simp)
   have k2:dH R (put y b a)=true:=by simpa using hM (put y b a) (by simp)
   obtain ⟨i,hi⟩:∃ i,IQ R (put y a b)=some i:=Option.isSome_iff_exists.1 (by rw [n8]; exact k1);obtain ⟨j,hj⟩:∃ j,IQ R (put y b a)=some j:=Option.isSome_iff_exists.1 (by rw [n8]; exact k2);refine fN ((SP x0 dr q R (W++[y]) (.ro (aJ y)) (.ro (.lst ((loose y).map pairD))) (.ro (.int (fB dr y))) (.ro (.int a)) (.ro (.int b)) (.ro (.lst ([put y a b,put y b a].map aJ))) (.ro (.lst (M.map aJ)))).set 3 (.ow (.dF (adr q) (mV (R++[(y,[a,b,(i:Int),(j:Int)])])).1 (mV (R++[(y,[a,b,(i:Int),(j:Int)])])).2))) (aAZ [a,b,(i:Int),(j:Int)] hh (dJ (x:=.lst (R.map aO)) rfl (by show some (D.int (R.map aO).length)=_; rw [length_map])) rfl rfl (by omega)) ?_;refine ⟨_,aI3 (d:=aO (y,[a,b,(i:Int),(j:Int)])) (ds:=R.map aO) ?_ (FK _) rfl (by rw [length_map]; omega),R++[(y,[a,b,(i:Int),(j:Int)])],W++[y],?_,adr q,.ro (aJ y),.ro (.lst ((loose y).map pairD)),.ro (.int (fB dr y)),.ro (.int a),.ro (.int b),.ro (.lst ([put y a b,put y b a].map aJ)),.ro (.lst (M.map aJ)),?_⟩
   .refine NN (x:=aJ y) (y:=tupI [a,b,(i:Int),(j:Int)]) rfl ?_;have f1:∀ Z:bR,Z[3]? = some (some (.dF (adr q) (mV (R++[(y,[a,b,(i:Int),(j:Int)])])).1 (mV (R++[(y,[a,b,(i:Int),(j:Int)])])).2))->Z[10]? = some (some (.lst ([put y a b,put y b a].map aJ)))->Z[8]? = some (some (.int a))->Z[9]? = some (some (.int b))->dG (aA (aB 8) (aA (aB 9) (aA (aC pS (aB 3) (aC aY (aB 10) (eC (.int 0)))) (aA (aC pS (aB 3) (aC aY (aB 10) (eC (.int 1)))) aE)))) Z=some (tupI [a,b,(i:Int),(j:Int)]):=λZ h3 h10 h8 h9=>by
     have e3:aB 3 Z=some (.dF (adr q) (mV (R++[(y,[a,b,(i:Int),(j:Int)])])).1 (mV (R++[(y,[a,b,(i:Int),(j:Int)])])).2):=by unfold aB; rw [h3]; rfl
     have e10:aB 10 Z=some (.lst ([put y a b,put y b a].map aJ)):=by unfold aB; rw [h10]; rfl
     have e8:aB 8 Z=some (.int a):=by unfold aB; rw [h8]; rfl
     have e9:aB 9 Z=some (.int b):=by unfold aB; rw [h9]; rfl
     have g1:aC pS (aB 3) (aC aY (aB 10) (eC (.int 0))) Z=some (.int i):=aM e3 (y:=aJ (put y a b)) (aM e10 (y:=.int 0) rfl rfl) (aED (LU hi));have g2:aC pS (aB 3) (aC aY (aB 10) (eC (.int 1))) Z=some (.int j):=aM e3 (y:=aJ (put y b a)) (aM e10 (y:=.int 1) rfl rfl) (aED (LU hj));unfold dG aA aE;rw [e8,e9,g1,g2];rfl
    exact f1 _ rfl rfl rfl rfl
   .have:=nA.done (dr:=dr) (W:=W) i j hh hl (by rw [hA,hB]; exact hi) (by rw [hA,hB]; exact hj);rw [hA,hB] at this;exact this
   .rw [SP,SP,map_append (f:=aO)];rfl
abbrev oB:TF:=tV (aC tL (bF aV (aA (aB 4) aE)) (eC (.int 0)))
def Steps(m:Nat)(Z ρ':aP):Prop:=∀ f:Nat,eZ oB n9 (f+m) Z=eZ oB n9 f ρ'
theorem Steps.trans{m k:Nat}{a b c:aP}(h1:Steps m a b)(h2:Steps k b c):Steps (m+k) a c:=λf=>by rw [show f+(m+k)=(f+k)+m by omega,h1,h2]
theorem LW{x0:D}{dr:List Int}{R:List PR}{W:List (List (List Int))}{Z:aP}(h:tZ x0 dr R W Z):oB (bT Z)=some (decide (0<W.length)):=by obtain ⟨q,v5,v6,v7,v8,v9,v10,v11,rfl⟩:=h;refine mZ (d:=.bl (decide ((0:Int)<W.length))) (aM (x:=.int W.length) (y:=.int 0) (dJ (x:=.lst (W.map aJ)) rfl (by show some (D.int (W.map aJ).length)=_; rw [length_map])) rfl jX) ?_;show some (decide ((0:Int)<W.length))=_;congr 1;rw [decide_eq_decide];omega
theorem rZ{x0:D}{dr:List Int}{R:List PR}{W:List (List (List Int))}{y:List (List Int)}{Z:aP}(hy:Ord.Rows y)(hn:y.length<=9)(hd:dr.length=45)(hR:R.length<15000000)(hW:W.length<15000000)(h:tZ x0 dr R (W++[y]) Z) :
  ∃ R' W' ρ',nA dr R W y R' W'/\tZ x0 dr R' W' ρ'/\Steps 1 Z ρ':=by
 obtain ⟨ρ',e,R',W',t,s⟩:=IS hy hn hd hR hW h;refine ⟨R',W',ρ',t,s,λf=>?_⟩
 show (match oB (bT Z) with
  | none=>Out.no
  | some false=>.nx Z
  | some true=>match n9 Z with
   | .nx ρ'=>eZ oB n9 f ρ'
   | o=>o)=_
 rw [LW h,decide_eq_true (by rw [List.length_append,length_cons]; omega)];dsimp only;rw [e]
structure Ran (n:Nat) (dr:List Int) (R:List PR) (y:List (List Int)) (m:Nat) (R':List PR):Prop where
 steps:m+4<=6*gl y
 more:∃ S,R' = R++S /\ ∀ r∈S,gl r.1<=gl y
 few:R'.length+1<=R.length+2*gl y
 good:GoodR n R'
 has:dH R' y=true
 last:dH R y=false -> ∃ S w,R' = S++[(y,w)]
theorem YD{R S:List PR}{y:List (List Int)}(h:dH R y=true):dH (R++S) y=true:=by obtain ⟨r,hr,e⟩:=gD.1 h;exact gD.2 ⟨r,mem_append_left _ hr,e⟩
theorem YE{R S:List PR}{y:List (List Int)}(h:dH R y=false)(hs:∀ r∈S,r.1≠y):dH (R++S) y=false:=by
 cases e:dH (R++S) y with
 | false=>rfl
 | true =>
  obtain ⟨r,hr,e2⟩:=gD.1 e;rcases List.mem_append.1 hr with z | z
  .rw [gD.2 ⟨r,z,e2⟩] at h; cases h
  .exact absurd e2 (hs r z)
theorem BC{x0:D}{dr:List Int}{n:Nat}(hn:n<=9)(hd:dr.length=45):∀ (k:Nat) (y:List (List Int)) (R:List PR) (W:List (List (List Int))) (Z:aP),gl y<=k->Ord.Rows y->y.length=n->GoodR n R->R.length+2*gl y<=14000000->W.length+gl y<=14000000->tZ x0 dr R (W++[y]) Z ->
  ∃ m R' ρ',Ran n dr R y m R'/\tZ x0 dr R' W ρ'/\Steps m Z ρ'
 | 0,y,R,W,Z,hk,hy,_,_,_,_,_=>by have:=xF hy; omega
 | k+1,y,R,W,Z,hk,hy,hl,hg,hR,hW,hst=>by
  have gp:=xF hy
  -- an order that has a row is taken off
  have offs:∀ (R1:List PR) (ρ1:aP),dH R1 y=true->R1.length<15000000->tZ x0 dr R1 (W++[y]) ρ1 -> ∃ ρ',tZ x0 dr R1 W ρ'/\Steps 1 ρ1 ρ':=λR1 ρ1 hh hl1 h1=>by
   obtain ⟨R',W',ρ',t,s,e⟩:=rZ hy (by omega) hd hl1 (by omega) h1
   cases t with
   | pop _=>exact ⟨ρ',s,e⟩
   | bare h _=>rw [hh] at h; cases h
   | push p h=>rw [hh] at h; cases h
   | done i j h=>rw [hh] at h; cases h
  cases hh:dH R y with
  | true =>
   obtain ⟨ρ',s,e⟩:=offs R Z hh (by omega) hst;exact ⟨1,R,ρ',⟨by omega,⟨[],by simp,λr hr=>by cases hr⟩,by omega,hg,hh,λh=>by rw [hh] at h; cases h⟩,s,e⟩
  | false =>
   by_cases hlo:loose y=[]
   .obtain ⟨R',W',ρ1,t,s,e⟩:=rZ hy (by omega) hd (by omega) (by omega) hst
    cases t with
    | pop h=>rw [hh] at h; cases h
    | push p h h2=>exact absurd hlo h2
    | done i j h h2=>exact absurd hlo h2
    | bare h h2 =>
     have hhas:dH (R++[(y,[])]) y=true:=gD.2 ⟨(y,[]),by simp,rfl⟩;obtain ⟨ρ',s',e'⟩:=offs _ ρ1 hhas (by rw [List.length_append,length_cons,length_nil]; omega) s;refine ⟨1+1,_,ρ',⟨by omega,⟨[(y,[])],rfl,λr hr=>by rw [mem_singleton] at hr; rw [hr]; exact le_refl _⟩,by rw [List.length_append,length_cons,length_nil]; omega,hg.snoc ⟨hy,hl,.inl ⟨hlo,rfl⟩⟩,hhas,λ_=>⟨R,[],rfl⟩⟩,s',e.trans e'⟩
   .obtain ⟨ab1,ab2,ab3⟩:=aAX (dr:=dr) hlo;obtain ⟨s1,s2,s3,s4⟩:=pE ab3;have hsum:=aB3 s2 ab1 ab2;have th1:thing y.length (cC dr y).1=true:=fI.2 ab1;have th2:thing y.length (cC dr y).2=true:=fI.2 ab2;have rP:=E8 hy th1 th2 s3;have rQ:=E8 hy th2 th1 s4;have gP:=xF rP;have gQ:=xF rQ;have lP:=dP y (cC dr y).1 (cC dr y).2;have lQ:=dP y (cC dr y).2 (cC dr y).1
    -- both parts have rows
    have fin:∀ (R1:List PR) (ρ1:aP),dH R1 y=false->dH R1 (put y (cC dr y).1 (cC dr y).2)=true->dH R1 (put y (cC dr y).2 (cC dr y).1)=true->R1.length<14500000->GoodR n R1->tZ x0 dr R1 (W++[y]) ρ1 -> ∃ w ρ',GoodR n (R1++[(y,w)])/\tZ x0 dr (R1++[(y,w)]) W ρ'/\Steps 2 ρ1 ρ':=λR1 ρ1 hh1 k1 k2 hl1 g1 h1=>by
     obtain ⟨R',W',ρ2,t,s,e⟩:=rZ hy (by omega) hd (by omega) (by omega) h1
     cases t with
     | pop h=>rw [hh1] at h; cases h
     | bare h h2=>exact absurd h2 hlo
     | push p h h2 h3 h4 =>
      rcases h3 with z | z
      .rw [z,k1] at h4; cases h4
      .rw [z,k2] at h4; cases h4
     | done i j h h2 h3 h4 =>
      have hhas:dH (R1++[(y,[(cC dr y).1,(cC dr y).2,(i:Int),(j:Int)])]) y=true:=gD.2 ⟨_,mem_append_right _ (List.mem_singleton.2 rfl),rfl⟩;obtain ⟨ρ',s',e'⟩:=offs _ ρ2 hhas (by rw [List.length_append,length_cons,length_nil]; omega) s;obtain ⟨u,u1,u2⟩:=DD h3;obtain ⟨v,v1,v2⟩:=DD h4;refine ⟨_,ρ',g1.snoc ⟨hy,hl,.inr ⟨_,_,i,j,u,v,hlo,rfl,by rw [<- hl]; exact ab1,by rw [<- hl]; exact ab2,ab3,SV h3,SV h4,u1,u2,v1,v2⟩⟩,s',e.trans e'⟩
    have all2:∀ {p q:List (List Int)},(p=put y (cC dr y).1 (cC dr y).2\/p=put y (cC dr y).2 (cC dr y).1)->(q=put y (cC dr y).1 (cC dr y).2\/q=put y (cC dr y).2 (cC dr y).1)->p≠q->gl p+gl q=gl y:=λ{p q} hp hq hpq=>by
     rcases hp with z | z<;>rcases hq with z2 | z2
     .exact absurd (z.trans z2.symm) hpq
     .rw [z,z2]; omega
     .rw [z,z2]; omega
     .exact absurd (z.trans z2.symm) hpq
    -- one part is run through
    have one:∀ (R1:List PR) (ρ1:aP),dH R1 y=false->¬ (dH R1 (put y (cC dr y).1 (cC dr y).2)=true/\dH R1 (put y (cC dr y).2 (cC dr y).1)=true)->R1.length<14500000->(∀ p,(p=put y (cC dr y).1 (cC dr y).2\/p=put y (cC dr y).2 (cC dr y).1)->dH R1 p=false->R1.length+2*gl p<=14000000)->GoodR n R1->tZ x0 dr R1 (W++[y]) ρ1 ->
      ∃ p m R2 ρ2,(p=put y (cC dr y).1 (cC dr y).2\/p=put y (cC dr y).2 (cC dr y).1)/\dH R1 p=false/\gl p+1<=gl y/\Ran n dr R1 p m R2/\dH R2 y=false/\tZ x0 dr R2 (W++[y]) ρ2/\Steps (1+m) ρ1 ρ2:=λR1 ρ1 hh1 hm hl1 hb g1 h1=>by
     obtain ⟨R',W',ρ2,t,s,e⟩:=rZ hy (by omega) hd (by omega) (by omega) h1
     cases t with
     | pop h=>rw [hh1] at h; cases h
     | bare h h2=>exact absurd h2 hlo
     | done i j h h2 h3 h4 =>
      exact absurd ⟨by rw [<- n8,h3]; rfl,by rw [<- n8,h4]; rfl⟩ hm
     | push p h h2 h3 h4 =>
      have fct:Ord.Rows p/\p.length=n/\gl p+1<=gl y:=by
       rcases h3 with z | z
       .rw [z]; exact ⟨rP,by omega,by omega⟩
       .rw [z]; exact ⟨rQ,by omega,by omega⟩
      obtain ⟨m,R2,ρ3,rn,s3,e3⟩:=BC hn hd k p R1 (W++[y]) ρ2 (by omega) fct.1 fct.2.1 g1 (hb p h3 h4) (by rw [List.length_append,length_cons,length_nil]; omega) s;refine ⟨p,m,R2,ρ3,h3,h4,fct.2.2,rn,?_,s3,e.trans e3⟩;obtain ⟨S,eS,hS⟩:=rn.more;rw [eS];exact YE hh1 λr hr e=>by have:=hS r hr;rw [e] at this;omega
    have keep:∀ {R1 R2:List PR} {p z:List (List Int)} {m:Nat},Ran n dr R1 p m R2->dH R1 z=true->dH R2 z=true:=λ{R1 R2 p z m} rn h=>by obtain ⟨S,eS,_⟩:=rn.more;rw [eS];exact YD h
    by_cases b0:dH R (put y (cC dr y).1 (cC dr y).2)=true/\dH R (put y (cC dr y).2 (cC dr y).1)=true
    .obtain ⟨w,ρ',g',s',e'⟩:=fin R Z hh b0.1 b0.2 (by omega) hg hst;refine ⟨2,_,ρ',⟨by omega,⟨[(y,w)],rfl,λr hr=>by rw [mem_singleton] at hr; rw [hr]; exact le_refl _⟩,by rw [List.length_append,length_cons,length_nil]; omega,g',gD.2 ⟨_,mem_append_right _ (List.mem_singleton.2 rfl),rfl⟩,λ_=>⟨R,w,rfl⟩⟩,s',e'⟩
    .obtain ⟨p,m1,R1,ρ1,hp,hp0,hpg,rn1,hy1,st1,e1⟩:=one R Z hh b0 (by omega) (λp hp _=>by
      rcases hp with z | z
      .rw [z]; omega
      .rw [z]; omega) hg hst
     obtain ⟨S1,eS1,hS1⟩:=rn1.more;have f1:=rn1.few;have t1:=rn1.steps;have pg:1<=gl p:=by
      rcases hp with z | z
      .rw [z]; exact gP
      .rw [z]; exact gQ
     by_cases b1:dH R1 (put y (cC dr y).1 (cC dr y).2)=true/\dH R1 (put y (cC dr y).2 (cC dr y).1)=true
     .obtain ⟨w,ρ',g',s',e'⟩:=fin R1 ρ1 hy1 b1.1 b1.2 (by omega) rn1.good st1;refine ⟨1+m1+2,_,ρ',⟨by omega,⟨S1++[(y,w)],by rw [eS1,List.append_assoc],λr hr=>?_⟩,by rw [List.length_append,length_cons,length_nil]; omega,g',gD.2 ⟨_,mem_append_right _ (List.mem_singleton.2 rfl),rfl⟩,λ_=>⟨R1,w,rfl⟩⟩,s',e1.trans e'⟩;rcases List.mem_append.1 hr with z | z
      .have:=hS1 r z; omega
      .rw [mem_singleton] at z; rw [z]; exact le_refl _
     .obtain ⟨p2,m2,R2,ρ2,hp2,aEG,aQ3,rn2,hy2,st2,e2⟩:=one R1 ρ1 hy1 b1 (by omega) (λp' hp' h'=>by
       have ne:p≠p':=λe=>by rw [<- e,rn1.has] at h'; cases h'
       have:=all2 hp hp' ne;omega) rn1.good st1
      have ne:p≠p2:=λe=>by rw [<- e,rn1.has] at aEG; cases aEG
      have tot:=all2 hp hp2 ne;obtain ⟨S2,eS2,hS2⟩:=rn2.more;have f2:=rn2.few;have t2:=rn2.steps;have YF:dH R2 p=true:=keep rn2 rn1.has;have both:dH R2 (put y (cC dr y).1 (cC dr y).2)=true/\dH R2 (put y (cC dr y).2 (cC dr y).1)=true:=by
       have h2:=rn2.has;rcases hp with z | z<;>rcases hp2 with z2 | z2
       .exact absurd (z.trans z2.symm) ne
       .rw [z] at YF; rw [z2] at h2; exact ⟨YF,h2⟩
       .rw [z] at YF; rw [z2] at h2; exact ⟨h2,YF⟩
       .exact absurd (z.trans z2.symm) ne
      obtain ⟨w,ρ',g',s',e'⟩:=fin R2 ρ2 hy2 both.1 both.2 (by omega) rn2.good st2;refine ⟨1+m1+(1+m2+2),_,ρ',⟨by omega,⟨S1++S2++[(y,w)],by rw [eS2,eS1,List.append_assoc,List.append_assoc,List.append_assoc],λr hr=>?_⟩,by rw [List.length_append,length_cons,length_nil]; omega,g',gD.2 ⟨_,mem_append_right _ (List.mem_singleton.2 rfl),rfl⟩,λ_=>⟨R2,w,rfl⟩⟩,s',e1.trans (e2.trans e')⟩;rcases List.mem_append.1 hr with z | z
      .rcases List.mem_append.1 z with z | z
       .have:=hS1 r z; omega
       .have:=hS2 r z; omega
      .rw [mem_singleton] at z; rw [z]; exact le_refl _
theorem FL{x:List (List Int)}{dr:List Int}(hx:Ord.Rows x)(hn:x.length<=9)(hd:dr.length=45):∃ (R:List PR) (w:List Int),GoodR x.length (R++[(x,w)])/\(R++[(x,w)]).length<=2*gl x/\fX [aJ x,aK dr]=.ok (.lst ((R++[(x,w)]).map aO)):=by
 have g9:=SW hn;have gp:=xF hx;obtain ⟨m,R',ρ',rn,st,e⟩:=BC (x0:=aJ x) hn hd (gl x) x [] [] (SP (aJ x) dr vA [] [x] .no .no .no .no .no .no .no) (le_refl _) hx rfl (λi r h=>by simp at h) (by simp; omega) (by simp; omega) ⟨_,_,_,_,_,_,_,_,rfl⟩;obtain ⟨S,w,eR⟩:=rn.last rfl;have ts:=rn.steps;have fw:=rn.few;refine ⟨S,w,by rw [<- eR]; exact rn.good,by rw [<- eR]; simp only [length_nil] at fw; omega,?_⟩;have run:eZ oB n9 3000000 (SP (aJ x) dr vA [] [x] .no .no .no .no .no .no .no)=.nx ρ':=by
  obtain ⟨f,hf⟩:∃ f,3000000=(f+1)+m:=⟨3000000 - 1 - m,by omega⟩;rw [hf,e]
  show (match oB (bT ρ') with
   | none=>Out.no
   | some false=>.nx ρ'
   | some true=>match n9 ρ' with
    | .nx ρ'=>eZ oB n9 f ρ'
    | o=>o)=_
  rw [LW st];rfl
 unfold fX;refine jP rfl (fF [.ro (aJ x),.ro (aK dr),.ow (.lst []),.no,.no,.no,.no,.no,.no,.no,.no,.no] rfl (fF [.ro (aJ x),.ro (aK dr),.ow (.lst []),.ow (.dF vA [] []),.no,.no,.no,.no,.no,.no,.no,.no] rfl (fF (SP (aJ x) dr vA [] [x] .no .no .no .no .no .no .no) rfl (fF ρ' run (kH ?_)))));obtain ⟨q,v5,v6,v7,v8,v9,v10,v11,rfl⟩:=st;rw [<- eR];rfl
theorem vV{α:Type}[DecidableEq α]{f:D->D->Option Bool}{mk:α->D}(h:∀ a b,f (mk a) (mk b)=some (decide (a=b))):∀ l m:List α,(u9 f (l.map mk) (m.map mk)).map (λr=>r&&decide ((l.map mk).length=(m.map mk).length))=some (decide (l=m))
 | [],[]=>rfl
 | [],b::m=>by show some (true&&decide (0=(m.map mk).length+1))=_;rw [decide_eq_false (by omega),decide_eq_false (by simp)];rfl
 | a::l,[]=>by show some (true&&decide ((l.map mk).length+1=0))=_;rw [decide_eq_false (by omega),decide_eq_false (by simp)];rfl
 | a::l,b::m=>by
  have ih:=vV h l m;rw [map_cons,map_cons,u9,h a b]
  cases e:u9 f (l.map mk) (m.map mk) with
  | none=>rw [e] at ih; cases ih
  | some r =>
   rw [e] at ih;have ih2:(r&&decide ((l.map mk).length=(m.map mk).length))=decide (l=m):=Option.some.inj ih;show some ((decide (a=b)&&r)&&decide ((l.map mk).length+1=(m.map mk).length+1))=_;rw [Bool.and_assoc,show decide ((l.map mk).length+1=(m.map mk).length+1)=decide ((l.map mk).length=(m.map mk).length) from decide_eq_decide.2 (by omega),ih2];congr 1;rw [Bool.eq_iff_iff,Bool.and_eq_true,decide_eq_true_eq,decide_eq_true_eq,decide_eq_true_eq,List.cons.injEq]
theorem YG(n:Nat)(a b:List Int):eqP (n+1) (tupI a) (tupI b)=some (decide (a=b)):=vV (λa b=>by cases n<;>rfl) a b
theorem DF(n:Nat)(x y:List (List Int)):eqP (n+2) (aJ x) (aJ y)=some (decide (x=y)):=vV (λa b=>YG n a b) x y
theorem SX(x y:List (List Int)):qE (aJ x) (aJ y)=some (.bl (decide (x=y))):=by unfold qE;rw [DF 6];rfl
theorem SY(x y:List (List Int)):EV (aJ x) (aJ y)=some (.bl (!decide (x=y))):=by unfold EV;rw [DF 6];rfl
theorem SZ(x y:List (List Int)):qE (.tup [aJ x,aJ y]) (.tup [aJ x,aJ y])=some (.bl true):=by have:=vV (f:=eqP 7) (mk:=aJ) (λa b=>DF 5 a b) [x,y] [x,y];unfold qE;have e:eqP 8 (.tup [aJ x,aJ y]) (.tup [aJ x,aJ y])=some (decide ([x,y]=[x,y])):=this;rw [e,decide_eq_true rfl];rfl
theorem IT{a b:EF}{Z:bR}{p q:Bool}(ha:a Z=some (.bl p))(hb:p=true->b Z=some (.bl q))(h:p=false->q=false):kE a b Z=some (.bl q):=by
 unfold kE;rw [ha];show (if p=true then b Z else some (.bl false))=_
 cases p with
 | true=>exact hb rfl
 | false=>rw [h rfl]; rfl
section
variable{x:List (List Int)}
theorem NY(hx:Ord.Rows x)(hn:x.length<=9){b:Int}(h0:0<=b)(h1:b<(x.length:Int)):eB [aJ x,tupI (row x b)]=.ok (.bl true):=by
 unfold eB;have sh:=xD hx hn;have key:=AZ (g:=lE 2) (b:=(eV (hZ (tV (bF allM (aA (bJ 1 [1] (dD (aC aY (aB 0) (aB 2))) (g1 0) cH (aC (lY false) (aB 0) (aB 1))) aE))))
    (aU (eC (.bl false)))
    bY)) (z:=.bl false) (λZ=>∃ v,Z=[Sv.ro (aJ x),Sv.ro (tupI (row x b)),v]) D.int (λ_=>true) (row x b) [Sv.ro (aJ x),Sv.ro (tupI (row x b)),Sv.no] ⟨_,rfl⟩ λt ht Z hp=>by
  obtain ⟨v,rfl⟩:=hp;have rt:=hx.rng _ _ (eO h0 h1) t ht;refine ⟨[Sv.ro (aJ x),Sv.ro (tupI (row x b)),Sv.ro (.int t)],rfl,λ_=>?_,λh=>by cases h⟩;refine jG false (XQ (b:=true) (mZ (d:=.bl true) (dJ (x:=.lst ((row x t).map λc=>D.bl ((row x b).contains c))) (mE ((row x t).map D.int) ?_ ?_ (iR D.int (λc=>D.bl ((row x b).contains c)) _ λc hc=>⟨_,rfl,aM (x:=.int c) (y:=tupI (row x b)) rfl rfl IE⟩)) ?_) rfl) rfl) (λh=>by cases h) λ_=>iS ⟨_,rfl⟩
  .unfold dD;rw [aM (g:=aY) (a:=aB 0) (b:=aB 2) (x:=aJ x) (y:=.int t) rfl rfl (kL rt.1 rt.2)];rfl
  .have:=sh _ (mem_of_getElem? (eO rt.1 rt.2));rw [length_map];omega
  .have e:((row x t).map λc=>D.bl ((row x b).contains c))=((row x t).map λc=>(row x b).contains c).map D.bl:=by rw [map_map]; rfl
   rw [e,CS];congr 2;rw [all_map,all_eq_true];intro c hc;have:=hx.tr b.toNat t.toNat _ _ (eO h0 h1) (by rw [show ((t.toNat:Nat):Int)=t by omega]; exact ht) (eO rt.1 rt.2) c hc;simpa using this
 have e2:(row x b).all (λ_=>true)=true:=by simp
 rw [e2] at key;obtain ⟨Z,e,v,rfl⟩:=key.1 rfl;exact jP rfl (fF _ (RK ((row x b).map D.int) rfl e) (kH rfl))
theorem NZ(hx:Ord.Rows x)(hn:x.length<=9){b:Int}(h0:0<=b)(h1:b<(x.length:Int)):mG [aJ x,.int b]=.ok (.bl true):=by
 unfold mG;have sh:=xD hx hn;have up:=hx.up _ _ (eO h0 h1);have W4:=hx.W4 _ _ (eO h0 h1);rw [show ((b.toNat:Nat):Int)=b by omega] at W4;have hl:=sh _ (mem_of_getElem? (eO h0 h1));refine jP rfl (fF [.ro (aJ x),.ro (.int b),.ro (tupI (row x b))] (iE _ (aM (x:=aJ x) (y:=.int b) rfl rfl (kL h0 h1)) rfl) (kH ?_));refine IT (p:=true) (eM (x:=tupI (row x b)) (y:=.int x.length) rfl (dJ rfl dZ) (CY (by omega) up λc hc=>hx.rng _ _ (eO h0 h1) c hc)) (λ_=>IT (p:=true) (aM (x:=.int b) (y:=tupI (row x b)) rfl rfl ?_) (λ_=>eM rfl rfl (NY hx hn h0 h1)) λh=>by cases h) λh=>by cases h
 rw [CW];simp [W4]
theorem FM(hx:Ord.Rows x)(hn:x.length<=9):iW [aJ x]=.ok (.bl true):=by
 unfold iW;have tm:eP [.int x.length]=.ok (.bl false):=by unfold eP;refine jP rfl (kH (aM (x:=.int x.length) (y:=.int 9) rfl rfl ?_));rw [jX,decide_eq_false (by omega)]
 refine jP rfl (fF _ (NJ (mZ (mY (x:=.int x.length) (dJ rfl dZ) tm) rfl) rfl) (kH ?_));refine dJ (x:=.lst ((bG 0 x.length).map λ_=>D.bl true)) (mE ((bG 0 x.length).map D.int) (RO (dJ rfl dZ) (by omega)) (by rw [length_map,aQ]; omega) (iR D.int (λ_=>D.bl true) _ λb hb=>?_)) ?_
 .have hr:=cB.1 hb;exact ⟨_,rfl,eM rfl rfl (NZ hx hn (by omega) (by omega))⟩
 .have e:((bG 0 x.length).map λ_=>D.bl true)=((bG 0 x.length).map λ_=>true).map D.bl:=by rw [map_map]; rfl
  rw [e,CS];congr 2;simp
end
theorem vW{R:List PR}{i:Nat}{r:PR}(h:R[i]? = some r):aY (.tup (R.map aO)) (.int (i:Int))=some (aO r):=by show zG (R.map aO) (i:Int)=_;exact vP (by rw [getElem?_map,h]; rfl)
theorem DG{n:Nat}{R:List PR}{i:Nat}{r:PR}(hn:n<=9)(hi:R[i]? = some r)(h:p5 n R i r):gX [.tup (R.map aO),.int i]=.ok (.bl true):=by
 obtain ⟨hy,hl,why⟩:=h;unfold gX;have e0:=vW hi;have lp:=wW (rows:=r.1) (by omega);have first:∀ {b:L4.SF} {d:D},b [.ro (.tup (R.map aO)),.ro (.int i),.ro (aJ r.1),.ro (tupI r.2)]=.rt d->aH (aN 2 (aC aY (aC aY (aB 0) (aB 1)) (eC (.int 0)))) (aH (aN 3 (aC aY (aC aY (aB 0) (aB 1)) (eC (.int 1)))) b) (fA 4 [.tup (R.map aO),.int i])=.rt d:=λ{b d} hb =>
  fF [.ro (.tup (R.map aO)),.ro (.int i),.ro (aJ r.1),.no] (iE (aJ r.1) (aM (x:=aO r) (y:=.int 0) (aM (x:=.tup (R.map aO)) (y:=.int i) rfl rfl e0) rfl rfl) rfl) (fF [.ro (.tup (R.map aO)),.ro (.int i),.ro (aJ r.1),.ro (tupI r.2)] (iE (tupI r.2) (aM (x:=aO r) (y:=.int 1) (aM (x:=.tup (R.map aO)) (y:=.int i) rfl rfl e0) rfl rfl) rfl) hb)
 rcases why with ⟨l0,w0⟩ | ⟨a,b,p,q,u,v,l0,w0,ha,hb,hlo,hp,hq,up,W5,vq,W6⟩
 .refine jP rfl (first (aDl (ifT (XQ (b:=false) (mZ (mY rfl lp) ?_) rfl) (kH (aM (x:=tupI r.2) (y:=.tup []) rfl rfl ?_)))))
  .rw [l0]; rfl
  .rw [w0]; rfl
 .obtain ⟨s1,s2,s3,s4⟩:=pE hlo;have th1:thing r.1.length a=true:=fI.2 ⟨ha.1,by omega⟩;have th2:thing r.1.length b=true:=fI.2 ⟨hb.1,by omega⟩;have ct:=aB2 hy (by omega) th1 th2 hlo ⟨s3,s4⟩;have e3:∀ {Z:bR} {m:Nat} {z:Int},Z[3]? = some (some (tupI r.2))->[a,b,(p:Int),(q:Int)][m]? = some z->aC aY (aB 3) (eC (.int (m:Int))) Z=some (.int z):=λ{Z m z} h3 hz=>aM (x:=tupI r.2) (y:=.int m) (by unfold aB; rw [h3]; rfl) rfl (by rw [w0]; exact lF hz);refine jP rfl (first (fF _ (NJ (XQ (b:=true) (mZ (mY rfl lp) ?_) rfl) rfl) (fF _ (NJ (RP (b:=false) (mZ (aM (x:=.int 4) (y:=.int 4) (dJ (x:=tupI r.2) rfl ?_) rfl CQ) rfl) (λ_=>XQ (b:=true) (mZ (d:=.bl true) (fL (x:=aJ r.1) (y:=.int a) (z:=.int b) rfl (e3 (m:=0) rfl rfl) (e3 (m:=1) rfl rfl) ?_) rfl) rfl) λh=>by cases h) rfl) (fF _ (NJ (XQ (b:=true) (AU (b:=true) ?_ (λ_=>?_) λh=>by cases h) rfl) rfl) (kH ?_)))))
  .show some (!((loose r.1).map pairD).isEmpty)=_
   cases hh:loose r.1 with
   | nil=>exact absurd hh l0
   | cons _ _=>rfl
  .rw [w0]; rfl
  .unfold dR;refine jP rfl (kH (IT (p:=true) (eM (x:=.int a) (y:=.int r.1.length) rfl (dJ rfl dZ) (by rw [jH,decide_eq_true ha.1,decide_eq_true (by omega)]; rfl)) (λ_=>IT (p:=true) (eM (x:=.int b) (y:=.int r.1.length) rfl (dJ rfl dZ) (by rw [jH,decide_eq_true hb.1,decide_eq_true (by omega)]; rfl)) (λ_=>fL rfl rfl rfl (by rw [m9 ⟨ha.1,by omega⟩ ⟨hb.1,by omega⟩,hlo])) λh=>by cases h) λh=>by cases h))
  .refine mZ (d:=.bl true) ?_ rfl;unfold kF;have q2:aC aY (aB 3) (eC (.int 2)) (bT [.ro (.tup (R.map aO)),.ro (.int i),.ro (aJ r.1),.ro (tupI r.2)])=some (.int (p:Int)):=e3 (m:=2) rfl rfl;rw [q2];show (if decide ((0:Int)<=(p:Int))=true then some (D.bl (decide ((p:Int)<(i:Int)))) else some (.bl false))=_;rw [if_pos (by rw [decide_eq_true_eq]; omega),decide_eq_true (by omega)]
  .refine mZ (d:=.bl true) ?_ rfl;unfold kF;have q3:aC aY (aB 3) (eC (.int 3)) (bT [.ro (.tup (R.map aO)),.ro (.int i),.ro (aJ r.1),.ro (tupI r.2)])=some (.int (q:Int)):=e3 (m:=3) rfl rfl;rw [q3];show (if decide ((0:Int)<=(q:Int))=true then some (D.bl (decide ((q:Int)<(i:Int)))) else some (.bl false))=_;rw [if_pos (by rw [decide_eq_true_eq]; omega),decide_eq_true (by omega)]
  .refine aM (x:=.tup [aJ (put r.1 a b),aJ (put r.1 b a)]) (y:=.tup [aJ (put r.1 a b),aJ (put r.1 b a)]) (fL rfl (e3 (m:=0) rfl rfl) (e3 (m:=1) rfl rfl) ct) (NN (aM (x:=aO u) (y:=.int 0) (aM (x:=.tup (R.map aO)) (y:=.int p) rfl (e3 (m:=2) rfl rfl) (vW up)) rfl ?_) (aM (x:=aO v) (y:=.int 0) (aM (x:=.tup (R.map aO)) (y:=.int q) rfl (e3 (m:=3) rfl rfl) (vW vq)) rfl ?_)) (SZ _ _)
   .show some (aJ u.1)=_;rw [W5]
   .show some (aJ v.1)=_;rw [W6]
theorem S3{ds:List D}{d:D}:aY (.tup (ds++[d])) (.int (-1))=some d:=vU (ds:=ds) (d:=d)
theorem S4{n:Nat}{R:List PR}{x:List (List Int)}{w:List Int}(hn:n<=9)(hx:x.length=n)(g:GoodR n (R++[(x,w)]))(hl:R.length<15000000):fW [aJ x,.tup ((R++[(x,w)]).map aO)]=.ok (.bl true):=by
 unfold fW;generalize hA:R++[(x,w)]=A at g;have hAl:A.length<=15000000:=by rw [<- hA,List.length_append,length_cons,length_nil]; omega
 refine jP rfl (fF _ (NJ (RP (b:=false) (XQ (b:=true) (mZ (d:=.tup (A.map aO)) rfl ?_) rfl) (λ_=>mZ (aM (x:=aJ x) (y:=aJ x) (aM (x:=aO (x,w)) (y:=.int 0) (aM (x:=.tup (A.map aO)) (y:=.int (-1)) rfl rfl ?_) rfl rfl) rfl (SY x x)) ?_) λh=>by cases h) rfl) (kH ?_))
 .rw [<- hA,map_append];show some (!(_++[aO (x,w)]).isEmpty)=_;simp
 .rw [<- hA,map_append];exact S3
 .rw [decide_eq_true rfl];rfl
 .refine dJ (x:=.lst (A.zipIdx.map λ_=>D.bl true)) (mE (A.zipIdx.map λp=>D.tup [.int (p.2:Int),aO p.1]) ?_ (by rw [length_map,List.length_zipIdx]; omega) (iR (λp:PR×Nat=>D.tup [.int (p.2:Int),aO p.1]) (λ_=>D.bl true) _ λp hp=>?_)) ?_
  .unfold nV;rw [args1 (x:=.tup (A.map aO)) rfl,bind_some,AR,zipIdx_map,map_map];rfl
  .have hp2:A[p.2]? = some p.1:=by have:=List.mem_zipIdx_iff_getElem?.1 hp;exact this
   have ok:=g p.2 p.1 hp2;refine ⟨[some (.int (p.2:Int)),some (aO p.1),some (.tup (A.map aO)),some (aJ x)],rfl,IT (p:=true) (eM (x:=aJ p.1.1) (y:=.int x.length) (aM (x:=aO p.1) (y:=.int 0) rfl rfl rfl) (dJ rfl dZ) ?_) (λ_=>eM rfl rfl (DG hn hp2 ok)) λh=>by cases h⟩;unfold gC;refine jP rfl (kH (IT (p:=true) (aM (x:=.int p.1.1.length) (y:=.int x.length) (dJ rfl dZ) rfl ?_) (λ_=>mY rfl (FM ok.rows (by rw [ok.len]; exact hn))) λh=>by cases h));rw [fV,decide_eq_true (by rw [ok.len,hx])]
  .have e:(A.zipIdx.map λ_=>D.bl true)=(A.zipIdx.map λ_=>true).map D.bl:=by rw [map_map]; rfl
   rw [e,CS];congr 2;simp
def oC(m:Nat)(r:PR):PR:=match r.2 with
 | [a,b,p,q]=>(r.1,[a,b,p+m,q+m])
 | _=>(r.1,r.2)
theorem xG(m:Nat)(r:PR):(oC m r).1=r.1:=by unfold oC;split<;>rfl
theorem FN:∀ R:List PR,kW (R.map aO)=true
 | []=>rfl
 | r::R=>by rw [map_cons,kW,FN R,FK];rfl
theorem S5{n m:Nat}{R:List PR}(g:GoodR n R)(hR:R.length<15000000):iZ [.lst (R.map aO),.int m]=.ok (.lst ((R.map (oC m)).map aO)):=by
 unfold iZ;have main:Rt ((aH (iA 2 (dL aE))
  (aH (dE (dD (aB 0)) (HK 3 4)
   (aH (eV (tV (aC tL (bF aV (aA (aB 4) aE)) (eC (.int 0))))
    (aN 4 (dG (aA (aC aY (aB 4) (eC (.int 0))) (aA (aC aY (aB 4) (eC (.int 1))) (aA (aC bO (aC aY (aB 4) (eC (.int 2))) (aB 1)) (aA (aC bO (aC aY (aB 4) (eC (.int 3))) (aB 1)) aE))))))
    bY)
   (sX (kU 2 eX (aZ (dG (aA (aB 3) (aA (aB 4) aE))))))))
  (aU (aB 2)))) (fA 5 [.lst (R.map aO),.int m])) λd=>d=.lst ((R.map (oC m)).map aO):=by
  refine cV [.ro (.lst (R.map aO)),.ro (.int m),.ow (.lst []),.no,.no] rfl ?_;refine kK (λZ=>∃ v3 v4,Z=[.ro (.lst (R.map aO)),.ro (.int m),.ow (.lst ((R.map (oC m)).map aO)),v3,v4]) ?_ λZ ⟨v3,v4,e⟩=>by subst e; exact qG _ rfl rfl
  refine CV (R.map aO) (λi Z=>∃ v3 v4,Z=[.ro (.lst (R.map aO)),.ro (.int m),.ow (.lst (((R.take i).map (oC m)).map aO)),v3,v4]) rfl ⟨_,_,rfl⟩ (λi d Z hd ⟨v3,v4,e⟩=>?_) λZ h=>by rw [length_map,List.take_length] at h; exact h
  subst e;rw [getElem?_map] at hd;obtain ⟨r,hr,rfl⟩:=Option.map_eq_some_iff.1 hd;have hil:=(List.getElem?_eq_some_iff.1 hr).1;have ok:=g i r hr;have tk:(R.take (i+1)).map (oC m)=(R.take i).map (oC m)++[oC m r]:=by rw [List.take_succ,hr,map_append];rfl
  refine ⟨[.ro (.lst (R.map aO)),.ro (.int m),.ow (.lst (((R.take i).map (oC m)).map aO)),.ro (aJ r.1),.ro (tupI r.2)],rfl,?_⟩;refine tN (λZ=>Z=[.ro (.lst (R.map aO)),.ro (.int m),.ow (.lst (((R.take i).map (oC m)).map aO)),.ro (aJ r.1),.ro (tupI (oC m r).2)]) ?_ λZ e=>?_
  .rcases ok.why with ⟨l0,w0⟩ | ⟨a,b,p,q,u,v,l0,w0,_⟩
   .have e0:(oC m r).2=r.2:=by unfold oC; rw [w0]
    rw [e0,w0];exact jG false rfl (λh=>by cases h) λ_=>iS rfl
   .have e0:(oC m r).2=[a,b,(p:Int)+m,(q:Int)+m]:=by unfold oC; rw [w0]
    rw [e0,w0];exact jG true rfl (λ_=>tO (tupI [a,b,(p:Int)+m,(q:Int)+m]) rfl rfl) λh=>by cases h
  .subst e;refine ⟨_,NS (d:=aO (oC m r)) (ds:=((R.take i).map (oC m)).map aO) (by unfold aO; rw [xG]; exact NN rfl rfl) rfl (by rw [length_map,length_map,length_take]; omega),.ro (aJ r.1),.ro (tupI (oC m r).2),?_⟩;rw [tk,map_append (f:=aO)];rfl
 obtain ⟨d,e,rfl⟩:=qH rfl main;exact e
theorem GoodR.moved{n:Nat}{A R:List PR}(ga:GoodR n A)(gr:GoodR n R):GoodR n (A++R.map (oC A.length)):=λi r hi=>by
 by_cases h:i<A.length
 .rw [getElem?_append_left h] at hi;exact (ga i r hi).app (le_refl _)
 .rw [getElem?_append_right (by omega),getElem?_map] at hi;obtain ⟨s,hs,rfl⟩:=Option.map_eq_some_iff.1 hi;have ok:=gr _ s hs;refine ⟨by rw [xG]; exact ok.rows,by rw [xG]; exact ok.len,?_⟩;rw [xG];rcases ok.why with ⟨l0,w0⟩ | ⟨a,b,p,q,u,v,l0,w0,ha,hb,hlo,hp,hq,up,W5,vq,W6⟩
  .refine .inl ⟨l0,?_⟩;unfold oC;rw [w0]
  .have at2:∀ {c:Nat} {z:PR},R[c]? = some z->(A++R.map (oC A.length))[c+A.length]? = some (oC A.length z):=λ{c z} hz=>by rw [getElem?_append_right (by omega),getElem?_map,show c+A.length - A.length=c by omega,hz];rfl
   refine .inr ⟨a,b,p+A.length,q+A.length,oC A.length u,oC A.length v,l0,?_,ha,hb,hlo,by omega,by omega,at2 up,by rw [xG]; exact W5,at2 vq,by rw [xG]; exact W6⟩;unfold oC;rw [w0];rfl
theorem GoodR.twice{n:Nat}{R T:List PR}{l:PR}(g:GoodR n (R++[l]))(hT:∀ t∈T,t∈R++[l]):GoodR n (R++T)/\p5 n (R++T) (R++T).length l:=by
 have low:∀ {i:Nat} {r:PR} {j:Nat},(R++[l])[i]? = some r->R.length<=j->p5 n (R++T) j r:=λ{i r j} hi hj=>by
  have ok:=g i r hi;have hil:=(List.getElem?_eq_some_iff.1 hi).1;rw [List.length_append,length_cons,length_nil] at hil;refine ⟨ok.rows,ok.len,?_⟩;rcases ok.why with z | ⟨a,b,p,q,u,v,l0,w0,ha,hb,hlo,hp,hq,up,W5,vq,W6⟩
  .exact .inl z
  .have cut:∀ {c:Nat} {z:PR},c<R.length->(R++[l])[c]? = some z->(R++T)[c]? = some z:=λ{c z} hc hz=>by rw [getElem?_append_left hc] at hz ⊢;exact hz
   exact .inr ⟨a,b,p,q,u,v,l0,w0,ha,hb,hlo,by omega,by omega,cut (by omega) up,W5,cut (by omega) vq,W6⟩
 refine ⟨λi r hi=>?_,low (i:=R.length) (by rw [getElem?_append_right (le_refl _),Nat.sub_self]; rfl) (by rw [List.length_append]; omega)⟩;by_cases h:i<R.length
 .rw [getElem?_append_left h] at hi;have h2:(R++[l])[i]? = some r:=by rw [getElem?_append_left h]; exact hi
  have ok:=g i r h2;refine ⟨ok.rows,ok.len,?_⟩;rcases ok.why with z | ⟨a,b,p,q,u,v,l0,w0,ha,hb,hlo,hp,hq,up,W5,vq,W6⟩
  .exact .inl z
  .have cut:∀ {c:Nat} {z:PR},c<R.length->(R++[l])[c]? = some z->(R++T)[c]? = some z:=λ{c z} hc hz=>by rw [getElem?_append_left hc] at hz ⊢;exact hz
   exact .inr ⟨a,b,p,q,u,v,l0,w0,ha,hb,hlo,hp,hq,cut (by omega) up,W5,cut (by omega) vq,W6⟩
 .rw [getElem?_append_right (by omega)] at hi;obtain ⟨j,hj⟩:=List.mem_iff_getElem?.1 (hT r (mem_of_getElem? hi));exact low hj (by omega)
theorem S6{ns:List Int}(h:ns≠[]):CL ns∈ns:=by
 cases ns with
 | nil=>exact absurd rfl h
 | cons a l =>
  have go:∀ (l:List Int) (a:Int),l.foldl (λm b=>if m<b then b else m) a=a\/l.foldl (λm b=>if m<b then b else m) a∈l:=by
   intro l
   induction l with
   | nil=>intro a; exact .inl rfl
   | cons b l ih =>
    intro a;rw [foldl_cons];rcases ih (if a<b then b else a) with z | z
    .rw [z];split
     .exact .inr mem_cons_self
     .exact .inl rfl
    .exact .inr (mem_cons_of_mem _ z)
  show l.foldl (λm b=>if m<b then b else m) a∈a::l;rcases go l a with z | z
  .rw [z]; exact mem_cons_self
  .exact mem_cons_of_mem _ z
theorem vX{R:List PR}{i:Nat}{r:PR}(h:R[i]? = some r):aY (.lst (R.map aO)) (.int (i:Int))=some (aO r):=vW h
theorem BD{R:List PR}{l u:PR}{p:Nat}(hp:R[p]? = some u)(hR:R.length<15000000):∃ (c:Nat) (v:PR),R[c]? = some v/\v.1=u.1/\cJ [.lst ((R++[l]).map aO),.int p]=.ok (.int c):=by
 have hpl:=(List.getElem?_eq_some_iff.1 hp).1
 let F:List Int:=(bG 0 R.length).filter λi=>decide (((R[i.toNat]?).getD ([],[])).1=u.1)
 have hF:F≠[]:=by have:(p:Int)∈F:=List.mem_filter.2 ⟨cB.2 ⟨by omega,by omega⟩,by rw [Int.toNat_natCast,hp]; exact decide_eq_true rfl⟩;intro e;rw [e] at this;cases this
 have hm:=S6 hF;obtain ⟨m1,m2⟩:=List.mem_filter.1 hm;have mr:=cB.1 m1;obtain ⟨c,hc⟩:∃ c:Nat,CL F=(c:Int):=⟨(CL F).toNat,by omega⟩;rw [hc] at m2 mr;have hcl:c<R.length:=by omega
 refine ⟨c,R[c],getElem?_eq_getElem hcl,?_,?_⟩
 .have:=of_decide_eq_true m2;rw [Int.toNat_natCast,getElem?_eq_getElem hcl] at this;exact this
 .unfold cJ;refine jP rfl (kH (dJ (x:=aK F) (mE ((bG 0 R.length).map D.int) ?_ (by rw [length_map,aQ]; omega) (jF D.int (λi=>decide (((R[i.toNat]?).getD ([],[])).1=u.1)) D.int _ λi hi=>?_)) ?_))
  .refine RO (aM (x:=.int ((R.length:Int)+1)) (y:=.int 1) (dJ (x:=.lst ((R++[l]).map aO)) rfl ?_) rfl ?_) (by omega)
   .show some (D.int ((R++[l]).map aO).length)=_;rw [length_map,List.length_append];rfl
   .rw [rO];congr 2;omega
  .have hr:=cB.1 hi;have hil:i.toNat<R.length:=by omega
   have e1:(R++[l])[i.toNat]? = some R[i.toNat]:=vT (getElem?_eq_getElem hil);have e2:(R++[l])[p]? = some u:=vT hp;have r1:=vX e1;rw [show ((i.toNat:Nat):Int)=i by omega] at r1;refine ⟨[some (.int i),some (.lst ((R++[l]).map aO)),some (.int p)],rfl,mZ (d:=.bl (decide (R[i.toNat].1=u.1))) (aM (x:=aJ R[i.toNat].1) (y:=aJ u.1) (aM (x:=aO R[i.toNat]) (y:=.int 0) (aM (x:=.lst ((R++[l]).map aO)) (y:=.int i) rfl rfl r1) rfl rfl) (aM (x:=aO u) (y:=.int 0) (aM (x:=.lst ((R++[l]).map aO)) (y:=.int p) rfl rfl (vX e2)) rfl rfl) (SX _ _)) ?_,λ_=>rfl⟩;rw [getElem?_eq_getElem hil];rfl
  .show (intsOf (F.map D.int)).bind _=_;rw [eK];show (if F=[] then none else some (D.int (CL F)))=_;rw [if_neg hF,hc]
theorem S7(ns:List Int)(k s:Int):∃ x:List (List Int),x.length<=9/\Ord.Rows x/\iY [.jW ns,.int k,.int s]=.ok (aJ x):=by
 obtain ⟨c1,ec1⟩:=vQ ns k;obtain ⟨hs,hsl,hsp,eh⟩:=rS c1 3 s (by decide) (by decide);obtain ⟨c2,ec2⟩:=vQ ns (k+1)
 match hs,hsl,hsp,eh with
 | [p,q,r],_,hsp,eh =>
  have p0:=Int.emod_nonneg p (b:=8) (by decide);have p1:=Int.emod_lt_of_pos p (b:=8) (by decide);have q0:=Int.emod_nonneg q (b:=8) (by decide);have q1:=Int.emod_lt_of_pos q (b:=8) (by decide);have p2:=Int.emod_nonneg p (b:=4) (by decide);have p3:=Int.emod_lt_of_pos p (b:=4) (by decide);have at8:∀ (l:List Int) (z:Int),l.length=8->0<=z->z<8 -> ∃ v∈l,aY (aK l) (.int z)=some (.int v):=λl z hl h0 h1=>⟨at0 l z,YA h0 (by omega),w4 h0 (by omega)⟩;obtain ⟨n0,hn0,en0⟩:=at8 [5,4,3,5,4,2,1,0] (p % 8) rfl p0 p1;obtain ⟨t0,ht0,et0⟩:=at8 [1,1,2,2,3,1,0,2] (q % 8) rfl q0 q1;have hn5:0<=n0/\n0<=5:=by simp at hn0;omega
  have fin:Rt ((λb=>b (fA 8 [.jW ns,.int k,.int s])) (aH (aN 3 (aG LL.bX (aA (aG LL.cM (aA (aB 0) (aA (aB 1) aE))) (aA (eC (.int 3)) (aA (aB 2) aE)))))
  (aH (aN 4 (aC aY (dL (aA (eC (.int 5)) (aA (eC (.int 4)) (aA (eC (.int 3)) (aA (eC (.int 5)) (aA (eC (.int 4)) (aA (eC (.int 2)) (aA (eC (.int 1)) (aA (eC (.int 0)) aE))))))))) (aC dI (aC aY (aB 3) (eC (.int 0))) (eC (.int 8)))))
  (aH (aN 5 (aC aY (dL (aA (eC (.int 1)) (aA (eC (.int 1)) (aA (eC (.int 2)) (aA (eC (.int 2)) (aA (eC (.int 3)) (aA (eC (.int 1)) (aA (eC (.int 0)) (aA (eC (.int 2)) aE))))))))) (aC dI (aC aY (aB 3) (eC (.int 1))) (eC (.int 8)))))
  (aH (eV (tV (aC kT (aC dI (aC aY (aB 3) (eC (.int 2))) (eC (.int 8))) (eC (.int 3))))
   (aH (aN 4 (aC bO (eC (.int 6)) (aC dI (aC aY (aB 3) (eC (.int 0))) (eC (.int 4)))))
   (aN 5 (eC (.int 3))))
   bY)
  (aH (aN 6 (aG LL.bX (aA (aG LL.cM (aA (aB 0) (aA (aC bO (aB 1) (eC (.int 1))) aE))) (aA (aC bO (aB 4) (aC mX (aC mulM (aB 4) (aC fE (aB 4) (eC (.int 1)))) (eC (.int 2)))) (aA (aC bO (aB 2) (eC (.int 10007))) aE)))))
  (aH (aN 7 (aG LL.dM (aA (aB 6) (aA (aB 4) (aA (aB 5) aE)))))
  (aH (eV (kX (tV (aC tL (aB 4) (eC (.int 5)))) (tV (aC tL (aG LL.gB (aA (aB 7) aE)) (eC (.int 60)))))
   (aN 7 (aG LL.dM (aA (aB 6) (aA (aB 4) (aA (eC (.int 4)) aE)))))
   bY)
  (aU (aB 7)))))))))) λd=>∃ x:List (List Int),x.length<=9/\Ord.Rows x/\d=aJ x:=by
   refine cV [.ro (.jW ns),.ro (.int k),.ro (.int s),.ro (aK [p,q,r]),.no,.no,.no,.no] (iE _ (fL (eM rfl rfl ec1) rfl rfl eh) rfl) ?_;refine cV [.ro (.jW ns),.ro (.int k),.ro (.int s),.ro (aK [p,q,r]),.ro (.int n0),.no,.no,.no] (iE _ (aM (x:=aK [5,4,3,5,4,2,1,0]) (y:=.int (p % 8)) rfl (aM (x:=.int p) (y:=.int 8) rfl rfl (bZ (by decide))) en0) rfl) ?_;refine cV [.ro (.jW ns),.ro (.int k),.ro (.int s),.ro (aK [p,q,r]),.ro (.int n0),.ro (.int t0),.no,.no] (iE _ (aM (x:=aK [1,1,2,2,3,1,0,2]) (y:=.int (q % 8)) rfl (aM (x:=.int q) (y:=.int 8) rfl rfl (bZ (by decide))) et0) rfl) ?_;refine kK (λZ=>∃ (n:Nat) (t:Int),n<=9/\Z=[.ro (.jW ns),.ro (.int k),.ro (.int s),.ro (aK [p,q,r]),.ro (.int n),.ro (.int t),.no,.no]) ?_ λZ ⟨n,t,hn,e⟩=>?_
   .refine jG (decide (r % 8=3)) (mZ (aM (x:=.int (r % 8)) (y:=.int 3) (aM (x:=.int r) (y:=.int 8) rfl rfl (bZ (by decide))) rfl fV) rfl) (λ_=>?_) λ_=>iS ⟨n0.toNat,t0,by omega,by rw [show ((n0.toNat:Nat):Int)=n0 by omega]⟩;refine fN [.ro (.jW ns),.ro (.int k),.ro (.int s),.ro (aK [p,q,r]),.ro (.int (6+p % 4)),.ro (.int t0),.no,.no] (iE (.int (6+p % 4)) (aM (x:=.int 6) (y:=.int (p % 4)) rfl (aM (x:=.int p) (y:=.int 4) rfl rfl (bZ (by decide))) jE) rfl) ?_;exact tO (.int 3) rfl ⟨(6+p % 4).toNat,3,by omega,by rw [show (((6+p % 4).toNat:Nat):Int)=6+p % 4 by omega]; rfl⟩
   subst e;have aQ8:=LC n;have hdv:((n:Int)*((n:Int) - 1) / 2)=(Ord.tri n:Int):=by
    have:(n:Int)*((n:Int) - 1)=2*(Ord.tri n:Int):=by
     rw [Int.mul_sub,Int.mul_one];have:((n*n:Nat):Int)=(n:Int)*n:=by rw [Int.natCast_mul]
     omega
    rw [this];omega
   have tl:Ord.tri n<=81:=by have:n*n<=9*9:=Nat.mul_le_mul hn hn;omega
   obtain ⟨dr,drl,drp,edr⟩:=rS c2 ((n:Int)+(Ord.tri n:Int)) (s+10007) (by omega) (by omega);have hdl:dr.length=n+Ord.tri n:=by omega
   refine cV [.ro (.jW ns),.ro (.int k),.ro (.int s),.ro (aK [p,q,r]),.ro (.int n),.ro (.int t),.ro (aK dr),.no] (iE _ (fL (x:=.int c2) (y:=.int ((n:Int)+(Ord.tri n:Int))) (z:=.int (s+10007)) (eM (x:=.jW ns) (y:=.int (k+1)) rfl rfl ec2) (aM (x:=.int n) (y:=.int (Ord.tri n)) rfl (aM (x:=.int ((n:Int)*((n:Int) - 1))) (y:=.int 2) (aM (x:=.int n) (y:=.int ((n:Int) - 1)) rfl rfl (qF (by omega))) rfl (by rw [mD (by decide) (by decide),hdv])) jE) rfl edr) rfl) ?_;obtain ⟨d1,o1,x1,l1,r1,rfl⟩:=wU dr n t hn (by omega);obtain ⟨d2,o2,x2,l2,r2,rfl⟩:=wU dr n 4 hn (by omega);refine cV [.ro (.jW ns),.ro (.int k),.ro (.int s),.ro (aK [p,q,r]),.ro (.int n),.ro (.int t),.ro (aK dr),.ro (aJ x1)] (iE _ (fL rfl rfl rfl o1) rfl) ?_;refine kK (λZ=>∃ x:List (List Int),(x.length<=9/\Ord.Rows x)/\Z=[.ro (.jW ns),.ro (.int k),.ro (.int s),.ro (aK [p,q,r]),.ro (.int n),.ro (.int t),.ro (aK dr),.ro (aJ x)]) ?_ λZ ⟨x,hx,e⟩=>by subst e; exact qG _ rfl ⟨x,hx.1,hx.2,rfl⟩
   refine jG (decide ((5:Int)<n)&&decide ((60:Int)<(shares x1).sum)) (AU (b:=decide ((5:Int)<n)) (mZ (aM (x:=.int n) (y:=.int 5) rfl rfl jX) rfl) (λh=>?_) λh=>by rw [h]; rfl) (λ_=>tO (aJ x2) (fL rfl rfl rfl o2) ⟨x2,⟨by omega,r2⟩,rfl⟩) λ_=>iS ⟨x1,⟨by omega,r1⟩,rfl⟩;rw [h,Bool.true_and];exact mZ (aM (x:=.int (shares x1).sum) (y:=.int 60) (mY rfl (FI r1 (by omega))) rfl jX) rfl
  unfold iY;obtain ⟨d,e,x,h1,h2,rfl⟩:=qH rfl fin;exact ⟨x,h1,h2,e⟩
theorem LX{ds:List D}{d:D}:slM (.lst (ds++[d])) none (some (-1))=some (.lst ds):=by show some (D.lst (wD (ds++[d]) none (some (-1))))=_;unfold wD EU;dsimp only;rw [if_pos (by decide),show (-1+((ds++[d]).length:Int)).toNat=ds.length by rw [List.length_append,length_cons,length_nil]; omega,drop_zero,Nat.sub_zero,List.take_left]
theorem YH{ds:List D}{d:D}:slM (.lst (ds++[d])) (some (-1)) none=some (.lst [d]):=by show some (D.lst (wD (ds++[d]) (some (-1)) none))=_;unfold wD EU;dsimp only;rw [if_pos (by decide),show (-1+((ds++[d]).length:Int)).toNat=ds.length by rw [List.length_append,length_cons,length_nil]; omega,List.drop_left,show (ds++[d]).length - ds.length=1 by rw [List.length_append,length_cons,length_nil]; omega];rfl
theorem slE{f:EF}{lo hi:OF}{Z:bR}{d:D}{l h:Option Int}{z:Option D}(hf:f Z=some d)(hl:lo Z=some l)(hh:hi Z=some h)(e:slM d l h=z):K0 f lo hi Z=z:=by unfold K0;rw [hf,hl,hh];exact e
theorem YI(l:List Int)(lo hi:Option Int):∃ m:List Int,slM (aK l) lo hi=some (aK m):=by refine ⟨(l.drop (EU (l.map D.int).length 0 lo)).take (EU (l.map D.int).length (l.map D.int).length hi - EU (l.map D.int).length 0 lo),?_⟩;show some (D.lst (wD (l.map D.int) lo hi))=some (D.lst _);unfold wD;rw [List.map_take,List.map_drop]
theorem N0(ns:List Int):∃ (x:List (List Int)) (R:List PR) (w:List Int),x.length<=9/\Ord.Rows x/\GoodR x.length (R++[(x,w)])/\R.length<=3000000/\i0 [.jW ns]=.ok (.tup [aJ x,.lst ((R++[(x,w)]).map aO)]):=by
 obtain ⟨x,hn,hx,ex⟩:=S7 ns 0 100003;obtain ⟨c2,ec2⟩:=vQ ns 2;obtain ⟨dr,drl,drp,edr⟩:=rS c2 45 200017 (by decide) (by decide);obtain ⟨c3,ec3⟩:=vQ ns 3;obtain ⟨sz,szl,szp,esz⟩:=rS c3 7 300007 (by decide) (by decide);have hd:dr.length=45:=drl;have hz:sz.length=7:=szl;obtain ⟨R0,w0,g0,l0,e0⟩:=FL hx hn hd;have g9:=SW hn;have S8:∀ {Z:bR} {j:Int},Z[3]? = some (some (aK sz))->0<=j->j<7->aC aY (aB 3) (eC (.int j)) Z=some (.int (at0 sz j)):=λ{Z j} h h0 h1=>aM (x:=aK sz) (y:=.int j) (by unfold aB; rw [h]; rfl) rfl (w4 h0 (by omega));unfold i0;have fin:Rt ((λb=>b (fA 9 [.jW ns])) (aH (aN 1 (aG LL.iY (aA (aB 0) (aA (eC (.int 0)) (aA (eC (.int 100003)) aE)))))
  (aH (aN 2 (aG LL.bX (aA (aG LL.cM (aA (aB 0) (aA (eC (.int 2)) aE))) (aA (eC (.int 45)) (aA (eC (.int 200017)) aE)))))
  (aH (aN 3 (aG LL.bX (aA (aG LL.cM (aA (aB 0) (aA (eC (.int 3)) aE))) (aA (eC (.int 7)) (aA (eC (.int 300007)) aE)))))
  (aH (aN 4 (aG LL.fX (aA (aB 1) (aA (aB 2) aE))))
  (aH (eV (tV (aC kT (aC dI (aC aY (aB 3) (eC (.int 0))) (eC (.int 3))) (eC (.int 1))))
   (aH (aN 5 (aG LL.dM (aA (aC bO (K0 (aB 3) (oE (eC (.int 1))) (oE (eC (.int 5)))) (aB 2)) (aA (bF aV (aA (aB 1) aE)) (aA (eC (.int 3)) aE)))))
   (eV (tV (aC W9 (aC bO (aC mulM (eC (.int 2)) (aG LL.gB (aA (aB 5) aE))) (bF aV (aA (aB 4) aE))) (eC (.int 280))))
    (aH (aN 6 (aG LL.fX (aA (aB 5) (aA (aB 2) aE))))
    (aN 4 (aC bO (aB 6) (aG LL.iZ (aA (aB 4) (aA (bF aV (aA (aB 6) aE)) aE))))))
    bY))
   bY)
  (aH (iA 7 (bJ 1 [4,3] (aR (aA (aC dI (aC aY (aB 3) (eC (.int 3))) (eC (.int 4))) aE)) (g1 0) cH (aC aY (aB 1) (aC dI (aC bO (aC aY (aB 2) (eC (.int 1))) (aC mulM (aB 0) (aC aY (aB 2) (eC (.int 2))))) (bF aV (aA (aB 1) aE))))))
  (aH (aN 8 (aC aY (aC aY (aB 4) (mW (eC (.int 1)))) (eC (.int 1))))
  (aH (eV (kX (tV (aC tL (bF aV (aA (aB 8) aE)) (eC (.int 0)))) (tV (aC kT (aC dI (aC aY (aB 3) (eC (.int 5))) (eC (.int 2))) (eC (.int 1)))))
   (sX (kU 7 eX (aZ (aC aY (aB 4) (aC aY (aB 8) (aC bO (eC (.int 2)) (aC dI (aC aY (aB 3) (eC (.int 6))) (eC (.int 2)))))))))
   bY)
  (aH (lZ 4 (aC ES (aC bO (K0 (aB 4) W3 (oE (mW (eC (.int 1))))) (aB 7)) (K0 (aB 4) (oE (mW (eC (.int 1)))) W3)))
  (aH (eV (kX (tV (aC tL (bF aV (aA (aB 8) aE)) (eC (.int 0)))) (tV (aC kT (aC dI (aC mX (aC aY (aB 3) (eC (.int 5))) (eC (.int 2))) (eC (.int 2))) (eC (.int 1)))))
   (aN 8 (dG (aA (aC aY (aB 8) (eC (.int 0))) (aA (aC aY (aB 8) (eC (.int 1))) (aA (aG LL.cJ (aA (aB 4) (aA (aC aY (aB 8) (eC (.int 2))) aE))) (aA (aG LL.cJ (aA (aB 4) (aA (aC aY (aB 8) (eC (.int 3))) aE))) aE))))))
   bY)
  (aU (dG (aA (aB 1) (aA (aC bO (K0 (aB 4) W3 (oE (mW (eC (.int 1))))) (dL (aA (dG (aA (aC aY (aC aY (aB 4) (mW (eC (.int 1)))) (eC (.int 0))) (aA (aB 8) aE))) aE))) aE))))))))))))))) λd=>∃ (R:List PR) (w:List Int),GoodR x.length (R++[(x,w)])/\R.length<=3000000/\d=.tup [aJ x,.lst ((R++[(x,w)]).map aO)]:=by
  refine cV [.ro (.jW ns),.ro (aJ x),.no,.no,.no,.no,.no,.no,.no] (iE _ (fL rfl rfl rfl ex) rfl) ?_;refine cV [.ro (.jW ns),.ro (aJ x),.ro (aK dr),.no,.no,.no,.no,.no,.no] (iE _ (fL (eM rfl rfl ec2) rfl rfl edr) rfl) ?_;refine cV [.ro (.jW ns),.ro (aJ x),.ro (aK dr),.ro (aK sz),.no,.no,.no,.no,.no] (iE _ (fL (eM rfl rfl ec3) rfl rfl esz) rfl) ?_;refine cV [.ro (.jW ns),.ro (aJ x),.ro (aK dr),.ro (aK sz),.ro (.lst ((R0++[(x,w0)]).map aO)),.no,.no,.no,.no] (iE _ (eM rfl rfl e0) rfl) ?_;have len0:∀ A:List PR,aV [.lst (A.map aO)]=some (.int A.length):=λA=>by show some (D.int (A.map aO).length)=_;rw [length_map]
  refine kK (λZ=>∃ (R:List PR) (w:List Int) (v5 v6:Sv),(GoodR x.length (R++[(x,w)])/\R.length<=2000000)/\Z=[.ro (.jW ns),.ro (aJ x),.ro (aK dr),.ro (aK sz),.ro (.lst ((R++[(x,w)]).map aO)),v5,v6,.no,.no]) ?_ λZ ⟨R,w,v5,v6,⟨g,hRl⟩,e⟩=>?_
  .rw [List.length_append,length_cons,length_nil] at l0;refine jG (decide (at0 sz 0 % 3=1)) (mZ (aM (x:=.int (at0 sz 0 % 3)) (y:=.int 1) (aM (x:=.int (at0 sz 0)) (y:=.int 3) (S8 rfl (by decide) (by decide)) rfl (bZ (by decide))) rfl fV) rfl) (λ_=>?_) λ_=>iS ⟨R0,w0,.no,.no,⟨g0,by omega⟩,rfl⟩;obtain ⟨s4,es4⟩:=YI sz (some 1) (some 5);have s4l:s4.length<=7:=by
    have:slM (aK sz) (some 1) (some 5)=some (.lst (wD (sz.map D.int) (some 1) (some 5))):=rfl;rw [es4] at this;have h2:=congrArg (λo=>match o with | some (D.lst l)=>l.length | _=>0) this
    change (s4.map D.int).length=(wD (sz.map D.int) (some 1) (some 5)).length at h2
    rw [length_map] at h2;rw [h2];unfold wD;exact le_trans (List.length_take_le' _ _) (le_trans (by rw [length_drop]; exact Nat.sub_le _ _) (by rw [length_map]; omega))
   have aQc:x.length+Ord.tri x.length<=45:=by have t1:=LC x.length;have t2:x.length*x.length<=9*x.length:=Nat.mul_le_mul_right _ hn;omega
   obtain ⟨d1,o1,y,ly,ry,rfl⟩:=wU (s4++dr) x.length 3 hn (by rw [List.length_append]; omega);refine fN [.ro (.jW ns),.ro (aJ x),.ro (aK dr),.ro (aK sz),.ro (.lst ((R0++[(x,w0)]).map aO)),.ro (aJ y),.no,.no,.no] (iE _ (fL (x:=aK (s4++dr)) (y:=.int x.length) (z:=.int 3) (aM (x:=aK s4) (y:=aK dr) (slE (d:=aK sz) rfl rfl rfl es4) rfl ?_) (dJ rfl dZ) rfl o1) rfl) ?_
   .unfold aK;rw [kJ (by rw [length_map,length_map]; omega),map_append]
   have gy:=SW (x:=y) (by omega);have mb:=qM ry;have ml:=LO (x:=y);have mg:(shares y).sum=(gl y:Int):=by rw [<- ml]; rfl
   refine jG (decide (2*(shares y).sum+((R0++[(x,w0)]).length:Int)<=280)) (mZ (aM (x:=.int (2*(shares y).sum+((R0++[(x,w0)]).length:Int))) (y:=.int 280) (aM (x:=.int (2*(shares y).sum)) (y:=.int (R0++[(x,w0)]).length) (aM (x:=.int 2) (y:=.int (shares y).sum) rfl (mY rfl (FI ry (by omega))) (qF (by decide))) (dJ rfl (len0 _)) jE) rfl CP) rfl) (λ_=>?_) λ_=>iS ⟨R0,w0,.ro (aJ y),.no,⟨g0,by omega⟩,rfl⟩;obtain ⟨R1,w1,g1,l1,e1⟩:=FL ry (by omega) hd;rw [ly] at g1;refine fN [.ro (.jW ns),.ro (aJ x),.ro (aK dr),.ro (aK sz),.ro (.lst ((R0++[(x,w0)]).map aO)),.ro (aJ y),.ro (.lst ((R1++[(y,w1)]).map aO)),.no,.no] (iE _ (eM rfl rfl e1) rfl) ?_;have gm:=g1.moved g0;have mv:=S5 (m:=(R1++[(y,w1)]).length) g0 (by rw [List.length_append,length_cons,length_nil]; omega);generalize R1++[(y,w1)]=A at *;have spl:A++(R0++[(x,w0)]).map (oC A.length)=(A++R0.map (oC A.length))++[(x,(oC A.length (x,w0)).2)]:=by rw [map_append,<- List.append_assoc];congr 1;show [oC A.length (x,w0)]=_;congr 1;exact Prod.ext (xG _ _) rfl
   rw [spl] at gm;refine tO (.lst (((A++R0.map (oC A.length))++[(x,(oC A.length (x,w0)).2)]).map aO)) (aM (x:=.lst (A.map aO)) (y:=.lst (((R0++[(x,w0)]).map (oC A.length)).map aO)) rfl (eM (x:=.lst ((R0++[(x,w0)]).map aO)) (y:=.int A.length) rfl (dJ rfl (len0 _)) mv) ?_) ⟨A++R0.map (oC A.length),(oC A.length (x,w0)).2,.ro (aJ y),.ro (.lst (A.map aO)),⟨gm,by rw [List.length_append,length_map]; omega⟩,rfl⟩;rw [kJ (by rw [length_map,length_map,length_map,List.length_append,length_cons,length_nil]; omega),<- map_append,spl]
  subst e;have hA:(R++[(x,w)]).length=R.length+1:=by rw [List.length_append,length_cons,length_nil]
  -- rows told twice
  have m30:=Int.emod_nonneg (at0 sz 3) (b:=4) (by decide);have m31:=Int.emod_lt_of_pos (at0 sz 3) (b:=4) (by decide)
  let pick:Int->PR:=λk=>((R++[(x,w)])[((at0 sz 1+k*at0 sz 2) % ((R++[(x,w)]).length:Int)).toNat]?).getD (x,w)
  have DH:∀ k:Int,(R++[(x,w)])[((at0 sz 1+k*at0 sz 2) % ((R++[(x,w)]).length:Int)).toNat]? = some (pick k)/\0<=(at0 sz 1+k*at0 sz 2) % ((R++[(x,w)]).length:Int):=λk=>by have h0:=Int.emod_nonneg (at0 sz 1+k*at0 sz 2) (show ((R++[(x,w)]).length:Int)≠0 by omega);have h1:=Int.emod_lt_of_pos (at0 sz 1+k*at0 sz 2) (show (0:Int)<((R++[(x,w)]).length:Int) by omega);refine ⟨?_,h0⟩;show _=some (((R++[(x,w)])[((at0 sz 1+k*at0 sz 2) % ((R++[(x,w)]).length:Int)).toNat]?).getD (x,w));rw [getElem?_eq_getElem (by omega)];rfl
  let T0:List PR:=(bG 0 (at0 sz 3 % 4).toNat).map pick
  have T0l:T0.length<=4:=by show ((bG 0 (at0 sz 3 % 4).toNat).map pick).length<=4;rw [length_map,aQ];omega
  have T0m:∀ t∈T0,t∈R++[(x,w)]:=λt ht=>by obtain ⟨k,_,rfl⟩:=List.mem_map.1 ht;exact mem_of_getElem? (DH k).1
  refine cV [.ro (.jW ns),.ro (aJ x),.ro (aK dr),.ro (aK sz),.ro (.lst ((R++[(x,w)]).map aO)),v5,v6,.ow (.lst (T0.map aO)),.no] (aI2 ?_) ?_
  .have e5:T0.map aO=(bG 0 (at0 sz 3 % 4).toNat).map λk=>aO (pick k):=by show ((bG 0 (at0 sz 3 % 4).toNat).map pick).map aO=_;rw [map_map];rfl
   rw [e5];refine mE ((bG 0 (at0 sz 3 % 4).toNat).map D.int) ?_ (by rw [length_map,aQ]; omega) (iR D.int (λk=>aO (pick k)) _ λk hk=>?_)
   .refine RO ?_ (by omega);rw [show (((at0 sz 3 % 4).toNat:Nat):Int)=at0 sz 3 % 4 by omega];exact aM (x:=.int (at0 sz 3)) (y:=.int 4) (S8 rfl (by decide) (by decide)) rfl (bZ (by decide))
   .have hr:=cB.1 hk;refine ⟨[some (.int k),some (.lst ((R++[(x,w)]).map aO)),some (aK sz)],rfl,?_⟩;have i1:aY (aK sz) (.int 1)=some (.int (at0 sz 1)):=w4 (by decide) (by omega);have i2:aY (aK sz) (.int 2)=some (.int (at0 sz 2)):=w4 (by decide) (by omega);refine aM (x:=.lst ((R++[(x,w)]).map aO)) (y:=.int ((at0 sz 1+k*at0 sz 2) % ((R++[(x,w)]).length:Int))) rfl (aM (x:=.int (at0 sz 1+k*at0 sz 2)) (y:=.int (R++[(x,w)]).length) (aM (x:=.int (at0 sz 1)) (y:=.int (k*at0 sz 2)) (aM (x:=aK sz) (y:=.int 1) rfl rfl i1) (aM (x:=.int k) (y:=.int (at0 sz 2)) rfl (aM (x:=aK sz) (y:=.int 2) rfl rfl i2) (qF (by omega))) jE) (dJ rfl (len0 _)) (bZ (by omega))) ?_;have:=vX (DH k).1;rw [show ((((at0 sz 1+k*at0 sz 2) % ((R++[(x,w)]).length:Int)).toNat:Nat):Int)=(at0 sz 1+k*at0 sz 2) % ((R++[(x,w)]).length:Int) by have:=(DH k).2; omega] at this;exact this
  have okL:p5 x.length (R++[(x,w)]) R.length (x,w):=g R.length (x,w) (by rw [getElem?_append_right (le_refl _),Nat.sub_self]; rfl);have aEH:aY (.lst ((R++[(x,w)]).map aO)) (.int (-1))=some (aO (x,w)):=by rw [map_append]; exact vU
  refine cV [.ro (.jW ns),.ro (aJ x),.ro (aK dr),.ro (aK sz),.ro (.lst ((R++[(x,w)]).map aO)),v5,v6,.ow (.lst (T0.map aO)),.ro (tupI w)] (iE (tupI w) (aM (x:=aO (x,w)) (y:=.int 1) (aM (x:=.lst ((R++[(x,w)]).map aO)) (y:=.int (-1)) rfl rfl aEH) rfl rfl) rfl) ?_;have aEI:aV [tupI w]=some (.int w.length):=E4;refine kK (λZ=>∃ T:List PR,(T.length<=5 /\ ∀ t∈T,t∈R++[(x,w)])/\Z=[.ro (.jW ns),.ro (aJ x),.ro (aK dr),.ro (aK sz),.ro (.lst ((R++[(x,w)]).map aO)),v5,v6,.ow (.lst (T.map aO)),.ro (tupI w)]) ?_ λZ ⟨T,⟨Tl,Tm⟩,e⟩=>?_
  .refine jG (decide ((0:Int)<w.length)&&decide (at0 sz 5 % 2=1)) (AU (b:=decide ((0:Int)<w.length)) (mZ (aM (x:=.int w.length) (y:=.int 0) (dJ rfl aEI) rfl jX) rfl) (λh=>?_) λh=>by rw [h]; rfl) (λhc=>?_) λ_=>iS ⟨T0,⟨by omega,T0m⟩,rfl⟩
   .rw [h,Bool.true_and];exact mZ (aM (x:=.int (at0 sz 5 % 2)) (y:=.int 1) (aM (x:=.int (at0 sz 5)) (y:=.int 2) (S8 rfl (by decide) (by decide)) rfl (bZ (by decide))) rfl fV) rfl
   .rw [Bool.and_eq_true,decide_eq_true_eq] at hc;rcases okL.why with z | ⟨a,b,p,q,u,v,lo,S9,ha,hb,hlo,hp,hq,up,W5,vq,W6⟩
    .have:w=[]:=z.2;rw [this] at hc;simp at hc
    .have S9:w=[a,b,(p:Int),(q:Int)]:=S9;have s0:=Int.emod_nonneg (at0 sz 6) (b:=2) (by decide);have s1:=Int.emod_lt_of_pos (at0 sz 6) (b:=2) (by decide);obtain ⟨c,t,hct,ec⟩:∃ (c:Nat) (t:PR),(R++[(x,w)])[c]? = some t/\aY (tupI w) (.int (2+at0 sz 6 % 2))=some (.int c):=by
      rcases (show at0 sz 6 % 2=0\/at0 sz 6 % 2=1 by omega) with z | z
      .exact ⟨p,u,up,by rw [z,S9]; rfl⟩
      .exact ⟨q,v,vq,by rw [z,S9]; rfl⟩
     refine ⟨_,NS (d:=aO t) (ds:=T0.map aO) (aM (x:=.lst ((R++[(x,w)]).map aO)) (y:=.int c) rfl (aM (x:=tupI w) (y:=.int (2+at0 sz 6 % 2)) rfl (aM (x:=.int 2) (y:=.int (at0 sz 6 % 2)) rfl (aM (x:=.int (at0 sz 6)) (y:=.int 2) (S8 rfl (by decide) (by decide)) rfl (bZ (by decide))) jE) ec) (vX hct)) rfl (by rw [length_map]; omega),T0++[t],⟨by rw [List.length_append,length_cons,length_nil]; omega,λs hs=>?_⟩,?_⟩
     .rcases List.mem_append.1 hs with z | z
      .exact T0m s z
      .rw [mem_singleton] at z; rw [z]; exact mem_of_getElem? hct
     .rw [map_append (f:=aO) (l₁:=T0)];rfl
  subst e;obtain ⟨gT,okT⟩:=g.twice Tm;have hRT:(R++T).length<=2000005:=by rw [List.length_append]; omega
  refine cV [.ro (.jW ns),.ro (aJ x),.ro (aK dr),.ro (aK sz),.ro (.lst ((R++T++[(x,w)]).map aO)),v5,v6,.ow (.lst (T.map aO)),.ro (tupI w)] (aAY ((R++T++[(x,w)]).map aO) ?_ (FN _) rfl) ?_
  .refine aM (x:=.lst ((R++T).map aO)) (y:=.lst [aO (x,w)]) (aM (x:=.lst (R.map aO)) (y:=.lst (T.map aO)) (slE (d:=.lst ((R++[(x,w)]).map aO)) rfl rfl rfl (by rw [map_append]; exact LX)) rfl ?_) (slE (d:=.lst ((R++[(x,w)]).map aO)) rfl rfl rfl (by rw [map_append]; exact YH)) ?_
   .rw [kJ (by rw [length_map,length_map]; omega),<- map_append]
   .rw [EZ (by rw [length_map]; simp only [length_cons,length_nil]; omega),map_append (l₁:=R++T)];rfl
  -- the later ones named
  refine kK (λZ=>∃ w':List Int,p5 x.length (R++T) (R++T).length (x,w')/\Z=[.ro (.jW ns),.ro (aJ x),.ro (aK dr),.ro (aK sz),.ro (.lst ((R++T++[(x,w)]).map aO)),v5,v6,.ow (.lst (T.map aO)),.ro (tupI w')]) ?_ λZ ⟨w',okW,e⟩=>?_
  .refine jG (decide ((0:Int)<w.length)&&decide (at0 sz 5 / 2 % 2=1)) (AU (b:=decide ((0:Int)<w.length)) (mZ (aM (x:=.int w.length) (y:=.int 0) (dJ rfl aEI) rfl jX) rfl) (λh=>?_) λh=>by rw [h]; rfl) (λhc=>?_) λ_=>iS ⟨w,okT,rfl⟩
   .rw [h,Bool.true_and];exact mZ (aM (x:=.int (at0 sz 5 / 2 % 2)) (y:=.int 1) (aM (x:=.int (at0 sz 5 / 2)) (y:=.int 2) (aM (x:=.int (at0 sz 5)) (y:=.int 2) (S8 rfl (by decide) (by decide)) rfl (mD (by decide) (by decide))) rfl (bZ (by decide))) rfl fV) rfl
   .rw [Bool.and_eq_true,decide_eq_true_eq] at hc;rcases okT.why with z | ⟨a,b,p,q,u,v,lo,S9,ha,hb,hlo,hp,hq,up,W5,vq,W6⟩
    .have:w=[]:=z.2;rw [this] at hc;simp at hc
    .have S9:w=[a,b,(p:Int),(q:Int)]:=S9;obtain ⟨c1,v1,h1,h2,h3⟩:=BD (l:=(x,w)) up (by omega);obtain ⟨c2,v2,k1,k2,k3⟩:=BD (l:=(x,w)) vq (by omega);refine tO (tupI [a,b,(c1:Int),(c2:Int)]) ?_ ⟨[a,b,(c1:Int),(c2:Int)],⟨okT.rows,okT.len,.inr ⟨a,b,c1,c2,v1,v2,lo,rfl,ha,hb,hlo,(List.getElem?_eq_some_iff.1 h1).1,(List.getElem?_eq_some_iff.1 k1).1,h1,by rw [h2]; exact W5,k1,by rw [k2]; exact W6⟩⟩,rfl⟩;have q0:∀ {Z:bR},Z[8]? = some (some (tupI w))->Z[4]? = some (some (.lst ((R++T++[(x,w)]).map aO)))->dG (aA (aC aY (aB 8) (eC (.int 0))) (aA (aC aY (aB 8) (eC (.int 1))) (aA (aG LL.cJ (aA (aB 4) (aA (aC aY (aB 8) (eC (.int 2))) aE))) (aA (aG LL.cJ (aA (aB 4) (aA (aC aY (aB 8) (eC (.int 3))) aE))) aE)))) Z=some (tupI [a,b,(c1:Int),(c2:Int)]):=λ{Z} h8 h4=>by
      have e8:aB 8 Z=some (tupI w):=by unfold aB; rw [h8]; rfl
      have e4:aB 4 Z=some (.lst ((R++T++[(x,w)]).map aO)):=by unfold aB; rw [h4]; rfl
      have f0:aC aY (aB 8) (eC (.int 0)) Z=some (.int a):=aM e8 (y:=.int 0) rfl (by rw [S9]; rfl);have f1:aC aY (aB 8) (eC (.int 1)) Z=some (.int b):=aM e8 (y:=.int 1) rfl (by rw [S9]; rfl);have f2:aC aY (aB 8) (eC (.int 2)) Z=some (.int (p:Int)):=aM e8 (y:=.int 2) rfl (by rw [S9]; rfl);have f3:aC aY (aB 8) (eC (.int 3)) Z=some (.int (q:Int)):=aM e8 (y:=.int 3) rfl (by rw [S9]; rfl);unfold dG;rw [show aA (aC aY (aB 8) (eC (.int 0))) (aA (aC aY (aB 8) (eC (.int 1))) (aA (aG LL.cJ (aA (aB 4) (aA (aC aY (aB 8) (eC (.int 2))) aE))) (aA (aG LL.cJ (aA (aB 4) (aA (aC aY (aB 8) (eC (.int 3))) aE))) aE))) Z=some [.int a,.int b,.int c1,.int c2] by unfold aA aE;have g2:aG LL.cJ (aA (aB 4) (aA (aC aY (aB 8) (eC (.int 2))) aE)) Z=some (.int c1):=eM e4 f2 h3;have g3:aG LL.cJ (aA (aB 4) (aA (aC aY (aB 8) (eC (.int 3))) aE)) Z=some (.int c2):=eM e4 f3 k3;unfold aA aE at g2 g3;rw [f0,f1,g2,g3];rfl]
      rfl
     exact q0 rfl rfl
  subst e;refine qG _ ?_ ⟨R++T,w',gT.snoc okW,by omega,rfl⟩;have aB7:aY (.lst ((R++T++[(x,w)]).map aO)) (.int (-1))=some (aO (x,w)):=by rw [map_append (l₁:=R++T)]; exact vU
  refine NN (x:=aJ x) rfl (aM (x:=.lst ((R++T).map aO)) (y:=.lst [aO (x,w')]) (slE (d:=.lst ((R++T++[(x,w)]).map aO)) rfl rfl rfl (by rw [map_append (l₁:=R++T)]; exact LX)) ?_ ?_)
  .unfold dL;rw [args1 (x:=aO (x,w')) (NN (x:=aJ x) (y:=tupI w') (aM (x:=aO (x,w)) (y:=.int 0) (aM (x:=.lst ((R++T++[(x,w)]).map aO)) (y:=.int (-1)) rfl rfl aB7) rfl rfl) rfl)];rfl
  .rw [kJ (by rw [length_map]; simp only [length_cons,length_nil]; omega),map_append (l₁:=R++T)];rfl
 obtain ⟨d,e,R,w,h1,h2,rfl⟩:=qH rfl fin;exact ⟨x,R,w,hn,hx,h1,h2,e⟩
end LL
end
section
namespace K32
open PySem L3 L4
def rV:eT:=bK 4 1
  (aH (HV (aZ (aG LL.i0 (aA (aB 0) aE))) (HK 1 2))
  (aH (aN 3 (aG LL.fW (aA (aB 1) (aA (bF bW (aA (aB 2) aE)) aE))))
  (aU (kE (nP "bool" (aB 3)) (aB 3)))))
end K32
end
section
namespace K32
open PySem L3 L4 K24 LL
theorem TB(ns:List Int)(hns:ns.length<=63):rV [.jW ns]=.ok (.bl true):=by obtain ⟨x,R,w,hn,hx,g,hl,e⟩:=N0 ns;have sh:=S4 (w:=w) hn rfl g (by omega);unfold rV;refine jP rfl (fF [.ro (.jW ns),.ro (aJ x),.ro (.lst ((R++[(x,w)]).map aO)),.no] (aDz (mY rfl e)) (fF [.ro (.jW ns),.ro (aJ x),.ro (.lst ((R++[(x,w)]).map aO)),.ro (.bl true)] (iE (.bl true) (eM rfl (dJ (x:=.lst ((R++[(x,w)]).map aO)) rfl rfl) sh) rfl) (kH (IT (p:=true) (isi (d:=.bl true) rfl) (λ_=>rfl) λh=>by cases h))))
end K32
end
section
-- CHANGE: your row's module here,as the last of these rows
namespace L2
open PySem PySem.Spec PyProof.Rows
abbrev Key:=Sum Int Str
def BE:Key->Value->Bool
 | .inl k,v=>Value.isInt k v
 | .inr x,v=>Value.isStrOf x v
def aI9(w:World):Key->Int
 | .inl k=>hashInt k
 | .inr x=>hashStr w x
theorem cR:∀ {k:Key} {v:Value},BE k v=true->(∃ i t,k=Sum.inl i/\v=Value.int i t)\/(∃ x t,k=Sum.inr x/\v=Value.str x t)
 | .inl i,v,h=>by obtain ⟨t,e⟩:=Value.isInt_shape (k:=i) (v:=v) h;exact .inl ⟨i,t,rfl,e⟩
 | .inr x,v,h=>by obtain ⟨t,e⟩:=Value.isStrOf_shape (x:=x) (v:=v) h;exact .inr ⟨x,t,rfl,e⟩
theorem N2(i:Int)(t:Tok):BE (.inl i) (.int i t)=true:=by simp [BE,Value.isInt]
theorem N3(x:Str)(t:Tok):BE (.inr x) (.str x t)=true:=by simp [BE,Value.isStrOf]
theorem aB8(a b:Int):decide ((Sum.inl a:Key)=Sum.inl b)=(a == b):=by
 by_cases e:a=b
 .subst e; simp
 .have h:¬ (Sum.inl a:Key)=Sum.inl b:=λq=>e (Sum.inl.inj q);rw [decide_eq_false h];exact (beq_eq_false_iff_ne.mpr e).symm
theorem aB9(a b:Str):decide ((Sum.inr a:Key)=Sum.inr b)=decide (a=b):=by
 by_cases e:a=b
 .subst e; simp
 .have h:¬ (Sum.inr a:Key)=Sum.inr b:=λq=>e (Sum.inr.inj q);rw [decide_eq_false h,decide_eq_false e]
theorem aBa(a:Int)(b:Str):decide ((Sum.inl a:Key)=Sum.inr b)=false:=decide_eq_false (λq=>nomatch q)
theorem aBb(a:Str)(b:Int):decide ((Sum.inr a:Key)=Sum.inl b)=false:=decide_eq_false (λq=>nomatch q)
def bB(prog:Program)(w:World):PySem.KeyKind prog w Key where
 is:=BE
 hash:=aI9 w
 inj:=λv a b ha hb=>by
  rcases cR ha with ⟨i,t,rfl,rfl⟩ | ⟨x,t,rfl,rfl⟩
  .rcases cR hb with ⟨j,u,rfl,e⟩ | ⟨y,u,rfl,e⟩
   .injection e with e1 _; rw [e1]
   .exact nomatch e
  .rcases cR hb with ⟨j,u,rfl,e⟩ | ⟨y,u,rfl,e⟩
   .exact nomatch e
   .injection e with e1 _; rw [e1]
 byValue:=λk v h=>by rcases cR h with ⟨i,t,rfl,rfl⟩ | ⟨x,t,rfl,rfl⟩<;>rfl
 pyHash:=λhv h=>by
  rcases cR hv with ⟨i,t,rfl,rfl⟩ | ⟨x,t,rfl,rfl⟩
  .exact wpAny_pyHash_int h
  .exact wpAny_pyHash_str h
 eqBool:=λhu hv h=>by
  rcases cR hu with ⟨i,t,rfl,rfl⟩ | ⟨x,t,rfl,rfl⟩
  .rcases cR hv with ⟨j,u,rfl,rfl⟩ | ⟨y,u,rfl,rfl⟩
   .rw [aB8] at h; exact wpAny_eqBool_int h
   .rw [aBa] at h; exact SeqAt.EqAt.int_str i t y u _ _ _ _ h
  .rcases cR hv with ⟨j,u,rfl,rfl⟩ | ⟨y,u,rfl,rfl⟩
   .rw [aBb] at h; exact SeqAt.EqAt.str_int x t j u _ _ _ _ h
   .rw [aB9] at h; exact wpAny_eqBool_str h
 «strs»:=λk x t v h=>by
  rcases cR h with ⟨i,u,rfl,e⟩ | ⟨y,u,rfl,e⟩
  .exact nomatch e
  .injection e with e1 _;subst e1;cases v<;>rfl
theorem FO(prog:Program)(w:World)(i:Int)(t:Tok):(bB prog w).is (.inl i) (.int i t)=true:=N2 i t
theorem FP(prog:Program)(w:World)(x:Str)(t:Tok):(bB prog w).is (.inr x) (.str x t)=true:=N3 x t
end L2
namespace L2
open PySem PySem.Spec PyProof.Rows
abbrev N1:=List (Sum Key (List Key))
abbrev KX:=Sum Key N1
section
variable{prog:Program}{w:World}{K:Type}[dK:DecidableEq K](knd:KeyKind prog w K)
def qN(h:Heap):Sum K (List K)->Value->Prop
 | .inl k,v=>knd.is k v=true
 | .inr ks,v=>∃ b,v=.ref b/\IsTupleKey knd h ks b
inductive iF (h:Heap):List (Sum K (List K))->List Value->Prop
 | nil:iF h [] []
 | cons {k:Sum K (List K)} {v:Value} {ks:List (Sum K (List K))} {vs:List Value}:qN knd h k v->iF h ks vs->iF h (k::ks) (v::vs)
def i5(h:Heap)(ks:List (Sum K (List K)))(a:Addr):Prop:=∃ o items n,h.get? a=some o/\o.cls=.type "tuple" /\ o.data=.seq items n/\iF knd h ks items.toList
variable{knd}
theorem qN.inj{h:Heap}{v:Value}:∀ {x y:Sum K (List K)},qN knd h x v->qN knd h y v->x=y
 | .inl a,.inl b,hx,hy=>by rw [knd.inj _ _ _ hx hy]
 | .inl a,.inr b,hx,⟨q,e,_⟩=>by subst e; exact absurd (knd.byValue _ _ hx) (by simp [carriedByValue])
 | .inr a,.inl b,⟨q,e,_⟩,hy=>by subst e; exact absurd (knd.byValue _ _ hy) (by simp [carriedByValue])
 | .inr a,.inr b,⟨q,e,hx⟩,⟨r,f,hy⟩=>by subst e;injection f with f;subst f;rw [hx.inj hy]
theorem iF.inj{h:Heap}{x:List (Sum K (List K))}{vs:List Value}(hx:iF knd h x vs):∀ {y},iF knd h y vs->x=y:=by
 induction hx with
 | nil=>intro y hy; cases hy; rfl
 | cons h1 _ ih =>
  intro y hy
  cases hy with
  | cons h2 t2=>rw [h1.inj h2,ih t2]
theorem i5.typeIs{s:Shared}{ks:List (Sum K (List K))}{a:Addr}(x:i5 knd s.heap ks a):s.TypeIs (.ref a) "tuple" := let ⟨o,_,_,ho,hc,_⟩:=x; ⟨o,ho,hc⟩
theorem i5.inj{h:Heap}{a:Addr}{x y:List (Sum K (List K))}(hx:i5 knd h x a)(hy:i5 knd h y a):x=y:=by obtain ⟨o,its,n,ho,_,hd,hi⟩:=hx;obtain ⟨o',its',n',ho',_,hd',hi'⟩:=hy;rw [ho] at ho';cases ho';rw [hd] at hd';cases hd';exact hi.inj hi'
theorem i5.keeps{h h':Heap}{ks:List (Sum K (List K))}{a d:Addr}{o:Obj}{es ep}(x:i5 knd h ks a)(ho:h.get? d=some o)(hd:o.data=.dict es ep)(hs:Heap.SameBut d h h'):i5 knd h' ks a:=by
 obtain ⟨q,items,n,hq,hc,hi,his⟩:=x;have ne:a≠d:=λz=>by subst z;rw [hq] at ho;cases ho;rw [hi] at hd;cases hd
 refine ⟨q,items,n,(hs.2 a ne).trans hq,hc,hi,?_⟩;have go:∀ {ks:List (Sum K (List K))} {vs:List Value},iF knd h ks vs->iF knd h' ks vs:=by
  intro ks vs t
  induction t with
  | nil=>exact .nil
  | @cons k v ks vs h1 _ ih =>
   refine .cons ?_ ih
   cases k with
   | inl k=>exact h1
   | inr k=>obtain ⟨b,e,hb⟩:=h1; exact ⟨b,e,hb.keeps ho hd hs⟩
 exact go his
def sA(knd:KeyKind prog w K):Sum K (List K)->Int
 | .inl k=>knd.hash k
 | .inr ks=>tupleKeyHash knd ks
def mH:Sum K (List K)->Nat
 | .inl _=>1
 | .inr ks=>ks.length+1
def xH(knd:KeyKind prog w K)(ks:List (Sum K (List K))):Int:=reduceHash (Builtin.Tuple.tupleHashOf (ks.map (sA knd)))
def pF(ks:List (Sum K (List K))):Nat:=(ks.map mH).sum+1
variable{s:Shared}{A:Around}{E:Q0Q}
theorem N4{k:Sum K (List K)}{v:Value}{Q:Int->Shared->Prop}(hu:A.units<cLine)(hk:qN knd s.heap k v)(h:Q (sA knd k) { s with toks:=s.toks+mH k }):wpAny (model prog w) A (pyHash v) Q E s:=by
 cases k with
 | inl k=>exact knd.pyHash hk h
 | inr k =>
  obtain ⟨b,e,hb⟩:=hk;subst e;exact wpAny_pyHash_tuple hu hb h
theorem xI{ks:List K}{b:Addr}{h:Heap}(x:IsTupleKey knd h ks b):∃ items,h.IsTuple b items:=by obtain ⟨o,items,n,ho,hc,hd,_⟩:=x;exact ⟨items,o,ho,hc,n,hd⟩
end
section
variable{P:Program}{w:World}{A:Around}{E:Q0Q}{s:Shared}
theorem YJ{x y:Sum Key (List Key)}{u v:Value}{Q:Bool->Shared->Prop}(hu:A.units<cLine)(hx:qN (bB P w) s.heap x u)(hy:qN (bB P w) s.heap y v)(h:Q (decide (x=y)) s):wpAny (model P w) A (eqBool u v) Q E s:=by
 cases x with
 | inl x =>
  cases y with
  | inl y =>
   refine (bB P w).eqBool hx hy ?_;rw [show decide (x=y)=decide ((Sum.inl x:Sum Key (List Key))=Sum.inl y) by simp];exact h
  | inr y =>
   obtain ⟨b,e,hb⟩:=hy;subst e;obtain ⟨its,hb⟩:=xI hb;rw [show decide ((Sum.inl x:Sum Key (List Key))=Sum.inr y)=false by simp] at h;rcases cR hx with ⟨i,t,rfl,rfl⟩ | ⟨i,t,rfl,rfl⟩
   .exact SeqAt.EqAt.int_tuple i t hb hu P w E Q h
   .exact SeqAt.EqAt.str_tuple i t hb hu P w E Q h
 | inr x =>
  obtain ⟨a,e,ha⟩:=hx;subst e
  cases y with
  | inl y =>
   obtain ⟨its,ha⟩:=xI ha;rw [show decide ((Sum.inr x:Sum Key (List Key))=Sum.inl y)=false by simp] at h;rcases cR hy with ⟨i,t,rfl,rfl⟩ | ⟨i,t,rfl,rfl⟩
   .exact SeqAt.EqAt.tuple_int i t ha hu P w E Q h
   .exact SeqAt.EqAt.tuple_str i t ha hu P w E Q h
  | inr y =>
   obtain ⟨b,e,hb⟩:=hy;subst e;refine wpAny_eqBool_tuple hu ha hb ?_;rw [show decide (x=y)=decide ((Sum.inr x:Sum Key (List Key))=Sum.inr y) by simp];exact h
theorem BF:∀ (rest:List Value) (left:List (Sum Key (List Key))) (b:Array Int) (s:Shared) (R:Array Int->Shared->Prop),A.units<cLine->iF (bB P w) s.heap left rest ->
  (∀ b':Array Int,b'.toList=b.toList++left.map (sA (bB P w))->R b' { s with toks:=s.toks+(left.map mH).sum }) ->
  wpAny (model P w) A (forIn rest b λx r=>do
   let r' <- pyHash x
   pure (ForInStep.yield (r.push r'))) R E s
 | [],left,b,s,R,hu,t,k=>by cases t;exact wpAny_pure (k b (by simp))
 | v::rest,left,b,s,R,hu,t,k=>by
  cases t with
  | @cons kk _ ks _ h1 h2 =>
   rw [forIn_cons];refine wpAny_bind (wpAny_bind (N4 hu h1 (wpAny_pure ?_)));refine BF rest ks _ _ _ hu h2 λb' e=>?_;have:=k b' (by rw [e]; simp);simpa [Nat.add_assoc] using this
theorem N5{ks:List (Sum Key (List Key))}{a:Addr}{Q:Int->Shared->Prop}(hu:A.units+1<cLine)(hk:i5 (bB P w) s.heap ks a)(h:Q (xH (bB P w) ks) { s with toks:=s.toks+pF ks }):wpAny (model P w) A (pyHash (.ref a)) Q E s:=by
 have hT:=hk.typeIs;obtain ⟨o,its,n,ho,_,hd,hi⟩:=hk;have sl:=F.slot_tuple_hash;unfold pyHash pyHashByItsType
 wp_walk using wpAny_cRoomFor_or (.inr (by omega)),wpAny_specialOf hT sl.lookup,(wpAny_callSpecialIfBoundUnlessNone?_slot hT sl (wpAny_call_entry sl hT F.entry_tuple_hash ?_ (F.args_tuple_hash_1 _)))
 rw [hd];refine wpAny_pure (wpAny_pure (wpAny_bind ?_));rw [<- Array.forIn_toList];refine BF its.toList ks #[] s _ hu hi λb eb=>?_;dsimp only;rw [eb,nil_append];unfold xH reduceHash at h;refine wpAny_ret_mkInt ?_;have e2:s.toks+(ks.map mH).sum+1=s.toks+pF ks:=by unfold pF; omega
 show wpAny (model P w) A (pyHashByItsType.reduced _) Q E { s with toks:=s.toks+(ks.map mH).sum+1 };rw [e2];unfold pyHashByItsType.reduced;generalize Builtin.Tuple.tupleHashOf (ks.map (sA (bB P w)))=z at h ⊢;by_cases hz:(decide (-(2 ^ 63:Int)<=z)&&decide (z<2 ^ 63))=true
 .rw [if_pos hz] at h ⊢;exact wpAny_pure h
 .rw [if_neg hz] at h ⊢;refine wpAny_bind (wpAny_rule ?_); exact wpAny_pure h
theorem eq_loop:∀ (x y:List (Sum Key (List Key))) (xs ys:List Value) (R:Option Fin×Unit->Shared->Prop),A.units<cLine->iF (bB P w) s.heap x xs->iF (bB P w) s.heap y ys ->
  (x≠y->R (some (.done (.ret (.bool false))),()) s)->((x=y↔xs.length=ys.length)->R (none,()) s) ->
  wpAny (model P w) A (forIn (xs.zip ys) ((none,()):Option Fin×Unit) λp _=>do
   let c <- eqBool p.1 p.2
   if (!c)=true then do
    let q <- ret (Value.bool false)
    pure (ForInStep.done (some q,()))
   else pure (ForInStep.yield (none,()))) R E s
 | [],y,xs,ys,R,hu,hx,hy,k1,k2=>by cases hx;refine wpAny_pure (k2 ?_);cases hy<;>simp
 | kx::x,[],xs,ys,R,hu,hx,hy,k1,k2=>by cases hx;cases hy;exact wpAny_pure (k2 (by simp))
 | kx::x,ky::y,xs,ys,R,hu,hx,hy,k1,k2=>by
  cases hx with
  | @cons _ u _ xs hx1 hx2 =>
   cases hy with
   | @cons _ v _ ys hy1 hy2 =>
    rw [zip_cons_cons,forIn_cons];refine wpAny_bind (wpAny_bind (YJ hu hx1 hy1 ?_));by_cases hk:kx=ky
    .subst hk;rw [decide_eq_true rfl,if_neg (by decide)];refine wpAny_pure (eq_loop x y xs ys R hu hx2 hy2 (λn=>k1 (by simpa using n)) λe=>k2 ?_);simpa using e
    .rw [decide_eq_false hk,if_pos (by decide)];exact wpAny_bind (wpAny_pure (wpAny_pure (wpAny_pure (k1 (by simp [hk])))))
theorem YK{x y:List (Sum Key (List Key))}{a b:Addr}{Q:Bool->Shared->Prop}(hu:A.units+1<cLine)(hx:i5 (bB P w) s.heap x a)(hy:i5 (bB P w) s.heap y b)(h:Q (decide (x=y)) s):wpAny (model P w) A (eqBool (.ref a) (.ref b)) Q E s:=by
 have tx:=hx.typeIs;have ty:=hy.typeIs;have sl:=F.slot_tuple_eq;by_cases hab:a=b
 .subst hab;rw [hx.inj hy,decide_eq_true rfl] at h;exact SeqAt.EqAt.same _ P w E Q h
 .obtain ⟨oa,xs,na,hoa,_,hda,hia⟩:=hx;obtain ⟨oc,ys,nb,hob,_,hdb,hib⟩:=hy;unfold eqBool;rw [if_neg (by simpa using hab)];have hu0:A.units<cLine:=by omega
  apply wpAny_holding; apply wpAny_bind;refine (wpAny_richCompare_same_room (op:=.Eq) tx ty sl (wpAny_call_entry sl tx F.entry_tuple_eq ?_ (F.args_tuple_eq_2 _ _)) hu0);unfold Builtin.«tuple.__eq__»
  wp_walk using wpAny_isInstance ty isSubtype_tuple_tuple,wpAny_tupleItemsOf hoa hda,wpAny_tupleItemsOf hob hdb
  refine eq_loop x y xs.toList ys.toList _ hu hia hib (λn=>?_) λe=>?_
  .rw [decide_eq_false n] at h;exact wpAny_pure ⟨_,rfl,(λz=>nomatch z),wpAny_truthy_bool h⟩
  .refine wpAny_pure ⟨_,rfl,(λz=>nomatch z),?_⟩;have e2:(xs.size == ys.size)=decide (x=y):=by
    by_cases q:x=y
    .rw [decide_eq_true q]; simpa using e.1 q
    .rw [decide_eq_false q]; simpa using λz=>q (e.2 z)
   show wpAny (model P w) A (truthOfDropped (.bool (xs.size == ys.size))) Q E s;rw [e2];exact wpAny_truthy_bool h
theorem xJ{d:Nat}:∀ (vs:List Value) (R:Option Bool×Unit->Shared->Prop),(∀ v∈vs,∀ Q:Bool->Shared->Prop,Q true s->wpAny (model P w) A (eqIsQuiet d v) Q E s)->R (none,()) s ->
  wpAny (model P w) A (forIn vs ((none,()):Option Bool×Unit) λy _=>do
   let c <- eqIsQuiet d y
   if (!c)=true then pure (ForInStep.done (some false,()))
   else pure (ForInStep.yield (none,()))) R E s
 | [],R,hq,k=>wpAny_pure k
 | v::vs,R,hq,k=>by rw [forIn_cons];refine wpAny_bind (wpAny_bind (hq v mem_cons_self _ ?_));rw [if_neg (by decide)];exact wpAny_pure (xJ vs R (λu hu=>hq u (mem_cons_of_mem _ hu)) k)
theorem BG{d:Nat}{a:Addr}{o:Obj}{xs:Array Value}{n:Nat}{Q:Bool->Shared->Prop}(tx:s.TypeIs (Value.ref a) "tuple")(ho:s.heap.get? a=some o)(hd:o.data=.seq xs n)(hq:∀ v∈xs.toList,∀ Q:Bool->Shared->Prop,Q true s->wpAny (model P w) A (eqIsQuiet d v) Q E s)(h:Q true s) :
  wpAny (model P w) A (eqIsQuiet (d+1) (.ref a)) Q E s:=by
 have sl:=F.slot_tuple_eq;unfold eqIsQuiet;refine wpAny_bind (wpAny_specialOf tx sl.lookup ?_);show wpAny (model P w) A (isInstance (.ref a) (.type "tuple") >>= _) _ _ s;refine wpAny_bind (wpAny_isInstance tx isSubtype_tuple_tuple ?_);rw [if_neg (by decide)];dsimp only;refine wpAny_bind (wpAny_seqItems ho hd (wpAny_bind ?_));show wpAny _ _ (forIn xs _ _) _ _ s;rw [<- Array.forIn_toList];exact xJ xs.toList _ hq (wpAny_pure h)
theorem IU{x:List (Sum Key (List Key))}{a:Addr}{Q:Bool->Shared->Prop}(hx:i5 (bB P w) s.heap x a)(h:Q true s):wpAny (model P w) A (eqIsQuiet 8 (.ref a)) Q E s:=by
 have tx:=hx.typeIs;obtain ⟨o,xs,n,ho,_,hd,hi⟩:=hx;refine BG (d:=7) tx ho hd ?_ h;have go:∀ {ks:List (Sum Key (List Key))} {vs:List Value},iF (bB P w) s.heap ks vs -> ∀ v∈vs,∀ Q:Bool->Shared->Prop,Q true s->wpAny (model P w) A (eqIsQuiet 7 v) Q E s:=by
  intro ks vs t
  induction t with
  | nil=>intro v hv; cases hv
  | @cons k v ks vs h1 _ ih =>
   intro u hu Q k0;rcases List.mem_cons.1 hu with e | hu
   .subst e
    cases k with
    | inl k =>
     rw [eqIsQuiet_byValue _ ((bB P w).byValue _ _ h1)];exact wpAny_pure k0
    | inr k =>
     obtain ⟨b,e,hb⟩:=h1;subst e;have tb:=hb.typeIs;obtain ⟨o',xs',n',ho',_,hd',hi'⟩:=hb;refine BG (d:=6) tb ho' hd' (λv' hv' Q' k'=>?_) k0;rw [eqIsQuiet_byValue _ (hi'.byValue v' hv')];exact wpAny_pure k'
   .exact ih u hu Q k0
 exact go hi
def iG(P:Program)(w:World):HeapKind P w (List (Sum Key (List Key))) where
 is:=i5 (bB P w)
 hash:=xH (bB P w)
 draws:=pF
 room:=λA=>A.units+1<cLine
 inj:=λhx hy=>hx.inj hy
 keeps:=λx ho he hs=>x.keeps ho he hs
 pyHash:=λhu hk h=>N5 hu hk h
 eqBool:=λhu hx hy h=>YK hu hx hy h
 quiet:=λhk h=>IU hk h
theorem nest_room(hu:A.units+2<cLine):(iG P w).room A.in1:=hu
end
end L2
namespace L2
open PySem PySem.Spec PyProof.Rows
inductive V where
 | non | bl (b:Bool) | int (i:Int) | str (x:Str) | N6 (b:Array UInt8) | flt (b:UInt64) | ref (a:Addr) | ty (n:String)
 deriving DecidableEq
def RelV:V->Value->Prop
 | .non,u=>u=Value.none
 | .bl b,u=>u=Value.bool b
 | .int i,u=>∃ t,u=Value.int i t
 | .str x,u=>∃ t,u=Value.str x t
 | .N6 b,u=>∃ t,u=Value.bytes b t
 | .flt b,u=>∃ t,u=Value.float b t
 | .ref a,u=>u=Value.ref a
 | .ty n,u=>u=Value.type n
abbrev Vals:List V->List Value->Prop:=Paired RelV
theorem Vals.length{xs:List V}{us:List Value}(r:Vals xs us):xs.length=us.length:=Paired.length r
theorem Vals.get:∀ {xs:List V} {us:List Value} {i:Nat} {x:V},Vals xs us->xs[i]? = some x -> ∃ u,us[i]? = some u/\RelV x u
 | _,_,_,_,.nil,e=>by simp at e
 | _,_,0,_,.cons r _,e=>by simp at e; subst e; exact ⟨_,rfl,r⟩
 | _,_,i+1,x,.cons _ t,e=>by obtain ⟨u,h1,h2⟩:=Vals.get (i:=i) (x:=x) t (by simpa using e);exact ⟨u,by simpa using h1,h2⟩
theorem Vals.append:∀ {xs ys:List V} {us ws:List Value},Vals xs us->Vals ys ws->Vals (xs++ys) (us++ws)
 | _,_,_,_,.nil,s=>s
 | _,_,_,_,.cons r t,s=>.cons r (Vals.append t s)
theorem Vals.take:∀ {xs:List V} {us:List Value} (n:Nat),Vals xs us->Vals (xs.take n) (us.take n)
 | _,_,0,_=>.nil
 | _,_,_+1,.nil=>.nil
 | _,_,n+1,.cons r t=>.cons r (Vals.take n t)
theorem Vals.drop:∀ {xs:List V} {us:List Value} (n:Nat),Vals xs us->Vals (xs.drop n) (us.drop n)
 | _,_,0,r=>r
 | _,_,_+1,.nil=>.nil
 | _,_,n+1,.cons _ t=>Vals.drop n t
def oD:Option V->Option Value->Prop
 | some v,some u=>RelV v u
 | none,none=>True
 | _,_=>False
def KV{κ:Type}:List (κ×V)->List (κ×Value)->Prop:=Paired λ(p:κ×V) (q:κ×Value)=>p.1=q.1/\RelV p.2 q.2
def kV:Key->V
 | .inl i=>.int i
 | .inr x=>.str x
inductive HO where
 | lst (xs:List V)
 | tup (xs:List V)
 | dK (kvs:List (Key×V)) | dT (kvs:List (List Key×V))
 | dX (o:Obj) (kvs:List (KX×V×V))
 | set (S:Int->Bool) (n:Nat)
 | ins (C dx:Addr) (fs:List (Str×V))
 | own (x:Addr)
 | xd (fs:List (Str×V))
 | met (f x:Addr)
 | rng (lo hi:Int)
 | HL (o:Obj) (u:HO)
 | tbl (ps:Array Value)
 | ext (φ:Heap->Prop)
abbrev Hp:=Addr->Option HO
def upd(H:Hp)(a:Addr)(o:HO):Hp:=λb=>if b=a then some o else H b
theorem bD{H:Hp}{a:Addr}{o:HO}:upd H a o a=some o:=by unfold upd; rw [if_pos rfl]
theorem bQ{H:Hp}{a b:Addr}{o:HO}(h:b≠a):upd H a o b=H b:=by unfold upd; rw [if_neg h]
theorem aA2{H:Hp}{a b:Addr}{o u:HO}(h:H a=some o)(h':H b=some u)(d:o≠u):a≠b:=by intro e; subst e; rw [h] at h'; exact d (Option.some.inj h')
theorem bU{H:Hp}{a b:Addr}{o:HO}(h:H a=some o)(h':H b=none):a≠b:=by intro e; subst e; rw [h] at h'; cases h'
def xK(H:Hp):Sum Key (List Key)->V->Prop
 | .inl k,v=>v=kV k
 | .inr ks,v=>∃ b,v=.ref b/\H b=some (.tup (ks.map kV))
def oF(H:Hp)(ks:N1)(a:Addr):Prop:=∃ vs,H a=some (.tup vs)/\Paired (xK H) ks vs
def zS(P:Program)(w:World)(H:Hp)(o:Obj)(kvs:List (KX×V×V)):Prop:=o.ExactDict /\ ∃ es ep,o.data=.dict es ep /\
 ((∃ vs:List (Key×Value),Paired (λ(p:KX×V×V) (q:Key×Value)=>p.1=.inl q.1/\p.2.1=kV q.1/\RelV p.2.2 q.2) kvs vs/\KeysOf (bB P w) es/\Pairs (bB P w) es.toList vs/\(vs.map (·.1)).Nodup) \/
  ∃ xs:List (N1×Addr×Value),Paired (λ(p:KX×V×V) (q:N1×Addr×Value)=>p.1=.inr q.1/\p.2.1=.ref q.2.1/\oF H q.1 q.2.1/\RelV p.2.2 q.2.2) kvs xs/\es.toList=xs.map (entryOfKey (iG P w))/\(xs.map (·.1)).Nodup)
theorem Paired.aBd{α β:Type}{F G:α->β->Prop}:∀ {l₁:List α} {l₂:List β},Paired F l₁ l₂->(∀ a b,F a b->G a b)->Paired G l₁ l₂
 | _,_,.nil,_=>.nil
 | _,_,.cons r t,f=>.cons (f _ _ r) (Paired.aBd t f)
theorem oF.stay{H H':Hp}{ks:N1}{a:Addr}(h:oF H ks a)(ht:∀ b xs,H b=some (.tup xs)->H' b=some (.tup xs)):oF H' ks a:=by
 obtain ⟨vs,e,r⟩:=h;refine ⟨vs,ht _ _ e,Paired.aBd r λk v q=>?_⟩
 cases k with
 | inl k=>exact q
 | inr k=>obtain ⟨b,e,q⟩:=q; exact ⟨b,e,ht _ _ q⟩
theorem zS.stay{P:Program}{H H':Hp}{o:Obj}{kvs:List (KX×V×V)}(h:zS P w H o kvs)(ht:∀ b xs,H b=some (.tup xs)->H' b=some (.tup xs)):zS P w H' o kvs:=by
 obtain ⟨x,es,ep,e,h⟩:=h;refine ⟨x,es,ep,e,?_⟩;rcases h with h | ⟨xs,r,h1,h2⟩
 .exact .inl h
 .exact .inr ⟨xs,Paired.aBd r λp q z=>⟨z.1,z.2.1,z.2.2.1.stay ht,z.2.2.2⟩,h1,h2⟩
section
variable(P:Program)(w:World)
def eA(H:Hp)(h:Heap)(a:Addr):HO->Prop
 | .lst xs=>xs.length<=sizeLine /\ ∃ (its:List Value) (n:Nat),Vals xs its/\h.get? a=some { cls:=.type "list",data:=.seq its.toArray n }
 | .tup xs=>xs.length<=sizeLine /\ ∃ its:List Value,Vals xs its/\IsTup h a its.toArray
 | .dK kvs=>kvs.length<=sizeLine/\(a == sysModules)=false /\ ∃ vs,KV kvs vs/\h.DictOf (bB P w) a vs
 | .dT kvs=>kvs.length<=sizeLine/\(a == sysModules)=false /\ ∃ xs:List (List Key×Addr×Value),
   Paired (λ(p:List Key×V) (q:List Key×Addr×Value)=>p.1=q.1/\H q.2.1=some (.tup (p.1.map kV))/\RelV p.2 q.2.2) kvs xs /\
   ∃ o es ep,h.get? a=some o/\o.ExactDict/\o.data=.dict es ep/\es.toList=xs.map (entryOfKey (tupleKind (bB P w)))/\(xs.map (·.1)).Nodup
 | .dX o kvs=>kvs.length<=sizeLine/\(a == sysModules)=false/\h.get? a=some o/\zS P w H o kvs
 | .set S n=>h.SetOf (intKind P w) a S n
 | .ins C dx fs=>H dx=some (.own a)/\fs.length<=1000/\dx≠a/\h.get? a=some (W.instObj C dx) /\
   ∃ mA,h.Ns1 dx mA/\(∀ f,oD (fs.lookup f) (mA f))/\PySem.Within mA (fs.map (·.1))
 | .own _=>∃ o,h.get? a=some o
 | .xd fs=>∃ mA,h.Ns1 a mA /\ ∀ f,oD (fs.lookup f) (mA f)
 | .rng lo hi=>∃ t u v,h.get? a=some { cls:=.type "range",data:=.fields #[.int lo t,.int hi u,.int 1 v] }
 | .HL o u=>h.get? a=some o/\eA H h a u
 | .tbl ps=>h.get? a=some { cls:=.none,data:=.fields ps }
 | .met f x=>h.get? a=some (W.methodObj (.ref f) (.ref x))
 | .ext φ=>φ h/\(∃ o,h.get? a=some o) /\ ∀ h1 h2:Heap,φ h1->(∀ o,h1.get? a=some o->h2.get? a=some o)->φ h2
def pU(H:Hp)(h:Heap):Prop:=∀ a o,H a=some o->eA P w H h a o
end
section
variable{P:Program}{w:World}{H H':Hp}{h h':Heap}{a:Addr}{o:HO}
theorem eA.lt(x:eA P w H h a o):a<h.objs.size:=by
 cases o with
 | lst xs=>obtain ⟨_,_,_,_,e⟩:=x; exact lt_size e
 | tup xs=>obtain ⟨_,_,_,p⟩:=x; exact p.lt
 | dK kvs=>obtain ⟨_,_,_,_,o,_,_,e,_⟩:=x; exact lt_size e
 | dT kvs=>obtain ⟨_,_,_,_,o,_,_,e,_⟩:=x; exact lt_size e
 | dX ob kvs=>obtain ⟨_,_,e,_⟩:=x; exact lt_size e
 | set S n=>obtain ⟨o,_,_,_,e,_⟩:=x; exact lt_size e
 | ins C dx fs=>obtain ⟨_,_,_,e,_⟩:=x; exact lt_size e
 | own y=>obtain ⟨_,e⟩:=x; exact lt_size e
 | xd fs=>obtain ⟨_,⟨_,_,_,e,_⟩,_⟩:=x; exact lt_size e
 | rng lo hi=>obtain ⟨_,_,_,e⟩:=x; exact lt_size e
 | HL ob u=>obtain ⟨e,_⟩:=x; exact lt_size e
 | tbl ps=>exact lt_size (show h.get? a=some _ from x)
 | met f y=>exact lt_size (show h.get? a=some _ from x)
 | ext φ=>obtain ⟨_,⟨_,e⟩,_⟩:=x; exact lt_size e
theorem Paired.aBe{α β:Type}{F G:α->β->Prop}:∀ {l₁:List α} {l₂:List β},Paired F l₁ l₂->(∀ a b,F a b->G a b)->Paired G l₁ l₂
 | _,_,.nil,_=>.nil
 | _,_,.cons r t,f=>.cons (f _ _ r) (Paired.aBe t f)
theorem eA.stay(x:eA P w H h a o)(k:∀ b u,(b=a\/H b=some (.own a))->h.get? b=some u->h'.get? b=some u)
  (ho:∀ b,H b=some (.own a)->H' b=some (.own a)) (ht:∀ b xs,H b=some (.tup xs)->H' b=some (.tup xs)):eA P w H' h' a o:=by
 induction o with
 | lst xs=>obtain ⟨z,its,n,r,e⟩:=x; exact ⟨z,its,n,r,k _ _ (.inl rfl) e⟩
 | tup xs=>obtain ⟨z,its,r,ob,e,c⟩:=x; exact ⟨z,its,r,ob,k _ _ (.inl rfl) e,c⟩
 | dK kvs=>obtain ⟨z,y,vs,r,ob,es,ep,e,c⟩:=x; exact ⟨z,y,vs,r,ob,es,ep,k _ _ (.inl rfl) e,c⟩
 | dT kvs =>
  obtain ⟨z,y,xs,r,ob,es,ep,e,c⟩:=x;exact ⟨z,y,xs,Paired.aBe r λp q z=>⟨z.1,ht _ _ z.2.1,z.2.2⟩,ob,es,ep,k _ _ (.inl rfl) e,c⟩
 | dX ob kvs=>obtain ⟨z,y,e,c⟩:=x; exact ⟨z,y,k _ _ (.inl rfl) e,c.stay ht⟩
 | set S n=>obtain ⟨ob,es,ep,t,e,c⟩:=x; exact ⟨ob,es,ep,t,k _ _ (.inl rfl) e,c⟩
 | ins C dx fs =>
  obtain ⟨d,z,ne,e,mA,⟨od,es,ep,e2,c⟩,r⟩:=x;exact ⟨ho _ d,z,ne,k _ _ (.inl rfl) e,mA,⟨od,es,ep,k _ _ (.inr d) e2,c⟩,r⟩
 | own y=>obtain ⟨ob,e⟩:=x; exact ⟨ob,k _ _ (.inl rfl) e⟩
 | xd fs=>obtain ⟨mA,⟨od,es,ep,e,c⟩,r⟩:=x; exact ⟨mA,⟨od,es,ep,k _ _ (.inl rfl) e,c⟩,r⟩
 | rng lo hi=>obtain ⟨t,u,v,e⟩:=x; exact ⟨t,u,v,k _ _ (.inl rfl) e⟩
 | HL ob u ih=>obtain ⟨e,q⟩:=x; exact ⟨k _ _ (.inl rfl) e,ih q⟩
 | tbl ps =>
  have e:h.get? a=some { cls:=.none,data:=.fields ps }:=x;show h'.get? a=some { cls:=.none,data:=.fields ps };exact k a _ (.inl rfl) e
 | met f y =>
  have e:h.get? a=some (W.methodObj (.ref f) (.ref y)):=x;show h'.get? a=some (W.methodObj (.ref f) (.ref y));exact k a _ (.inl rfl) e
 | ext φ=>obtain ⟨p,⟨o,e⟩,st⟩:=x; exact ⟨st _ _ p λo q=>k _ _ (.inl rfl) q,⟨o,k _ _ (.inl rfl) e⟩,st⟩
theorem pU.lt(x:pU P w H h)(e:H a=some o):a<h.objs.size:=(x a o e).lt
theorem pU.fresh(x:pU P w H h)(e:h.objs.size<=a):H a=none:=by
 cases q:H a with
 | none=>rfl
 | some u=>exact absurd (lt_of_lt_of_le (x.lt q) e) (lt_irrefl _)
theorem pU.kept(x:pU P w H h)(k:∀ b u,h.get? b=some u->h'.get? b=some u):pU P w H h':=λa o e =>
 (x a o e).stay (λb u _ q=>k b u q) (λ_ q=>q) λ_ _ q=>q
theorem pU.laid(x:pU P w H h)(k:∀ b u,h.get? b=some u->h'.get? b=some u)(hp:h.objs.size<=a)(new:eA P w (upd H a o) h' a o):pU P w (upd H a o) h':=λb u e=>by
 have hn:=x.fresh hp;by_cases hb:b=a
 .subst hb; rw [bD] at e; cases e; exact new
 .rw [bQ hb] at e;exact (x b u e).stay (λc v _ q=>k c v q) (λc q=>by rw [bQ (bU q hn)]; exact q) λc xs q=>by rw [bQ (bU q hn)]; exact q
end
def Rd(H:Hp)(a:Addr)(u:HO):Prop:=H a=some u \/ ∃ o,H a=some (.HL o u)
theorem Rd.ok{P:Program}{H:Hp}{h:Heap}{a:Addr}{u:HO}(r:Rd H a u)(x:pU P w H h):eA P w H h a u:=by
 rcases r with r | ⟨o,r⟩
 .exact x a u r
 .obtain ⟨_,q⟩:=x a _ r;exact q
def Mut:Option HO->Prop
 | some (.lst _)=>True
 | some (.dK _)=>True
 | some (.dT _)=>True
 | some (.dX _ _)=>True
 | some (.set _ _)=>True
 | some (.ins _ _ _)=>True
 | some (.ext _)=>True
 | _=>False
section
variable{P:Program}{w:World}{H:Hp}{h h':Heap}{x e:Addr}{o':HO}
theorem pU.write(ok:pU P w H h)(mu:Mut (H x))(he:e=x\/H e=some (.own x))(k:∀ b u,b≠e->h.get? b=some u->h'.get? b=some u)(heo:∃ u,h'.get? e=some u)
  (new:eA P w (upd H x o') h' x o'):pU P w (upd H x o') h':=λb u q=>by
 have aEJ:∀ c y,H c=some (.own y)->c≠x:=λc y r z=>by subst z; rw [r] at mu; exact mu
 have aIa:∀ c xs,H c=some (.tup xs)->c≠x:=λc xs r z=>by subst z; rw [r] at mu; exact mu
 by_cases hb:b=x
 .subst hb; rw [bD] at q; cases q; exact new
 .rw [bQ hb] at q;by_cases hbe:b=e
  .have q':H b=some (.own x):=by
    rcases he with z | z
    .exact absurd (hbe.trans z) hb
    .rw [hbe]; exact z
   rw [q] at q'; cases q';obtain ⟨v,hv⟩:=heo;exact ⟨v,by rw [hbe]; exact hv⟩
  .refine (ok b u q).stay (λc v hc r=>k c v ?_ r) (λc r=>by rw [bQ (aEJ c b r)]; exact r) λc xs r=>by rw [bQ (aIa c xs r)]; exact r
   rcases hc with rfl | hc
   .exact hbe
   .rintro rfl;rcases he with z | z
    .exact aEJ c b hc z
    .rw [hc] at z; cases z; exact hb rfl
end
structure Un (fs ex:List Addr) (H H':Hp) (h h':Heap):Prop where
 keep:∀ b o,h.get? b=some o->H b=none->b∉fs->b∉ex->h'.get? b=some o
 slot:∀ b o,h.get? b=some o->H b=none->b∈fs->b∉ex -> ∃ sl,h'.get? b=some { o with slots:=sl }
 free:∀ b o,h.get? b=some o->H b=none->b∉ex->H' b=none
 there:∀ b o,h.get? b=some o->b∉ex -> ∃ o',h'.get? b=some o'
 tups:∀ b xs,H b=some (.tup xs)->H' b=some (.tup xs)
 sB:∀ b o u,H b=some (.HL o u)->H' b=some (.HL o u)
 t4:∀ b ps,H b=some (.tbl ps) -> ∃ more,H' b=some (.tbl (ps++more))
section
variable{fs fs' ex ex':List Addr}{H H1 H2:Hp}{h h1 h2 h':Heap}{a x e:Addr}{o:HO}
theorem Un.any(u:Un fs ex H H1 h h1){b:Addr}{ob:Obj}(q:h.get? b=some ob)(n:H b=none)(hx:b∉ex):∃ sl,h1.get? b=some { ob with slots:=sl }:=by
 by_cases hb:b∈fs
 .exact u.slot b ob q n hb hx
 .exact ⟨ob.slots,u.keep b ob q n hb hx⟩
theorem Un.trans(a:Un fs ex H H1 h h1)(b:Un fs ex H1 H2 h1 h2):Un fs ex H H2 h h2 where
 keep:=λc ob q n hc hx=>b.keep c ob (a.keep c ob q n hc hx) (a.free c ob q n hx) hc hx
 slot:=λc ob q n hc hx=>by obtain ⟨sl,e1⟩:=a.slot c ob q n hc hx;obtain ⟨sl',e2⟩:=b.slot c _ e1 (a.free c ob q n hx) hc hx;exact ⟨sl',e2⟩
 free:=λc ob q n hx=>by obtain ⟨o',e1⟩:=a.there c ob q hx;exact b.free c o' e1 (a.free c ob q n hx) hx
 there:=λc ob q hx=>by obtain ⟨o',e1⟩:=a.there c ob q hx;exact b.there c o' e1 hx
 tups:=λc xs q=>b.tups c xs (a.tups c xs q)
 sB:=λc ob xs q=>b.sB c ob xs (a.sB c ob xs q)
 t4:=λc ps q=>by obtain ⟨m1,e1⟩:=a.t4 c ps q;obtain ⟨m2,e2⟩:=b.t4 c _ e1;exact ⟨m1++m2,by rw [e2,Array.append_assoc]⟩
theorem Un.kept(k:∀ b u,h.get? b=some u->h'.get? b=some u):Un fs ex H H h h' :=
 ⟨λb ob q _ _ _=>k b ob q,λb ob q _ _ _=>⟨ob.slots,k b ob q⟩,λ_ _ _ n _=>n,λb ob q _=>⟨ob,k b ob q⟩,λ_ _ q=>q,λ_ _ _ q=>q,λ_ ps q=>⟨#[],by rw [q]; simp⟩⟩
theorem Un.refl:Un fs ex H H h h:=Un.kept λ_ _ q=>q
theorem Un.laid(k:∀ b u,h.get? b=some u->h'.get? b=some u)(hp:h.objs.size<=a)(hn:H a=none):Un fs ex H (upd H a o) h h' where
 keep:=λb u q _ _ _=>k b u q
 slot:=λb u q _ _ _=>⟨u.slots,k b u q⟩
 free:=λb u q n _=>by rw [bQ (ne_of_lt (lt_of_lt_of_le (lt_size q) hp))]; exact n
 there:=λb u q _=>⟨u,k b u q⟩
 tups:=λb xs q=>by rw [bQ (bU q hn)]; exact q
 sB:=λb u xs q=>by rw [bQ (bU q hn)]; exact q
 t4:=λb ps q=>⟨#[],by rw [bQ (bU q hn),q]; simp⟩
theorem Un.write(mu:Mut (H x))(he:e=x\/H e=some (.own x))(k:∀ b u,b≠e->h.get? b=some u->h'.get? b=some u)(heo:∃ u,h'.get? e=some u):Un fs ex H (upd H x o) h h':=by
 have hx:∀ b,H b=none->b≠x:=λb n z=>by subst z; rw [n] at mu; exact mu
 have hb:∀ b,H b=none->b≠e:=λb n z=>by
  subst z;rcases he with r | r
  .exact hx b n r
  .rw [n] at r; cases r
 have hm:∀ b u,H b=some u->¬ Mut (some u)->b≠x:=λb u q nm z=>by subst z; rw [q] at mu; exact nm mu
 refine ⟨λb u q n _ _=>k b u (hb b n) q,λb u q n _ _=>⟨u.slots,k b u (hb b n) q⟩,λb u q n _=>by rw [bQ (hx b n)]; exact n,λb u q _=>?_,
  λb xs q=>by rw [bQ (hm b _ q λz=>z)]; exact q,λb u xs q=>by rw [bQ (hm b _ q λz=>z)]; exact q,λb ps q=>⟨#[],by rw [bQ (hm b _ q λz=>z),q]; simp⟩⟩
 by_cases hbe:b=e
 .subst hbe; exact heo
 .exact ⟨u,k b u hbe q⟩
end
def trk(h:Heap)(H:Hp):List Addr:=(List.range h.objs.size).filter λa=>(H a).isSome
def DI(h:Heap)(H:Hp):Heap:=W.hideAll h (trk h H)
theorem N7(h:Heap)(H:Hp):(DI h H).objs.size=h.objs.size:=W.hideAll_size _ _
theorem TC{h:Heap}{H:Hp}{b:Addr}{o:Obj}(e:h.get? b=some o)(n:H b=none):(DI h H).get? b=some o :=
 W.hideAll_get _ e λhm=>by have q:(H b).isSome=true:=(List.mem_filter.mp hm).2;rw [n] at q; simp at q
theorem YL{h:Heap}{H:Hp}{b:Addr}{o:Obj}(e:(DI h H).get? b=some o):h.get? b=some o/\H b=none:=by
 have e':h.get? b=some o:=W.of_hideAll (trk h H) e;refine ⟨e',?_⟩
 cases q:H b with
 | none=>rfl
 | some x =>
  have hm:b∈trk h H:=List.mem_filter.mpr ⟨List.mem_range.mpr (lt_size e'),by simp [q]⟩;have z:(DI h H).get? b=none:=W.hideAll_none (trk h H) hm;rw [z] at e; cases e
end L2
namespace L2
open PySem PySem.Spec PyProof.Rows
structure Mod (K:W.Frag) (mg:Q0Z) (base:Heap):Prop where
 kin:K.In base
 glob:base.Ns mainGlobals mg
 blt:∃ mb,base.Ns builtinsNs mb /\ ∀ x:Str,x ≠ "__name__" -> mb x=bootBuiltins x
 nolimit:base.NoLimit
structure Cx where
 prog:Program
 w:World
 K:W.Frag
 mg:Str->Option Value
 base:Heap
 A:Around
 N:List Str
 s₀:Shared
 H₀:Hp
 env:Env
 outer:List Env
 stack:List Env
 ex:List Addr
 fn:Str->Bool
 calm:Bool
 pn:List (Addr×Obj)
 xe:Q0Q
def frs(l:List Env):List Addr:=l.filterMap (·.frame)
abbrev Cx.fs(X:Cx):List Addr:=frs X.outer
def EL(sc:Scope)(x:Str):Prop:=sc.names.lookup x=some .local\/sc.names.lookup x=some .cell\/sc.names.lookup x=some .free
def Loc(sc:Scope)(x:Str):Prop:=sc.names.lookup x=some .local\/sc.names.lookup x=some .cell
def Look(env:Env)(h:Heap)(m:Q0Z)(x:Str)(u:Value):Prop :=
 (env.kindOf x=some .local/\m x=some u)\/((env.kindOf x=some .cell\/env.kindOf x=some .free) /\ ∃ c,env.cells.lookup x=some c/\h.IsCell c (some u))
structure Cx.Ok (X:Cx):Prop where
 mod:Mod X.K X.mg X.base
 kind:X.env.scope.kind=.function
 glob:X.env.globals=mainGlobals
 blt:X.env.builtins=builtinsNs
 above:X.s₀.heap.objs.size<=X.env.locals
 inj:∀ x y c,X.env.cells.lookup x=some c->X.env.cells.lookup y=some c->x=y
 has:∀ x,(X.env.kindOf x=some .cell\/X.env.kindOf x=some .free) -> ∃ c,X.env.cells.lookup x=some c
 cab:∀ x c,X.fn x=true->X.env.cells.lookup x=some c->X.s₀.heap.objs.size<=c
 hd:X.calm=true->X.A.handled=none
 frames:X.A.frames=some X.stack
 stk:X.stack=X.outer\/(X.stack=X.env::X.outer/\X.env.frame=some X.env.locals)
 exf:∀ b∈X.ex,b≠X.env.locals /\ ∀ x c,X.env.cells.lookup x=some c->c≠b
 bs:∀ b o,X.base.get? b=some o->X.s₀.heap.get? b=some o/\X.H₀ b=none
 YM:X.base.objs.size<=X.s₀.heap.objs.size
 TD:∀ b o,X.base.get? b=some o->b∉X.ex
 YN:∀ b∈X.ex,b∉X.fs
 vD:X.s₀.heap.FunFrames X.base X.outer
 frf:∀ b∈X.fs,X.H₀ b=none
structure Inv (X:Cx) (pins:List (Addr×Obj)) (U:List (Option V)) (H:Hp) (s:Shared):Prop where
 ok:X.Ok
 os:s.os=X.s₀.os
 bare:AllBare s.gens
 base:Un X.fs X.ex X.H₀ H X.s₀.heap s.heap
 loc:∃ m,s.heap.Ns X.env.locals m /\ ∀ (i:Nat) (x:Str) (v:V),X.N[i]? = some x->U[i]? = some (some v)->EL X.env.scope x -> ∃ u,RelV v u/\Look X.env s.heap m x u
 cell:∀ x c,X.env.cells.lookup x=some c -> ∃ v,s.heap.IsCell c v
 free:H X.env.locals=none
 mI:∀ x c,X.env.cells.lookup x=some c->H c=none
 pin:∀ p∈X.pn++pins,s.heap.get? p.1=some p.2/\H p.1=none/\p.1≠X.env.locals/\p.1∉X.fs /\ ∀ v,p.2.data≠.cell v
 hok:pU X.prog X.w H s.heap
 len:U.length=X.N.length
section
variable{X:Cx}{pins:List (Addr×Obj)}{U:List (Option V)}{H H':Hp}{s:Shared}{h':Heap}
theorem Cx.Ok.aIb(ok:X.Ok){b:Addr}{o:Obj}(e:X.base.get? b=some o):b∉X.fs:=λhb=>by have:=(ok.vD.mem hb).1;rw [e] at this; cases this
theorem Inv.bs(I:Inv X pins U H s):∀ b o,X.base.get? b=some o->s.heap.get? b=some o/\H b=none:=λb o e =>
 ⟨I.base.keep b o (I.ok.bs b o e).1 (I.ok.bs b o e).2 (I.ok.aIb e) (I.ok.TD b o e),I.base.free b o (I.ok.bs b o e).1 (I.ok.bs b o e).2 (I.ok.TD b o e)⟩
theorem Inv.bk(I:Inv X pins U H s):∀ b o,X.base.get? b=some o->s.heap.get? b=some o:=λb o e=>(I.bs b o e).1
theorem Inv.mod(I:Inv X pins U H s):Mod X.K X.mg X.base:=I.ok.mod
theorem Inv.zH(I:Inv X pins U H s):X.K.In s.heap:=I.ok.mod.kin.keeps I.bk
theorem Inv.fr(I:Inv X pins U H s):∃ m,Fr X.base X.env.locals s.heap m :=
 let ⟨m,hn,_⟩:=I.loc
 ⟨m,hn,I.bk,le_trans I.ok.YM I.ok.above⟩
theorem Inv.lt(I:Inv X pins U H s):X.env.locals<s.heap.objs.size:=let ⟨_,hn,_⟩:=I.loc; hn.lt
theorem Inv.sz(I:Inv X pins U H s):X.s₀.heap.objs.size<=s.heap.objs.size:=le_trans I.ok.above (Nat.le_of_lt I.lt)
theorem Inv.aIc(I:Inv X pins U H s){a:Addr}(h:s.heap.objs.size<=a):a∉X.fs:=λhb=>by obtain ⟨_,o,ho,_⟩:=I.ok.vD.mem hb;exact absurd (lt_of_lt_of_le (lt_size ho) (le_trans I.sz h)) (lt_irrefl _)
theorem Inv.cne(I:Inv X pins U H s):∀ x c,X.env.cells.lookup x=some c->c≠X.env.locals:=λx c e z=>by obtain ⟨v,o,ho,hd⟩:=I.cell x c e;obtain ⟨m,⟨o',es,ep,ho',hd',_⟩,_⟩:=I.loc;rw [z,ho'] at ho; cases ho; rw [hd'] at hd; cases hd
theorem Inv.vD(I:Inv X pins U H s):s.heap.FunFrames X.base X.outer:=by
 have all:∀ (l:List Env),(∀ b∈frs l,b∈X.fs)->X.s₀.heap.FunFrames X.base l->s.heap.FunFrames X.base l:=by
  intro l
  induction l with
  | nil=>intro _ _; trivial
  | cons env r ih =>
   intro hs hl;obtain ⟨hk,⟨L,o,hf,hn,ho,hd⟩,hr⟩:=hl;have hL:L∈X.fs:=hs L (by unfold frs; rw [filterMap_cons,hf]; exact mem_cons_self);obtain ⟨sl,e⟩:=I.base.slot L o ho (I.ok.frf L hL) hL λz=>I.ok.YN L z hL;exact ⟨hk,⟨L,_,hf,hn,e,hd⟩,ih (λb hb=>hs b (by unfold frs; rw [filterMap_cons,hf]; exact mem_cons_of_mem _ hb)) hr⟩
 exact all X.outer (λ_ hb=>hb) I.ok.vD
theorem Inv.stack(I:Inv X pins U H s):s.heap.FunFrames X.base X.stack:=by
 rcases I.ok.stk with e | ⟨e,hf⟩
 .rw [e]; exact I.vD
 .rw [e];obtain ⟨m,hn,_⟩:=I.loc;refine .cons (by rw [I.ok.kind]; decide) hf hn ?_ I.vD;exact Heap.get?_none_of_le (le_trans I.ok.YM I.ok.above)
theorem Inv.qO(I:Inv X pins U H s):∀ b∈frs X.stack,b∈X.env.locals::X.fs:=λb hb=>by
 rcases I.ok.stk with e | ⟨e,hf⟩
 .rw [e] at hb; exact mem_cons_of_mem _ hb
 .rw [e] at hb;unfold frs at hb;rw [filterMap_cons,hf] at hb;exact hb
theorem Inv.DJ(I:Inv X pins U H s):∀ b∈frs X.stack,H b=none:=λb hb=>by
 rcases List.mem_cons.mp (I.qO b hb) with e | hb
 .rw [e]; exact I.free
 .obtain ⟨_,o,ho,_⟩:=I.ok.vD.mem hb;exact I.base.free b o ho (I.ok.frf b hb) λz=>I.ok.YN b z hb
theorem Inv.step{g':Array GenState}{t':Nat}{d':Drawn}{ch:List Addr}(I:Inv X pins U H s)
  (hch:∀ b∈ch,(b∈X.ex\/X.s₀.heap.objs.size<=b)/\b≠X.env.locals/\(∀ x c,X.env.cells.lookup x=some c->c≠b) /\ ∀ p∈X.pn++pins,p.1≠b)
  (keep:∀ b o,b≠X.env.locals->b∉X.fs->b∉ch->s.heap.get? b=some o->H b=none->h'.get? b=some o)
  (slot:∀ b o,b≠X.env.locals->b∈X.fs->b∉ch->s.heap.get? b=some o->H b=none -> ∃ sl,h'.get? b=some { o with slots:=sl }) (free:∀ b o,b∉ch->s.heap.get? b=some o->H b=none->H' b=none)
  (there:∀ b o,b∉ch->s.heap.get? b=some o -> ∃ o',h'.get? b=some o')
  (tups:∀ b xs,H b=some (.tup xs)->H' b=some (.tup xs)) (sB:∀ b o u,H b=some (.HL o u)->H' b=some (.HL o u)) (t4:∀ b ps,H b=some (.tbl ps) -> ∃ more,H' b=some (.tbl (ps++more)))
  (ns:∀ m,s.heap.Ns X.env.locals m->h'.Ns X.env.locals m) (hok:pU X.prog X.w H' h') (hg:AllBare g') :
  Inv X pins U H' { s with heap:=h',gens:=g',drawn:=d',toks:=t' }:=by
 have neL:∀ b o,X.s₀.heap.get? b=some o->b≠X.env.locals:=λb o e=>ne_of_lt (lt_of_lt_of_le (lt_size e) I.ok.above);have neC:∀ b o,X.s₀.heap.get? b=some o->b∉X.ex->b∉ch:=λb o e hx hb=>by
  rcases (hch b hb).1 with z | z
  .exact hx z
  .exact absurd (lt_of_lt_of_le (lt_size e) z) (lt_irrefl _)
 have cellK:∀ x c,X.env.cells.lookup x=some c -> ∀ v,s.heap.IsCell c v->h'.IsCell c v:=λx c e v hq0=>by
  obtain ⟨o,ho,hd⟩:=hq0;have nch:c∉ch:=λz=>(hch c z).2.2.1 x c e rfl;by_cases hc:c∈X.fs
  .obtain ⟨sl,q⟩:=slot c o (I.cne x c e) hc nch ho (I.mI x c e);exact ⟨_,q,hd⟩
  .exact ⟨o,keep c o (I.cne x c e) hc nch ho (I.mI x c e),hd⟩
 refine ⟨I.ok,I.os,hg,⟨λb o e n hb hx=>?_,λb o e n hb hx=>?_,λb o e n hx=>?_,λb o e hx=>?_,λb xs e=>tups b xs (I.base.tups b xs e),λb o xs e=>sB b o xs (I.base.sB b o xs e),λb ps e=>?_⟩,?_,λx c e=>?_,?_,λx c e=>?_,λp hp=>?_,hok,I.len⟩
 .exact keep b o (neL b o e) hb (neC b o e hx) (I.base.keep b o e n hb hx) (I.base.free b o e n hx)
 .obtain ⟨sl,e1⟩:=I.base.slot b o e n hb hx;obtain ⟨sl',e2⟩:=slot b _ (neL b o e) hb (neC b o e hx) e1 (I.base.free b o e n hx);exact ⟨sl',e2⟩
 .obtain ⟨o',e1⟩:=I.base.there b o e hx;exact free b o' (neC b o e hx) e1 (I.base.free b o e n hx)
 .obtain ⟨o',e1⟩:=I.base.there b o e hx;exact there b o' (neC b o e hx) e1
 .obtain ⟨m1,e1⟩:=I.base.t4 b ps e;obtain ⟨m2,e2⟩:=t4 b _ e1;exact ⟨m1++m2,by rw [e2,Array.append_assoc]⟩
 .obtain ⟨m,hn,hl⟩:=I.loc;refine ⟨m,ns m hn,λi x v e1 e2 e3=>?_⟩;obtain ⟨u,r,l⟩:=hl i x v e1 e2 e3;refine ⟨u,r,?_⟩;rcases l with l | ⟨k,c,e,z⟩
  .exact .inl l
  .exact .inr ⟨k,c,e,cellK x c e _ z⟩
 .obtain ⟨v,z⟩:=I.cell x c e;exact ⟨v,cellK x c e v z⟩
 .obtain ⟨m,⟨o,_,_,ho,_⟩,_⟩:=I.loc;exact free _ o (λz=>(hch _ z).2.1 rfl) ho I.free
 .obtain ⟨v,o,ho,hd⟩:=I.cell x c e;exact free c o (λz=>(hch c z).2.2.1 x c e rfl) ho (I.mI x c e)
 .obtain ⟨e,n,ne,nf,d⟩:=I.pin p hp;have nch:p.1∉ch:=λz=>(hch p.1 z).2.2.2 p hp rfl;exact ⟨keep p.1 p.2 ne nf nch e n,free p.1 p.2 nch e n,ne,nf,d⟩
theorem Inv.un{t':Nat}(I:Inv X pins U H s)(u:Un X.fs [] H H' s.heap h')(hok:pU X.prog X.w H' h'):Inv X pins U H' { s with heap:=h',toks:=t' }:=by
 obtain ⟨m,⟨o,es,ep,ho,r⟩,_⟩:=id I.loc;obtain ⟨sl,hL⟩:=u.any ho I.free (by simp);exact I.step (g':=s.gens) (d':=s.drawn) (ch:=[]) (λ_ z=>nomatch z) (λb o _ hb _ e n=>u.keep b o e n hb (by simp)) (λb o _ hb _ e n=>u.slot b o e n hb (by simp)) (λb o _ e n=>u.free b o e n (by simp)) (λb o _ e=>u.there b o e (by simp)) u.tups u.sB u.t4 (λm' hm=>by obtain ⟨o',es',ep',ho',r'⟩:=hm;rw [ho] at ho'; cases ho';exact ⟨_,es',ep',hL,r'⟩) hok I.bare
theorem Inv.call{g':Array GenState}{t':Nat}{d':Drawn}{ch:List Addr}(I:Inv X pins U H s)(u:Un (frs X.stack) ch H H' s.heap h')(hok:pU X.prog X.w H' h')(hg:AllBare g')
  (hch:∀ b∈ch,(b∈X.ex\/X.s₀.heap.objs.size<=b)/\b≠X.env.locals/\(∀ x c,X.env.cells.lookup x=some c->c≠b) /\ ∀ p∈X.pn++pins,p.1≠b) :
  Inv X pins U H' { s with heap:=h',gens:=g',drawn:=d',toks:=t' }:=by
 obtain ⟨m,⟨o,es,ep,ho,r⟩,_⟩:=id I.loc;obtain ⟨sl,hL⟩:=u.any ho I.free λz=>(hch _ z).2.1 rfl;exact I.step (ch:=ch) hch (λb o hL hb hc e n=>u.keep b o e n (λz=>(List.mem_cons.mp (I.qO b z)).elim hL hb) hc) (λb o _ _ hc e n=>u.any e n hc) (λb o hc e n=>u.free b o e n hc) (λb o hc e=>u.there b o e hc) u.tups u.sB u.t4 (λm' hm=>by obtain ⟨o',es',ep',ho',r'⟩:=hm;rw [ho] at ho'; cases ho';exact ⟨_,es',ep',hL,r'⟩) hok hg
theorem Inv.turned{t':Nat}{it:Addr}(I:Inv X pins U H s)(k:∀ b o,b≠it->s.heap.get? b=some o->h'.get? b=some o)(hn:H it=none)(hL:it≠X.env.locals)
  (h1:it∈X.ex\/X.s₀.heap.objs.size<=it) (h2:∀ x c,X.env.cells.lookup x=some c->c≠it) (h3:∀ p∈X.pn++pins,p.1≠it):Inv X pins U H { s with heap:=h',toks:=t' }:=by
 have nit:∀ b u,H b=some u->b≠it:=λb u e z=>by rw [z,hn] at e; cases e
 refine I.step (g':=s.gens) (d':=s.drawn) (ch:=[it]) (λb hb=>?_) (λb o _ _ hc e _=>k b o (λz=>hc (by simp [z])) e) (λb o _ _ hc e _=>⟨o.slots,k b o (λz=>hc (by simp [z])) e⟩) (λ_ _ _ _ n=>n)
  (λb o hc e=>⟨o,k b o (λz=>hc (by simp [z])) e⟩) (λ_ _ e=>e) (λ_ _ _ e=>e) (λb ps e=>⟨#[],by rw [e]; simp⟩) (λm hm=>?_) (λb u e=>?_) I.bare
 .have e:b=it:=by simpa using hb
  subst e;exact ⟨h1,hL,h2,h3⟩
 .obtain ⟨o,es,ep,ho,r⟩:=hm;exact ⟨o,es,ep,k _ o (Ne.symm hL) ho,r⟩
 .refine (I.hok b u e).stay (λc v hc q=>k c v ?_ q) (λ_ q=>q) λ_ _ q=>q;rcases hc with z | z
  .rw [z]; exact nit b u e
  .exact nit c _ z
theorem Inv.tok(I:Inv X pins U H s)(t:Nat):Inv X pins U H { s with toks:=t }:=I.un (h':=s.heap) (t':=t) Un.refl I.hok
theorem Inv.kept{t':Nat}(I:Inv X pins U H s)(k:∀ b u,s.heap.get? b=some u->h'.get? b=some u):Inv X pins U H { s with heap:=h',toks:=t' }:=I.un (Un.kept k) (I.hok.kept k)
theorem Inv.laid{a:Addr}{o:HO}{t':Nat}(I:Inv X pins U H s)(k:∀ b u,s.heap.get? b=some u->h'.get? b=some u)(hp:s.heap.objs.size<=a)(new:eA X.prog X.w (upd H a o) h' a o) :
  Inv X pins U (upd H a o) { s with heap:=h',toks:=t' }:=I.un (Un.laid k hp (I.hok.fresh hp)) (I.hok.laid k hp new)
theorem Inv.write{x e:Addr}{o:HO}{t':Nat}(I:Inv X pins U H s)(mu:Mut (H x))(he:e=x\/H e=some (.own x))(k:∀ b u,b≠e->s.heap.get? b=some u->h'.get? b=some u)(heo:∃ u,h'.get? e=some u)
  (new:eA X.prog X.w (upd H x o) h' x o):Inv X pins U (upd H x o) { s with heap:=h',toks:=t' }:=I.un (Un.write mu he k heo) (I.hok.write mu he k heo new)
theorem Inv.weak{σ':List (Option V)}(I:Inv X pins U H s)(hl:σ'.length=U.length)(w:∀ (i:Nat) v,σ'[i]? = some (some v)->U[i]? = some (some v)):Inv X pins σ' H s :=
 ⟨I.ok,I.os,I.bare,I.base,let ⟨m,hn,hl'⟩:=I.loc; ⟨m,hn,λi x v e1 e2 e3=>hl' i x v e1 (w i v e2) e3⟩,I.cell,I.free,I.mI,I.pin,I.hok,hl.trans I.len⟩
theorem Inv.LY{LZ:List (Addr×Obj)}(I:Inv X pins U H s)(h:∀ p∈LZ,s.heap.get? p.1=some p.2/\H p.1=none/\p.1≠X.env.locals/\p.1∉X.fs /\ ∀ v,p.2.data≠.cell v):Inv X LZ U H s :=
 ⟨I.ok,I.os,I.bare,I.base,I.loc,I.cell,I.free,I.mI,λp hp=>(List.mem_append.mp hp).elim (λz=>I.pin p (mem_append_left _ z)) (h p),I.hok,I.len⟩
theorem FQ{N:List Str}(hN:N.Nodup){i j:Nat}{x:Str}(a:N[i]? = some x)(b:N[j]? = some x):i=j:=by obtain ⟨h1,e1⟩:=List.getElem?_eq_some_iff.mp a;obtain ⟨h2,e2⟩:=List.getElem?_eq_some_iff.mp b;exact (List.getElem_inj hN).mp (e1.trans e2.symm)
theorem BH{M:Model}{A:Around}{E:Q0Q}{i:Nat}{x:Str}{v:V}{u:Value}{Q:Unit->Shared->Prop}(I:Inv X pins U H s)(hN:X.N.Nodup)(hi:X.N[i]? = some x)(hx:Loc X.env.scope x)(r:RelV v u)
  (h:∀ s',Inv X pins (U.set i (some v)) H s'->(∃ a,Heap.SameBut a s.heap s'.heap/\(a=X.env.locals\/X.env.cells.lookup x=some a))->Q () s') (hf:X.fn x=true\/X.env.scope.names.lookup x=some .local:=by first | exact .inl rfl | exact .inr rfl | assumption):wpAny M A (storeName X.env x u) Q E s:=by
 obtain ⟨m,hn,hl⟩:=id I.loc;have hcls:(X.env.scope.kind == .class||(X.env.scope.kind == .module&&X.env.locals != X.env.globals))=false:=by rw [I.ok.kind]; rfl
 have hiσ:i<U.length:=by rw [I.len]; exact (List.getElem?_eq_some_iff.mp hi).1
 have cne:=I.cne;have tracked:∀ {a:Addr} {h':Heap},(∃ o,s.heap.get? a=some o/\H a=none)->Heap.SameBut a s.heap h'->pU X.prog X.w H h':=λ{a h'} ha hs b ob e=>by
  obtain ⟨_,_,hfree⟩:=ha;refine (I.hok b ob e).stay (λc w' hc q=>(hs.2 c ?_).trans q) (λ_ q=>q) λ_ _ q=>q;rintro rfl;rcases hc with rfl | hc
  .rw [hfree] at e; cases e
  .rw [hfree] at hc; cases hc
 rcases hx with hk | hk
 .refine wpAny_storeName_local hk hn (λh' hn' hs=>?_) hcls;obtain ⟨oL,_,_,hoL,_⟩:=id hn;refine h _ ⟨I.ok,I.os,I.bare,⟨λb o e n hb hx=>?_,λb o e n hb hx=>?_,I.base.free,λb o e hx=>?_,I.base.tups,I.base.sB,I.base.t4⟩,⟨_,hn',λj y v' e1 e2 e3=>?_⟩,λy c e=>?_,I.free,I.mI,λp hp=>?_,tracked ⟨oL,hoL,I.free⟩ hs,by simpa using I.len⟩ ⟨_,hs,.inl rfl⟩
  .exact (hs.2 b (ne_of_lt (lt_of_lt_of_le (lt_size e) I.ok.above))).trans (I.base.keep b o e n hb hx)
  .obtain ⟨sl,e1⟩:=I.base.slot b o e n hb hx;exact ⟨sl,(hs.2 b (ne_of_lt (lt_of_lt_of_le (lt_size e) I.ok.above))).trans e1⟩
  .obtain ⟨o',e1⟩:=I.base.there b o e hx;exact ⟨o',(hs.2 b (ne_of_lt (lt_of_lt_of_le (lt_size e) I.ok.above))).trans e1⟩
  .by_cases hj:j=i
   .subst hj;rw [hi] at e1; cases e1;rw [getElem?_set_self hiσ] at e2;cases e2;exact ⟨u,r,.inl ⟨hk,by simp⟩⟩
   .rw [getElem?_set_ne (Ne.symm hj)] at e2;obtain ⟨u',r',q⟩:=hl j y v' e1 e2 e3;refine ⟨u',r',?_⟩;rcases q with ⟨k,e⟩ | ⟨k,c,e,z⟩
    .refine .inl ⟨k,?_⟩;have:y≠x:=λe=>hj (FQ hN e1 (e▸hi));simp [this,e]
    .exact .inr ⟨k,c,e,z.sameBut hs (cne y c e)⟩
  .obtain ⟨w',z⟩:=I.cell y c e;exact ⟨w',z.sameBut hs (cne y c e)⟩
  .obtain ⟨e,n,ne,nf,d⟩:=I.pin p hp;exact ⟨(hs.2 p.1 ne).trans e,n,ne,nf,d⟩
 .have hfn:X.fn x=true:=by
   rcases hf with z | z
   .exact z
   .rw [z] at hk; cases hk
  obtain ⟨c,hc⟩:=I.ok.has x (.inl hk);obtain ⟨w',z⟩:=I.cell x c hc;refine wpAny_storeName_cell I.ok.kind hk hc z (λh' hc' hs=>?_);obtain ⟨oc,hoc,aIe⟩:=id z;refine h { s with heap:=h' } ⟨I.ok,I.os,I.bare,⟨λb o e n hb hx=>?_,λb o e n hb hx=>?_,I.base.free,λb o e hx=>?_,I.base.tups,I.base.sB,I.base.t4⟩,⟨m,hn.sameBut hs (Ne.symm (cne x c hc)),λj y v' e1 e2 e3=>?_⟩,λy c' e=>?_,I.free,I.mI,λp hp=>?_,tracked ⟨oc,hoc,I.mI x c hc⟩ hs,by simpa using I.len⟩ ⟨c,hs,.inr hc⟩
  .exact (hs.2 b (ne_of_lt (lt_of_lt_of_le (lt_size e) (I.ok.cab x c hfn hc)))).trans (I.base.keep b o e n hb hx)
  .obtain ⟨sl,e1⟩:=I.base.slot b o e n hb hx;exact ⟨sl,(hs.2 b (ne_of_lt (lt_of_lt_of_le (lt_size e) (I.ok.cab x c hfn hc)))).trans e1⟩
  .obtain ⟨o',e1⟩:=I.base.there b o e hx;exact ⟨o',(hs.2 b (ne_of_lt (lt_of_lt_of_le (lt_size e) (I.ok.cab x c hfn hc)))).trans e1⟩
  .by_cases hj:j=i
   .subst hj;rw [hi] at e1; cases e1;rw [getElem?_set_self hiσ] at e2;cases e2;exact ⟨u,r,.inr ⟨.inl hk,c,hc,hc'⟩⟩
   .rw [getElem?_set_ne (Ne.symm hj)] at e2;obtain ⟨u',r',q⟩:=hl j y v' e1 e2 e3;refine ⟨u',r',?_⟩;rcases q with q | ⟨k,c',e,z'⟩
    .exact .inl q
    .refine .inr ⟨k,c',e,z'.sameBut hs ?_⟩;rintro rfl;exact hj (FQ hN e1 (I.ok.inj _ _ _ e hc▸hi))
  .by_cases hcc:c' = c
   .subst hcc; exact ⟨_,hc'⟩
   .obtain ⟨w2,z2⟩:=I.cell y c' e;exact ⟨w2,z2.sameBut hs hcc⟩
  .obtain ⟨e,n,ne,nf,d⟩:=I.pin p hp;refine ⟨(hs.2 p.1 ?_).trans e,n,ne,nf,d⟩;intro q;rw [q,hoc] at e;have q':oc=p.2:=Option.some.inj e;exact d w' (by rw [<- q']; exact aIe)
theorem sC{M:Model}{A:Around}{E:Q0Q}{i:Nat}{x:Str}{v:V}{u:Value}{Q:Unit->Shared->Prop}(I:Inv X pins U H s)(hN:X.N.Nodup)(hi:X.N[i]? = some x)(hx:Loc X.env.scope x)(r:RelV v u)
  (h:∀ s',Inv X pins (U.set i (some v)) H s'->Q () s') (hf:X.fn x=true\/X.env.scope.names.lookup x=some .local:=by first | exact .inl rfl | exact .inr rfl | assumption):wpAny M A (storeName X.env x u) Q E s :=
 BH I hN hi hx r (λs' I' _=>h s' I') hf
theorem Inv.call'{s':Shared}{ch:List Addr}(I:Inv X pins U H s)(ho:s'.os=s.os)(u:Un (frs X.stack) ch H H' s.heap s'.heap)(hok:pU X.prog X.w H' s'.heap)(hg:AllBare s'.gens)
  (hch:∀ b∈ch,(b∈X.ex\/X.s₀.heap.objs.size<=b)/\b≠X.env.locals/\(∀ x c,X.env.cells.lookup x=some c->c≠b) /\ ∀ p∈X.pn++pins,p.1≠b):Inv X pins U H' s':=by
 obtain ⟨h',g',d',t',o'⟩:=s';have e:o' = s.os:=ho;subst e;exact I.call (g':=g') (t':=t') (d':=d') u hok hg hch
end
abbrev XK:=Value->Option Addr->Hp->Prop
abbrev St:=List (Option V)
abbrev VK:=V->Hp->Prop
abbrev TE:=St->Hp->VK->Prop
abbrev TT:=St->Hp->(Bool->Hp->Prop)->Prop
abbrev TA:=St->Hp->(List V->Hp->Prop)->Prop
structure Ends where
 nx:St->Hp->Prop
 rt:VK
 bk:St->Hp->Prop:=λ_ _=>False
 ct:St->Hp->Prop:=λ_ _=>False
abbrev TS:=Ends->St->Hp->Prop
def EP(X:Cx)(pins:List (Addr×Obj))(U:St)(Q:VK)(u:Value)(s':Shared):Prop:=∃ v H',Inv X pins U H' s'/\RelV v u/\Q v H'
def TP(X:Cx)(pins:List (Addr×Obj))(U:St)(Q:Bool->Hp->Prop)(b:Bool)(s':Shared):Prop:=∃ H',Inv X pins U H' s'/\Q b H'
def AP(X:Cx)(pins:List (Addr×Obj))(U:St)(Q:List V->Hp->Prop)(us:List Value)(s':Shared):Prop:=∃ vs H',Inv X pins U H' s'/\Vals vs us/\Q vs H'
def SP(X:Cx)(pins:List (Addr×Obj))(D:Ends)(f:Flow)(s':Shared):Prop :=
 match f with
 | .next=>∃ σ' H',Inv X pins σ' H' s'/\D.nx σ' H'
 | .brk=>∃ σ' H',Inv X pins σ' H' s'/\D.bk σ' H'
 | .cont=>∃ σ' H',Inv X pins σ' H' s'/\D.ct σ' H'
 | .ret u=>∃ v σ' H',Inv X pins σ' H' s'/\RelV v u/\D.rt v H'
def PE(X:Cx)(e:Expr)(t:TE):Prop :=
 ∀ (pins:List (Addr×Obj)) (s:Shared) (U:St) (H:Hp) (Q:VK),Inv X pins U H s->t U H Q->wpAny (model X.prog X.w) X.A (eval e X.env) (EP X pins U Q) X.xe s
def PT(X:Cx)(e:Expr)(t:TT):Prop :=
 ∀ (pins:List (Addr×Obj)) (s:Shared) (U:St) (H:Hp) (Q:Bool->Hp->Prop),Inv X pins U H s->t U H Q->wpAny (model X.prog X.w) X.A (isTrue e X.env (eval e X.env)) (TP X pins U Q) X.xe s
def PW(X:Cx)(e:Expr)(t:TT):Prop :=
 ∀ (whole:Sem Value) (pins:List (Addr×Obj)) (s:Shared) (U:St) (H:Hp) (Q:Bool->Hp->Prop),Inv X pins U H s->t U H Q->wpAny (model X.prog X.w) X.A (isTrue e X.env whole) (TP X pins U Q) X.xe s
theorem PW.pt{X:Cx}{e:Expr}{t:TT}(h:PW X e t):PT X e t:=h _
def PA(X:Cx)(es:List Expr)(t:TA):Prop :=
 ∀ (pos:Pos) (pins:List (Addr×Obj)) (s:Shared) (U:St) (H:Hp) (Q:List V->Hp->Prop),Inv X pins U H s->t U H Q->wpAny (model X.prog X.w) X.A (spliced (backTo pos (starEach es X.env))) (AP X pins U Q) X.xe s
def PS(X:Cx)(st:Stmt)(t:TS):Prop :=
 ∀ (pins:List (Addr×Obj)) (s:Shared) (U:St) (H:Hp) (D:Ends),Inv X pins U H s->t D U H->wpAny (model X.prog X.w) X.A (exec st X.env) (SP X pins D) X.xe s
def HM(X:Cx)(st:List Stmt)(t:TS):Prop :=
 ∀ (pins:List (Addr×Obj)) (s:Shared) (U:St) (H:Hp) (D:Ends),Inv X pins U H s->t D U H->wpAny (model X.prog X.w) X.A (execs st X.env) (SP X pins D) X.xe s
theorem dN{α:Type}{t:Sem α}{Q Q':α->Shared->Prop}{M:Model}{A:Around}{E:Q0Q}{s:Shared}(h:wpAny M A t Q E s)(hQ:∀ a s,Q a s->Q' a s):wpAny M A t Q' E s:=wpAny_mono h hQ λ_ _ x=>x
end L2
namespace L2
open PySem PySem.Spec PyProof.Rows
section
variable{X:Cx}
def aBh(i:Nat):TE:=λU H Q=>∃ v,U[i]? = some (some v)/\Q v H
def tC(v:V):TE:=λ_ H Q=>Q v H
theorem t5{i:Nat}{x:Str}{pos:Pos}(hN:X.N[i]? = some x)(hv:EL X.env.scope x)(hd:(x == ("__debug__" : Str))=false:=by decide)(hcd:(x == ("__classdict__" : Str))=false:=by decide):PE X (.Name x pos) (aBh i):=by
 intro pins s U H Q I h;obtain ⟨v,e,h⟩:=h;obtain ⟨m,hn,hl⟩:=I.loc;obtain ⟨u,r,l⟩:=hl i x v hN e hv;have fin:EP X pins U Q u s:=⟨v,H,I,r,h⟩;rcases l with ⟨hk,hm⟩ | ⟨hk,c,hc,hcell⟩
 .exact wpAny_Name (wpAny_loadName_local I.ok.kind hk hn hm fin) hd
 .rcases hk with hk | hk
  .exact wpAny_Name (wpAny_loadName_cell I.ok.kind hk hc hcell fin) hd
  .exact wpAny_Name (wpAny_loadName_free I.ok.kind hk hc hcell fin hcd) hd
theorem aBi{i j pos}:PE X (.Constant (.int i) j pos) (tC (.int i)):=λ_ _ _ H _ I h=>wpAny_Constant_int ⟨.int i,H,I.tok _,⟨_,rfl⟩,h⟩
theorem aEM{b j pos}:PE X (.Constant (.bool b) j pos) (tC (.bl b)):=λ_ _ _ H _ I h=>Constant_bool ⟨.bl b,H,I,rfl,h⟩
theorem aBj{x j pos}:PE X (.Constant (.str x) j pos) (tC (.str x)):=λ_ _ _ H _ I h=>Calls.Constant_str ⟨.str x,H,I.tok _,⟨_,rfl⟩,h⟩
def Gl(X:Cx)(x:Str):Prop:=X.env.kindOf x=some .globalImplicit
theorem DK{E:Q0Q}{pins:List (Addr×Obj)}{s:Shared}{U:St}{H:Hp}{x:Str}{u:Value}{pos:Pos}{Q:Q0Q}(I:Inv X pins U H s)(hg:Gl X x)(hm:X.mg x=some u)(h:Q u s)
  (hd:(x == ("__debug__" : Str))=false:=by decide):wpAny (model X.prog X.w) X.A (eval (.Name x pos) X.env) Q E s :=
 Calls.Name_function_global I.ok.kind hg (Calls.loadGlobal_global (by rw [I.ok.glob]; exact I.mod.glob.keeps I.bk) hm h) hd
theorem qP{E:Q0Q}{pins:List (Addr×Obj)}{s:Shared}{U:St}{H:Hp}{x:Str}{u:Value}{pos:Pos}{Q:Q0Q}(I:Inv X pins U H s)(hg:Gl X x)(hm:X.mg x=none)(hv:bootBuiltins x=some u)(h:Q u s)
  (hn:x ≠ "__name__" := by decide) (hd:(x == ("__debug__" : Str))=false:=by decide):wpAny (model X.prog X.w) X.A (eval (.Name x pos) X.env) Q E s:=by
 obtain ⟨mb,h1,h2⟩:=I.mod.blt;exact Calls.Name_function_global I.ok.kind hg (Calls.loadGlobal_builtin (by rw [I.ok.glob]; exact I.mod.glob.keeps I.bk) hm (by rw [I.ok.blt]; exact h1.keeps I.bk) ((h2 x hn).trans hv) h) hd
theorem YO{x:Str}{v:V}{u:Value}{pos:Pos}(hg:Gl X x)(hm:X.mg x=some u)(r:RelV v u)(hd:(x == ("__debug__" : Str))=false:=by decide):PE X (.Name x pos) (tC v) :=
 λ_ _ _ H _ I h=>DK I hg hm ⟨v,H,I,r,h⟩ hd
theorem YQ{x:Str}{v:V}{u:Value}{pos:Pos}(hg:Gl X x)(hm:X.mg x=none)(hv:bootBuiltins x=some u)(r:RelV v u)(hn:x ≠ "__name__" := by decide)(hd:(x == ("__debug__" : Str))=false:=by decide):PE X (.Name x pos) (tC v) :=
 λ_ _ _ H _ I h=>qP I hg hm hv ⟨v,H,I,r,h⟩ hn hd
variable{a b:Expr}{ta tb:TE}{pos:Pos}
def PC(X:Cx)(op:CmpOp)(a b:Expr)(t:TE):Prop :=
 ∀ (pins:List (Addr×Obj)) (s:Shared) (U:St) (H:Hp) (Q:VK),Inv X pins U H s->t U H Q ->
  wpAny (model X.prog X.w) X.A (eval a X.env) (λv s₁=>wpAny (model X.prog X.w) X.A (eval b X.env) (λu s₂=>wpAny (model X.prog X.w) X.A (compareOp op v u) (EP X pins U Q) X.xe s₂) X.xe s₁) X.xe s
def tB(t:TE):TT:=λU H Q=>t U H λx H1=>∃ c,x=.bl c/\Q c H1
theorem TH{op:CmpOp}{t:TE}(h:PC X op a b t)(h1:behindInMarks op b=false:=by first | exact aEN _ (by decide) (by decide) | rfl):PT X (.Compare a [op] [b] pos) (tB t):=by intro pins s U H Q I hw;refine wpAny_isTrue_Compare1 (dN (h pins s U H _ I hw) λv s1 h1=>dN h1 λu s2 h2=>dN h2 λc s3 ⟨x,H1,I1,r1,q1⟩=>?_) h1;obtain ⟨d,rfl,q⟩:=q1;cases r1;exact wpAny_truthy_bool ⟨H1,I1,q⟩
variable{tA tB':TT}{rest:List Expr}
def kX(t u:TT):TT:=λU H Q=>t U H λc H1=>if c=true then u U H1 Q else Q false H1
def u4(t u:TT):TT:=λU H Q=>t U H λc H1=>if c=true then Q true H1 else u U H1 Q
def hZ(t:TT):TT:=λU H Q=>t U H λc H1=>Q (!c) H1
theorem YR(ha:PT X a tA):PW X (.BoolOp .And [a] pos) tA:=by
 intro wh pins s U H Q I h;refine isTrue_and (dN (ha pins s U H Q I h) λc s1 e=>?_)
 cases c with
 | true=>exact isTrue_and_nil e
 | false=>exact e
theorem aBk(ha:PT X a tA):PW X (.BoolOp .Or [a] pos) tA:=by
 intro wh pins s U H Q I h;refine isTrue_or (dN (ha pins s U H Q I h) λc s1 e=>?_)
 cases c with
 | false=>exact isTrue_or_nil e
 | true=>exact e
theorem aBl(ha:PT X a tA)(hb:PW X (.BoolOp .And (b::rest) pos) tB'):PW X (.BoolOp .And (a::b::rest) pos) (kX tA tB'):=by
 intro wh pins s U H Q I h;refine isTrue_and (dN (ha pins s U H _ I h) λc s1 ⟨H1,I1,q1⟩=>?_)
 cases c with
 | true=>exact hb wh pins s1 U H1 Q I1 q1
 | false=>exact ⟨H1,I1,q1⟩
theorem aEO(ha:PT X a tA)(hb:PW X (.BoolOp .Or (b::rest) pos) tB'):PW X (.BoolOp .Or (a::b::rest) pos) (u4 tA tB'):=by
 intro wh pins s U H Q I h;refine isTrue_or (dN (ha pins s U H _ I h) λc s1 ⟨H1,I1,q1⟩=>?_)
 cases c with
 | true=>exact ⟨H1,I1,q1⟩
 | false=>exact hb wh pins s1 U H1 Q I1 q1
theorem aBm(ha:PT X a tA):PT X (.UnaryOp .Not a pos) (hZ tA):=by intro pins s U H Q I h;exact isTrue_not (ha pins s U H (λc H1=>Q (!c) H1) I h)
def aEP(ta tb:TE):TE:=λU H Q=>ta U H λx H1=>∃ c,x=.bl c/\if c=true then tb U H1 Q else Q (.bl false) H1
def aIf(ta tb:TE):TE:=λU H Q=>ta U H λx H1=>∃ c,x=.bl c/\if c=true then Q (.bl true) H1 else tb U H1 Q
theorem aBn{op}{t:TE}(h:PE X a t):PE X (.BoolOp op [a] pos) t:=λpins s U H Q I hw=>BoolOp_one (h pins s U H Q I hw)
theorem aBo(ha:PE X a ta)(hb:PE X (.BoolOp .And (b::rest) pos) tb):PE X (.BoolOp .And (a::b::rest) pos) (aEP ta tb):=by
 intro pins s U H Q I h;refine BoolOp_and (dN (ha pins s U H _ I h) λv s1 ⟨x,H1,I1,r1,q1⟩=>?_);obtain ⟨c,rfl,q1⟩:=q1;cases r1;refine wpAny_truthy_bool ?_
 cases c with
 | true=>exact hb pins s1 U H1 Q I1 q1
 | false=>exact ⟨.bl false,H1,I1,rfl,q1⟩
theorem aEQ(ha:PE X a ta)(hb:PE X (.BoolOp .Or (b::rest) pos) tb):PE X (.BoolOp .Or (a::b::rest) pos) (aIf ta tb):=by
 intro pins s U H Q I h;refine BoolOp_or (dN (ha pins s U H _ I h) λv s1 ⟨x,H1,I1,r1,q1⟩=>?_);obtain ⟨c,rfl,q1⟩:=q1;cases r1;refine wpAny_truthy_bool ?_
 cases c with
 | false=>exact hb pins s1 U H1 Q I1 q1
 | true=>exact ⟨.bl true,H1,I1,rfl,q1⟩
def tIf(t:TT)(ta tb:TE):TE:=λU H Q=>t U H λc H1=>if c=true then ta U H1 Q else tb U H1 Q
theorem TJ{c:Expr}(hc:PT X c tA)(ha:PE X a ta)(hb:PE X b tb):PE X (.IfExp c a b pos) (tIf tA ta tb):=by
 intro pins s U H Q I h;refine wpAny_IfExp (dN (hc pins s U H _ I h) λd s1 ⟨H1,I1,q1⟩=>?_)
 cases d with
 | true=>exact ha pins s1 U H1 Q I1 q1
 | false=>exact hb pins s1 U H1 Q I1 q1
end
end L2
namespace L2
open PySem PySem.Spec PyProof.Rows
def gH(K:W.Frag)(H:Hp)(a:Addr)(xs:List V):Prop :=
 Rd H a (.lst xs) \/
  ∃ (o:Obj) (its:Array Value) (n:Nat),K.lookup a=some o/\o.cls=.type "list" /\ o.dict=none/\o.data=.seq its n/\its.size<=sizeLine/\Vals xs its.toList
def gA(K:W.Frag)(H:Hp)(a:Addr)(xs:List V):Prop :=
 Rd H a (.tup xs) \/
  ∃ (o:Obj) (its:Array Value) (n:Nat),K.lookup a=some o/\o.cls=.type "tuple" /\ o.data=.seq its n/\its.size<=sizeLine/\Vals xs its.toList
def aIg:Value->Option V
 | .none=>some .non
 | .bool b=>some (.bl b)
 | .int i _=>some (.int i)
 | .str x _=>some (.str x)
 | .bytes b _=>some (.N6 b)
 | .float b _=>some (.flt b)
 | .ref a=>some (.ref a)
 | .type n=>some (.ty n)
 | _=>none
theorem RelV.abs{x:V}{u:Value}(r:RelV x u):aIg u=some x:=by
 cases x with
 | non=>cases r; rfl
 | bl _=>cases r; rfl
 | int _=>obtain ⟨t,rfl⟩:=r; rfl
 | str _=>obtain ⟨t,rfl⟩:=r; rfl
 | N6 _=>obtain ⟨t,rfl⟩:=r; rfl
 | flt _=>obtain ⟨t,rfl⟩:=r; rfl
 | ref _=>cases r; rfl
 | ty _=>cases r; rfl
theorem RelV.inj{x y:V}{u:Value}(r:RelV x u)(q:RelV y u):x=y:=Option.some.inj (r.abs.symm.trans q.abs)
theorem Vals.inj:∀ {xs ys:List V} {us:List Value},Vals xs us->Vals ys us->xs=ys
 | _,_,_,.nil,.nil=>rfl
 | _,_,_,.cons r t,.cons r' t'=>by rw [r.inj r',Vals.inj t t']
section
variable{X:Cx}{pins:List (Addr×Obj)}{U:St}{H:Hp}{s:Shared}{a:Addr}{xs ys:List V}
theorem gH.of(h:H a=some (.lst xs)):gH K H a xs:=.inl (.inl h)
theorem gA.of(h:H a=some (.tup xs)):gA K H a xs:=.inl (.inl h)
theorem Inv.list(I:Inv X pins U H s)(h:gH X.K H a xs):∃ its:List Value,Vals xs its/\PlainL s.heap a its.toArray/\xs.length<=sizeLine:=by
 rcases h with h | ⟨o,its,n,hk,hc,hd,hs,hz,r⟩
 .obtain ⟨z,its,n,r,e⟩:=h.ok I.hok;exact ⟨its,r,⟨_,n,e,rfl,rfl,rfl⟩,z⟩
 .refine ⟨its.toList,r,⟨o,n,I.zH a o hk,hc,hd,by simpa using hs⟩,?_⟩;have e:=r.length;simp only [Array.length_toList] at e;omega
theorem Inv.tuple(I:Inv X pins U H s)(h:gA X.K H a xs):∃ its:List Value,Vals xs its/\IsTup s.heap a its.toArray/\xs.length<=sizeLine:=by
 rcases h with h | ⟨o,its,n,hk,hc,hs,hz,r⟩
 .obtain ⟨z,its,r,p⟩:=h.ok I.hok;exact ⟨its,r,p,z⟩
 .refine ⟨its.toList,r,⟨o,I.zH a o hk,hc,n,by simpa using hs⟩,?_⟩;have e:=r.length;simp only [Array.length_toList] at e;omega
theorem Inv.sD(I:Inv X pins U H s)(h:gH X.K H a xs)(h':gH X.K H a ys):xs=ys:=by
 obtain ⟨its,r,⟨o,n,e,_,_,d⟩,_⟩:=I.list h;obtain ⟨its',r',⟨o',n',e',_,_,d'⟩,_⟩:=I.list h';rw [e] at e'; cases e';rw [d] at d';injection d' with d1 _;have:its=its':=by simpa using congrArg Array.toList d1
 subst this;exact r.inj r'
theorem Inv.mJ(I:Inv X pins U H s)(h:gA X.K H a xs)(h':gA X.K H a ys):xs=ys:=by
 obtain ⟨its,r,⟨o,e,_,n,d⟩,_⟩:=I.tuple h;obtain ⟨its',r',⟨o',e',_,n',d'⟩,_⟩:=I.tuple h';rw [e] at e'; cases e';rw [d] at d';injection d' with d1 _;have:its=its':=by simpa using congrArg Array.toList d1
 subst this;exact r.inj r'
end
abbrev Cx.wish(X:Cx)(E:Q0Q):Cx:={ X with xe:=E }
abbrev Cx.nox(X:Cx):Cx:=X.wish λ_ _=>False
theorem Cx.Ok.wish{X:Cx}(ok:X.Ok)(E:Q0Q):(X.wish E).Ok :=
 ⟨ok.mod,ok.kind,ok.glob,ok.blt,ok.above,ok.inj,ok.has,ok.cab,ok.hd,ok.frames,ok.stk,ok.exf,ok.bs,ok.YM,ok.TD,ok.YN,ok.vD,ok.frf⟩
theorem Cx.Ok.nB{X:Cx}{E:Q0Q}(ok:(X.wish E).Ok):X.Ok :=
 ⟨ok.mod,ok.kind,ok.glob,ok.blt,ok.above,ok.inj,ok.has,ok.cab,ok.hd,ok.frames,ok.stk,ok.exf,ok.bs,ok.YM,ok.TD,ok.YN,ok.vD,ok.frf⟩
section
variable{X:Cx}{pins:List (Addr×Obj)}{U:St}{H:Hp}{s:Shared}{E:Q0Q}
theorem Inv.wish(I:Inv X pins U H s)(E:Q0Q):Inv (X.wish E) pins U H s:=⟨I.ok.wish E,I.os,I.bare,I.base,I.loc,I.cell,I.free,I.mI,I.pin,I.hok,I.len⟩
theorem Inv.nB(I:Inv (X.wish E) pins U H s):Inv X pins U H s:=⟨I.ok.nB,I.os,I.bare,I.base,I.loc,I.cell,I.free,I.mI,I.pin,I.hok,I.len⟩
theorem SP.nB{D:Ends}{f:Flow}{s':Shared}(h:SP (X.wish E) pins D f s'):SP X pins D f s':=by
 cases f with
 | next=>obtain ⟨σ',H',I,q⟩:=h; exact ⟨σ',H',I.nB,q⟩
 | brk=>obtain ⟨σ',H',I,q⟩:=h; exact ⟨σ',H',I.nB,q⟩
 | cont=>obtain ⟨σ',H',I,q⟩:=h; exact ⟨σ',H',I.nB,q⟩
 | ret u=>obtain ⟨v,σ',H',I,r,q⟩:=h; exact ⟨v,σ',H',I.nB,r,q⟩
theorem HM.nox{st:List Stmt}{t:TS}(h:HM X.nox st t):HM X st t:=λpins s U H D I hw =>
 wpAny_mono (h pins s U H D (I.wish _) hw) (λ_ _ q=>q.nB) λ_ _ z=>False.elim z
end
section
variable{X:Cx}{st:Stmt}{rest:List Stmt}{t u:TS}{e:Expr}{te:TE}{pos:Pos}
def aER:TS:=λD U H=>D.nx U H
def aIh(t u:TS):TS:=λD U H=>t { D with nx:=u D } U H
theorem YS:HM X [] aER:=λ_ _ U H _ I h=>wpAny_execs_nil ⟨U,H,I,h⟩
theorem TK(h1:PS X st t)(h2:HM X rest u):HM X (st::rest) (aIh t u):=by
 intro pins s U H D I h;refine wpAny_execs_cons (dN (h1 pins s U H { D with nx:=u D } I h) λf s1 q=>?_)
 cases f with
 | next =>
  obtain ⟨σ',H',I',q⟩:=q;exact h2 pins s1 σ' H' D I' q
 | ret v=>exact q
 | brk=>exact q
 | cont=>exact q
theorem YT(h1:PS X st t):HM X [st] t:=by
 intro pins s U H D I h;refine wpAny_execs_cons (dN (h1 pins s U H D I h) λf s1 q=>?_)
 cases f with
 | next=>exact wpAny_execs_nil q
 | ret v=>exact q
 | brk=>exact q
 | cont=>exact q
theorem Inv.quiet{pins:List (Addr×Obj)}{U:St}{H:Hp}{s:Shared}(I:Inv X pins U H s):interactive X.env=false:=by simp [interactive,I.ok.kind]
def aES(te:TE):TS:=λD U H=>te U H λ_ H1=>D.nx U H1
theorem L1(he:PE X e te)(hs:swapsWith e none pos.line X.env=pure false:=by rfl):PS X (.Expr e pos) (aES te):=by intro pins s U H D I h;exact wpAny_Expr_any (dN (he pins s U H _ I h) λv s1 ⟨x,H1,I1,r1,q1⟩=>⟨U,H1,I1,q1⟩) I.quiet hs
def aIi(te:TE):TS:=λD U H=>te U H D.rt
theorem TL(he:PE X e te):PS X (.Return (some e) pos) (aIi te):=by intro pins s U H D I h;exact wpAny_Return_some (dN (he pins s U H _ I h) λv s1 ⟨x,H1,I1,r1,q1⟩=>⟨x,U,H1,I1,r1,q1⟩)
def aIj(c:TT)(t u:TS):TS:=λD U H=>c U H λb H1=>if b=true then t D U H1 else u D U H1
theorem aET{c:Expr}{a b:List Stmt}{tc:TT}(hc:PT X c tc)(ha:HM X a t)(hb:HM X b u):PS X (.If c a b pos) (aIj tc t u):=by
 intro pins s U H D I h;refine wpAny_If (dN (hc pins s U H _ I h) λd s1 ⟨H1,I1,q1⟩=>?_)
 cases d with
 | true=>exact ha pins s1 U H1 D I1 q1
 | false=>exact hb pins s1 U H1 D I1 q1
end
abbrev TG:=V->St->Hp->(St->Hp->Prop)->Prop
abbrev TGs:=List V->St->Hp->(St->Hp->Prop)->Prop
def PG(X:Cx)(target:Expr)(t:TG):Prop :=
 ∀ (pins:List (Addr×Obj)) (s:Shared) (U:St) (H:Hp) (v:V) (u:Value) (Q:St->Hp->Prop),Inv X pins U H s->RelV v u->t v U H Q ->
  wpAny (model X.prog X.w) X.A (assign target X.env u) (λ_ s'=>∃ σ' H',Inv X pins σ' H' s'/\Q σ' H') X.xe s
def PGs(X:Cx)(ts:List Expr)(t:TGs):Prop :=
 ∀ (pins:List (Addr×Obj)) (s:Shared) (U:St) (H:Hp) (vs:List V) (us:List Value) (Q:St->Hp->Prop),Inv X pins U H s->Vals vs us->t vs U H Q ->
  wpAny (model X.prog X.w) X.A (assignInOrder ((assignEach ts X.env).map (·.2)) us) (λ_ s'=>∃ σ' H',Inv X pins σ' H' s'/\Q σ' H') X.xe s
section
variable{X:Cx}{pos:Pos}
def TN(i:Nat):TG:=λv U H Q=>Q (U.set i (some v)) H
theorem pG{i:Nat}{x:Str}(hN:X.N.Nodup)(hi:X.N[i]? = some x)(hx:Loc X.env.scope x)(hf:X.fn x=true\/X.env.scope.names.lookup x=some .local:=by first | exact .inl rfl | exact .inr rfl | assumption):PG X (.Name x pos) (TN i):=by intro pins s U H v u Q I r h;exact wpAny_assign_Name (sC I hN hi hx r (λs' I'=>⟨_,H,I',h⟩) hf)
def aIk:TGs:=λvs U H Q=>vs=[]/\Q U H
def aEU(t:TG)(u:TGs):TGs:=λvs U H Q=>∃ v r,vs=v::r/\t v U H λσ' H'=>u r σ' H' Q
theorem MA:PGs X [] aIk:=by intro pins s U H vs us Q I r h;obtain ⟨e,h⟩:=h;subst e;cases r;exact assignInOrder_nil ⟨U,H,I,h⟩
theorem sE{e:Expr}{es:List Expr}{t:TG}{u:TGs}(h1:PG X e t)(h2:PGs X es u)
  (hs:(assignEach (e::es) X.env).map (·.2)=assign e X.env::(assignEach es X.env).map (·.2):=by rfl):PGs X (e::es) (aEU t u):=by
 intro pins s U H vs us Q I r h;obtain ⟨v,vr,e1,h⟩:=h;subst e1
 cases r with
 | cons r rr =>
  rw [hs];refine assignInOrder_cons (dN (h1 pins s U H _ _ _ I r h) λ_ s1 ⟨σ1,H1,I1,q1⟩=>?_);exact h2 pins s1 σ1 H1 _ _ Q I1 rr q1
def aIl(K:W.Frag)(n:Nat)(t:TGs):TG:=λv U H Q=>∃ a xs,v=.ref a/\gA K H a xs/\xs.length=n/\t xs U H Q
theorem TQ{es:List Expr}{k:Nat}{t:TGs}{n:Nat}(hc:X.calm=true)(h:PGs X es t)
  (hn:(assignEach es X.env).length=n:=by rfl) (hst:(assignEach es X.env).findIdx? (·.1)=none:=by rfl):PG X (.Tuple es k pos) (aIl X.K n t):=by
 intro pins s U H v u Q I r hw;obtain ⟨a,xs,e1,hq,hl,hw⟩:=hw;subst e1;cases r;obtain ⟨its,rv,ht,hz⟩:=I.tuple hq;refine assign_Tuple_tuple (I.ok.hd hc) ht (by simp [hn,<- hl,rv.length]) hst λh' hx=>?_;have I1:Inv X pins U H { s with heap:=h' }:=I.kept (t':=s.toks) λb o e=>hx b o (ne_of_lt (lt_size e)) e;exact h pins _ U H xs _ Q I1 (by simpa using rv) hw
def aBq(te:TE)(g:TG):TS:=λD U H=>te U H λx H1=>g x U H1 D.nx
theorem aBr{tg e:Expr}{te:TE}{g:TG}(he:PE X e te)(hg:PG X tg g)(hs:swapsWithSole [tg] e pos.line X.env=pure false:=by rfl)(hw:swappedStores [tg] e X.env=pure none:=by rfl)
  (h1:(assignEach [tg] X.env).map (·.2)=[assign tg X.env]:=by rfl):PS X (.Assign [tg] e pos) (aBq te g):=by
 intro pins s U H D I h;refine wpAny_Assign_stores (dN (he pins s U H _ I h) λv s1 ⟨x,H1,I1,r1,q1⟩=>?_) hs hw;rw [h1];exact dN (hg pins s1 U H1 x v _ I1 r1 q1) λ_ s2 q=>q
theorem oG{i:Nat}{x:Str}{e:Expr}{te:TE}{pos':Pos}(hN:X.N.Nodup)(hi:X.N[i]? = some x)(hx:Loc X.env.scope x)(he:PE X e te)(hs:swapsWith e (some (.Name x pos')) pos.line X.env=pure false:=by rfl)(hf:X.fn x=true\/X.env.scope.names.lookup x=some .local:=by first | exact .inl rfl | exact .inr rfl | assumption) :
  PS X (.Assign [.Name x pos'] e pos) (aBq te (TN i)):=by
 intro pins s U H D I h;refine wpAny_Assign_Name (dN (he pins s U H _ I h) λv s1 ⟨y,H1,I1,r1,q1⟩=>?_) hs;exact sC I1 hN hi hx r1 (λs2 I2=>⟨_,H1,I2,q1⟩) hf
def aIm(i j:Nat)(ta:TA):TS:=λD U H=>ta U H λvs H1=>∃ v w,vs=[v,w]/\D.nx ((U.set i (some v)).set j (some w)) H1
theorem aBs{i j:Nat}{x y:Str}{a b:Expr}{ta:TA}{px py pt:Pos}{kt k2 N8}(hc:X.calm=true)(hN:X.N.Nodup)(hi:X.N[i]? = some x)(hj:X.N[j]? = some y)(hij:i≠j)
  (hx:X.env.scope.names.lookup x=some .local) (hy:X.env.scope.names.lookup y=some .local) (ha:PA X [a,b] ta)
  (hw:swappedStores [.Tuple [.Name x px,.Name y py] kt pt] (.Tuple [a,b] k2 N8) X.env=pure (some [x,y]))
  (hs:swapsWithSole [.Tuple [.Name x px,.Name y py] kt pt] (.Tuple [a,b] k2 N8) pos.line X.env=pure false:=by rfl) :
  PS X (.Assign [.Tuple [.Name x px,.Name y py] kt pt] (.Tuple [a,b] k2 N8) pos) (aIm i j ta):=by
 intro pins s U H D I h;rw [exec_Assign_arm];refine wpAny_bind (wpAny_standAt ?_);rw [hs];refine wpAny_bind (wpAny_pure ?_);rw [if_neg (by decide)];refine wpAny_bind (Tuple_ (dN (ha _ pins s U H _ I h) λus s1 ⟨vs,H1,I1,r1,q1⟩=>?_));obtain ⟨v,w,e1,q1⟩:=q1;subst e1;obtain ⟨u1,u2,rfl,rv,w8⟩:∃ u1 u2,us=[u1,u2]/\RelV v u1/\RelV w u2:=by
  cases r1 with
  | cons p q =>
   cases q with
   | cons p' q' =>
    cases q';exact ⟨_,_,rfl,p,p'⟩
 refine wpAny_newObj_type ?_ (by show 2<=sizeLine; decide);have I2:Inv X pins U H1 { s1 with heap:=s1.heap.push { cls:=.type "tuple",data:=.seq [u1,u2].toArray } }:=I1.kept (t':=s1.toks) λb o e=>get?_push_of_some _ e;rw [hw];refine wpAny_bind (wpAny_pure ?_);show wpAny (model X.prog X.w) X.A (do rule "assign.swapped-stores"; let items <- unpackItems (.ref s1.heap.objs.size) 2 none; assignInOrder [λv=>bindName X.env y v,λv=>bindName X.env x v] items.reverse; pure Flow.next) _ _ _;refine wpAny_bind (wpAny_rule (wpAny_bind (unpackItems_tuple (items:=#[u1,u2]) (I.ok.hd hc) (IsTup.new s1.heap _) λh' hx'=>?_)));have I3:=I2.kept (h':=h') (t':=s1.toks) λb o e=>hx' b o (ne_of_lt (lt_size e)) e;show wpAny _ _ (assignInOrder [λv=>bindName X.env y v,λv=>bindName X.env x v] [u2,u1] >>= λ_=>pure Flow.next) _ _ _;refine wpAny_bind (assignInOrder_cons (wpAny_bindName (sC I3 hN hj (.inl hy) w8 (λs2 I4=>?_) (.inr hy))));refine assignInOrder_cons (wpAny_bindName (sC I4 hN hi (.inl hx) rv (λs3 I5=>assignInOrder_nil (wpAny_pure ?_)) (.inr hx)));rw [List.set_comm _ _ (Ne.symm hij)] at I5;exact ⟨_,H1,I5,q1⟩
end
section
variable{X:Cx}{pos:Pos}
def aBt(c:TT)(tb:TS):TS:=λD U H=>∃ W:Nat->St->Hp->Prop,(∃ m,W m U H) /\ ∀ m U H,W m U H ->
 c U H λb H1=>if b=true then ∃ N:St->Hp->Prop,(∀ σ' H',N σ' H' -> ∃ m',m'<m/\W m' σ' H')/\tb { D with nx:=N,ct:=N,bk:=D.nx } U H1 else D.nx U H1
theorem TR{c:Expr}{body:List Stmt}{tc:TT}{tb:TS}(hp:PassesOwn (model X.prog X.w) X.A X.env X.xe)(hc:PT X c tc)(hb:HM X body tb):PS X (.While c body [] pos) (aBt tc tb):=by
 intro pins s U H D I h;obtain ⟨W,⟨m0,w0⟩,turn⟩:=h;refine wpAny_While (codeAny_whileLoop (λn s'=>∃ σ' H',Inv X pins σ' H' s'/\W n σ' H') ?_ m0 ⟨U,H,I,w0⟩);rintro n s1 ⟨σ1,H1,I1,w1⟩;refine wpAny_passesOwn hp (dN (hc pins s1 σ1 H1 _ I1 (turn n σ1 H1 w1)) λb s2 ⟨H2,I2,q2⟩=>?_)
 cases b with
 | true =>
  obtain ⟨N,hN,q2⟩:=q2;rw [if_pos rfl];refine wpAny_passesOwn hp (dN (hb pins s2 σ1 H2 _ I2 q2) λf s3 q3=>?_)
  cases f with
  | next =>
   obtain ⟨σ3,H3,I3,n3⟩:=q3;obtain ⟨m',hm,w3⟩:=hN σ3 H3 n3;exact ⟨m',hm,σ3,H3,I3,w3⟩
  | cont =>
   obtain ⟨σ3,H3,I3,n3⟩:=q3;obtain ⟨m',hm,w3⟩:=hN σ3 H3 n3;exact ⟨m',hm,σ3,H3,I3,w3⟩
  | brk=>exact q3
  | ret v=>exact q3
 | false =>
  rw [if_neg Bool.false_ne_true];exact wpAny_execs_nil ⟨σ1,H2,I2,q2⟩
end
structure It where
 go:Nat->Hp->Prop
 yld:Nat->Hp->V->Hp->Prop
 stop:Nat->Hp->Prop
def qQ(X:Cx)(pins:List (Addr×Obj))(H:Hp)(b:Addr):Prop :=
 H b=none/\b≠X.env.locals/\b∉X.fs/\(b∈X.ex\/X.s₀.heap.objs.size<=b)/\(∀ x c,X.env.cells.lookup x=some c->c≠b) /\ ∀ p∈X.pn++pins,p.1≠b
theorem Inv.IV{X:Cx}{pins:List (Addr×Obj)}{U:St}{H H':Hp}{s:Shared}{b:Addr}(I:Inv X pins U H s)(hb:s.heap.objs.size<=b)(hn:H' b=none):qQ X pins H' b:=by
 refine ⟨hn,Nat.ne_of_gt (lt_of_lt_of_le I.lt hb),I.aIc hb,.inr (le_trans I.sz hb),λx c e z=>?_,λp hp z=>?_⟩
 .obtain ⟨v,q⟩:=I.cell x c e;exact absurd (lt_of_lt_of_le q.lt (by rw [z]; exact hb)) (lt_irrefl _)
 .exact absurd (lt_of_lt_of_le (lt_size (I.pin p hp).1) (by rw [z]; exact hb)) (lt_irrefl _)
structure Turn (P:Program) (w:World) (K:W.Frag) (tg:Expr) (J:It) (fp:List Addr) (it:Addr) (tn:Nat->Heap->Prop):Prop where
 mem:it∈fp
 obj:∀ i h,tn i h -> ∀ b∈fp,∃ o,h.get? b=some o /\ ∀ v,o.data≠.cell v
 keep:∀ i h h',tn i h->(∀ b∈fp,∀ o,h.get? b=some o->h'.get? b=some o)->tn i h'
 item:∀ (X:Cx),X.prog=P->X.w=w->X.K=K->X.calm=true -> ∀ (i:Nat) (pins:List (Addr×Obj)) (s:Shared) (U:St) (H:Hp) (E:Q0Q),Inv X pins U H s->(∀ b∈fp,qQ X pins H b)->tn i s.heap->J.go i H ->
  wpAny (model P w) X.A (pyNext (.ref it)) (λr s1=>∃ u,r=some u /\
   wpAny (model P w) X.A (letOwnedTupleGo tg (.ref it) u) (λ_ s2=>∃ x H',Inv X pins U H' s2/\RelV x u/\J.yld i H x H'/\tn (i+1) s2.heap /\ ∀ b∈fp,H' b=none) E s1) E s
 done:∀ (X:Cx),X.prog=P->X.w=w->X.K=K->X.calm=true -> ∀ (i:Nat) (pins:List (Addr×Obj)) (s:Shared) (U:St) (H:Hp) (E:Q0Q),Inv X pins U H s->(∀ b∈fp,qQ X pins H b)->tn i s.heap->J.stop i H ->
  wpAny (model P w) X.A (pyNext (.ref it)) (λr s1=>r=none/\Inv X pins U H s1) E s
 self:∀ (A:Around) (i:Nat) (s:Shared) (Q:Q0Q) (E:Q0Q),tn i s.heap->Q (.ref it) s->wpAny (model P w) A (pyIter (.ref it)) Q E s
abbrev TI:=St->Hp->(It->Hp->Prop)->Prop
def PIE(X:Cx)(pins:List (Addr×Obj))(U:St)(tg:Expr)(R:It->Hp->Prop)(itv:Value)(s2:Shared):Prop :=
 ∃ (it:Addr) (fp:List Addr) (tn:Nat->Heap->Prop) (J:It) (H':Hp),itv=.ref it/\Inv X pins U H' s2/\Turn X.prog X.w X.K tg J fp it tn/\tn 0 s2.heap/\(∀ b∈fp,qQ X pins H' b)/\R J H'
def PI(X:Cx)(tg iter:Expr)(wi:TI):Prop :=
 ∀ (pins:List (Addr×Obj)) (s:Shared) (U:St) (H:Hp) (R:It->Hp->Prop),Inv X pins U H s->wi U H R ->
  wpAny (model X.prog X.w) X.A (eval iter X.env) (λv s1=>wpAny (model X.prog X.w) X.A (pyIter v) (PIE X pins U tg R) X.xe s1) X.xe s
theorem MB{M:Model}{A:Around}{E:Q0Q}{s:Shared}{tg:Expr}{it:Addr}{u:Value}{o:Obj}{n:String}{vs:Array Value}{Q:Unit->Shared->Prop}(ho:s.heap.get? it=some o)(hc:o.cls=.type n)(hd:o.data=.fields vs)
  (hn:["enumerate", "zip", "dict_itemiterator", "dict_reverseitemiterator", "odict_iterator", "itertools.zip_longest", "itertools.pairwise"].contains n=false) (hQ:Q () s):wpAny M A (letOwnedTupleGo tg (.ref it) u) Q E s:=by
 unfold letOwnedTupleGo;cases tg<;>first
  | exact wpAny_pure hQ
  | (cases u<;>first
    | exact wpAny_pure hQ
    | (refine wpAny_bind (wpAny_load ho ?_)
       rw [hc,hd];show wpAny M A (if (["enumerate", "zip", "dict_itemiterator", "dict_reverseitemiterator", "odict_iterator", "itertools.zip_longest", "itertools.pairwise"].contains n&&vs[0]? == some (rawInt _))=true then _ else _) Q E s;rw [if_neg (by intro h; rw [hn,Bool.false_and] at h; cases h)];exact wpAny_pure hQ))
def Itl(K:W.Frag)(a:Addr):It :=
 ⟨λi H=>∃ xs x,gH K H a xs/\xs[i]? = some x,λi H x H'=>H' = H /\ ∀ xs,gH K H a xs->xs[i]? = some x,λi H=>∃ xs,gH K H a xs/\xs.length<=i⟩
def Itt(K:W.Frag)(a:Addr):It :=
 ⟨λi H=>∃ xs x,gA K H a xs/\xs[i]? = some x,λi H x H'=>H' = H /\ ∀ xs,gA K H a xs->xs[i]? = some x,λi H=>∃ xs,gA K H a xs/\xs.length<=i⟩
def Itr(lo:Int)(n:Nat):It:=⟨λi _=>i<n,λi H x H'=>H' = H/\x=.int (lo+i),λi _=>n<=i⟩
theorem N9{P:Program}{w:World}{K:W.Frag}{tg:Expr}(a it:Addr):Turn P w K tg (Itl K a) [it] it (λi h=>h.IsListIter it a i) where
 mem:=by simp
 obj:=λi h st b hb=>by
  have e:b=it:=by simpa using hb
  subst e;obtain ⟨o,e,c,d⟩:=st;exact ⟨o,e,λv z=>by rw [d] at z; cases z⟩
 keep:=λi h h' st k=>st.at λo e=>k it (by simp) o e
 item:=by intro X hP hw hK hc i pins s U H E I hf st hg;subst hP hw hK;obtain ⟨xs,x,hq,hx⟩:=hg;obtain ⟨its,rv,p,hz⟩:=I.list hq;obtain ⟨u,hu,ru⟩:=rv.get hx;obtain ⟨f0,f1,f2,f3,f4,f5⟩:=hf it (by simp);refine wpAny_pyNext_list_item st p.isList (x:=u) (by simpa using hu) λh' st' sb=>?_;have I1:Inv X pins U H { s with heap:=h' }:=I.turned (t':=s.toks) (λb o hb e=>(sb.2 b hb).trans e) f0 f1 f3 f4 f5;obtain ⟨o,e,c,d⟩:=id st';exact ⟨u,rfl,MB (s:={ s with heap:=h' }) e c d (by decide) ⟨x,H,I1,ru,⟨rfl,λys hy=>by rw [I.sD hy hq]; exact hx⟩,st',λb hb=>(hf b hb).1⟩⟩
 done:=by intro X hP hw hK hc i pins s U H E I hf st hg;subst hP hw hK;obtain ⟨xs,hq,hx⟩:=hg;obtain ⟨its,rv,p,hz⟩:=I.list hq;obtain ⟨f0,f1,f2,f3,f4,f5⟩:=hf it (by simp);have hl:=rv.length;exact wpAny_pyNext_list_end (I.ok.hd hc) st p.isList (by simp; omega) λh' eb=>⟨rfl,I.turned (t':=s.toks) (λb o hb e=>eb b o hb e) f0 f1 f3 f4 f5⟩
 self:=λ_ _ _ _ _ st h=>wpAny_pyIter_listiter st h
theorem IW{P:Program}{w:World}{K:W.Frag}{tg:Expr}(a it:Addr):Turn P w K tg (Itt K a) [it] it (λi h=>h.IsTupleIter it a i) where
 mem:=by simp
 obj:=λi h st b hb=>by
  have e:b=it:=by simpa using hb
  subst e;obtain ⟨o,e,c,d⟩:=st;exact ⟨o,e,λv z=>by rw [d] at z; cases z⟩
 keep:=λi h h' st k=>st.at λo e=>k it (by simp) o e
 item:=by intro X hP hw hK hc i pins s U H E I hf st hg;subst hP hw hK;obtain ⟨xs,x,hq,hx⟩:=hg;obtain ⟨its,rv,p,hz⟩:=I.tuple hq;obtain ⟨u,hu,ru⟩:=rv.get hx;obtain ⟨f0,f1,f2,f3,f4,f5⟩:=hf it (by simp);refine wpAny_pyNext_tuple_item st (show s.heap.IsTuple a its.toArray from p) (x:=u) (by simpa using hu) λh' st' sb=>?_;have I1:Inv X pins U H { s with heap:=h' }:=I.turned (t':=s.toks) (λb o hb e=>(sb.2 b hb).trans e) f0 f1 f3 f4 f5;obtain ⟨o,e,c,d⟩:=id st';exact ⟨u,rfl,MB (s:={ s with heap:=h' }) e c d (by decide) ⟨x,H,I1,ru,⟨rfl,λys hy=>by rw [I.mJ hy hq]; exact hx⟩,st',λb hb=>(hf b hb).1⟩⟩
 done:=by intro X hP hw hK hc i pins s U H E I hf st hg;subst hP hw hK;obtain ⟨xs,hq,hx⟩:=hg;obtain ⟨its,rv,p,hz⟩:=I.tuple hq;obtain ⟨f0,f1,f2,f3,f4,f5⟩:=hf it (by simp);have hl:=rv.length;exact wpAny_pyNext_tuple_end (I.ok.hd hc) st (show s.heap.IsTuple a its.toArray from p) (by simp; omega) λh' eb=>⟨rfl,I.turned (t':=s.toks) (λb o hb e=>eb b o hb e) f0 f1 f3 f4 f5⟩
 self:=λ_ _ _ _ _ st h=>wpAny_pyIter_tupleiter st h
theorem IX{P:Program}{w:World}{K:W.Frag}{tg:Expr}(it:Addr)(lo:Int)(n:Nat):Turn P w K tg (Itr lo n) [it] it (λi h=>IsRangeIter h it (lo+(i:Nat)*1) ((n:Int) - (i:Nat)) 1) where
 mem:=by simp
 obj:=λi h st b hb=>by
  have e:b=it:=by simpa using hb
  subst e;exact ⟨_,st,λv z=>by have z':Data.fields _=Data.cell v:=z;cases z'⟩
 keep:=λi h h' st k=>k it (by simp) _ st
 item:=by intro X hP hw hK hc i pins s U H E I hf st hg;subst hP hw hK;obtain ⟨f0,f1,f2,f3,f4,f5⟩:=hf it (by simp);have W:=Walks.range (prog:=X.prog) (w:=X.w) (I.ok.hd hc) it lo 1 n;refine W.item i s _ _ hg st λv h' tk hv st' kk=>?_;obtain ⟨t,rfl⟩:=hv;have I1:Inv X pins U H { s with heap:=h',toks:=tk }:=I.turned (λb o hb e=>kk b o (by simpa using hb) e) f0 f1 f3 f4 f5;refine ⟨_,rfl,MB (s:={ s with heap:=h',toks:=tk }) (n := "range_iterator") st' rfl rfl (by decide) ⟨.int (lo+i),H,I1,⟨t,?_⟩,⟨rfl,rfl⟩,st',λb hb=>(hf b hb).1⟩⟩;rw [Int.mul_one]
 done:=by intro X hP hw hK hc i pins s U H E I hf st hg;subst hP hw hK;obtain ⟨f0,f1,f2,f3,f4,f5⟩:=hf it (by simp);exact wpAny_pyNext_range_end (I.ok.hd hc) st (by have:n<=i:=hg; omega) λh' eb=>⟨rfl,I.turned (t':=s.toks) (λb o hb e=>eb b o hb e) f0 f1 f3 f4 f5⟩
 self:=λ_ _ _ _ _ st h=>wpAny_pyIter_rangeiter st h
end L2
namespace L2
open PySem PySem.Spec PyProof.Rows
section
variable{X:Cx}{tg:Expr}
theorem FR{pins:List (Addr×Obj)}{U:St}{H:Hp}{s:Shared}{R:It->Hp->Prop}{E:Q0Q}{lo hi:Int}{t u v:Tok}{tk:Nat}(I:Inv X pins U H s)(h1:-(2 ^ 62)<=lo)(h2:lo<2 ^ 62)(h3:-(2 ^ 62)<=hi)(h4:hi<2 ^ 62)
  (q:R (Itr lo (hi - lo).toNat) H):wpAny (model X.prog X.w) X.A (pyIter (.ref s.heap.objs.size)) (PIE X pins U tg R) E { s with heap:=s.heap.push { cls:=.type "range",data:=.fields #[.int lo t,.int hi u,.int 1 v] },toks:=tk }:=by
 refine wpAny_pyIter_range (IsRange.new ..) (small_one h1 h2 h3 h4) ?_;have I1:Inv X pins U H { s with heap:=s.heap.push { cls:=.type "range",data:=.fields #[.int lo t,.int hi u,.int 1 v] },toks:=tk }:=I.kept λb o e=>get?_push_of_some _ e;refine ⟨(s.heap.push { cls:=.type "range",data:=.fields #[.int lo t,.int hi u,.int 1 v] }).objs.size,[(s.heap.push { cls:=.type "range",data:=.fields #[.int lo t,.int hi u,.int 1 v] }).objs.size],_,_,H,rfl,
  I1.kept (t':=tk) λb o e=>get?_push_of_some _ e,IX _ lo (hi - lo).toNat,?_,λb hb=>?_,q⟩
 .have e1:lo+((0:Nat):Int)*1=lo:=by simp
  have e2:(((hi - lo).toNat:Nat):Int) - ((0:Nat):Int)=Builtin.Range.rangeSize lo hi 1:=by rw [rangeSize_one]; split<;>omega
  show IsRangeIter _ _ (lo+((0:Nat):Int)*1) ((((hi - lo).toNat:Nat):Int) - ((0:Nat):Int)) 1;rw [e1,e2];exact get?_push_size _ rfl
 .have e:b=(s.heap.push { cls:=.type "range",data:=.fields #[.int lo t,.int hi u,.int 1 v] }).objs.size:=by simpa using hb
  subst e;exact I1.IV (le_refl _) (I1.hok.fresh (le_refl _))
def aEW(ta:TA):TI:=λU H R=>ta U H λvs H1=>∃ j:Int,vs=[.int j] /\ -(2 ^ 62)<=j/\j<2 ^ 62/\R (Itr 0 j.toNat) H1
def aEX(ta:TA):TI:=λU H R=>ta U H λvs H1=>∃ i j:Int,vs=[.int i,.int j]/\(-(2 ^ 62)<=i/\i<2 ^ 62 /\ -(2 ^ 62)<=j/\j<2 ^ 62)/\R (Itr i (j - i).toNat) H1
theorem OA{a:Expr}{ta:TA}{p pos:Pos}(hg:Gl X "range")(hm:X.mg "range" = none)(ha:PA X [a] ta)(hs:starEach [a] X.env=[(false,eval a X.env)]:=by rfl):PI X tg (.Call (.Name "range" p) [a] [] pos) (aEW ta):=by
 intro pins s U H R I h;refine Call_ (qP I hg hm boot_range (PyProof.Rows.callWith_type1 (dN (ha pos pins s U H _ I h) λus s1 ⟨vs,H1,I1,r1,q1⟩=>?_) hs rfl));obtain ⟨j,e,q1,q2,q⟩:=q1;subst e
 cases r1 with
 | cons r rr =>
  cases rr;obtain ⟨t,rfl⟩:=r;exact call_range_1 (FR I1 (by omega) (by omega) q1 q2 (by simpa using q))
theorem OB{a b:Expr}{ta:TA}{p pos:Pos}(hg:Gl X "range")(hm:X.mg "range" = none)(ha:PA X [a,b] ta)(hs:starEach [a,b] X.env=[(false,eval a X.env),(false,eval b X.env)]:=by rfl)(hs2:starEach [b] X.env=[(false,eval b X.env)]:=by rfl) :
  PI X tg (.Call (.Name "range" p) [a,b] [] pos) (aEX ta):=by
 intro pins s U H R I h;refine Call_ (qP I hg hm boot_range (PyProof.Rows.callWith_type1 (dN (ha pos pins s U H _ I h) λus s1 ⟨vs,H1,I1,r1,q1⟩=>?_) (by rw [hs,hs2]) (by rw [hs2]; rfl)));obtain ⟨i,j,e,⟨q1,q2,q3,q4⟩,q⟩:=q1;subst e
 cases r1 with
 | cons r rr =>
  cases rr with
  | cons r' rr =>
   cases rr;obtain ⟨t,rfl⟩:=r;obtain ⟨t',rfl⟩:=r';exact call_range_2 (FR I1 q1 q2 q3 q4 q)
def aIp(wi:TI)(g:TG)(tb:TS):TS:=λD U H=>wi U H λJ H1=>∃ W:Nat->Nat->St->Hp->Prop,(∃ m,W 0 m U H1) /\ ∀ i m U H,W i m U H ->
 (J.stop i H/\D.nx U H)\/(J.go i H /\ ∃ N:St->Hp->Prop,(∀ σ' H',N σ' H' -> ∃ m',m'<m/\W (i+1) m' σ' H') /\ ∀ x H',J.yld i H x H'->g x U H' λσ2 H2=>tb { D with nx:=N,ct:=N,bk:=D.nx } σ2 H2)
def xL(fp:List Addr)(h:Heap):List (Addr×Obj):=fp.filterMap λb=>(h.get? b).map λo=>(b,o)
theorem nC{fp:List Addr}{h:Heap}{b:Addr}{o:Obj}(hb:b∈fp)(e:h.get? b=some o):(b,o)∈xL fp h:=List.mem_filterMap.mpr ⟨b,hb,by rw [e]; rfl⟩
theorem OC{fp:List Addr}{h:Heap}{p:Addr×Obj}(hp:p∈xL fp h):p.1∈fp/\h.get? p.1=some p.2:=by
 obtain ⟨b,hb,e⟩:=List.mem_filterMap.mp hp
 cases q:h.get? b with
 | none=>rw [q] at e; cases e
 | some o =>
  rw [q] at e;have e':(b,o)=p:=Option.some.inj e;subst e';exact ⟨hb,q⟩
theorem Inv.pinned{pins:List (Addr×Obj)}{U:St}{H:Hp}{s:Shared}{fp:List Addr}(I:Inv X pins U H s)(hf:∀ b∈fp,qQ X pins H b)(ho:∀ b∈fp,∃ o,s.heap.get? b=some o /\ ∀ v,o.data≠.cell v):Inv X (pins++xL fp s.heap) U H s :=
 I.LY λp hp=>(List.mem_append.mp hp).elim (λz=>I.pin p (mem_append_right _ z)) λz=>by obtain ⟨hb,e⟩:=OC z;obtain ⟨f0,f1,f2,_⟩:=hf p.1 hb;obtain ⟨o,e',d⟩:=ho p.1 hb;rw [e] at e'; cases e';exact ⟨e,f0,f1,f2,d⟩
theorem Inv.sF{pins pl:List (Addr×Obj)}{U:St}{H:Hp}{s:Shared}(I:Inv X (pins++pl) U H s):Inv X pins U H s:=I.LY λp hp=>I.pin p (mem_append_right _ (mem_append_left _ hp))
theorem aBu{iter:Expr}{body:List Stmt}{wi:TI}{g:TG}{tb:TS}{pos:Pos}(hp:PassesOwn (model X.prog X.w) X.A X.env X.xe)(hc:X.calm=true)(hi:PI X tg iter wi)(hg:PG X tg g)(hb:HM X body tb)
  (hs:∀ x,foldedSetIterable iter X.env x=pure x:=by intro _; rfl):PS X (.For tg iter body [] pos) (aIp wi g tb):=by
 intro pins s U H D I h;refine wpAny_For (dN (hi pins s U H _ I h) λv s1 h1=>dN h1 λitv s2 h2=>?_) hs;obtain ⟨it,fp,tn,J,H2,e,I2,T,st2,f2,W,⟨m0,w0⟩,turn⟩:=h2;subst e
 -- what stays true of the iterator's objects through the loop
 have stat:∀ {H':Hp},(∀ b∈fp,H' b=none) -> ∀ b∈fp,qQ X pins H' b:=λhn b hb=>⟨hn b hb,(f2 b hb).2⟩;refine codeAny_forLoop_any (λn s'=>∃ i σ' H',Inv X pins σ' H' s'/\tn i s'.heap/\(∀ b∈fp,H' b=none)/\W i n σ' H') ?_ m0 ⟨0,U,H2,I2,st2,λb hb=>(f2 b hb).1,w0⟩;rintro n s3 ⟨i,σ3,H3,I3,st3,fr3,w3⟩;rcases turn i n σ3 H3 w3 with ⟨stop,qn⟩ | ⟨go,N,hN,step⟩
 .refine wpAny_passesOwn hp (dN (T.done X rfl rfl rfl hc i pins s3 σ3 H3 X.xe I3 (stat fr3) st3 stop) λr s4 ⟨hr,I4⟩=>?_);subst hr;exact wpAny_execs_nil ⟨σ3,H3,I4,qn⟩
 .refine wpAny_passesOwn hp (dN (T.item X rfl rfl rfl hc i pins s3 σ3 H3 X.xe I3 (stat fr3) st3 go) λr s4 ⟨u,hr,h4⟩=>?_);subst hr;refine wpAny_passesOwn hp (dN h4 λ_ s5 ⟨x,H5,I5,r5,y5,st5,fr5⟩=>?_);have I5':=I5.pinned (stat fr5) (T.obj _ _ st5);refine wpAny_passesOwn hp (dN (hg _ s5 σ3 H5 x u _ I5' r5 (step x H5 y5)) λ_ s6 ⟨σ6,H6,I6,q6⟩=>?_);refine wpAny_passesOwn hp (dN (hb _ s6 σ6 H6 _ I6 q6) λf s7 q7=>?_);have again:∀ {σ7:St} {H7:Hp},Inv X (pins++xL fp s5.heap) σ7 H7 s7->N σ7 H7 -> ∃ m,m<n /\ ∃ i σ' H',Inv X pins σ' H' s7/\tn i s7.heap/\(∀ b∈fp,H' b=none)/\W i m σ' H':=λ{σ7 H7} I7 n7=>by obtain ⟨m',hm,w7⟩:=hN σ7 H7 n7;refine ⟨m',hm,i+1,σ7,H7,I7.sF,T.keep _ _ _ st5 λb hb o e=>(I7.pin (b,o) (mem_append_right _ (mem_append_right _ (nC hb e)))).1,λb hb=>?_,w7⟩;obtain ⟨o,e,d⟩:=T.obj _ _ st5 b hb;exact (I7.pin (b,o) (mem_append_right _ (mem_append_right _ (nC hb e)))).2.1
  cases f with
  | next=>obtain ⟨σ7,H7,I7,n7⟩:=q7; exact again I7 n7
  | cont=>obtain ⟨σ7,H7,I7,n7⟩:=q7; exact again I7 n7
  | brk=>obtain ⟨σ7,H7,I7,q7⟩:=q7; exact ⟨σ7,H7,I7.sF,q7⟩
  | ret v=>obtain ⟨x7,σ7,H7,I7,r7,q7⟩:=q7; exact ⟨x7,σ7,H7,I7.sF,r7,q7⟩
end
end L2
namespace L2
open PySem PySem.Spec PyProof.Rows
abbrev R2:=V->V->Hp->VK->Prop
def i6(X:Cx)(f:Value->Value->Sem Value)(r:R2):Prop :=
 ∀ (pins:List (Addr×Obj)) (s:Shared) (U:St) (H:Hp) (x y:V) (v u:Value) (Q:VK),Inv X pins U H s->RelV x v->RelV y u->r x y H Q ->
  wpAny (model X.prog X.w) X.A (f v u) (EP X pins U Q) X.xe s
def UnR(X:Cx)(f:Value->Sem Value)(r:V->Hp->VK->Prop):Prop :=
 ∀ (pins:List (Addr×Obj)) (s:Shared) (U:St) (H:Hp) (x:V) (v:Value) (Q:VK),Inv X pins U H s->RelV x v->r x H Q ->
  wpAny (model X.prog X.w) X.A (f v) (EP X pins U Q) X.xe s
def jI(X:Cx)(f:Value)(r:List V->Hp->VK->Prop):Prop :=
 ∀ (pins:List (Addr×Obj)) (s:Shared) (U:St) (H:Hp) (xs:List V) (us:List Value) (Q:VK),Inv X pins U H s->Vals xs us->r xs H Q ->
  wpAny (model X.prog X.w) X.A (call f us) (EP X pins U Q) X.xe s
def aIs(X:Cx)(r:V->Hp->(Bool->Hp->Prop)->Prop):Prop :=
 ∀ (pins:List (Addr×Obj)) (s:Shared) (U:St) (H:Hp) (x:V) (v:Value) (Q:Bool->Hp->Prop),Inv X pins U H s->RelV x v->r x H Q ->
  wpAny (model X.prog X.w) X.A (truthy v) (TP X pins U Q) X.xe s
def tOp(r:R2)(ta tb:TE):TE:=λU H Q=>ta U H λx H1=>tb U H1 λy H2=>r x y H2 Q
def tUn(r:V->Hp->VK->Prop)(ta:TE):TE:=λU H Q=>ta U H λx H1=>r x H1 Q
def rI(C:Int->Int->Prop)(g:Int->Int->V):R2:=λx y H Q=>∃ i j,x=.int i/\y=.int j/\C i j/\Q (g i j) H
def OD(g:Int->Int->V):R2:=λx y H Q=>∃ i j,x=.int i/\y=.int j/\Q (g i j) H
def rU(g:Int->V):V->Hp->VK->Prop:=λx H Q=>∃ i,x=.int i/\Q (g i) H
section
variable{X:Cx}{a b c:Expr}{ta tb tc:TE}{pos:Pos}
theorem aBv(ha:PE X a ta)(hb:PE X b tb){pins:List (Addr×Obj)}{s:Shared}{U:St}{H:Hp}{R:V->V->Hp->Prop}(I:Inv X pins U H s)
  (h:ta U H λx H1=>tb U H1 λy H2=>R x y H2) {Q:Q0Q} {f:Value->Value->Sem Value}
  (hf:∀ v u s2 x y H2,Inv X pins U H2 s2->RelV x v->RelV y u->R x y H2->wpAny (model X.prog X.w) X.A (f v u) Q X.xe s2) :
  wpAny (model X.prog X.w) X.A (eval a X.env) (λv s₁=>wpAny (model X.prog X.w) X.A (eval b X.env) (λu s₂=>wpAny (model X.prog X.w) X.A (f v u) Q X.xe s₂) X.xe s₁) X.xe s:=by
 refine dN (ha pins s U H _ I h) λv s1 hq1=>?_;obtain ⟨x,H1,I1,r1,q1⟩:=hq1;refine dN (hb pins s1 U H1 _ I1 q1) λu s2 hq2=>?_;obtain ⟨y,H2,I2,r2,q2⟩:=hq2;exact hf v u s2 x y H2 I2 r1 r2 q2
theorem aA4{op:Operator}{r:R2}(ho:i6 X (binaryOp op) r)(ha:PE X a ta)(hb:PE X b tb):PE X (.BinOp a op b pos) (tOp r ta tb):=by intro pins s U H Q I h;exact wpAny_BinOp (aBv ha hb I h λv u s2 x y H2 I2 rx ry q=>ho pins s2 U H2 x y v u Q I2 rx ry q)
theorem aE0{op:UnaryOp}{r:V->Hp->VK->Prop}(ho:UnR X (unaryOp op) r)(ha:PE X a ta):PE X (.UnaryOp op a pos) (tUn r ta):=by intro pins s U H Q I h;exact UnaryOp_ (dN (ha pins s U H _ I h) λv s1 ⟨x,H1,I1,r1,q1⟩=>ho pins s1 U H1 x v Q I1 r1 q1)
theorem opI{f:Value->Value->Sem Value}{C:Int->Int->Prop}{g:Int->Int->Int}
  (rule:∀ (i j:Int) (t u:Tok) (s:Shared) (Q:Q0Q) (E:Q0Q),C i j->Q (.int (g i j) s.toks) { s with toks:=s.toks+1 }->wpAny (model X.prog X.w) X.A (f (.int i t) (.int j u)) Q E s) :
  i6 X f (rI C λi j=>.int (g i j)):=by
 intro pins s U H x y v u Q I rx ry h;obtain ⟨i,j,rfl,rfl,hc,q⟩:=h;obtain ⟨t,rfl⟩:=rx;obtain ⟨t',rfl⟩:=ry;exact rule i j t t' s _ _ hc ⟨.int (g i j),H,I.tok _,⟨_,rfl⟩,q⟩
theorem aE1{f:Value->Value->Sem Value}{g:Int->Int->Int}
  (rule:∀ (i j:Int) (t u:Tok) (s:Shared) (Q:Q0Q) (E:Q0Q),Q (.int (g i j) s.toks) { s with toks:=s.toks+1 }->wpAny (model X.prog X.w) X.A (f (.int i t) (.int j u)) Q E s) :
  i6 X f (OD λi j=>.int (g i j)):=by
 intro pins s U H x y v u Q I rx ry h;obtain ⟨i,j,rfl,rfl,q⟩:=h;obtain ⟨t,rfl⟩:=rx;obtain ⟨t',rfl⟩:=ry;exact rule i j t t' s _ _ ⟨.int (g i j),H,I.tok _,⟨_,rfl⟩,q⟩
theorem YU{f:Value->Value->Sem Value}{g:Int->Int->Bool}
  (rule:∀ (i j:Int) (t u:Tok) (s:Shared) (Q:Q0Q) (E:Q0Q),Q (.bool (g i j)) s->wpAny (model X.prog X.w) X.A (f (.int i t) (.int j u)) Q E s) :
  i6 X f (OD λi j=>.bl (g i j)):=by
 intro pins s U H x y v u Q I rx ry h;obtain ⟨i,j,rfl,rfl,q⟩:=h;obtain ⟨t,rfl⟩:=rx;obtain ⟨t',rfl⟩:=ry;exact rule i j t t' s _ _ ⟨.bl (g i j),H,I,rfl,q⟩
def aE2(i j:Int):Prop:=0<j/\j<1073741824
def aBw(i j:Int):Prop:=0<=j/\j<=1000000/\i.natAbs<2 ^ 64
def YV(i j:Int):Prop:=(-(2 ^ 64)<i/\i<2 ^ 64)\/(-(2 ^ 64)<j/\j<2 ^ 64)
theorem YV.ok{i j:Int}(h:YV i j):IntMulOk i j:=by
 rcases h with ⟨h1,h2⟩ | ⟨h1,h2⟩
 .exact .of_left (intBits_le_64 h1 h2)
 .exact .of_right (intBits_le_64 h1 h2)
theorem IY(k:Nat):(0:Int)<=2 ^ k:=by rw [two_pow_cast];exact Int.natCast_nonneg _
theorem aBx:i6 X (binaryOp .Add) (OD λi j=>.int (i+j)):=aE1 λ_ _ _ _ _ _ _ q=>add_int q
theorem aBy:i6 X (binaryOp .Sub) (OD λi j=>.int (i - j)):=aE1 λ_ _ _ _ _ _ _ q=>sub_int q
theorem YW:i6 X (binaryOp .FloorDiv) (rI aE2 λi j=>.int (i / j)):=opI λi j _ _ _ _ _ hc q=>by have h1:(0:Int)<j:=hc.1;have h2:j<1073741824:=hc.2;exact floordiv_int (by omega) (by rw [Int.fdiv_eq_ediv_of_nonneg i (by omega)]; exact q) (.inl (PyProof.noPylong_small (by omega)))
theorem aBz:i6 X (binaryOp .Mod) (rI (λ_ j=>0<j) λi j=>.int (i % j)):=opI λi j _ _ _ _ _ hc q=>by have h1:(0:Int)<j:=hc;exact mod_int' (by omega) (by rw [Int.fmod_eq_emod_of_nonneg i (by omega)]; exact q)
theorem aCA:i6 X (binaryOp .Pow) (rI aBw λi j=>.int (i ^ j.toNat)):=opI λ_ _ _ _ _ _ _ hc q=>pow_int_small hc.1 hc.2.1 hc.2.2 q
theorem aCB:i6 X (binaryOp .LShift) (rI aBw λi j=>.int (i*2 ^ j.toNat)):=opI λ_ _ _ _ _ _ _ hc q=>lshift_int_small hc.1 hc.2.1 hc.2.2 q
theorem aCC:i6 X (binaryOp .RShift) (rI (λ_ j=>0<=j) λi j=>.int (i / 2 ^ j.toNat)):=opI λi j _ _ _ _ _ hc q =>
 rshift_int hc (by rw [Int.fdiv_eq_ediv_of_nonneg i (IY _)]; exact q)
theorem unI{f:Value->Sem Value}{g:Int->Int}
  (rule:∀ (i:Int) (t:Tok) (s:Shared) (Q:Q0Q) (E:Q0Q),Q (.int (g i) s.toks) { s with toks:=s.toks+1 }->wpAny (model X.prog X.w) X.A (f (.int i t)) Q E s) :
  UnR X f (rU λi=>.int (g i)):=by
 intro pins s U H x v Q I rx h;obtain ⟨i,rfl,q⟩:=h;obtain ⟨t,rfl⟩:=rx;exact rule i t s _ _ ⟨.int (g i),H,I.tok _,⟨_,rfl⟩,q⟩
theorem aCD:UnR X (unaryOp .USub) (rU λi=>.int (-i)):=unI λ_ _ _ _ _ q=>neg_int q
end
def aCE:V->V->Bool
 | .non,.non=>true | .non,.int _=>true | .int _,.non=>true | .non,.bl _=>true | .bl _,.non=>true | .non,.str _=>true | .str _,.non=>true
 | .int _,.int _=>true | .bl _,.bl _=>true | .str _,.str _=>true | .N6 _,.N6 _=>true
 | .int _,.str _=>true | .str _,.int _=>true | .bl _,.str _=>true | .str _,.bl _=>true
 | _,_=>false
def rEq:R2:=λx y H Q=>aCE x y=true/\Q (.bl (decide (x=y))) H
def rNe:R2:=λx y H Q=>aCE x y=true/\Q (.bl (!decide (x=y))) H
theorem DL{i j:Int}:decide (V.int i=V.int j)=(i == j):=by rw [Bool.eq_iff_iff];simp
theorem IZ{i j:Bool}:decide (V.bl i=V.bl j)=(i == j):=by rw [Bool.eq_iff_iff];simp
theorem DM{i j:Str}:decide (V.str i=V.str j)=(i == j):=by rw [Bool.eq_iff_iff];simp
theorem MC{i j:Array UInt8}:decide (V.N6 i=V.N6 j)=(i.toList == j.toList):=by rw [Bool.eq_iff_iff];cases i;cases j;simp
section
variable{X:Cx}{a b c:Expr}{ta tb tc:TE}{pos:Pos}
theorem cL{pins:List (Addr×Obj)}{U:St}{H:Hp}{s:Shared}{Q:VK}{k k':Bool}(I:Inv X pins U H s)(q:Q (.bl k) H)(e:k=k'):EP X pins U Q (.bool k') s:=by subst e;exact ⟨.bl k,H,I,rfl,q⟩
theorem TU:i6 X (compareOp .Eq) rEq:=by
 intro pins s U H x y v u Q I rx ry h;obtain ⟨hs,q⟩:=h
 cases x with
 | non =>
  cases rx
  cases y with
  | non=>cases ry; exact PySem.EqNone.eq_none_none (cL I q (by simp))
  | bl j=>cases ry; exact PySem.EqNone.eq_none_bool (cL I q (by simp))
  | int j=>obtain ⟨t',rfl⟩:=ry; exact PySem.EqNone.eq_none_int (cL I q (by simp))
  | str j=>obtain ⟨t',rfl⟩:=ry; exact PySem.EqNone.eq_none_str (cL I q (by simp))
  | _=>exact absurd (show false=true from hs) Bool.false_ne_true
 | bl i =>
  cases rx
  cases y with
  | non=>cases ry; exact PySem.EqNone.eq_bool_none (cL I q (by simp))
  | bl j=>cases ry; exact eq_bool (cL I q IZ)
  | str j=>obtain ⟨t',rfl⟩:=ry; exact PySem.EqMixed.eq_bool_str (cL I q (by simp))
  | _=>exact absurd (show false=true from hs) Bool.false_ne_true
 | int i =>
  obtain ⟨t,rfl⟩:=rx
  cases y with
  | non=>cases ry; exact PySem.EqNone.eq_int_none (cL I q (by simp))
  | int j=>obtain ⟨t',rfl⟩:=ry; exact eq_int (cL I q DL)
  | str j=>obtain ⟨t',rfl⟩:=ry; exact PySem.EqMixed.eq_int_str (cL I q (by simp))
  | _=>exact absurd (show false=true from hs) Bool.false_ne_true
 | str i =>
  obtain ⟨t,rfl⟩:=rx
  cases y with
  | non=>cases ry; exact PySem.EqNone.eq_str_none (cL I q (by simp))
  | bl j=>cases ry; exact PySem.EqMixed.eq_str_bool (cL I q (by simp))
  | int j=>obtain ⟨t',rfl⟩:=ry; exact PySem.EqMixed.eq_str_int (cL I q (by simp))
  | str j=>obtain ⟨t',rfl⟩:=ry; exact eq_str (cL I q DM)
  | _=>exact absurd (show false=true from hs) Bool.false_ne_true
 | N6 i =>
  obtain ⟨t,rfl⟩:=rx
  cases y with
  | N6 j=>obtain ⟨t',rfl⟩:=ry; exact W.eq_bytes (cL I q MC)
  | _=>exact absurd (show false=true from hs) Bool.false_ne_true
 | _=>cases y<;>exact absurd (show false=true from hs) Bool.false_ne_true
theorem TV:i6 X (compareOp .NotEq) rNe:=by
 intro pins s U H x y v u Q I rx ry h;obtain ⟨hs,q⟩:=h
 cases x with
 | non =>
  cases rx
  cases y with
  | non=>cases ry; exact PySem.EqNone.ne_none_none (cL I q (by simp))
  | bl j=>cases ry; exact PySem.EqNone.ne_none_bool (cL I q (by simp))
  | int j=>obtain ⟨t',rfl⟩:=ry; exact PySem.EqNone.ne_none_int (cL I q (by simp))
  | str j=>obtain ⟨t',rfl⟩:=ry; exact PySem.EqNone.ne_none_str (cL I q (by simp))
  | _=>exact absurd (show false=true from hs) Bool.false_ne_true
 | bl i =>
  cases rx
  cases y with
  | non=>cases ry; exact PySem.EqNone.ne_bool_none (cL I q (by simp))
  | bl j=>cases ry; exact ne_bool (cL I q (congrArg not IZ))
  | str j=>obtain ⟨t',rfl⟩:=ry; exact PySem.EqMixed.ne_bool_str (cL I q (by simp))
  | _=>exact absurd (show false=true from hs) Bool.false_ne_true
 | int i =>
  obtain ⟨t,rfl⟩:=rx
  cases y with
  | non=>cases ry; exact PySem.EqNone.ne_int_none (cL I q (by simp))
  | int j=>obtain ⟨t',rfl⟩:=ry; exact ne_int (cL I q (congrArg not DL))
  | str j=>obtain ⟨t',rfl⟩:=ry; exact PySem.EqMixed.ne_int_str (cL I q (by simp))
  | _=>exact absurd (show false=true from hs) Bool.false_ne_true
 | str i =>
  obtain ⟨t,rfl⟩:=rx
  cases y with
  | non=>cases ry; exact PySem.EqNone.ne_str_none (cL I q (by simp))
  | bl j=>cases ry; exact PySem.EqMixed.ne_str_bool (cL I q (by simp))
  | int j=>obtain ⟨t',rfl⟩:=ry; exact PySem.EqMixed.ne_str_int (cL I q (by simp))
  | str j=>obtain ⟨t',rfl⟩:=ry; exact ne_str (cL I q (congrArg not DM))
  | _=>exact absurd (show false=true from hs) Bool.false_ne_true
 | N6 i =>
  obtain ⟨t,rfl⟩:=rx
  cases y with
  | N6 j=>obtain ⟨t',rfl⟩:=ry; exact W.ne_bytes (cL I q (congrArg not MC))
  | _=>exact absurd (show false=true from hs) Bool.false_ne_true
 | _=>cases y<;>exact absurd (show false=true from hs) Bool.false_ne_true
theorem MD:i6 X (compareOp .Lt) (OD λi j=>.bl (decide (i<j))):=YU λ_ _ _ _ _ _ _ q=>lt_int q
theorem ME:i6 X (compareOp .LtE) (OD λi j=>.bl (decide (i<=j))):=YU λ_ _ _ _ _ _ _ q=>le_int q
theorem aA6:i6 X (compareOp .Gt) (OD λi j=>.bl (decide (j<i))):=YU λ_ _ _ _ _ _ _ q=>gt_int q
theorem aE3:i6 X (compareOp .GtE) (OD λi j=>.bl (decide (j<=i))):=YU λ_ _ _ _ _ _ _ q=>ge_int q
theorem i6.or{f:Value->Value->Sem Value}{r r':R2}(h:i6 X f r)(h':i6 X f r'):i6 X f (λx y H Q=>r x y H Q\/r' x y H Q):=by
 intro pins s U H x y v u Q I rx ry q;rcases q with q | q
 .exact h pins s U H x y v u Q I rx ry q
 .exact h' pins s U H x y v u Q I rx ry q
theorem jQ(b:Expr){op:CmpOp}(h:op≠.In:=by decide)(h2:op≠.NotIn:=by decide):behindInMarks op b=false:=by
 have e1:(op == CmpOp.In)=false:=by cases op<;>first | rfl | exact absurd rfl h
 have e2:(op == CmpOp.NotIn)=false:=by cases op<;>first | rfl | exact absurd rfl h2
 cases b<;>simp [behindInMarks,e1,e2]
theorem YX{op:CmpOp}{r:R2}(ho:i6 X (compareOp op) r)(ha:PE X a ta)(hb:PE X b tb)(hm:behindInMarks op b=false):PE X (.Compare a [op] [b] pos) (tOp r ta tb):=by intro pins s U H Q I h;exact wpAny_Compare1 (aBv ha hb I h λv u s2 x y H2 I2 rx ry q=>ho pins s2 U H2 x y v u Q I2 rx ry q) hm
def FS(t:TE):TT:=λU H Q=>t U H λx H'=>∃ k,x=.bl k/\Q k H'
theorem YY{op:CmpOp}{r:R2}(ho:i6 X (compareOp op) r)(ha:PE X a ta)(hb:PE X b tb)(hm:behindInMarks op b=false):PT X (.Compare a [op] [b] pos) (FS (tOp r ta tb)):=by
 intro pins s U H Q I h;refine wpAny_isTrue_Compare1 (dN (ha pins s U H _ I h) λv s1 ⟨x,H1,I1,r1,q1⟩=>dN (hb pins s1 U H1 _ I1 q1) λu s2 ⟨y,H2,I2,r2,q2⟩ =>
  dN (ho pins s2 U H2 x y v u _ I2 r1 r2 q2) λc s3 ⟨z,H3,I3,r3,k,e,q3⟩=>?_) hm
 subst e;cases r3;exact wpAny_truthy_bool ⟨H3,I3,q3⟩
def I0(r r':R2)(ta tb tc:TE):TE:=λU H Q=>ta U H λx H1=>tb U H1 λy H2=>r x y H2 λz H3=>∃ k,z=.bl k /\
 (if k=true then tc U H3 λw' H4=>r' y w' H4 Q else Q (.bl false) H3)
theorem TX{op op':CmpOp}{r r':R2}(ho:i6 X (compareOp op) r)(ho':i6 X (compareOp op') r')(ha:PE X a ta)(hb:PE X b tb)(hc:PE X c tc)
  (hm:lastMarks [op,op'] [b,c]=false:=by with_unfolding_all rfl):PE X (.Compare a [op,op'] [b,c] pos) (I0 r r' ta tb tc):=by
 intro pins s U H Q I h;refine Compare_chain (dN (ha pins s U H _ I h) λv s1 ⟨x,H1,I1,r1,q1⟩=>chain_link (dN (hb pins s1 U H1 _ I1 q1) λu s2 ⟨y,H2,I2,r2,q2⟩ =>
  dN (ho pins s2 U H2 x y v u _ I2 r1 r2 q2) λd s3 ⟨z,H3,I3,r3,k,e,q3⟩=>?_)) hm
 subst e;cases r3;refine wpAny_truthy_bool ?_
 cases k with
 | false=>exact ite_ff ⟨.bl false,H3,I3,rfl,q3⟩
 | true=>exact ite_tt (chain_last (dN (hc pins s3 U H3 _ I3 q3) λw' s4 ⟨z',H4,I4,r4,q4⟩=>ho' pins s4 U H4 y z' u w' Q I4 r2 r4 q4))
theorem TY{op op':CmpOp}{r r':R2}(ho:i6 X (compareOp op) r)(ho':i6 X (compareOp op') r')(ha:PE X a ta)(hb:PE X b tb)(hc:PE X c tc)
  (hm:lastMarks [op,op'] [b,c]=false:=by with_unfolding_all rfl):PT X (.Compare a [op,op'] [b,c] pos) (FS (I0 r r' ta tb tc)):=by
 intro pins s U H Q I h;refine isTrue_chain (dN (ha pins s U H _ I h) λv s1 ⟨x,H1,I1,r1,q1⟩=>test_link (dN (hb pins s1 U H1 _ I1 q1) λu s2 ⟨y,H2,I2,r2,q2⟩ =>
  dN (ho pins s2 U H2 x y v u _ I2 r1 r2 q2) λd s3 ⟨z,H3,I3,r3,k,e,q3⟩=>?_)) hm
 subst e;cases r3;refine wpAny_truthy_bool ?_
 cases k with
 | false =>
  obtain ⟨k',e',q'⟩:=q3;cases e';exact ite_ff ⟨H3,I3,q'⟩
 | true =>
  refine ite_tt (test_last (dN (hc pins s3 U H3 _ I3 q3) λw' s4 ⟨z',H4,I4,r4,q4⟩=>dN (ho' pins s4 U H4 y z' u w' _ I4 r2 r4 q4) λd' s5 ⟨z2,H5,I5,r5,k2,e2,q5⟩=>?_));subst e2;cases r5;exact wpAny_truthy_bool ⟨H5,I5,q5⟩
def aE4(K:W.Frag)(x:V)(H:Hp)(k:Bool):Prop :=
 match x with
 | .non=>k=false
 | .bl b=>k=b
 | .int i=>k=(i != 0)
 | .str y=>y.length<=sizeLine/\k=((y.length:Int) != 0)
 | .N6 y=>y.size<=sizeLine/\k=((y.size:Int) != 0)
 | .ref p=>(∃ xs,gH K H p xs/\k=!xs.isEmpty)\/(∃ xs,gA K H p xs/\k=!xs.isEmpty) \/ ∃ kvs,H p=some (.dK kvs)/\k=!kvs.isEmpty
 | _=>False
theorem JA{κ:Type}{kvs:List (κ×V)}{vs:List (κ×Value)}(r:KV kvs vs):(!vs.isEmpty)=!kvs.isEmpty:=by cases r<;>rfl
theorem nD{xs:List V}{its:List Value}(r:Vals xs its):(!its.toArray.isEmpty)=!xs.isEmpty:=by cases r<;>simp
theorem DN:(sizeLine:Nat)<2 ^ 63:=by rw [sizeLine_eq]; decide
theorem aCF:aIs X (λx H Q=>∃ k,aE4 X.K x H k/\Q k H):=by
 intro pins s U H x v Q I rx h;obtain ⟨k,e,q⟩:=h;have hl:=DN;have hs:sizeLine=16777216:=sizeLine_eq
 cases x with
 | non =>
  cases rx;have e':k=false:=e;subst e';exact truthy_none ⟨H,I,q⟩
 | bl b =>
  cases rx;have e':k=b:=e;subst e';exact wpAny_truthy_bool ⟨H,I,q⟩
 | int i =>
  obtain ⟨t,rfl⟩:=rx;have e':k=(i != 0):=e;subst e';exact PySem.P.truthy_int ⟨H,I,q⟩
 | str y =>
  obtain ⟨t,rfl⟩:=rx;obtain ⟨hy,e'⟩:y.length<=sizeLine/\k=((y.length:Int) != 0):=e;subst e';exact PySem.P.truthy_str (by omega) ⟨H,I.tok _,q⟩
 | N6 y =>
  obtain ⟨t,rfl⟩:=rx;obtain ⟨hy,e'⟩:y.size<=sizeLine/\k=((y.size:Int) != 0):=e;subst e';exact W.truthy_bytes (by omega) ⟨H,I.tok _,q⟩
 | ref p =>
  cases rx;have e':(∃ xs,gH X.K H p xs/\k=!xs.isEmpty)\/(∃ xs,gA X.K H p xs/\k=!xs.isEmpty) \/ ∃ kvs,H p=some (.dK kvs)/\k=!kvs.isEmpty:=e;rcases e' with ⟨xs,hx,e'⟩ | ⟨xs,hx,e'⟩ | ⟨kvs,hx,e'⟩
  .subst e';obtain ⟨its,r,pl,hz⟩:=I.list hx;have hlen:=r.length;exact wpAny_truthy_list pl.isList (by simp only [size_toArray]; omega) ⟨H,I.tok _,by rw [nD r]; exact q⟩
  .subst e';obtain ⟨its,r,pl,hz⟩:=I.tuple hx;have hlen:=r.length;exact truthy_tuple pl (by simp only [size_toArray]; omega) ⟨H,I.tok _,by rw [nD r]; exact q⟩
  .subst e';obtain ⟨hz,hS,vs,r,m⟩:kvs.length<=sizeLine/\(p == sysModules)=false /\ ∃ vs,KV kvs vs/\s.heap.DictOf (bB X.prog X.w) p vs:=I.hok p _ hx;have hlen:kvs.length=vs.length:=Paired.length r;exact wpAny_truthy_dict hS m (by omega) ⟨H,I.tok _,by rw [JA r]; exact q⟩
 | _=>exact (show False from e).elim
theorem TZ(ha:PE X a ta)(he:∀ whole,isTrue a X.env whole=(do let v <- whole; standAt a.pos; holding [v] (truthy v))) :
  PT X a (λU H Q=>ta U H λx H'=>∃ k,aE4 X.K x H' k/\Q k H'):=by
 intro pins s U H Q I h;exact isTrue_plain (dN (ha pins s U H _ I h) λv s1 ⟨x,H1,I1,r1,q1⟩=>aCF pins s1 U H1 x v Q I1 r1 q1) (he _)
theorem JB:i6 X (binaryOp .Add) (λx y H Q=>∃ i j,x=.str i/\y=.str j/\i.length+j.length<=sizeLine/\Q (.str (i++j)) H):=by intro pins s U H x y v u Q I rx ry h;obtain ⟨i,j,rfl,rfl,hz,q⟩:=h;obtain ⟨t,rfl⟩:=rx;obtain ⟨t',rfl⟩:=ry;exact add_str (λt' tk=>⟨.str (i++j),H,I.tok _,⟨_,rfl⟩,q⟩) hz
theorem vals1{x:V}{us:List Value}(r:Vals [x] us):∃ u,us=[u]/\RelV x u:=by
 cases r with
 | cons r1 r2=>cases r2; exact ⟨_,rfl,r1⟩
theorem vals2{x y:V}{us:List Value}(r:Vals [x,y] us):∃ u w',us=[u,w']/\RelV x u/\RelV y w':=by
 cases r with
 | cons r1 r2 =>
  cases r2 with
  | cons r3 r4=>cases r4; exact ⟨_,_,rfl,r1,r3⟩
end
end L2
namespace L2
open PySem PySem.Spec PyProof.Rows
structure aCG (h:Heap) (x dx C:Addr) (mA:Q0Z):Prop where
 obj:h.get? x=some (W.instObj C dx)
 ns:h.Ns1 dx mA
 ne:dx≠x
theorem OE{h:Heap}{dx:Addr}{mA:Q0Z}(n:h.Ns1 dx mA):∃ od,h.get? dx=some od /\ ∀ name,W.lookIn name od=some (mA name):=by
 obtain ⟨o,es,ep,ho,hd,hk,_,hm⟩:=n;refine ⟨o,ho,λname=>?_⟩;have e:=hm name;unfold nsFind findBy at e;rw [<- Array.find?_toList] at e;unfold W.lookIn;rw [hd];dsimp only;split
 .rename_i y q;rw [q] at e;exact congrArg some e
 .rename_i q;rw [q] at e;have a:es.toList.any (·.refKey)=false:=by rw [List.any_eq_false];intro y hy;obtain ⟨z,t,hkey⟩:=hk y (Array.mem_toList_iff.mp hy);simp [DictEntry.refKey,hkey]
  have a':¬ es.toList.any (·.refKey)=true:=by rw [a]; exact Bool.false_ne_true
  rw [if_neg a'];exact congrArg some e
theorem aCG.look{h:Heap}{x dx C:Addr}{mA:Q0Z}(I:aCG h x dx C mA):∃ od,W.InstAt h x (W.instObj C dx) C (some od) /\ ∀ name,W.lookIn name od=some (mA name) :=
 let ⟨od,ho,hl⟩:=OE I.ns
 ⟨od,⟨I.obj,rfl,rfl,ho⟩,hl⟩
section
variable{prog:Program}{w:World}{A:Around}{E:Q0Q}{s:Shared}{K:W.Frag}{x dx C f:Addr}{mA:Q0Z}{name:Str}{v:Value}
end
theorem oD.some_of{v:V}{o:Option Value}(r:oD (some v) o):∃ u,o=some u/\RelV v u:=by
 cases o with
 | none=>exact (show False from r).elim
 | some u=>exact ⟨u,rfl,r⟩
section
variable{P:Program}{w:World}{H H':Hp}{h h':Heap}{a C dx:Addr}{fs fs':List (Str×V)}
theorem YZ(hok:pU P w H h)(e:H a=some (.ins C dx fs)):∃ mA,aCG h a dx C mA/\(∀ f,oD (fs.lookup f) (mA f))/\PySem.Within mA (fs.map (·.1))/\fs.length<=1000/\H dx=some (.own a):=by obtain ⟨d,z,ne,ob,mA,n,r,q⟩:=(show eA P w H h a (.ins C dx fs) from hok a _ e);exact ⟨mA,⟨ob,n,ne⟩,r,q,z,d⟩
end
structure Cls (K:W.Frag) (C:Addr):Prop where
 pg:W.plainGet K C Str.empty=true
 hd:W.hasDictIn K C=true
 po:W.plainOver K C=true
 sa:W.findIn K (.ref C) "__setattr__" = some (some (.builtin "object.__setattr__"))
theorem Cls.get{C:Addr}(c:Cls K C)(f:Str):W.plainGet K C f=true:=c.pg
structure Con (K:W.Frag) (C:Addr) (f:Str) (v:V) (u:Value):Prop where
 at_:W.findIn K (.ref C) f=some (some u)
 rel:RelV v u
 get:W.specialIn K u "__get__" = some none
 cp:W.copiedNames.contains f=false
structure Meth (K:W.Frag) (C:Addr) (m:Str) (f:Addr):Prop where
 at_:W.findIn K (.ref C) m=some (some (.ref f))
 fn:W.isFn K (.ref f)=true
 kp:W.keepIn K (.ref f)=true
section
variable{X:Cx}{pins:List (Addr×Obj)}{U:St}{H:Hp}{s:Shared}{a C dx:Addr}{fs:List (Str×V)}{f:Str}{v:V}{A:Around}{E:Q0Q}
end
section
variable{X:Cx}{o e value:Expr}{f:Str}{pos pos' tpos:Pos}{ta tv:TE}
end
section
variable{X:Cx}{pins:List (Addr×Obj)}{U:St}{H:Hp}{s:Shared}{A:Around}{E:Q0Q}{Q:Q0Q}{c:Value}{b:Bool}
inductive sG (K:W.Frag) (H:Hp):V->Value->Prop where
 | non:sG K H .non (.type "NoneType")
 | bl (x:Bool):sG K H (.bl x) (.type "bool")
 | int (i:Int):sG K H (.int i) (.type "int")
 | str (x:Str):sG K H (.str x) (.type "str")
 | flt (x:UInt64):sG K H (.flt x) (.type "float")
 | lst {a:Addr} {xs:List V} (e:H a=some (.lst xs)):sG K H (.ref a) (.type "list")
 | HL {a:Addr} {o:Obj} {xs:List V} (e:H a=some (.HL o (.lst xs))):sG K H (.ref a) (.type "list")
 | tup {a:Addr} {xs:List V} (e:H a=some (.tup xs)):sG K H (.ref a) (.type "tuple")
 | dK {a:Addr} {kvs:List (Key×V)} (e:H a=some (.dK kvs)):sG K H (.ref a) (.type "dict")
 | dT {a:Addr} {kvs:List (List Key×V)} (e:H a=some (.dT kvs)):sG K H (.ref a) (.type "dict")
 | ins {a C dx:Addr} {fs:List (Str×V)} (e:H a=some (.ins C dx fs)) (cl:Cls K C) (ha:W.findIn K (.ref C) "__class__" = some (some (.builtin "object.__class__")))
   (hn:W.specialIn K (.builtin "object.__class__") "__get__" = some (some (.builtin "getset_descriptor.__get__"))) (htk:W.takesIn K (.builtin "object.__class__")=some true)
   (hm:W.mroIn K C (.type "object")=some true):sG K H (.ref a) (.ref C)
theorem OG{x:V}{u t:Value}(I:Inv X pins U H s)(rx:RelV x u)(ty:sG X.K H x t)(e:W.kitOne X.K t c=some b)(h:∀ tk,Q (.bool b) { s with toks:=tk }) :
  wpAny (model X.prog X.w) A (call (.builtin "isinstance") [u,c]) Q E s:=by
 cases ty with
 | non=>cases (show u=Value.none from rx); exact W.kia_one W.kitx_none I.zH True.intro e (λz=>nomatch z) h
 | bl y=>cases (show u=Value.bool y from rx); exact W.kia_one W.kitx_bool I.zH True.intro e (λz=>nomatch z) h
 | int i=>obtain ⟨t,q⟩:=(show ∃ t,u=Value.int i t from rx); cases q; exact W.kia_one W.kitx_int I.zH True.intro e (λz=>nomatch z) h
 | str y=>obtain ⟨t,q⟩:=(show ∃ t,u=Value.str y t from rx); cases q; exact W.kia_one W.kitx_str I.zH True.intro e (λz=>nomatch z) h
 | flt y=>obtain ⟨t,q⟩:=(show ∃ t,u=Value.float y t from rx); cases q; exact W.kia_one W.kitx_float I.zH True.intro e (λz=>nomatch z) h
 | @lst a xs ea =>
  cases (show u=Value.ref a from rx);obtain ⟨_,_,n,_,h1⟩:=(show eA X.prog X.w H s.heap a (.lst xs) from I.hok a _ ea);exact W.kia_one W.kitx_list I.zH ⟨_,h1,rfl⟩ e (λz=>nomatch z) h
 | @HL a ob xs ea =>
  cases (show u=Value.ref a from rx);obtain ⟨_,_,_,n,_,h1⟩:=(show eA X.prog X.w H s.heap a (.HL ob (.lst xs)) from I.hok a _ ea);exact W.kia_one W.kitx_list I.zH ⟨_,h1,rfl⟩ e (λz=>nomatch z) h
 | @tup a xs ea =>
  cases (show u=Value.ref a from rx);obtain ⟨_,_,_,p⟩:=(show eA X.prog X.w H s.heap a (.tup xs) from I.hok a _ ea);obtain ⟨o,h1,h2,_⟩:=p;exact W.kia_one W.kitx_tuple I.zH ⟨o,h1,h2⟩ e (λz=>nomatch z) h
 | @dK a kvs ea =>
  cases (show u=Value.ref a from rx);obtain ⟨_,_,vs,_,p⟩:=(show eA X.prog X.w H s.heap a (.dK kvs) from I.hok a _ ea);obtain ⟨o,es,ep,h1,h2,_⟩:=p;exact W.kia_one W.kitx_dict I.zH ⟨o,h1,h2.1⟩ e (λz=>nomatch z) h
 | @dT a kvs ea =>
  cases (show u=Value.ref a from rx);obtain ⟨_,_,xs,_,o,es,ep,h1,h2,_⟩:=(show eA X.prog X.w H s.heap a (.dT kvs) from I.hok a _ ea);exact W.kia_one W.kitx_dict I.zH ⟨o,h1,h2.1⟩ e (λz=>nomatch z) h
 | @ins a C dx fs ea cl ha hn htk hm =>
  cases (show u=Value.ref a from rx);obtain ⟨mA,O,_⟩:=YZ I.hok ea;obtain ⟨od,J,_⟩:=O.look;exact W.kia_one (W.kitx_own (cl.get _) cl.hd ha hn htk hm) I.zH J e (λz=>nomatch z) h
end
end L2
namespace L2
open PySem PySem.Spec PyProof.Rows
structure lA (k:Nat) (A:Around):Prop where
 hd:A.handled=none
 dp:A.depth+3*k+5<recursionLimit
 un:A.units+16*k+200<cLine
theorem lA.mono{j k:Nat}{A:Around}(r:lA k A)(h:j<=k):lA j A:=⟨r.hd,by have:=r.dp; omega,by have:=r.un; omega⟩
theorem lA.deeper{k:Nat}{A:Around}(r:lA (k+1) A)(env:Env):lA k (A.deeper env) :=
 ⟨r.hd,by have:=r.dp; show A.depth+1+3*k+5<_; omega,by have:=r.un; show A.units+3+16*k+200<_; omega⟩
theorem lA.depth{k:Nat}{A:Around}(r:lA k A):A.depth<recursionLimit:=by have:=r.dp; omega
def aE5:TA:=λ_ H Q=>Q [] H
def aA7(ta:TE)(tr:TA):TA:=λU H Q=>ta U H λx H1=>tr U H1 λxs H2=>Q (x::xs) H2
section
variable{X:Cx}{e:Expr}{es:List Expr}{te:TE}{t:TA}{pos:Pos}
theorem xM:PA X [] aE5:=λ_ _ _ _ H Q I h=>Calls.spliced_nil ⟨[],H,I,.nil,h⟩
theorem nE(ha:PE X e te)(hr:PA X es t)(hs:starEach (e::es) X.env=(false,eval e X.env)::starEach es X.env:=by rfl):PA X (e::es) (aA7 te t):=by intro pos pins s U H Q I h;rw [hs];show wpAny _ _ (spliced ((false,eval e X.env)::backTo pos (starEach es X.env))) _ _ s;refine Calls.spliced_cons (dN (ha pins s U H _ I h) λu s1 ⟨x,H1,I1,r1,q1⟩=>?_);exact dN (hr pos pins s1 U H1 _ I1 q1) λus s2 hq3=>by obtain ⟨xs,H2,I2,r2,q2⟩:=hq3; exact ⟨x::xs,H2,I2,.cons r1 r2,q2⟩
def aIt(t:TA):TE:=λU H Q=>t U H λxs H1=>xs.length<=sizeLine /\ ∀ p,H1 p=none->Q (.ref p) (upd H1 p (.tup xs))
def aIu(t:TA):TE:=λU H Q=>t U H λxs H1=>xs.length<=sizeLine /\ ∀ p,H1 p=none->Q (.ref p) (upd H1 p (.lst xs))
theorem T4{x1}(h:PA X es t):PE X (.Tuple es x1 pos) (aIt t):=by intro pins s U H Q I hq;refine wpAny_Tuple_spliced (dN (h pos pins s U H _ I hq) λus s1 ⟨xs,H1,I1,r,z,q⟩=>⟨by rw [<- r.length]; exact z,?_⟩);have hf:H1 s1.heap.objs.size=none:=I1.hok.fresh (le_refl _);refine ⟨.ref s1.heap.objs.size,upd H1 s1.heap.objs.size (.tup xs),I1.laid (t':=s1.toks) (λb u e=>get?_push_of_some _ e) (le_refl _) ?_,rfl,q _ hf⟩;exact ⟨z,us,r,⟨_,get?_push_size _ rfl,rfl,_,rfl⟩⟩
theorem aCH(h:PA X es t):PE X (.List es pos) (aIu t):=by intro pins s U H Q I hq;refine wpAny_List_spliced (dN (h pos pins s U H _ I hq) λus s1 ⟨xs,H1,I1,r,z,q⟩=>⟨by rw [<- r.length]; exact z,?_⟩);have hf:H1 s1.heap.objs.size=none:=I1.hok.fresh (le_refl _);refine ⟨.ref s1.heap.objs.size,upd H1 s1.heap.objs.size (.lst xs),I1.laid (t':=s1.toks) (λb u e=>get?_push_of_some _ e) (le_refl _) ?_,rfl,q _ hf⟩;exact ⟨z,us,0,r,get?_push_size _ rfl⟩
end
abbrev Sp:=List V->Hp->VK->XK->Prop
abbrev OH:=List Env->Hp->Shared->XK->Q0Q
structure Y0 (P:Program) (w:World) (K:W.Frag) (mg:Q0Z) (base:Heap) (A:Around) (outer:List Env) (s:Shared) (H:Hp):Prop where
 frames:A.frames=some outer
 mod:Mod K mg base
 bs:∀ b o,base.get? b=some o->s.heap.get? b=some o/\H b=none
 YM:base.objs.size<=s.heap.objs.size
 vD:s.heap.FunFrames base outer
 frf:∀ b∈frs outer,H b=none
 hok:pU P w H s.heap
 bare:AllBare s.gens
def CE(outer:List Env)(P:Program)(w:World)(H:Hp)(s:Shared)(Q:VK)(u:Value)(s':Shared):Prop :=
 ∃ v H',s'.os=s.os/\AllBare s'.gens/\Un (frs outer) [] H H' s.heap s'.heap/\pU P w H' s'.heap/\RelV v u/\Q v H'
def CR(CX:OH)(outer:List Env)(P:Program)(w:World)(H:Hp)(s:Shared)(Q:VK)(E:XK)(r:Result)(s':Shared):Prop :=
 match r with
 | .ok (.ret u)=>CE outer P w H s Q u s'
 | .ok _=>False
 | .error e=>CX outer H s E e s'
structure aW (P:Program) (w:World) (K:W.Frag) (mg:Q0Z) (base:Heap) (CX:OH) (k:Nat) (f:Addr) (fd:FuncData) (ps:List Str) (sp:Sp):Prop where
 len:∀ vs H Q E,sp vs H Q E->vs.length=ps.length
 run:∀ (A:Around) (outer:List Env) (s:Shared) (H:Hp) (args:Args) (us:List Value) (vs:List V) (Q:VK) (E:XK),lA k A->Y0 P w K mg base A outer s H->BindsTo s fd args (ps.zip us)->Vals vs us->sp vs H Q E ->
  codeAny (model P w) A (.call (.ref f) args) (CR CX outer P w H s Q E) s
theorem aW.mono{P:Program}{w:World}{K:W.Frag}{mg:Q0Z}{base:Heap}{CX:OH}{j k:Nat}{f:Addr}{fd:FuncData}{ps:List Str}{sp:Sp}(F:aW P w K mg base CX j f fd ps sp)(h:j<=k) :
  aW P w K mg base CX k f fd ps sp:=⟨F.len,λA outer s H args us vs Q E hr=>F.run A outer s H args us vs Q E (hr.mono h)⟩
section
variable{X:Cx}{pins:List (Addr×Obj)}{U:St}{H:Hp}{s s':Shared}
theorem Inv.env0(I:Inv X pins U H s):Y0 X.prog X.w X.K X.mg X.base X.A X.stack s H :=
 ⟨I.ok.frames,I.ok.mod,I.bs,le_trans I.ok.YM I.sz,I.stack,I.DJ,I.hok,I.bare⟩
theorem Inv.after{Q:VK}{u:Value}(I:Inv X pins U H s)(h:CE X.stack X.prog X.w H s Q u s'):EP X pins U Q u s':=by obtain ⟨v,H',os,bare,un,hok,r,q⟩:=h;obtain ⟨hh,g,d,t,os'⟩:=s';obtain rfl:os' = s.os:=os;exact ⟨v,H',I.call (h':=hh) (g':=g) (d':=d) (t':=t) (ch:=[]) un hok bare (λb z=>absurd z (by simp)),r,q⟩
end
def aE6(sp:Sp)(dvs:List V)(E:XK)(t:TA):TE:=λU H Q=>t U H λvs H1=>sp (vs++dvs) H1 Q E
def Binds(K:W.Frag)(fd:FuncData)(ps:List Str)(ds:List Value):Prop :=
 ∀ (s:Shared) (us:List Value),K.In s.heap->(us++ds).length=ps.length->BindsTo s fd ⟨us,[]⟩ (ps.zip (us++ds))
theorem Binds.all{fd:FuncData}{ps:List Str}(h:∀ us:List Value,us.length=ps.length->bindArgs fd ⟨us,[]⟩=pure (ps.zip us)):Binds K fd ps []:=λs us _ hl=>by rw [append_nil] at hl ⊢;exact .of_eq (h us hl)
def Passes(CX:OH)(X:Cx)(E:XK):Prop:=∀ (pins:List (Addr×Obj)) (U:St) (H:Hp) (s:Shared) (e:Value) (s':Shared),Inv X pins U H s->CX X.stack H s E e s'->X.xe e s'
section
variable{X:Cx}{CX:OH}{k:Nat}{f C:Addr}{fd:FuncData}{ps:List Str}{sp:Sp}{dvs:List V}{ds:List Value}{E:XK}{x m:Str}{p pos apos:Pos}{e o:Expr}{es:List Expr}{ta:TE}{t:TA}
theorem aCI{pins:List (Addr×Obj)}{U:St}{H:Hp}{s:Shared}{Q:VK}{us:List Value}{vs:List V}(F:aW X.prog X.w X.K X.mg X.base CX k f fd ps sp)(hr:lA k X.A)(hb:Binds X.K fd ps ds)(hd:Vals dvs ds)(hx:Passes CX X E)
  (I:Inv X pins U H s) (r:Vals vs us) (h:sp (vs++dvs) H Q E):wpAny (model X.prog X.w) X.A (call (.ref f) us) (EP X pins U Q) X.xe s:=by
 have r2:Vals (vs++dvs) (us++ds):=r.append hd;have hl:(us++ds).length=ps.length:=by rw [<- r2.length]; exact F.len _ _ _ _ h
 refine wpAny_call (codeAny_mono (F.run X.A X.stack s H ⟨us,[]⟩ (us++ds) (vs++dvs) Q E hr I.env0 (hb s us I.zH hl) r2 h) λr s' hq=>?_)
 cases r with
 | error e=>exact hx pins U H s e s' I hq
 | ok fl =>
  cases fl with
  | ret u=>exact I.after hq
  | next=>exact False.elim hq
  | brk=>exact False.elim hq
  | cont=>exact False.elim hq
theorem DO(F:aW X.prog X.w X.K X.mg X.base CX k f fd ps sp)(hr:lA k X.A)(hg:Gl X x)(hm:X.mg x=some (.ref f))(hk:W.keepIn X.K (.ref f)=true)(hb:Binds X.K fd ps ds)(hd:Vals dvs ds)(hx:Passes CX X E)
  (ha:PA X (e::es) t) (hdb:(x == ("__debug__" : Str))=false:=by decide) (he:starEach (e::es) X.env=(false,eval e X.env)::starEach es X.env:=by rfl) (hpl:(backTo pos (starEach es X.env)).any (·.1)=false:=by rfl) :
  PE X (.Call (.Name x p) (e::es) [] pos) (aE6 sp dvs E t):=by
 intro pins s U H Q I h;refine wpAny_Call_Name_kw (DK I hg hm ?_ hdb);refine W.callWith_K (h₀:=X.base) I.ok.mod.kin hk (dN (ha pos pins s U H _ I h) λus s1 ⟨vs,H1,I1,r,q⟩=>⟨I1.zH,?_⟩) he hpl;exact aCI F hr hb hd hx I1 r q
structure Mk (K:W.Frag) (C f:Addr):Prop where
 makes:W.makesIn K C=true
 init:W.findIn K (.ref C) "__init__" = some (some (.ref f))
 fn:W.isFn K (.ref f)=true
 kp:W.keepIn K (.ref C)=true
end
section
variable{X:Cx}{CX:OH}{k:Nat}{f C:Addr}{fd:FuncData}{ps ks:List Str}{sp:Sp}{E:XK}{x m:Str}{p pos apos kpos:Pos}{e o:Expr}{es:List Expr}{kws:List Keyword}{te ta:TE}{t tk:TA}{nm:Option Str}
structure aIv (K:W.Frag) (fd:FuncData) (ps ks:List Str) (g:List Value->List Value->List Value) (gV:List V->List V->List V):Prop where
 to:∀ (s:Shared) (us ws:List Value),K.In s.heap->(g us ws).length=ps.length->BindsTo s fd ⟨us,ks.zip ws⟩ (ps.zip (g us ws))
 rel:∀ {vs:List V} {us:List Value} {zs:List V} {ws:List Value},Vals vs us->Vals zs ws->Vals (gV vs zs) (g us ws)
variable{g:List Value->List Value->List Value}{gV:List V->List V->List V}
end
structure bH (N P:List Str) (sc:Scope):Prop where
 kind:sc.kind=.function
 co:sc.isCoroutine=false
 gen:sc.isGenerator=false
 nd:N.Nodup
 pre:N.take P.length=P
 par:∀ x∈P,sc.names.lookup x=some .local\/sc.names.lookup x=some .cell
 aCJ:∀ y∈sc.names,y.2≠.free
theorem BI{kindOf:Str->Option NameKind}{x:Str}:∀ {binds:List (Str×Value)} {m:Q0Z},(∀ v,(x,v)∉binds)->bindL kindOf binds m x=m x
 | [],_,_=>rfl
 | (n,v)::r,m,h=>by
  unfold bindL;rw [BI λw hw=>h w (mem_cons_of_mem _ hw)];split
  .have:x≠n:=by rintro rfl; exact h v mem_cons_self
   simp [this]
  .rfl
theorem BJ{kindOf:Str->Option NameKind}{x:Str}:∀ {binds:List (Str×Value)} {m:Q0Z},(∀ v,(x,v)∉binds)->bindC kindOf binds m x=m x
 | [],_,_=>rfl
 | (n,v)::r,m,h=>by
  unfold bindC;rw [BJ λw hw=>h w (mem_cons_of_mem _ hw)];split
  .rfl
  .have:x≠n:=by rintro rfl; exact h v mem_cons_self
   simp [this]
theorem BK{kindOf:Str->Option NameKind}{x:Str}{v:Value}:∀ {P:List Str} {vs:List Value} {i:Nat} {m:Q0Z},P.Nodup->P[i]? = some x->vs[i]? = some v->kindOf x=some .local ->
  bindL kindOf (P.zip vs) m x=some v
 | [],_,_,_,_,h,_,_=>by simp at h
 | _::_,[],_,_,_,_,h,_=>by simp at h
 | p::P,w::vs,0,m,nd,h1,h2,hk=>by simp at h1 h2; subst h1; subst h2;show bindL kindOf ((p,w)::P.zip vs) m p=_;unfold bindL;rw [BI λv hv=>(List.nodup_cons.mp nd).1 (of_mem_zip hv).1,if_pos hk];simp
 | p::P,w::vs,i+1,m,nd,h1,h2,hk=>by show bindL kindOf ((p,w)::P.zip vs) m x=_;unfold bindL;exact BK (i:=i) (List.nodup_cons.mp nd).2 (by simpa using h1) (by simpa using h2) hk
theorem BL{kindOf:Str->Option NameKind}{x:Str}{v:Value}:∀ {P:List Str} {vs:List Value} {i:Nat} {m:Q0Z},P.Nodup->P[i]? = some x->vs[i]? = some v->kindOf x≠some .local ->
  bindC kindOf (P.zip vs) m x=some v
 | [],_,_,_,_,h,_,_=>by simp at h
 | _::_,[],_,_,_,_,h,_=>by simp at h
 | p::P,w::vs,0,m,nd,h1,h2,hk=>by simp at h1 h2; subst h1; subst h2;show bindC kindOf ((p,w)::P.zip vs) m p=_;unfold bindC;rw [BJ λv hv=>(List.nodup_cons.mp nd).1 (of_mem_zip hv).1,if_neg hk];simp
 | p::P,w::vs,i+1,m,nd,h1,h2,hk=>by show bindC kindOf ((p,w)::P.zip vs) m x=_;unfold bindC;exact BL (i:=i) (List.nodup_cons.mp nd).2 (by simpa using h1) (by simpa using h2) hk
def start(N:List Str)(vs:List V):St:=vs.map some++List.replicate (N.length - vs.length) none
def t6(CX:OH)(P:Program)(w:World)(K:W.Frag)(mg:Q0Z)(base:Heap)(N:List Str)(qual:Str)(scope:Scope)(f:Addr)(cd:Value)(A:Around)(outer:List Env)(s:Shared)(H:Hp)(E:XK):Cx where
 prog:=P
 w:=w
 K:=K
 mg:=mg
 base:=base
 A:=A.deeper (envOfC qual scope s.heap.objs.size f cd)
 N:=N
 s₀:=s
 H₀:=H
 env:=envOfC qual scope s.heap.objs.size f cd
 outer:=outer
 stack:=envOfC qual scope s.heap.objs.size f cd::outer
 ex:=[]
 calm:=true
 fn:=λ_=>true
 pn:=[]
 xe:=λe s'=>wpAny (model P w) (A.deeper (envOfC qual scope s.heap.objs.size f cd)) (leaving (envOfC qual scope s.heap.objs.size f cd) e) (λ_ s''=>CX outer H s E e s'') (λe' s''=>CX outer H s E e' s'') s'
theorem FT{sc:Scope}{n:Nat}{x:Str}(h:sc.names.lookup x=some .cell):∃ c,(cellsFrom n sc.names []).lookup x=some c:=by have q:=W.cellsFrom_some sc.names n [] (.inl h);exact Option.isSome_iff_exists.mp q
theorem OI{CX:OH}{P:Program}{w:World}{K:W.Frag}{mg:Q0Z}{base:Heap}{N ps:List Str}{qual:Str}{scope:Scope}{f:Addr}{cd:Value}{A:Around}{outer:List Env}{s s1:Shared}{H:Hp}{E:XK}{us:List Value}{vs:List V}
  (S:bH N ps scope) (hd:A.handled=none) (e0:Y0 P w K mg base A outer s H) (hl:vs.length=ps.length) (r:Vals vs us)
  (x:InCallC s s.heap.objs.size (bindL (envOfC qual scope s.heap.objs.size f cd).kindOf (ps.zip us) λ_=>none) (cellsFrom (s.heap.objs.size+1) scope.names []) (bindC (envOfC qual scope s.heap.objs.size f cd).kindOf (ps.zip us) λ_=>none) s1) :
  Inv (t6 CX P w K mg base N qual scope f cd A outer s H E) [] (start N vs) H s1:=by
 have hpl:ps.length<=N.length:=by have:=congrArg List.length S.pre; rw [length_take] at this; omega
 obtain ⟨h1,tk,rfl,hk⟩:=x.done;have noA:∀ b:Addr,b∉(t6 CX P w K mg base N qual scope f cd A outer s H E).ex:=λb z=>absurd (show b∈([]:List Addr) from z) (by simp);refine ⟨⟨e0.mod,S.kind,rfl,rfl,le_refl _,λy z c h1 h2=>?_,λy hy=>?_,λy c _ h=>?_,λ_=>hd,Around.frames_deeper e0.frames,.inr ⟨rfl,rfl⟩,λb z=>absurd z (noA b),e0.bs,e0.YM,λb _ _=>noA b,λb z=>absurd z (noA b),e0.vD,e0.frf⟩,
  rfl,e0.bare,Un.kept hk,⟨_,x.toInCall.ns,λi y v h1 h2 h3=>?_⟩,λy c h=>⟨_,x.cell y c h⟩,e0.hok.fresh (le_refl _),λy c h=>?_,λp hp=>absurd (show p∈([]:List (Addr×Obj)) from hp) (by simp),e0.hok.kept hk,?_⟩
 .exact name_of_addr x.apart (PySem.mem_of_lookup h1) (PySem.mem_of_lookup h2)
 .have hy:scope.names.lookup y=some .cell\/scope.names.lookup y=some .free:=hy;rcases hy with hy | hy
  .exact FT hy
  .exact absurd rfl (S.aCJ _ (PySem.mem_of_lookup hy))
 .exact Nat.le_of_lt (x.above y c (PySem.mem_of_lookup h))
 .have hi:i<vs.length:=by
   unfold start at h2;by_cases hi:i<vs.length
   .exact hi
   .rw [getElem?_append_right (by simpa using hi)] at h2;rw [getElem?_replicate] at h2;split at h2<;>cases h2
  have ha:vs[i]? = some v:=by
   unfold start at h2;rw [getElem?_append_left (by simpa using hi),getElem?_map] at h2
   cases e:vs[i]? with
   | none=>rw [e] at h2; cases h2
   | some a=>rw [e] at h2; cases h2; rfl
  obtain ⟨u,hu,rv⟩:=r.get ha;have hp:ps[i]? = some y:=by rw [<- S.pre,List.getElem?_take_of_lt (by omega)]; exact h1
  have ndP:ps.Nodup:=by rw [<- S.pre]; exact S.nd.sublist (List.take_sublist _ _)
  refine ⟨u,rv,?_⟩;rcases S.par y (mem_of_getElem? hp) with k | k
  .exact .inl ⟨k,BK ndP hp hu k⟩
  .obtain ⟨c,e⟩:=FT (n:=s.heap.objs.size+1) k;refine .inr ⟨.inl k,c,e,?_⟩;have q:=x.cell y c e;rw [BL ndP hp hu (by show scope.names.lookup y≠_; rw [k]; decide)] at q;exact q
 .exact e0.hok.fresh (Nat.le_of_lt (x.above y c (PySem.mem_of_lookup h)))
 .unfold start;show _=N.length;rw [List.length_append,length_map,length_replicate];omega
theorem aA9{CX:OH}{P:Program}{w:World}{K:W.Frag}{mg:Q0Z}{base:Heap}{k:Nat}{f:Addr}{name qual:Str}{params:Arguments}{body:List Stmt}{scope:Scope}{dV kV doc pm cdv ct oc:Value}{an od:Option Addr}
  {osl:Array (Option Value)} {N ps:List Str} {sp:Sp} (lk:K.lookup f=some ⟨oc,od,.func (W.fnOf name qual params body scope dV kV doc pm an cdv ct),osl⟩) (hcd:W.codeIn K cdv qual=true) (S:bH N ps scope)
  (len:∀ vs H Q E,sp vs H Q E->vs.length=ps.length)
  (hbody:∀ (A:Around) (outer:List Env) (s:Shared) (H:Hp) (vs:List V) (Q:VK) (E:XK),lA k (A.deeper (envOfC qual scope s.heap.objs.size f cdv))->sp vs H Q E ->
   ∃ t,HM (t6 CX P w K mg base N qual scope f cdv A outer s H E) body t/\t { nx:=λ_ H'=>Q .non H',rt:=Q } (start N vs) H) :
  aW P w K mg base CX (k+1) f (W.fnOf name qual params body scope dV kV doc pm an cdv ct) ps sp:=by
 refine ⟨len,λA outer s H args us vs Q E hr e0 hb r hsp=>?_⟩;have hl:=len _ _ _ _ hsp;have KX:K.In s.heap:=e0.mod.kin.keeps λb o e=>(e0.bs b o e).1;have lim:s.heap.NoLimit:=e0.mod.nolimit.keeps λb o e=>(e0.bs b o e).1;have hkind:∀ y∈ps.zip us,scope.names.lookup y.1=some .local\/(scope.names.lookup y.1=some .cell/\((cellsFrom (s.heap.objs.size+1) scope.names []).lookup y.1).isSome=true):=λ⟨n,v⟩ hy=>by
  rcases S.par n (of_mem_zip hy).1 with q | q
  .exact .inl q
  .exact .inr ⟨q,W.cellsFrom_some _ _ _ (.inl q)⟩
 refine codeAny_call_function hr.depth (KX _ _ lk) rfl S.co S.gen rfl (W.codeRec_of KX hcd) (hb _ _ _ _ ?_);refine wpAny_newFunctionEnv_cells S.kind hkind λenv he s1 x=>?_;subst he;refine ⟨lim.keeps x.toInCall.keep,codeAny_func ?_⟩;obtain ⟨t,ht,hq⟩:=hbody A outer s H vs Q E (hr.deeper _) hsp;have I:Inv (t6 CX P w K mg base N qual scope f cdv A outer s H E) [] (start N vs) H s1:=OI S hr.hd e0 hl r x;refine wpAny_mono (ht [] s1 (start N vs) H _ I hq) (λfl s' hs=>?_) λe s' hs=>hs;have fin:∀ {σ':St} {H':Hp} {v:V} {u:Value},Inv (t6 CX P w K mg base N qual scope f cdv A outer s H E) [] σ' H' s'->RelV v u->Q v H'->CE outer P w H s Q u s' :=
  λ{σ' H' v u} J rv q=>⟨v,H',J.os,J.bare,J.base,J.hok,rv,q⟩
 cases fl with
 | ret u =>
  obtain ⟨v,σ',H',J,rv,q⟩:=hs;exact fin J rv q
 | next =>
  obtain ⟨σ',H',J,q⟩:=hs;exact fin (v:=V.non) (u:=Value.none) J rfl q
 | brk =>
  obtain ⟨_,_,_,q⟩:=hs;exact False.elim q
 | cont =>
  obtain ⟨_,_,_,q⟩:=hs;exact False.elim q
end L2
namespace L2
open PySem PySem.Spec PyProof.Rows
section
variable{X:Cx}{x:Str}{p pos:Pos}{e:Expr}{es:List Expr}{t:TA}{id T:String}{r:List V->Hp->VK->Prop}
def tCB(r:List V->Hp->VK->Prop)(t:TA):TE:=λU H Q=>t U H λvs H1=>r vs H1 Q
theorem sH(hc:jI X (.builtin id) r)(hg:Gl X x)(hm:X.mg x=none)(hv:bootBuiltins x=some (.builtin id))(ha:PA X (e::es) t)(hn:x ≠ "__name__" := by decide)(hdb:(x == ("__debug__" : Str))=false:=by decide)
  (he:starEach (e::es) X.env=(false,eval e X.env)::starEach es X.env:=by rfl) (hpl:(backTo pos (starEach es X.env)).any (·.1)=false:=by rfl):PE X (.Call (.Name x p) (e::es) [] pos) (tCB r t):=by
 intro pins s U H Q I h;refine wpAny_Call_Name_kw (qP I hg hm hv ?_ hn hdb);exact PyProof.Rows.callWith_builtin1 (dN (ha pos pins s U H _ I h) λus s1 ⟨vs,H1,I1,r1,q1⟩=>hc pins s1 U H1 vs us Q I1 r1 q1) he hpl
theorem pH(hc:jI X (.type T) r)(hg:Gl X x)(hm:X.mg x=none)(hv:bootBuiltins x=some (.type T))(ha:PA X (e::es) t)(hn:x ≠ "__name__" := by decide)(hdb:(x == ("__debug__" : Str))=false:=by decide)
  (he:starEach (e::es) X.env=(false,eval e X.env)::starEach es X.env:=by rfl) (hpl:(backTo pos (starEach es X.env)).any (·.1)=false:=by rfl):PE X (.Call (.Name x p) (e::es) [] pos) (tCB r t):=by
 intro pins s U H Q I h;refine wpAny_Call_Name_kw (qP I hg hm hv ?_ hn hdb);exact PyProof.Rows.callWith_type1 (dN (ha pos pins s U H _ I h) λus s1 ⟨vs,H1,I1,r1,q1⟩=>hc pins s1 U H1 vs us Q I1 r1 q1) he hpl
end
end L2
namespace HT
open PySem PyProof.Rows
section
open PySem.SeqAt
open PySem.AutoSeq1 (wpAny_loadPart')
open PySem.MeetsSeq PySem.MeetsSeq2 PySem.MeetsSeq3
end
section
variable{prog:Program}{w:World}{A:Around}{E:Q0Q}{s:Shared}
theorem Y1{t b:Addr}{vs ws:List Value}{Q:Q0Q}(ht:IsTup s.heap t vs.toArray)(hb:IsTup s.heap b ws.toArray)(hv:vs≠[])
  (h1:ws=[]->Q (.ref t) s) (h2:ws≠[]->Q (.ref s.heap.objs.size) { s with heap:=s.heap.push { cls:=.type "tuple",data:=.seq (vs++ws).toArray } })
  (hsz:vs.length+ws.length<=sizeLine):wpAny (model prog w) A (binaryOp .Add (.ref t) (.ref b)) Q E s:=by
 obtain ⟨⟨cls,dd,data,sl⟩,ho,hc,n,hd⟩:=id ht;obtain ⟨⟨cls2,dd2,data2,sl2⟩,ho2,hc2,n2,hd2⟩:=id hb;simp only at hc hd hc2 hd2;subst hc hd hc2 hd2;have e:vs.toArray++ws.toArray=(vs++ws).toArray:=by simp
 by_cases hw:ws=[]
 .exact concat_meets ⟨_,ho,rfl⟩ ⟨_,ho2,rfl⟩ noFill_tuple_add seq_tuple_add PySem.F.slot_tuple_add PySem.F.entry_tuple_add (PySem.F.args_tuple_add_2 _ _)
   (tuple_addW1 t b vs.toArray ws.toArray n n2 dd dd2 sl sl2 (by simpa using hv) (by simp [hw])) ⟨ho,ho2,h1 hw⟩
 .refine concat_meets ⟨_,ho,rfl⟩ ⟨_,ho2,rfl⟩ noFill_tuple_add seq_tuple_add PySem.F.slot_tuple_add PySem.F.entry_tuple_add (PySem.F.args_tuple_add_2 _ _)
   (tuple_addW2 t b vs.toArray ws.toArray n n2 dd dd2 sl sl2 (by simpa using hv) (by simpa using hw) (by rw [size_toArray,size_toArray]; exact hsz)) ⟨ho,ho2,?_⟩
  rw [e];exact h2 hw
def iC(n d:Nat):Option Int->Nat
 | none=>d
 | some v=>if v<0 then (v+(n:Int)).toNat else min v.toNat n
theorem aCK(n d:Nat)(hd:d<=n)(o:Option Int):iC n d o<=n:=by
 cases o with
 | none=>exact hd
 | some v =>
  show (if v<0 then (v+(n:Int)).toNat else min v.toNat n)<=n;by_cases hv:v<0
  .rw [if_pos hv]; omega
  .rw [if_neg hv]; exact Nat.min_le_right _ _
theorem MF(v:Int)(n d:Nat):(if v<0 then max (v+(n:Int)) 0 else min v (n:Int))=((iC n d (some v):Nat):Int):=by
 show (if v<0 then max (v+(n:Int)) 0 else min v (n:Int))=(((if v<0 then (v+(n:Int)).toNat else min v.toNat n):Nat):Int);by_cases hv:v<0
 .simp only [if_pos hv]; omega
 .simp only [if_neg hv]; omega
theorem JC(lo hi:Option Int)(n:Nat):Builtin.Slice.sliceAdjust lo hi 1 (n:Int)=(((iC n 0 lo:Nat):Int),((iC n n hi:Nat):Int)):=by
 have h1:¬ ((1:Int)<0):=by omega
 unfold Builtin.Slice.sliceAdjust;simp only [h1,if_false];refine Prod.ext ?_ ?_
 .cases lo with
  | none=>rfl
  | some v=>exact MF v n 0
 .cases hi with
  | none=>rfl
  | some v=>exact MF v n n
theorem JD(i j:Nat):Builtin.Slice.slicePlaces (i:Int) (j:Int) 1=j - i:=by
 unfold Builtin.Slice.slicePlaces;have h1:(1:Int)>0:=by omega
 simp only [h1,if_true,Int.ediv_one];split<;>omega
theorem xN{v:Value}{o:Option Int}{Q:Option Int->Shared->Prop}(p:IsPart v o)(h:Q o s):wpAny (model prog w) A (Builtin.Slice.slicePartIndex v) Q E s:=by
 cases p with
 | none=>exact slicePart_none h
 | int i t=>exact slicePart_int h
theorem mK{sl:Addr}{vl vu:Value}{lo hi:Option Int}{n:Nat}{Q:Int×Int×Nat->Shared->Prop}(hs:s.heap.IsSliceOf sl vl vu .none)(pl:IsPart vl lo)(pu:IsPart vu hi)
  (h:Q (((iC n 0 lo:Nat):Int),1,iC n n hi - iC n 0 lo) s):wpAny (model prog w) A (Builtin.Slice.sliceApplied (.ref sl) (pure (n:Int))) Q E s:=by
 obtain ⟨os,hos,hcs,hds⟩:=id hs;unfold Builtin.Slice.sliceApplied Builtin.Slice.sliceFields;refine wpAny_bind (wpAny_bind (wpAny_field hos hds (x:=vl) rfl (wpAny_bind (wpAny_field hos hds (x:=vu) rfl (wpAny_bind (wpAny_field hos hds (x:=.none) rfl (wpAny_pure ?_)))))));refine wpAny_bind (slicePart_none ?_);show wpAny _ _ (if ((1:Int) == 0)=true then _ else _) _ _ s;rw [if_neg (by decide)];refine wpAny_bind (xN pl (wpAny_bind (xN pu (wpAny_bind (wpAny_pure ?_)))));show wpAny _ _ (match Builtin.Slice.sliceAdjust lo hi 1 (n:Int) with | (lo,hi)=>pure (lo,(1:Int),Builtin.Slice.slicePlaces lo hi 1)) _ _ s;rw [JC lo hi n];show wpAny _ _ (pure (((iC n 0 lo:Nat):Int),(1:Int),Builtin.Slice.slicePlaces ((iC n 0 lo:Nat):Int) ((iC n n hi:Nat):Int) 1)) _ _ s;rw [JD];exact wpAny_pure h
theorem T5(xs:Array Value)(i k:Nat):((List.range k).filterMap λ(m:Nat)=>xs[((i:Int)+(m:Int)*1).toNat]?).toArray=((xs.toList.drop i).take k).toArray:=by
 have e:(λ(m:Nat)=>xs[((i:Int)+(m:Int)*1).toNat]?)=λm=>xs[i+m]?:=by
  funext m
  have:((i:Int)+(m:Int)*1).toNat=i+m:=by omega
  rw [this]
 rw [e];have:=pick_run xs i k;rw [List.filterMap_map] at this;have e2:((λx=>xs[x]?)∘λx=>i+x)=λm=>xs[i+m]?:=rfl;rw [e2] at this;rw [this]
theorem sI{t sl:Addr}{items:Array Value}{vl vu:Value}{lo hi:Option Int}{Q:Q0Q}(ht:IsTup s.heap t items)(hs:s.heap.IsSliceOf sl vl vu .none)(pl:IsPart vl lo)(pu:IsPart vu hi)
  (hw:¬ (iC items.size 0 lo=0/\iC items.size items.size hi=items.size))
  (h:Q (.ref s.heap.objs.size) { s with heap:=s.heap.push { cls:=.type "tuple",data:=.seq ((items.toList.drop (iC items.size 0 lo)).take (iC items.size items.size hi - iC items.size 0 lo)).toArray } })
  (hsz:items.size<=sizeLine):wpAny (model prog w) A (getItem (.ref t) (.ref sl)) Q E s:=by
 have MG:sizeOk (.seq ((items.toList.drop (iC items.size 0 lo)).take (iC items.size items.size hi - iC items.size 0 lo)).toArray):=by show ((items.toList.drop (iC items.size 0 lo)).take (iC items.size items.size hi - iC items.size 0 lo)).toArray.size<=sizeLine;rw [size_toArray,length_take,length_drop,Array.length_toList];omega
 have hj:iC items.size items.size hi<=items.size:=aCK _ _ (le_refl _) hi;obtain ⟨os,hos,hcs,hds⟩:=id hs;have hTs:s.TypeIs (.ref sl) "slice" := ⟨os,hos,hcs⟩;unfold getItem
 try with_reducible refine wpAny_holding ?_
 first | refine wpAny_bind (wpAny_pure ?_) | skip
 refine wpAny_bind (wpAny_sequenceKey ht.typeIs (by decide) ?_);refine wpAny_bind (wpAny_callSpecial?_slot (name:=Str.ofString "__getitem__") ht.typeIs PyProof.Rows.slot_tuple_getitem
  (wpAny_call_entry PyProof.Rows.slot_tuple_getitem ht.typeIs entry_tuple_getitem ?_ (args_tuple_getitem _ _)))
 show wpAny _ _ (Builtin.Tuple.tupleItemsOf (.ref t) >>= _) _ _ s;refine wpAny_bind (tupleItemsOf_ ht ?_);refine wpAny_bind (wpAny_typeOf hTs ?_);rw [if_pos (by decide)];refine wpAny_bind (mK hs pl pu ?_);have hno:¬ ((((iC items.size 0 lo:Nat):Int) == 0&&(1:Int) == 1&&(iC items.size items.size hi - iC items.size 0 lo) == items.size)=true):=by intro q;rw [Bool.and_eq_true,Bool.and_eq_true] at q;have q1:((iC items.size 0 lo:Nat):Int)=0:=eq_of_beq q.1.1;have q2:iC items.size items.size hi - iC items.size 0 lo=items.size:=eq_of_beq q.2;exact hw ⟨by omega,by omega⟩
 show wpAny _ _ (if (((iC items.size 0 lo:Nat):Int) == 0&&(1:Int) == 1&&(iC items.size items.size hi - iC items.size 0 lo) == items.size)=true then _ else _) _ _ s;rw [if_neg hno,T5]
 first
  | exact wpAny_bind (m:=Builtin.Tuple.tupleExact _) (wpAny_newObj_type (wpAny_pure ⟨_,rfl,wpAny_pure h⟩) MG)
  | exact wpAny_bind (m:=Builtin.Tuple.tupleExact _) (wpAny_newObj_type (wpAny_bind (wpAny_pure (wpAny_pure ⟨_,rfl,wpAny_pure h⟩))) MG)
  | exact wpAny_bind (wpAny_bind (m:=Builtin.Tuple.tupleExact _) (wpAny_newObj_type (wpAny_pure (wpAny_pure ⟨_,rfl,wpAny_pure h⟩)) MG))
  | exact wpAny_bind (wpAny_bind (m:=Builtin.Tuple.tupleExact _) (wpAny_newObj_type (wpAny_pure ⟨_,rfl,wpAny_pure h⟩) MG))
end
end HT
namespace L2
open PySem PySem.Spec PyProof.Rows
abbrev TO:=St->Hp->(Option Int->Hp->Prop)->Prop
def PO(X:Cx)(e:Option Expr)(t:TO):Prop :=
 ∀ (pins:List (Addr×Obj)) (s:Shared) (U:St) (H:Hp) (Q:Option Int->Hp->Prop),Inv X pins U H s->t U H Q ->
  wpAny (model X.prog X.w) X.A (evalPart e X.env) (λu s'=>∃ o H',Inv X pins U H' s'/\IsPart u o/\Q o H') X.xe s
def Y2:TO:=λ_ H Q=>Q none H
def aE8(t:TE):TO:=λU H Q=>t U H λx H1=>∃ i,x=.int i/\Q (some i) H1
theorem intsAre_of{ns:List Int}:∀ {us:List Value},Vals (ns.map V.int) us->IntsAre us ns:=by
 induction ns with
 | nil=>intro us r; rw [map_nil] at r; cases r; exact .nil
 | cons n ns ih =>
  intro us r;rw [map_cons] at r
  cases r with
  | cons r1 r2 =>
   obtain ⟨t,e⟩:=r1;subst e;exact .cons n t (ih r2)
section
variable{X:Cx}{e:Expr}{te:TE}{lo hi:Option Expr}{tl th:TO}{pos p2:Pos}
theorem Y3:PO X none Y2:=by intro pins s U H Q I h;rw [evalPart_none];exact wpAny_pure ⟨none,H,I,.none,h⟩
theorem Y4(h:PE X e te):PO X (some e) (aE8 te):=by intro pins s U H Q I hw;rw [evalPart_some];refine dN (h pins s U H _ I hw) λu s1 hq4=>?_;obtain ⟨x,H1,I1,r1,q1⟩:=hq4;obtain ⟨i,rfl,q⟩:=q1;obtain ⟨t,rfl⟩:=r1;exact ⟨some i,H1,I1,.int i t,q⟩
def SlR(X:Cx)(r:V->Option Int->Option Int->Hp->VK->Prop):Prop :=
 ∀ (pins:List (Addr×Obj)) (s:Shared) (U:St) (H:Hp) (x:V) (v vl vu:Value) (lo hi:Option Int) (sl:Addr) (Q:VK),Inv X pins U H s->RelV x v->s.heap.IsSliceOf sl vl vu .none->IsPart vl lo->IsPart vu hi->r x lo hi H Q ->
  ∃ T id,typeLookup (.type T) "__getitem__" = pure (some (.builtin id))/\s.TypeIs v T/\wpAny (model X.prog X.w) X.A (getItem v (.ref sl)) (EP X pins U Q) X.xe s
theorem SlR.or{r r':V->Option Int->Option Int->Hp->VK->Prop}(h:SlR X r)(h':SlR X r'):SlR X (λx lo hi H Q=>r x lo hi H Q\/r' x lo hi H Q):=by
 intro pins s U H x v vl vu lo hi sl Q I rx hs pl pu q;rcases q with q | q
 .exact h pins s U H x v vl vu lo hi sl Q I rx hs pl pu q
 .exact h' pins s U H x v vl vu lo hi sl Q I rx hs pl pu q
def tSl(r:V->Option Int->Option Int->Hp->VK->Prop)(te:TE)(tl th:TO):TE:=λU H Q=>te U H λx H1=>tl U H1 λl H2=>th U H2 λu H3=>r x l u H3 Q
theorem T6{r:V->Option Int->Option Int->Hp->VK->Prop}(hr:SlR X r)(he:PE X e te)(hl:PO X lo tl)(hu:PO X hi th):PE X (.Subscript e (.Slice lo hi none p2) pos) (tSl r te tl th):=by intro pins s U H Q I h;refine Subscript_ (dN (he pins s U H _ I h) λv s1 ⟨x,H1,I1,r1,q1⟩=>?_);refine wpAny_Slice (dN (hl pins s1 U H1 _ I1 q1) λvl s2 ⟨l,H2,I2,pl,q2⟩=>dN (hu pins s2 U H2 _ I2 q2) λvu s3 ⟨u,H3,I3,pu,q3⟩=>?_);rw [evalPart_none];refine wpAny_pure ?_;have I4:Inv X pins U H3 { s3 with heap:=s3.heap.push { cls:=.type "slice",data:=.fields #[vl,vu,.none] } }:=I3.kept (t':=s3.toks) λb ob q=>get?_push_of_some _ q;obtain ⟨T,id,hT,ht,hg⟩:=hr pins { s3 with heap:=s3.heap.push { cls:=.type "slice",data:=.fields #[vl,vu,.none] } } U H3 x v vl vu l u s3.heap.objs.size Q I4 r1 (Heap.IsSliceOf.new ..) pl pu q3;show wpAny (model X.prog X.w) X.A (subscriptTail e (.Slice lo hi none p2) v (.ref s3.heap.objs.size)) (EP X pins U Q) X.xe { s3 with heap:=s3.heap.push { cls:=.type "slice",data:=.fields #[vl,vu,.none] } };exact tail_any (ops:=[.ref s3.heap.objs.size,v]) ht hT hg (by with_unfolding_all rfl)
def FU(xs:List V)(lo hi:Option Int):List V:=(xs.drop (HT.iC xs.length 0 lo)).take (HT.iC xs.length xs.length hi - HT.iC xs.length 0 lo)
theorem uQ(xs:List V)(lo hi:Option Int):(FU xs lo hi).length<=xs.length:=by unfold FU;rw [length_take,length_drop];omega
def aIw(K:W.Frag):V->Option Int->Option Int->Hp->VK->Prop:=λx lo hi H Q=>∃ a xs,x=.ref a/\gA K H a xs /\
 ¬ (HT.iC xs.length 0 lo=0/\HT.iC xs.length xs.length hi=xs.length) /\ ∀ p,H p=none->Q (.ref p) (upd H p (.tup (FU xs lo hi)))
theorem aCL:SlR X (aIw X.K):=by
 intro pins s U H x v vl vu lo hi sl Q I rx hs pl pu h;obtain ⟨a,xs,rfl,hx,hw,q⟩:=h;cases rx;obtain ⟨its,r,ht,hz⟩:=I.tuple hx;have hlen:its.toArray.size=xs.length:=by rw [size_toArray]; exact r.length.symm
 refine ⟨"tuple",_,PyProof.Rows.slot_tuple_getitem.lookup,ht.typeIs,?_⟩;refine HT.sI ht hs pl pu (by rw [hlen]; exact hw) ?_ (by rw [hlen]; exact hz);rw [hlen];refine ⟨.ref s.heap.objs.size,_,I.laid (t':=s.toks) (o:=.tup (FU xs lo hi)) (λb ob q=>get?_push_of_some _ q) (le_refl _) ?_,rfl,q _ (I.hok.fresh (le_refl _))⟩;exact ⟨le_trans (uQ xs lo hi) hz,_,(r.drop (HT.iC xs.length 0 lo)).take (HT.iC xs.length xs.length hi - HT.iC xs.length 0 lo),IsTup.new _ _⟩
def aE9(K:W.Frag):R2:=λx y H Q=>∃ a b xs ys,x=.ref a/\y=.ref b/\gA K H a xs/\gA K H b ys/\xs≠[]/\xs.length+ys.length<=sizeLine /\
 (ys=[]->Q (.ref a) H)/\(ys≠[] -> ∀ p,H p=none->Q (.ref p) (upd H p (.tup (xs++ys))))
theorem Vals.DP{xs:List V}{us:List Value}(r:Vals xs us):us=[]↔xs=[]:=by
 cases r with
 | nil=>simp
 | cons _ _=>simp
theorem Y5:i6 X (binaryOp .Add) (aE9 X.K):=by intro pins s U H x y v u Q I rx ry h;obtain ⟨a,b,xs,ys,rfl,rfl,ha,hb,hx,hz,q1,q2⟩:=h;cases rx;cases ry;obtain ⟨its,r1,p1,_⟩:=I.tuple ha;obtain ⟨its2,r2,p2,_⟩:=I.tuple hb;refine HT.Y1 p1 p2 (λz=>hx (r1.DP.mp z)) (λz=>⟨.ref a,H,I,rfl,q1 (r2.DP.mp z)⟩) (λz=>?_) (by rw [<- r1.length,<- r2.length]; exact hz);refine ⟨.ref s.heap.objs.size,_,I.laid (t':=s.toks) (o:=.tup (xs++ys)) (λb ob q=>get?_push_of_some _ q) (le_refl _) ?_,rfl,q2 (λw=>z (r2.DP.mpr w)) _ (I.hok.fresh (le_refl _))⟩;exact ⟨by rw [List.length_append]; exact hz,_,r1.append r2,IsTup.new _ _⟩
end
end L2
namespace L2
open PySem PySem.Spec PyProof.Rows
def Y6(n:Nat)(i:Int):Option Nat:=if 0<=i then (if i<n then some i.toNat else none) else if -(n:Int)<=i then some (i+n).toNat else none
def vE{α:Type}(xs:List α)(i:Int):Option α:=(Y6 xs.length i).bind λj=>xs[j]?
theorem MH{n:Nat}{i:Int}{j:Nat}(h:Y6 n i=some j):seqIndex? i n=some j/\j<n /\ -(n:Int)<=i/\i<n:=by
 unfold Y6 at h;by_cases h0:0<=i
 .rw [if_pos h0] at h;by_cases h1:i<n
  .rw [if_pos h1] at h;have e:i.toNat=j:=Option.some.inj h;exact ⟨by rw [seqIndex_of h0 h1,e],by omega,by omega,h1⟩
  .rw [if_neg h1] at h; cases h
 .rw [if_neg h0] at h;by_cases h1:-(n:Int)<=i
  .rw [if_pos h1] at h;have e:(i+n).toNat=j:=Option.some.inj h;exact ⟨by rw [seqIndex_neg (by omega) h1,e],by omega,h1,by omega⟩
  .rw [if_neg h1] at h; cases h
theorem MI{α:Type}{xs:List α}{i:Int}{v:α}(h:vE xs i=some v):∃ j,seqIndex? i xs.length=some j/\xs[j]? = some v/\j<xs.length /\ -(xs.length:Int)<=i/\i<xs.length:=by
 unfold vE at h
 cases e:Y6 xs.length i with
 | none=>rw [e] at h; cases h
 | some j =>
  rw [e] at h;obtain ⟨h1,h2,h3,h4⟩:=MH e;exact ⟨j,h1,h,h2,h3,h4⟩
def DQ(b:Expr):Prop:=∀ o i,subscripted b false o i=operate [o,i] (getItem o i)
def IxR(X:Cx)(r:R2):Prop :=
 ∀ (value slice:Expr) (pins:List (Addr×Obj)) (s:Shared) (U:St) (H:Hp) (x y:V) (v u:Value) (Q:VK),Inv X pins U H s->RelV x v->RelV y u->r x y H Q ->
  subscripted slice false v u=operate [v,u] (getItem v u)->wpAny (model X.prog X.w) X.A (subscriptTail value slice v u) (EP X pins U Q) X.xe s
def MtR(X:Cx)(id:String)(r:V->List V->Hp->VK->Prop):Prop :=
 ∀ (pins:List (Addr×Obj)) (s:Shared) (U:St) (H:Hp) (x:V) (xs:List V) (v:Value) (us:List Value) (Q:VK),Inv X pins U H s->RelV x v->Vals xs us->r x xs H Q ->
  wpAny (model X.prog X.w) X.A (call (.builtin id) (v::us)) (EP X pins U Q) X.xe s
section
variable{X:Cx}{a b:Expr}{ta tb:TE}{pos:Pos}
theorem IxR.or{r r':R2}(h:IxR X r)(h':IxR X r'):IxR X (λx y H Q=>r x y H Q\/r' x y H Q):=by
 intro value slice pins s U H x y v u Q I rx ry q hs;rcases q with q | q
 .exact h value slice pins s U H x y v u Q I rx ry q hs
 .exact h' value slice pins s U H x y v u Q I rx ry q hs
theorem aEa{r:R2}(hr:IxR X r)(ha:PE X a ta)(hb:PE X b tb)(hs:DQ b):PE X (.Subscript a b pos) (tOp r ta tb):=by intro pins s U H Q I h;exact Subscript_ (aBv ha hb I h λv u s2 x y H2 I2 rx ry q=>hr a b pins s2 U H2 x y v u Q I2 rx ry q (hs _ _))
def aEb(K:W.Frag):R2:=λx y H Q=>∃ p xs i v,x=.ref p/\y=.int i/\gH K H p xs/\vE xs i=some v/\Q v H
def aEc(K:W.Frag):R2:=λx y H Q=>∃ p xs i v,x=.ref p/\y=.int i/\gA K H p xs/\vE xs i=some v/\Q v H
theorem Y7:IxR X (aEb X.K):=by
 intro value slice pins s U H x y v u Q I rx ry h hs;obtain ⟨p,xs,i,z,rfl,rfl,hq,he,q⟩:=h;cases rx;obtain ⟨t,rfl⟩:=ry;obtain ⟨its,r,pl,hz⟩:=I.list hq;obtain ⟨j,h1,h2,h3,h4,h5⟩:=MI he;obtain ⟨w,ew,w8⟩:=r.get h2;have hl:=r.length;have hn:=DN;have fin:EP X pins U Q w s:=⟨z,H,I,w8,q⟩;by_cases h0:0<=i
 .have hj:i.toNat=j:=by rw [seqIndex_of h0 h5] at h1;exact Option.some.inj h1
  exact item_listR pl.isList h0 (by omega) (by rw [hj]; simpa using ew) fin hs
 .have hj:(i+(its.toArray.size:Int)).toNat=j:=by rw [seqIndex_neg (by omega) h4] at h1;rw [size_toArray,<- hl];exact Option.some.inj h1
  exact subscriptTail_builtinR (x:=w) pl.isList.typeIs slot_list_getitem.lookup
   (wpAny_getItem_list_neg (Q:=λr s'=>r=w/\EP X pins U Q r s') pl.isList (by omega) (by rw [size_toArray]<;>omega) (by omega) (by rw [hj]; simpa using ew) ⟨rfl,fin⟩) hs
theorem aCN:IxR X (aEc X.K):=by
 intro value slice pins s U H x y v u Q I rx ry h hs;obtain ⟨p,xs,i,z,rfl,rfl,hq,he,q⟩:=h;cases rx;obtain ⟨t,rfl⟩:=ry;obtain ⟨its,r,pl,hz⟩:=I.tuple hq;obtain ⟨j,h1,h2,h3,h4,h5⟩:=MI he;obtain ⟨w,ew,w8⟩:=r.get h2;have hl:=r.length;have hn:=DN;have fin:EP X pins U Q w s:=⟨z,H,I,w8,q⟩;exact subscriptTail_builtinR (x:=w) pl.typeIs slot_tuple_getitem.lookup
  (getItem_tuple (j:=j) (Q:=λr s'=>r=w/\EP X pins U Q r s') pl (by omega) (by omega) (by rw [size_toArray,<- hl]; exact h1) (by simpa using ew) ⟨rfl,fin⟩) hs
theorem Inv.lst{pins:List (Addr×Obj)}{U:St}{H:Hp}{s:Shared}{p:Addr}{xs:List V}(I:Inv X pins U H s)(h:H p=some (.lst xs)) :
  ∃ (its:List Value) (n:Nat),Vals xs its/\s.heap.get? p=some { cls:=.type "list",data:=.seq its.toArray n }/\xs.length<=sizeLine:=by
 obtain ⟨z,its,n,r,e⟩:=I.hok p _ h;exact ⟨its,n,r,e,z⟩
theorem DR(lo hi:Option Int)(n:Nat):(sliceBounds lo hi none n).1=((HT.iC n 0 lo:Nat):Int)/\(sliceBounds lo hi none n).2.1=((HT.iC n n hi:Nat):Int)/\(sliceBounds lo hi none n).2.2=1:=by
 refine ⟨?_,?_,rfl⟩
 .cases lo with
  | none=>simp [sliceBounds,HT.iC]
  | some i =>
   simp only [sliceBounds,HT.iC,Option.getD_none,show (1:Int)>0 by decide,if_true];by_cases h:i<0
   .simp only [h,if_true]<;>omega
   .simp only [h,if_false]<;>omega
 .cases hi with
  | none=>simp [sliceBounds,HT.iC]
  | some i =>
   simp only [sliceBounds,HT.iC,Option.getD_none,show (1:Int)>0 by decide,if_true];by_cases h:i<0
   .simp only [h,if_true]<;>omega
   .simp only [h,if_false]<;>omega
theorem zT(its:List Value)(lo hi:Option Int):slicePick its.toArray lo hi none=((its.drop (HT.iC its.length 0 lo)).take (HT.iC its.length its.length hi - HT.iC its.length 0 lo)).toArray:=by obtain ⟨h1,h2,h3⟩:=DR lo hi its.toArray.size;unfold slicePick;rw [h1,h2,h3];simp only [sliceRange_one,pick_run,size_toArray]<;>rfl
def aIy(K:W.Frag):V->Option Int->Option Int->Hp->VK->Prop:=λx lo hi H Q=>∃ a xs,x=.ref a/\gH K H a xs /\ ∀ p,H p=none->Q (.ref p) (upd H p (.lst (FU xs lo hi)))
theorem Y8:SlR X (aIy X.K):=by intro pins s U H x v vl vu lo hi sl Q I rx hs pl pu h;obtain ⟨a,xs,rfl,hx,q⟩:=h;cases rx;obtain ⟨its,r,ht,hz⟩:=I.list hx;have hlen:=r.length;refine ⟨"list",_,slot_list_getitem.lookup,ht.isList.typeIs,?_⟩;refine wpAny_getItem_list_slice ht.isList hs pl pu .none (by simp) ?_ (by rw [size_toArray]<;>omega);rw [zT,<- hlen];refine ⟨.ref s.heap.objs.size,_,I.laid (t':=s.toks) (o:=.lst (FU xs lo hi)) (λb ob q=>get?_push_of_some _ q) (le_refl _) ?_,rfl,q _ (I.hok.fresh (le_refl _))⟩;exact ⟨le_trans (uQ xs lo hi) hz,_,0,(r.drop (HT.iC xs.length 0 lo)).take (HT.iC xs.length xs.length hi - HT.iC xs.length 0 lo),get?_push_size _ rfl⟩
def sJ:V->Bool
 | .non=>true
 | .bl _=>true
 | .int _=>true
 | .str _=>true
 | _=>false
def eqV:V->V->Bool
 | .non,.non=>true
 | .bl a,.bl b=>a == b
 | .bl a,.int b=>(if a then 1 else 0) == b
 | .int a,.bl b=>a == (if b then 1 else 0)
 | .int a,.int b=>a == b
 | .str a,.str b=>a == b
 | _,_=>false
theorem aCO{A:Around}{s:Shared}{y x:V}{u v:Value}(ry:RelV y u)(rx:RelV x v)(fy:sJ y=true)(fx:sJ x=true):SeqAt.EqAt A s u v (eqV y x):=by
 cases y with
 | non =>
  cases ry
  cases x with
  | non=>cases rx; exact SeqAt.EqAt.same _
  | bl b=>cases rx; exact SeqAt.EqAt.none_bool b
  | int b=>obtain ⟨t,rfl⟩:=rx; exact SeqAt.EqAt.none_int b t
  | str b=>obtain ⟨t,rfl⟩:=rx; exact SeqAt.EqAt.none_str b t
  | _=>exact absurd (show false=true from fx) Bool.false_ne_true
 | bl a =>
  cases ry
  cases x with
  | non=>cases rx; exact SeqAt.EqAt.bool_none a
  | bl b=>cases rx; exact SeqAt.EqAt.bool_bool a b
  | int b=>obtain ⟨t,rfl⟩:=rx; exact SeqAt.EqAt.bool_int a b t
  | str b=>obtain ⟨t,rfl⟩:=rx; exact SeqAt.EqAt.bool_str a b t
  | _=>exact absurd (show false=true from fx) Bool.false_ne_true
 | int a =>
  obtain ⟨t',rfl⟩:=ry
  cases x with
  | non=>cases rx; exact SeqAt.EqAt.int_none a t'
  | bl b=>cases rx; exact SeqAt.EqAt.int_bool a t' b
  | int b=>obtain ⟨t,rfl⟩:=rx; exact SeqAt.EqAt.int_int a t' b t
  | str b=>obtain ⟨t,rfl⟩:=rx; exact SeqAt.EqAt.int_str a t' b t
  | _=>exact absurd (show false=true from fx) Bool.false_ne_true
 | str a =>
  obtain ⟨t',rfl⟩:=ry
  cases x with
  | non=>cases rx; exact SeqAt.EqAt.str_none a t'
  | bl b=>cases rx; exact SeqAt.EqAt.str_bool a t' b
  | int b=>obtain ⟨t,rfl⟩:=rx; exact SeqAt.EqAt.str_int a t' b t
  | str b=>obtain ⟨t,rfl⟩:=rx; exact SeqAt.EqAt.str_str a t' b t
  | _=>exact absurd (show false=true from fx) Bool.false_ne_true
 | _=>exact absurd (show false=true from fy) Bool.false_ne_true
def JE(x:V)(u:Value):Bool:=match u with
 | .none=>eqV .non x
 | .bool b=>eqV (.bl b) x
 | .int i _=>eqV (.int i) x
 | .str z _=>eqV (.str z) x
 | _=>false
theorem T7{x y:V}{u:Value}(r:RelV y u)(f:sJ y=true):JE x u=eqV y x:=by
 cases y with
 | non=>cases r; rfl
 | bl b=>cases r; rfl
 | int i=>obtain ⟨t,rfl⟩:=r; rfl
 | str z=>obtain ⟨t,rfl⟩:=r; rfl
 | _=>exact absurd (show false=true from f) Bool.false_ne_true
theorem sK{x:V}:∀ {xs:List V} {us:List Value},Vals xs us->xs.all sJ=true->us.any (JE x)=xs.any λy=>eqV y x
 | _,_,.nil,_=>rfl
 | y::xs,u::us,.cons r t,f=>by rw [all_cons,Bool.and_eq_true] at f;rw [any_cons,any_cons,T7 r f.1,sK t f.2]
theorem oH{A:Around}{s:Shared}{x:V}{v:Value}(rx:RelV x v)(fx:sJ x=true):∀ {xs:List V} {us:List Value},Vals xs us->xs.all sJ=true -> ∀ u∈us,SeqAt.EqAt A s u v (JE x u)
 | _,_,.nil,_=>λu hu=>by cases hu
 | y::xs,u::us,.cons r t,f=>λu' hu=>by
  rw [all_cons,Bool.and_eq_true] at f;rcases List.mem_cons.mp hu with rfl | hu
  .rw [T7 r f.1]; exact aCO r rx f.1 fx
  .exact oH rx fx t f.2 u' hu
def inV(x:V)(xs:List V):Bool:=xs.any λy=>eqV y x
def rIn(K:W.Frag)(neg:Bool):R2:=λx y H Q=>∃ p xs,y=.ref p/\(gH K H p xs\/gA K H p xs)/\sJ x=true/\xs.all sJ=true/\Q (.bl (if neg then !inV x xs else inV x xs)) H
theorem BM:i6 X (compareOp .In) (rIn X.K false):=by
 intro pins s U H x y v u Q I rx ry h;obtain ⟨p,xs,rfl,hq,fx,fs,q⟩:=h;cases ry;rcases hq with hq | hq
 .obtain ⟨its,r,pl,hz⟩:=I.list hq;refine SeqAt.in_listAt (JE x) pl.isList (λw hw=>oH rx fx r fs w (by simpa using hw)) ⟨.bl _,H,I,rfl,?_⟩;rw [show its.toArray.any (JE x)=its.any (JE x) by simp,sK r fs];exact q
 .obtain ⟨its,r,pl,hz⟩:=I.tuple hq;refine SeqAt.in_tupleAt (JE x) pl (λw hw=>oH rx fx r fs w (by simpa using hw)) ⟨.bl _,H,I,rfl,?_⟩;rw [show its.toArray.any (JE x)=its.any (JE x) by simp,sK r fs];exact q
theorem sL:i6 X (compareOp .NotIn) (rIn X.K true):=by
 intro pins s U H x y v u Q I rx ry h;obtain ⟨p,xs,rfl,hq,fx,fs,q⟩:=h;cases ry;rcases hq with hq | hq
 .obtain ⟨its,r,pl,hz⟩:=I.list hq;refine SeqAt.notIn_listAt (JE x) pl.isList (λw hw=>oH rx fx r fs w (by simpa using hw)) ⟨.bl _,H,I,rfl,?_⟩;rw [show its.toArray.any (JE x)=its.any (JE x) by simp,sK r fs];exact q
 .obtain ⟨its,r,pl,hz⟩:=I.tuple hq;refine SeqAt.notIn_tupleAt (JE x) pl (λw hw=>oH rx fx r fs w (by simpa using hw)) ⟨.bl _,H,I,rfl,?_⟩;rw [show its.toArray.any (JE x)=its.any (JE x) by simp,sK r fs];exact q
theorem DS:jI X (.builtin "len") (λxs H Q=>∃ p ys,xs=[.ref p]/\(gH X.K H p ys\/gA X.K H p ys)/\Q (.int ys.length) H):=by
 intro pins s U H xs us Q I r h;obtain ⟨p,ys,rfl,hq,q⟩:=h;obtain ⟨u,rfl,rx⟩:=vals1 r;cases rx;have hn:=DN;rcases hq with hq | hq
 .obtain ⟨its,r',pl,hz⟩:=I.list hq;have hlen:=r'.length;exact Calls.call_len_list pl.isList (by simp only [size_toArray]<;>omega) ⟨.int ys.length,H,I.tok _,⟨s.toks+1,by rw [size_toArray,hlen]⟩,q⟩
 .obtain ⟨its,r',pl,hz⟩:=I.tuple hq;have hlen:=r'.length;exact len_tuple pl (by simp only [size_toArray]<;>omega) ⟨.int ys.length,H,I.tok _,⟨s.toks+1,by rw [size_toArray,hlen]⟩,q⟩
theorem DT:jI X (.type "list") (λxs H Q=>∃ p ys,xs=[.ref p]/\(gH X.K H p ys\/gA X.K H p ys) /\ ∀ l,H l=none->Q (.ref l) (upd H l (.lst ys))):=by
 intro pins s U H xs us Q I r h;obtain ⟨p,ys,rfl,hq,q⟩:=h;obtain ⟨u,rfl,rx⟩:=vals1 r;cases rx;have fin:∀ (its:List Value),Vals ys its->ys.length<=sizeLine -> ∀ (h':Heap) (c':Nat),(∀ b o',s.heap.get? b=some o'->h'.get? b=some o') ->
   h'.get? s.heap.objs.size=some { cls:=.type "list",dict:=none,data:=.seq its.toArray c',slots:=#[] }->EP X pins U Q (.ref s.heap.objs.size) { s with heap:=h' }:=λits r' hz h' c' kp e =>
  ⟨.ref s.heap.objs.size,_,I.laid (t':=s.toks) kp (le_refl _) (show eA X.prog X.w _ h' _ (.lst ys) from ⟨hz,its,c',r',e⟩),rfl,q _ (I.hok.fresh (le_refl _))⟩
 rcases hq with hq | hq
 .obtain ⟨its,r',pl,hz⟩:=I.list hq;have hlen:=r'.length;obtain ⟨o,ho,hc,n,hd⟩:=pl.isList;exact call_list_seq p (.inl rfl) ho hc hd (λh' c' kp e=>fin its r' hz h' c' kp e) (by simp only [size_toArray]<;>omega)
 .obtain ⟨its,r',pl,hz⟩:=I.tuple hq;have hlen:=r'.length;obtain ⟨o,ho,hc,n,hd⟩:=pl;exact call_list_seq p (.inr rfl) ho hc hd (λh' c' kp e=>fin its r' hz h' c' kp e) (by simp only [size_toArray]<;>omega)
theorem zU:jI X (.type "tuple") (λxs H Q=>∃ p ys,xs=[.ref p]/\((gH X.K H p ys /\ ∀ l,H l=none->Q (.ref l) (upd H l (.tup ys)))\/(gA X.K H p ys/\Q (.ref p) H))):=by
 intro pins s U H xs us Q I r h;obtain ⟨p,ys,rfl,h⟩:=h;obtain ⟨u,rfl,rx⟩:=vals1 r;cases rx;rcases h with ⟨hq,q⟩ | ⟨hq,q⟩
 .obtain ⟨its,r',pl,hz⟩:=I.list hq;have hlen:=r'.length;refine call_tuple_list pl.isList (λh' kp=>?_) (by simp only [size_toArray]<;>omega);have I1:Inv X pins U H { s with heap:=h' }:=I.kept (t':=s.toks) kp;have I2:Inv X pins U (upd H h'.objs.size (.tup ys)) { s with heap:=h'.push { cls:=.type "tuple",data:=.seq its.toArray } } :=
   I1.laid (t':=s.toks) (λb o e=>get?_push_of_some _ e) (le_refl _) (show eA X.prog X.w _ _ _ (.tup ys) from ⟨hz,its,r',IsTup.new _ _⟩)
  exact ⟨.ref h'.objs.size,_,I2,rfl,q _ (I1.hok.fresh (le_refl _))⟩
 .obtain ⟨its,r',pl,hz⟩:=I.tuple hq;exact call_tuple_same pl ⟨.ref p,H,I,rfl,q⟩
def tyV(K:W.Frag)(T:String)(x:V)(H:Hp):Prop:=match x with
 | .str _=>T = "str"
 | .int _=>T = "int"
 | .ref p=>(T = "list" /\ ∃ xs,gH K H p xs)\/(T = "tuple" /\ ∃ o,K.lookup p=some o/\o.cls=.type "tuple" /\ o.dict=none) \/
   (T = "dict" /\ ((∃ kvs,H p=some (.dK kvs)) \/ ∃ kvs,H p=some (.dT kvs)))\/(T = "set" /\ ∃ S n,H p=some (.set S n))
 | _=>False
theorem T8{pins:List (Addr×Obj)}{U:St}{H:Hp}{s:Shared}{T:String}{x:V}{v:Value}(I:Inv X pins U H s)(r:RelV x v)(ty:tyV X.K T x H) :
  s.TypeIs v T /\ ∀ a,v=.ref a -> ∃ ob,s.heap.get? a=some ob/\ob.dict=none:=by
 cases x with
 | str z =>
  obtain ⟨t,rfl⟩:=r;cases (show T = "str" from ty);exact ⟨typeIs_str s z t,λ_ e=>nomatch e⟩
 | int i =>
  obtain ⟨t,rfl⟩:=r;cases (show T = "int" from ty);exact ⟨typeIs_int s i t,λ_ e=>nomatch e⟩
 | ref p =>
  cases r;rcases ty with ⟨rfl,xs,hq⟩ | ⟨rfl,o,hk,hc,hd⟩ | ⟨rfl,hk⟩ | ⟨rfl,S,n,hk⟩
  .obtain ⟨its,_,pl,_⟩:=I.list hq;refine ⟨pl.isList.typeIs,λa e=>?_⟩;cases e;obtain ⟨o,n,e,c,hd,_⟩:=pl;exact ⟨o,e,hd⟩
  .refine ⟨⟨o,I.zH p o hk,hc⟩,λa e=>?_⟩;cases e;exact ⟨o,I.zH _ o hk,hd⟩
  .have z:∃ o,s.heap.get? p=some o/\o.ExactDict:=by
    rcases hk with ⟨kvs,hk⟩ | ⟨kvs,hk⟩
    .obtain ⟨_,_,_,_,o,_,_,e,ex,_⟩:=I.hok p _ hk;exact ⟨o,e,ex⟩
    .obtain ⟨_,_,_,_,o,_,_,e,ex,_⟩:=I.hok p _ hk;exact ⟨o,e,ex⟩
   obtain ⟨o,e,ex⟩:=z;refine ⟨⟨o,e,ex.1⟩,λa e2=>?_⟩;cases e2;exact ⟨o,e,ex.2.1⟩
  .obtain ⟨o,_,_,_,e,ex,_⟩:=I.hok p _ hk;refine ⟨⟨o,e,ex.1⟩,λa e2=>?_⟩;cases e2;exact ⟨o,e,ex.2.1⟩
 | _=>exact False.elim ty
def aJB(K:W.Frag)(T:String)(r:V->List V->Hp->VK->Prop)(to:TE):TE:=λU H Q=>to U H λx H1=>tyV K T x H1/\r x [] H1 Q
def tBM(K:W.Frag)(T:String)(r:V->List V->Hp->VK->Prop)(to:TE)(t:TA):TE:=λU H Q=>to U H λx H1=>tyV K T x H1/\t U H1 λxs H2=>r x xs H2 Q
variable{o e:Expr}{es:List Expr}{to:TE}{t:TA}{name:Str}{apos cpos:Pos}{T id:String}{r:V->List V->Hp->VK->Prop}
theorem aCP(pa:PlainAttrs T)(slot:Slot T name id)(hty:typeOf (.builtin id)=pure (.type "method_descriptor"))(hm:MtR X id r)(ho:PE X o to)
  (hbase:attributeBase o name X.env (eval o X.env)=eval o X.env:=by rfl) (hline:(apos.endLine == cpos.line)=true:=by rfl):PE X (.Call (.Attribute o name apos) [] [] cpos) (aJB X.K T r to):=by
 intro pins s U H Q I h;refine wpAny_Call_method0_late hbase hline (dN (ho pins s U H _ I h) λv s1 ⟨x,H1,I1,r1,ty,q1⟩=>?_);obtain ⟨h1,h2⟩:=T8 I1 r1 ty;exact ⟨T,id,pa,slot,hty,h1,h2,Calls.callWith_builtin rfl (PySem.evalArgs_none (hm pins s1 U H1 x [] v [] Q I1 r1 .nil q1))⟩
theorem aEd(pa:PlainAttrs T)(slot:Slot T name id)(hty:typeOf (.builtin id)=pure (.type "method_descriptor"))(hm:MtR X id r)(ho:PE X o to)(ha:PA X (e::es) t)
  (hbase:attributeBase o name X.env (eval o X.env)=eval o X.env:=by rfl)
  (hfew:((backTo cpos (starEach (e::es) X.env)).all (λx=>!x.1)&&(backToKw cpos (keywordEach [] X.env)).all (λx=>x.1.isSome)
   && decide ((e::es).length+([]:List Keyword).length+(if ([]:List Keyword).isEmpty then 0 else 1)<30))=true:=by rfl)
  (hline:(apos.endLine == cpos.line)=true:=by rfl) (hs:starEach (e::es) X.env=(false,eval e X.env)::starEach es X.env:=by rfl) (hplain:(backTo cpos (starEach es X.env)).any (·.1)=false:=by rfl) :
  PE X (.Call (.Attribute o name apos) (e::es) [] cpos) (tBM X.K T r to t):=by
 intro pins s U H Q I h;refine wpAny_Call_method_late hbase hfew hline rfl (dN (ho pins s U H _ I h) λv s1 ⟨x,H1,I1,r1,ty,q1⟩=>?_);obtain ⟨h1,h2⟩:=T8 I1 r1 ty;refine ⟨T,id,pa,slot,hty,h1,h2,?_⟩;have hA:=ha cpos pins s1 U H1 _ I1 q1;rw [hs] at hA ⊢;refine Calls.callWith_builtin (by show (false||(backTo cpos (starEach es X.env)).any (·.1))=false; rw [hplain]<;>rfl) (Calls.evalArgs_plain ?_);exact dN hA λus s2 hq5=>by obtain ⟨vs,H2,I2,r2,q2⟩:=hq5; exact hm pins s2 U H2 x vs v us Q I2 r1 r2 q2
end
end L2
namespace L2
open PySem PySem.Spec PyProof.Rows
def MtM(X:Cx)(id:String)(r:V->List V->Hp->VK->Prop):Prop :=
 ∀ (pins:List (Addr×Obj)) (s:Shared) (U:St) (H:Hp) (x:V) (xs:List V) (v:Value) (us:List Value) (Q:VK),Inv X pins U H s->RelV x v->Vals xs us->r x xs H Q ->
  wpAny (model X.prog X.w) X.A (call (.builtin id) (v::us)) (EP X pins U Q) X.xe s
theorem Vals.one:∀ {x:V} {us:List Value},Vals [x] us -> ∃ u,us=[u]/\RelV x u
 | _,_,.cons r .nil=>⟨_,rfl,r⟩
theorem Vals.zero:∀ {us:List Value},Vals [] us->us=[]
 | _,.nil=>rfl
theorem Vals.dropLast{xs:List V}{us:List Value}(h:Vals xs us):Vals xs.dropLast us.dropLast:=by
 induction h with
 | nil=>exact .nil
 | cons r t ih =>
  cases t with
  | nil=>exact .nil
  | cons q t'=>exact .cons r ih
theorem Vals.eraseIdx:∀ {xs:List V} {us:List Value} (i:Nat),Vals xs us->Vals (xs.eraseIdx i) (us.eraseIdx i)
 | _,_,_,.nil=>.nil
 | _,_,0,.cons _ t=>t
 | _,_,i+1,.cons r t=>.cons r (Vals.eraseIdx i t)
theorem qR{α:Type}(l:List α):l.eraseIdx (l.length - 1)=l.dropLast:=by
 induction l with
 | nil=>rfl
 | cons a r ih =>
  cases r with
  | nil=>rfl
  | cons b r =>
   have e:(a::b::r).length - 1=((b::r).length - 1)+1:=by have h1:(a::b::r).length=r.length+2:=rfl;have h2:(b::r).length=r.length+1:=rfl;omega
   rw [e,List.eraseIdx_cons_succ,ih]
   all_goals rfl
theorem BN{α:Type}:∀ (l:List α) (i:Nat),(l.eraseIdx i).length<=l.length
 | [],_=>le_refl _
 | _::_,0=>Nat.le_succ _
 | _::r,i+1=>Nat.succ_le_succ (BN r i)
section
variable{X:Cx}{pins:List (Addr×Obj)}{U:St}{H:Hp}{s:Shared}{l b:Addr}{xs ys zs:List V}
theorem Inv.Y9{its its':List Value}{n:Nat}{f:Array Value->Array Value}{t':Nat}(I:Inv X pins U H s)(hH:H l=some (.lst xs))
  (e:s.heap.get? l=some { cls:=.type "list",data:=.seq its.toArray n }) (hf:f its.toArray=its'.toArray) (hv:Vals ys its') (hz:ys.length<=sizeLine) :
  Inv X pins U (upd H l (.lst ys)) { s with heap:=s.heap.update l (Obj.mapSeq f),toks:=t' }:=by
 have q:=PySem.IsL.update e f;rw [hf] at q;refine I.write (x:=l) (e:=l) (by rw [hH]; exact trivial) (.inl rfl) (λb' u hb hu=>(Heap.get?_update_other s.heap (Obj.mapSeq f) (Ne.symm hb)).trans hu) ⟨_,q⟩ ?_;exact ⟨hz,its',_,hv,q⟩
theorem Inv.aJC{its:List Value}{t':Nat}(I:Inv X pins U H s)(hv:Vals ys its)(hz:ys.length<=sizeLine) :
  Inv X pins U (upd H s.heap.objs.size (.lst ys)) { s with heap:=s.heap.push { cls:=.type "list",data:=.seq its.toArray },toks:=t' } :=
 I.laid (λ_ _ q=>get?_push_of_some _ q) (le_refl _) ⟨hz,its,0,hv,get?_push_size _ rfl⟩
theorem Inv.fresh(I:Inv X pins U H s):H s.heap.objs.size=none:=I.hok.fresh (le_refl _)
theorem Inv.JF(I:Inv X pins U H s)(hH:H l=some (.lst xs)):xs.length<=sizeLine /\ ∃ (its:List Value) (n:Nat),Vals xs its/\xs.length=its.length/\s.heap.get? l=some { cls:=.type "list",data:=.seq its.toArray n }:=by obtain ⟨z,its,n,r,e⟩:=I.hok l _ hH;exact ⟨z,its,n,r,r.length,e⟩
theorem T9{n:Nat}(h:n<=sizeLine):Builtin.List.listTooLong n=false:=by unfold Builtin.List.listTooLong;exact decide_eq_false (by omega)
end
section
variable{X:Cx}
def MJ:V->List V->Hp->VK->Prop:=λx vs H Q=>∃ l xs y,x=.ref l/\vs=[y]/\H l=some (.lst xs)/\xs.length<sizeLine/\Q .non (upd H l (.lst (xs++[y])))
theorem BO:MtM X "list.append" MJ:=by intro pins s U H x vs v us Q I rx rv h;obtain ⟨l,xs,y,rfl,rfl,hH,hz,q⟩:=h;cases rx;obtain ⟨u,rfl,ru⟩:=rv.one;obtain ⟨z,its,n,r,hl,e⟩:=I.JF hH;refine call_meets F.slot_list_append ⟨_,e,rfl⟩ F.entry_list_append (F.args_list_append_2 _ _) (PySem.list_append l its.toArray n u (by rw [size_toArray]; omega)) ⟨e,?_⟩;refine ⟨.non,_,I.Y9 (its':=its++[u]) hH e (by simp) (r.append (.cons ru .nil)) ?_,rfl,q⟩;rw [List.length_append,List.length_singleton];omega
def MK:V->List V->Hp->VK->Prop:=λx vs H Q=>∃ l b xs zs,x=.ref l/\vs=[.ref b]/\H l=some (.lst xs)/\H b=some (.lst zs)/\xs.length+zs.length<=sizeLine/\Q .non (upd H l (.lst (xs++zs)))
theorem OJ:MtM X "list.extend" MK:=by
 intro pins s U H x vs v us Q I rx rv h;obtain ⟨l,b,xs,zs,rfl,rfl,hH,hB,hz,q⟩:=h;cases rx;obtain ⟨u,rfl,ru⟩:=rv.one;cases ru;obtain ⟨z,its,n,r,hl,e⟩:=I.JF hH;obtain ⟨z2,its2,n2,r2,hl2,e2⟩:=I.JF hB;have hsz:its.toArray.size+its2.toArray.size<=sizeLine:=by rw [size_toArray,size_toArray]; omega
 have aEe:¬ (!its.toArray.isEmpty&&Builtin.List.listTooLong (its.toArray.size+its2.toArray.size))=true:=by rw [T9 hsz,Bool.and_false];exact Bool.false_ne_true
 refine call_meets F.slot_list_extend ⟨_,e,rfl⟩ F.entry_list_extend (F.args_list_extend_2 _ _)
  (AutoSeq1.list_extend_list_list_0 l its.toArray n b its2.toArray n2 aEe (by rw [size_toArray]; omega) (by omega)) ⟨e,e2,?_⟩
 refine ⟨.non,_,I.Y9 (its':=its++its2) hH e (by simp) (r.append r2) ?_,rfl,q⟩;rw [List.length_append];omega
def aJD:V->List V->Hp->VK->Prop:=λx vs H Q=>∃ l xs y,x=.ref l/\vs=[]/\H l=some (.lst xs)/\xs[xs.length - 1]? = some y/\Q y (upd H l (.lst xs.dropLast))
theorem aCQ:MtM X "list.pop" aJD:=by
 intro pins s U H x vs v us Q I rx rv h;obtain ⟨l,xs,y,rfl,rfl,hH,hy,q⟩:=h;cases rx;have hus:=rv.zero;subst hus;obtain ⟨z,its,n,r,hl,e⟩:=I.JF hH;obtain ⟨u,hu,ru⟩:=r.get hy;have hy':its.toArray[its.toArray.size - 1]? = some u:=by show its.toArray[its.length - 1]? = some u;rw [<- Array.getElem?_toList,<- hl];exact hu
 refine call_meets F.slot_list_pop ⟨_,e,rfl⟩ F.entry_list_pop (F.args_list_pop_1 _) (MeetsSeq.list_pop_last l its.toArray n u hy' (by rw [size_toArray]; omega)) ⟨e,?_⟩;refine ⟨y,_,I.Y9 (its':=its.dropLast) hH e ?_ r.dropLast ?_,ru,q⟩
 .show its.toArray.eraseIdxIfInBounds (its.toArray.size - 1)=its.dropLast.toArray;rw [size_toArray,List.eraseIdxIfInBounds_toArray,qR]
 .rw [List.length_dropLast];omega
def UA:V->List V->Hp->VK->Prop:=λx vs H Q=>∃ l xs i k y,x=.ref l/\vs=[.int i]/\H l=some (.lst xs) /\ -(2 ^ 63)<=i/\i<2 ^ 63/\seqIndex? i xs.length=some k/\xs[k]? = some y/\Q y (upd H l (.lst (xs.eraseIdx k)))
theorem UB:MtM X "list.pop" UA:=by
 intro pins s U H x vs v us Q I rx rv h;obtain ⟨l,xs,i,k,y,rfl,rfl,hH,h1,h2,hk,hy,q⟩:=h;cases rx;obtain ⟨u,rfl,ru⟩:=rv.one;obtain ⟨t,rfl⟩:=ru;obtain ⟨z,its,n,r,hl,e⟩:=I.JF hH;obtain ⟨w,hw,w8⟩:=r.get hy;refine call_meets F.slot_list_pop ⟨_,e,rfl⟩ F.entry_list_pop (F.args_list_pop_2 _ _)
  (MeetsSeq.list_pop_at l its.toArray n i t k w (fitsIndex_both h1 h2) (by rw [size_toArray,<- hl]; exact hk) (by rw [<- Array.getElem?_toList]; exact hw) (by rw [size_toArray]; omega)) ⟨e,?_⟩
 refine ⟨y,_,I.Y9 (its':=its.eraseIdx k) hH e ?_ (r.eraseIdx k) ?_,w8,q⟩
 .show its.toArray.eraseIdxIfInBounds k=(its.eraseIdx k).toArray;rw [List.eraseIdxIfInBounds_toArray]
 .have:=BN xs k;omega
def aEf:R2:=λx y H Q=>∃ l b xs zs,x=.ref l/\y=.ref b/\H l=some (.lst xs)/\H b=some (.lst zs)/\xs.length+zs.length<=sizeLine /\ ∀ p,H p=none->Q (.ref p) (upd H p (.lst (xs++zs)))
theorem UC:i6 X (binaryOp .Add) aEf:=by
 intro pins s U H x y v u Q I rx ry h;obtain ⟨l,b,xs,zs,rfl,rfl,hH,hB,hz,q⟩:=h;cases rx;cases ry;obtain ⟨z,its,n,r,hl,e⟩:=I.JF hH;obtain ⟨z2,its2,n2,r2,hl2,e2⟩:=I.JF hB;refine PySem.P.add_list e e2 ?_ (by rw [size_toArray,size_toArray]; omega);have ea:its.toArray++its2.toArray=(its++its2).toArray:=by simp
 rw [ea];exact ⟨.ref _,_,I.aJC (t':=s.toks) (r.append r2) (by rw [List.length_append]; omega),rfl,q _ I.fresh⟩
end
section
variable{prog:Program}{w:World}{A:Around}{E:Q0Q}{s:Shared}
set_option maxRecDepth 100000 in
end
section
variable{X:Cx}
end
end L2
namespace Att
open PySem PySem.W PySem.Calls PyProof.Rows
theorem vF{P:Params}{h:Heap}:∀ (ns:List Int) (vs:List Value),WellAll P h vs (ns.map WData.int)->IntsAre vs ns:=by
 intro ns
 induction ns with
 | nil =>
  intro vs w;rw [map_nil] at w;cases w;exact .nil
 | cons n ns ih =>
  intro vs w;rw [map_cons] at w
  cases w with
  | cons a b =>
   cases a;exact .cons _ _ (ih _ b)
theorem OK{l:OpenLaw}{n:Nat}(hn:l.most=some n){P:Params}{h:Heap}{args:List WData}{vals:List Value}
  (hpre:l.row.toRowW.claim.pre args=true) (hwl:WellAll P h vals args) :
  ∃ a vs ns,vals=[Value.ref a]/\args=[WData.list (ns.map WData.int)]/\h.get? a=some { cls:=.type "list",data:=.seq vs.toArray }/\IntsAre vs ns/\ns.length<=n:=by
 have hsh:WShape.hasAll [] args [.list .int]=true:=(pre_splitW hpre).1;have hc:l.pre.holds [] { args:=args }=true:=(pre_splitW hpre).2;obtain ⟨d,r,rfl,h1,h2⟩:=hasAllW_cons hsh;obtain rfl:=hasAllW_nil h2;obtain ⟨xs,rfl,h3⟩:=hasW_list h1;obtain ⟨ns,rfl⟩:=items_int h3;have hlen:ns.length<=n:=by
  unfold OpenLaw.pre at hc;have h4:(WTm.not (.lt (.lit (.int (n:Int))) (.len (.arg 0)))).holds [] { args:=[.list (ns.map .int)] }=true:=by have h4:=(holds_andW hc).1;rw [hn] at h4;exact h4
  have h5:=condW_of h4 (w_not (w_lt w_lit (w_len_list (w_arg rfl))));rw [length_map] at h5;refine Nat.le_of_not_lt λq=>?_;have q':(n:Int)<((ns.length:Nat):Int):=by omega
  first
   | (rw [decide_eq_true q'] at h5; exact absurd h5 (by decide))
   | (simp at h5; omega)
 cases hwl with
 | cons w1 w2 =>
  cases w2
  cases w1 with
  | list ho hall=>exact ⟨_,_,ns,rfl,rfl,ho,vF ns _ hall,hlen⟩
theorem OL(l:OpenLaw)(args:List WData):l.row.toRowW.claim.post args (.bool true) args=true :=
 postW_of (r:=l.row.toRowW) (X:=(true == true))
  (show WShape.has [] (.bool true) .bool=true by first | rfl | decide | simp [WShape.has,WShape.arms,WShape.armsAll])
  (show (WTm.eq .res (.lit (.bool true))).value [] { args:=args,res:=some (.bool true),after:=args }=some (.bool (true == true)) from w_eq_bool (w_res rfl) w_lit) rfl
theorem FV{l:OpenLaw}{n:Nat}{q:Program}{loose:List Str}{XP:(Q0Z)->Heap->Prop}{YP:World->Heap->Prop}{d:DefRec}
  (hn:l.most=some n) (hdf:d.params.defaults=[])
  (call:∀ (w:World) (s₀ s₁:Shared) (mg mb:Q0Z) (fa:Addr) (o:Obj) (pm cd doc:Value) (a:Addr) (vs:List Value) (ns:List Int),
   Ground q loose [] XP w s₀ mg mb s₁.heap->YP w s₁.heap ->
   s₁.heap.get? fa=some o->o.data=.func (docDef d.name d.params d.body d.scope pm cd doc)->s₁.heap.CodeRec cd d.name->mg d.name=some (.ref fa) ->
   s₁.heap.get? a=some { cls:=.type "list",data:=.seq vs.toArray }->IntsAre vs ns->ns.length<=n->s₁.gens=#[] ->
   codeAny (model l.prog w) callerA (.call (.ref fa) ⟨[.ref a],[]⟩) (λr s'=>r=.ok (.ret (.bool true))/\OldK s₁.heap s'.heap/\s'.os=s₁.os/\AllBare s'.gens) s₁) :
  WalkO q loose XP YP l.row.toRowW d [] (λf vs=>PySem.call f vs):=by
 intro w s₀ s₁ mg mb G Y fa o pm cd doc dV kV ho hd hcd hD hmg hg args vals as hpre hlay hrd hwl hlo;obtain rfl:dV=.none:=Dflts.none hD hdf;obtain rfl:kV=.none:=Dflts.noKw hD;obtain ⟨a,vs,ns,rfl,rfl,hobj,hints,hlen⟩:=OK hn hpre hwl;refine enter_call (codeAny_mono (call w s₀ s₁ mg mb fa o pm cd doc a vs ns G Y ho (fd_plain hd) hcd hmg hobj hints hlen hg) λr s' hq=>?_);obtain ⟨rfl,h2,h3,h4⟩:=hq;exact ⟨.inl ⟨.bool true,.bool true,[],rfl,λ_=>rfl,.bool true,OL l _,λ_=>⟨List.Pairwise.nil,λ_ hm=>(nomatch hm)⟩⟩,h2,h3,h4⟩
section
variable{prog:Program}{w:World}{A:Around}{E:Q0Q}{s:Shared}{K:Frag}
end
end Att
namespace L2
open PySem PySem.Spec PyProof.Rows
theorem pI:∀ {vs:List Value} {ns:List Int},IntsAre vs ns->Vals (ns.map V.int) vs
 | _,_,.nil=>.nil
 | _,_,.cons n t h=>.cons ⟨t,rfl⟩ (pI h)
def Only(H:Hp):Prop:=∀ b,H b=none \/ ∃ o xs,H b=some (.HL o (.lst xs))
theorem UD{P:Program}{w:World}{K:W.Frag}{mg mb:Q0Z}{CX:OH}{k:Nat}{fa a:Addr}{fd:FuncData}{x:Str}{sp:Sp}{s₁:Shared}{vs:List Value}{ns:List Int}
  (KX:K.In s₁.heap) (hns:s₁.heap.Ns mainGlobals mg) (hb:s₁.heap.Ns builtinsNs mb) (hbb:∀ x:Str,x ≠ "__name__" -> mb x=bootBuiltins x) (hlim:s₁.heap.NoLimit) (hg:s₁.gens=#[])
  (ha:s₁.heap.get? a=some { cls:=.type "list",data:=.seq vs.toArray }) (hi:IntsAre vs ns) (hl:ns.length<=sizeLine) (hr:lA k callerA)
  (F:∀ base:Heap,K.In base->base.Ns mainGlobals mg->aW P w K mg base CX k fa fd [x] sp) (hbind:∀ (s:Shared) (u:Value),BindsTo s fd ⟨[u],[]⟩ [(x,u)])
  (hsp:∀ H:Hp,Only H->gH K H a (ns.map V.int)->sp [.ref a] H (λv _=>v=.bl true) λ_ _ _=>False)
  (hCX:∀ H e s',CX [] H s₁ (λ_ _ _=>False) e s'->False) :
  codeAny (model P w) callerA (.call (.ref fa) ⟨[.ref a],[]⟩) (λr s'=>r=.ok (.ret (.bool true))/\OldK s₁.heap s'.heap/\s'.os=s₁.os/\AllBare s'.gens) s₁:=by
 have rv:=pI hi;have lenV:=hi.length
 -- from an abstract heap in which nothing but the script may be tracked
 have core:∀ H:Hp,Only H->gH K H a (ns.map V.int)->pU P w H s₁.heap->(∀ b,H b≠none->b=a)->(H a≠none->K.lookup a=none) ->
   codeAny (model P w) callerA (.call (.ref fa) ⟨[.ref a],[]⟩) (λr s'=>r=.ok (.ret (.bool true))/\OldK s₁.heap s'.heap/\s'.os=s₁.os/\AllBare s'.gens) s₁:=by
  intro H hO hS hok hA hK;have ML:∀ {b:Addr} {o:Obj},s₁.heap.get? b=some o->H b=none->(DI s₁.heap H).get? b=some o:=λe n=>TC e n;have noA:∀ {b:Addr} {o:Obj} {es:Array DictEntry} {ep:Nat},s₁.heap.get? b=some o->o.data=.dict es ep->H b=none:=λ{b o es ep} e d=>by
   cases q:H b with
   | none=>rfl
   | some u =>
    have e':b=a:=hA b (by rw [q]; simp);subst e';rw [ha] at e; cases e;have d':Data.seq vs.toArray _=Data.dict es ep:=d;cases d'
  have nsK:∀ {b:Addr} {m:Q0Z},s₁.heap.Ns b m->(DI s₁.heap H).Ns b m:=λ{b m} ⟨o,es,ep,e,d,r⟩=>⟨o,es,ep,ML e (noA e d),d,r⟩;have hKb:K.In (DI s₁.heap H):=λb o e=>ML (KX b o e) (by
   cases q:H b with
   | none=>rfl
   | some u =>
    have e':b=a:=hA b (by rw [q]; simp);subst e';rw [hK (by rw [q]; simp)] at e; cases e)
  have hM:Mod K mg (DI s₁.heap H):=⟨hKb,nsK hns,⟨mb,nsK hb,hbb⟩,let ⟨mc,h1,h2⟩:=hlim; ⟨mc,nsK h1,h2⟩⟩;have e0:Y0 P w K mg (DI s₁.heap H) callerA [] s₁ H:=⟨rfl,hM,λb o e=>YL e,Nat.le_of_eq (N7 _ _),trivial,λb hb=>absurd (show b∈([]:List Addr) from hb) (by simp),hok,.of_eq hg⟩;refine codeAny_mono ((F _ hKb (nsK hns)).run callerA [] s₁ H ⟨[.ref a],[]⟩ [.ref a] [.ref a] _ _ hr e0 (hbind s₁ (.ref a)) (.cons rfl .nil) (hsp H hO hS)) λr s' h=>?_
  cases r with
  | error e=>exact (hCX H e s' h).elim
  | ok fl =>
   cases fl with
   | next=>exact False.elim h
   | brk=>exact False.elim h
   | cont=>exact False.elim h
   | ret u =>
    obtain ⟨v,H',os,bare,un,hok',r',q⟩:=h;have q':v=.bl true:=q;subst q';obtain rfl:u=Value.bool true:=r';refine ⟨rfl,OldK.of_keep λb o e=>?_,os,bare⟩
    cases q:H b with
    | none=>exact un.keep b o e q (by intro z; exact absurd (show b∈([]:List Addr) from z) (by simp)) (by simp)
    | some u =>
     rcases hO b with z | ⟨ob,xs,z⟩
     .rw [q] at z; cases z
     .have z2:=un.sB b ob _ z;obtain ⟨e1,_⟩:=hok b _ z;obtain ⟨e2,_⟩:=hok' b _ z2;rw [e] at e1; cases e1;exact e2
 cases hk:K.lookup a with
 | some o =>
  -- the script is one of the module's own objects
  have e:=KX a o hk;rw [ha] at e;cases e;refine core (λ_=>none) (λ_=>.inl rfl) (.inr ⟨_,vs.toArray,_,hk,rfl,rfl,rfl,by rw [size_toArray,lenV]; exact hl,by simpa using rv⟩) (λb u z=>by have z':(none:Option HO)=some u:=z; cases z') (λb z=>absurd rfl z) λz=>absurd rfl z
 | none =>
  refine core (λb=>if b=a then some (.HL { cls:=.type "list",data:=.seq vs.toArray } (.lst (ns.map V.int))) else none) (λb=>?_) (.inl (.inr ⟨{ cls:=.type "list",data:=.seq vs.toArray },if_pos rfl⟩)) (λb u z=>?_) (λb z=>?_) λ_=>hk
  .by_cases hb:b=a
   .exact .inr ⟨_,_,if_pos hb⟩
   .exact .inl (if_neg hb)
  .by_cases hb:b=a
   .have z':=(if_pos hb).symm.trans z;cases z';subst hb;exact ⟨ha,by rw [length_map]; exact hl,vs,_,rv,ha⟩
   .have z':=(if_neg hb).symm.trans z;cases z'
  .by_cases hb:b=a
   .exact hb
   .exact absurd (if_neg hb) z
end L2
namespace L2
open PySem PySem.Spec PyProof.Rows
abbrev KOf{K:W.Frag}{h:Heap}(_:K.In h):W.Frag:=K
theorem ZA{l:W.OpenLaw}{n k:Nat}{q:Program}{loose:List Str}{XP:(Q0Z)->Heap->Prop}{YP:World->Heap->Prop}{d:DefRec}{K:Params->W.Frag}{CX:World->OH}{sp:World->Sp}{x:Str}
  (hn:l.most=some n) (hn2:n<=sizeLine) (hdf:d.params.defaults=[]) (hr:lA k callerA)
  (hY:∀ (w:World) (h:Heap),YP w h->(K w.params).In h)
  (F:∀ (w:World) (mg:Q0Z) (fa:Addr) (h:Heap),(K w.params).In h->h.Ns mainGlobals mg->mg d.name=some (.ref fa) ->
   ∃ fd:FuncData,(∀ (s:Shared) (u:Value),BindsTo s fd ⟨[u],[]⟩ [(x,u)]) /\
    ∀ base:Heap,(K w.params).In base->base.Ns mainGlobals mg->aW l.prog w (K w.params) mg base (CX w) k fa fd [x] (sp w))
  (hsp:∀ (w:World) (H:Hp) (a:Addr) (ns:List Int),ns.length<=n->Only H->gH (K w.params) H a (ns.map V.int)->sp w [.ref a] H (λv _=>v=.bl true) λ_ _ _=>False)
  (hCX:∀ (w:World) (H:Hp) (s:Shared) (e:Value) (s':Shared),CX w [] H s (λ_ _ _=>False) e s'->False) :
  W.WalkO q loose XP YP l.row.toRowW d [] (λf vs=>PySem.call f vs):=by
 refine Att.FV hn hdf λw s₀ s₁ mg mb fa o pm cd doc a vs ns G Y ho hd hcd hmg hobj hints hlen hg=>?_;have KX:=hY w _ Y;obtain ⟨fd,hb,hF⟩:=F w mg fa _ KX G.T.g hmg;exact UD KX G.T.g G.T.b G.T.builtins G.T.nolimit hg hobj hints (le_trans hlen hn2) hr hF hb (λH hO hS=>hsp w H a ns hlen hO hS) λH e s'=>hCX w H s₁ e s'
end L2
namespace L2
open PySem PySem.Spec PyProof.Rows
def bM(s:Stmt):Arguments:=match s with
 | .FunctionDef _ a _ _ _ _ _ _ _ _=>a
 | _=>{ posonlyargs:=[],args:=[],vararg:=none,kwonlyargs:=[],kw_defaults:=[],kwarg:=none,defaults:=[] }
def bE(s:Stmt):List Stmt:=match s with
 | .FunctionDef _ _ b _ _ _ _ _ _ _=>b
 | _=>[]
def aI(s:Stmt):Scope:=match s with
 | .FunctionDef _ _ _ _ _ _ sc _ _ _=>sc
 | _=>{ kind:=.function,names:=[],isGenerator:=false,isCoroutine:=false }
abbrev dO:OH:=λ_ _ _ _ _ _=>False
abbrev E0:XK:=λ_ _ _=>False
theorem aEg{X:Cx}:Passes dO X E0:=λ_ _ _ _ _ _ _ h=>h.elim
structure nU (K:W.Frag) (x qual:Str) (st:Stmt) (f:Addr) (fd:FuncData):Prop where
 ex:∃ (oc:Value) (od:Option Addr) (kV doc pm:Value) (an:Option Addr) (cdv ct:Value) (osl:Array (Option Value)),
  fd=W.fnOf x qual (bM st) (bE st) (aI st) .none kV doc pm an cdv ct/\K.lookup f=some ⟨oc,od,.func fd,osl⟩/\W.codeIn K cdv qual=true
 kp:W.keepIn K (.ref f)=true
section
variable{P:Program}{w:World}{K:W.Frag}{mg:Q0Z}{base:Heap}
theorem nU.ok{x qual:Str}{st:Stmt}{f:Addr}{fd:FuncData}{N ps:List Str}{k:Nat}{sp:Sp}(F:nU K x qual st f fd)(S:bH N ps (aI st))(len:∀ vs H Q E,sp vs H Q E->vs.length=ps.length)
  (hbody:∀ (cdv:Value) (A:Around) (outer:List Env) (s:Shared) (H:Hp) (vs:List V) (Q:VK) (E:XK),lA k (A.deeper (envOfC qual (aI st) s.heap.objs.size f cdv))->sp vs H Q E ->
   ∃ t,HM (t6 dO P w K mg base N qual (aI st) f cdv A outer s H E).nox (bE st) t/\t { nx:=λ_ H'=>Q .non H',rt:=Q } (start N vs) H):aW P w K mg base dO (k+1) f fd ps sp:=by
 obtain ⟨oc,od,kV,doc,pm,an,cdv,ct,osl,rfl,lk,hcd⟩:=F.ex;refine aA9 lk hcd S len λA outer s H vs Q E hr hsp=>?_;obtain ⟨t,h,q⟩:=hbody cdv A outer s H vs Q E hr hsp;exact ⟨t,h.nox,q⟩
theorem nU.binds{x qual:Str}{st:Stmt}{f:Addr}{fd:FuncData}{ps:List Str}(F:nU K x qual st f fd)
  (h:∀ (kV doc pm:Value) (an:Option Addr) (cdv ct:Value) (us:List Value),us.length=ps.length->bindArgs (W.fnOf x qual (bM st) (bE st) (aI st) .none kV doc pm an cdv ct) ⟨us,[]⟩=pure (ps.zip us)):Binds K fd ps []:=by
 obtain ⟨oc,od,kV,doc,pm,an,cdv,ct,osl,rfl,lk,hcd⟩:=F.ex;exact .all (h kV doc pm an cdv ct)
theorem cN{x qual:Str}{st:Stmt}{f:Addr}{oc:Value}{od an:Option Addr}{osl:Array (Option Value)}{kV doc pm cdv ct:Value}(l:K.lookup f=some ⟨oc,od,.func (W.fnOf x qual (bM st) (bE st) (aI st) .none kV doc pm an cdv ct),osl⟩)
  (c:W.codeIn K cdv qual=true) (k:W.keepIn K (.ref f)=true):nU K x qual st f (W.fnOf x qual (bM st) (bE st) (aI st) .none kV doc pm an cdv ct):=⟨⟨oc,od,kV,doc,pm,an,cdv,ct,osl,rfl,l,c⟩,k⟩
end
section
variable{X:Cx}
end
def Same(H H':Hp):Prop:=∀ b o,H b=some o->H' b=some o
theorem Same.refl(H:Hp):Same H H:=λ_ _ h=>h
theorem Same.trans{H H1 H2:Hp}(a:Same H H1)(b:Same H1 H2):Same H H2:=λc o h=>b c o (a c o h)
theorem Same.free{H H':Hp}(e:Same H H'){l:Addr}(h:H' l=Option.none):H l=Option.none:=by
 cases q:H l with
 | none=>rfl
 | some o =>
  rw [e l o q] at h;cases h
end L2
namespace L2
open PySem PySem.Spec PyProof.Rows
section
variable{κ:Type}[DecidableEq κ]
def iB(kvs:List (κ×V))(k:κ):Option V:=(kvs.find? λkv=>decide (kv.1=k)).map (·.2)
def putK(kvs:List (κ×V))(k:κ)(v:V):List (κ×V) :=
 if (kvs.any λkv=>decide (kv.1=k))=true then kvs.map (λkv=>if kv.1=k then (kv.1,v) else kv) else kvs++[(k,v)]
theorem fQ{p:κ×V}{r:List (κ×V)}{k:κ}(e:p.1=k):iB (p::r) k=some p.2:=by simp [iB,find?_cons,e]
theorem fR{p:κ×V}{r:List (κ×V)}{k:κ}(e:¬ p.1=k):iB (p::r) k=iB r k:=by simp [iB,find?_cons,e]
theorem oI(k:κ):∀ kvs:List (κ×V),(kvs.any λkv=>decide (kv.1=k))=(iB kvs k).isSome
 | []=>rfl
 | p::r=>by
  rw [any_cons];by_cases e:p.1=k
  .simp only [fQ e,decide_eq_true e,Bool.true_or,Option.isSome_some]
  .rw [fR e,decide_eq_false e,Bool.false_or]; exact oI k r
theorem FW(k j:κ)(y:V):∀ kvs:List (κ×V),iB (kvs.map λkv=>if kv.1=k then (kv.1,y) else kv) j=(iB kvs j).map λx=>if j=k then y else x
 | []=>rfl
 | p::r=>by
  have ih:=FW k j y r;rw [map_cons];by_cases h:p.1=k
  .rw [if_pos h];by_cases e:p.1=j
   .rw [fQ (p:=(p.1,y)) e,fQ e,map_some,if_pos (e.symm.trans h)]
   .rw [fR (p:=(p.1,y)) e,fR e,ih]
  .rw [if_neg h];by_cases e:p.1=j
   .rw [fQ (p:=p) e,fQ e,map_some,if_neg (λz=>h (e.trans z))]
   .rw [fR (p:=p) e,fR e,ih]
theorem BP(k j:κ)(y:V):∀ kvs:List (κ×V),iB kvs k=none->iB (kvs++[(k,y)]) j=if j=k then some y else iB kvs j
 | [],_=>by
  by_cases e:k=j
  .rw [if_pos e.symm]; exact fQ (p:=(k,y)) e
  .rw [if_neg (λz=>e z.symm)]; exact fR (p:=(k,y)) e
 | p::r,hn=>by
  rw [cons_append];have hk:¬ p.1=k:=λz=>by rw [fQ z] at hn; cases hn
  rw [fR hk] at hn;have ih:=BP k j y r hn;by_cases e:p.1=j
  .rw [fQ e,fQ e,if_neg (λz=>hk (e.trans z))]
  .rw [fR e,fR e,ih]
theorem UE(kvs:List (κ×V))(k j:κ)(y:V):iB (putK kvs k y) j=if j=k then some y else iB kvs j:=by
 unfold putK;by_cases a:(kvs.any λkv=>decide (kv.1=k))=true
 .rw [if_pos a,FW];rw [oI] at a;by_cases e:j=k
  .obtain ⟨x,hx⟩:=Option.isSome_iff_exists.mp a;rw [if_pos e,e,hx,map_some,if_pos rfl]
  .rw [if_neg e]
   cases iB kvs j with
   | none=>rfl
   | some x=>rw [map_some,if_neg e]
 .rw [if_neg a];refine BP k j y kvs ?_;rw [oI] at a
  cases q:iB kvs k with
  | none=>rfl
  | some x=>rw [q] at a; exact (a rfl).elim
theorem uR(kvs:List (κ×V))(k:κ)(v:V):(putK kvs k v).length<=kvs.length+1:=by
 unfold putK;split
 .rw [length_map]; omega
 .rw [List.length_append,length_cons,length_nil]; omega
theorem UF{kvs:List (κ×V)}{k:κ}(v:V)(h:iB kvs k=none):putK kvs k v=kvs++[(k,v)]:=by unfold putK;rw [oI,h];exact if_neg (by decide)
theorem oD.pJ{o:Option V}{u:Option Value}(r:oD o u):o.isSome=u.isSome:=by
 cases o with
 | none=>cases u with
  | none=>rfl
  | some _=>exact (show False from r).elim
 | some _=>cases u with
  | none=>exact (show False from r).elim
  | some _=>rfl
theorem oD.getD{o:Option V}{u:Option Value}{d:V}{d':Value}(r:oD o u)(rd:RelV d d'):RelV (o.getD d) (u.getD d'):=by
 cases o with
 | none=>cases u with
  | none=>exact rd
  | some _=>exact (show False from r).elim
 | some _=>cases u with
  | none=>exact (show False from r).elim
  | some _=>exact r
theorem KV.val{kvs:List (κ×V)}{vs:List (κ×Value)}(r:KV kvs vs)(k:κ):oD (iB kvs k) (valueAt vs k):=by
 unfold KV at r
 induction r with
 | nil=>exact True.intro
 | @cons p q ps qs h t ih =>
  obtain ⟨h1,h2⟩:=h;by_cases e:p.1=k
  .have e':q.1=k:=h1.symm.trans e;have b:valueAt (q::qs) k=some q.2:=by simp [valueAt,find?_cons,e']
   rw [fQ e,b]; exact h2
  .have e':¬ q.1=k:=λz=>e (h1.trans z);have b:valueAt (q::qs) k=valueAt qs k:=by simp [valueAt,find?_cons,e']
   rw [fR e,b]; exact ih
theorem KV.any{kvs:List (κ×V)}{vs:List (κ×Value)}(r:KV kvs vs)(k:κ):(kvs.any λkv=>decide (kv.1=k))=vs.any λkv=>decide (kv.1=k):=by
 unfold KV at r
 induction r with
 | nil=>rfl
 | cons h t ih=>rw [any_cons,any_cons,ih,h.1]
theorem KV.repl{kvs:List (κ×V)}{vs:List (κ×Value)}(r:KV kvs vs)(k:κ){y:V}{u:Value}(ry:RelV y u) :
  KV (kvs.map λkv=>if kv.1=k then (kv.1,y) else kv) (vs.map λkv=>if kv.1=k then (kv.1,u) else kv):=by
 unfold KV at r ⊢
 induction r with
 | nil=>exact .nil
 | @cons p q ps qs h t ih =>
  rw [map_cons,map_cons];refine .cons ?_ ih;obtain ⟨h1,h2⟩:=h;by_cases e:p.1=k
  .rw [if_pos e,if_pos (h1.symm.trans e)]; exact ⟨h1,ry⟩
  .rw [if_neg e,if_neg (λz=>e (h1.trans z))]; exact ⟨h1,h2⟩
theorem KV.put{kvs:List (κ×V)}{vs:List (κ×Value)}(r:KV kvs vs)(k:κ){y:V}{u:Value}(ry:RelV y u):KV (putK kvs k y) (stored vs k u):=by
 unfold putK stored;rw [r.any k];by_cases e:(vs.any λkv=>decide (kv.1=k))=true
 .rw [if_pos e,if_pos e]; exact r.repl k ry
 .rw [if_neg e,if_neg e]; exact Paired.snoc r ⟨rfl,ry⟩
theorem KV.length{kvs:List (κ×V)}{vs:List (κ×Value)}(r:KV kvs vs):kvs.length=vs.length:=Paired.length r
end
theorem p6{P:Program}{k:Key}{u:Value}(r:RelV (kV k) u):(bB P w).is k u=true:=by
 cases k with
 | inl i=>obtain ⟨t,e⟩:=(show ∃ t,u=Value.int i t from r); subst e; exact FO P w i t
 | inr x=>obtain ⟨t,e⟩:=(show ∃ t,u=Value.str x t from r); subst e; exact FP P w x t
theorem BQ{P:Program}{w:World}:∀ {ks:List Key} {us:List Value},Vals (ks.map kV) us->ItemsAre (bB P w) ks us
 | [],_,r=>by rw [map_nil] at r; cases r; exact .nil
 | k::ks,_,r=>by
  rw [map_cons] at r
  cases r with
  | cons h t=>exact .cons (p6 h) (BQ t)
abbrev KT(H:Hp):List (List Key×V)->List (List Key×Addr×Value)->Prop:=Paired λp q=>p.1=q.1/\H q.2.1=some (.tup (p.1.map kV))/\RelV p.2 q.2.2
theorem KT.val{H:Hp}{kvs:List (List Key×V)}{xs:List (List Key×Addr×Value)}(r:KT H kvs xs)(k:List Key):oD (iB kvs k) ((atKey xs k).map (·.2)):=by
 induction r with
 | nil=>exact True.intro
 | @cons p q ps qs h t ih =>
  obtain ⟨h1,_,h2⟩:=h;by_cases e:p.1=k
  .have e':q.1=k:=h1.symm.trans e;have b:atKey (q::qs) k=some q.2:=by simp [atKey,find?_cons,e']
   rw [fQ e,b]; exact h2
  .have e':¬ q.1=k:=λz=>e (h1.trans z);have b:atKey (q::qs) k=atKey qs k:=by simp [atKey,find?_cons,e']
   rw [fR e,b]; exact ih
theorem KT.repl{H:Hp}{kvs:List (List Key×V)}{xs:List (List Key×Addr×Value)}(r:KT H kvs xs)(k:List Key){y:V}{u:Value}(ry:RelV y u) :
  KT H (kvs.map λkv=>if kv.1=k then (kv.1,y) else kv) (xs.map (putAt k u)):=by
 induction r with
 | nil=>exact .nil
 | @cons p q ps qs h t ih =>
  rw [map_cons,map_cons];refine .cons ?_ ih;obtain ⟨h1,h2,h3⟩:=h;unfold putAt;by_cases e:p.1=k
  .rw [if_pos e,if_pos (h1.symm.trans e)]; exact ⟨h1,h2,ry⟩
  .rw [if_neg e,if_neg (λz=>e (h1.trans z))]; exact ⟨h1,h2,h3⟩
theorem KT.put{H:Hp}{kvs:List (List Key×V)}{xs:List (List Key×Addr×Value)}(r:KT H kvs xs)(k:List Key){b:Addr}{y:V}{u:Value}(hb:H b=some (.tup (k.map kV)))(ry:RelV y u) :
  KT H (putK kvs k y) (storedH xs k b u):=by
 have e:(kvs.any λkv=>decide (kv.1=k))=(atKey xs k).isSome:=by rw [oI,(r.val k).pJ,Option.isSome_map]
 unfold putK storedH;rw [e];by_cases q:(atKey xs k).isSome=true
 .rw [if_pos q,if_pos q]; exact r.repl k ry
 .rw [if_neg q,if_neg q]; exact Paired.snoc r ⟨rfl,hb,ry⟩
theorem KT.keeps{H H':Hp}{kvs:List (List Key×V)}{xs:List (List Key×Addr×Value)}(r:KT H kvs xs)(ht:∀ b ys,H b=some (.tup ys)->H' b=some (.tup ys)):KT H' kvs xs :=
 Paired.aBe r λ_ _ z=>⟨z.1,ht _ _ z.2.1,z.2.2⟩
section
variable{P:Program}{w:World}{H:Hp}{h:Heap}{a:Addr}
theorem aAc{u:HO}(ok:pU P w H h)(e:Rd H a u):eA P w H h a u:=e.ok ok
theorem UG{kvs:List (Key×V)}(ok:pU P w H h)(e:Rd H a (.dK kvs)):kvs.length<=sizeLine/\(a == sysModules)=false /\ ∃ vs,KV kvs vs/\h.DictOf (bB P w) a vs :=
 show eA P w H h a (.dK kvs) from aAc ok e
theorem aEh{kvs:List (Key×V)}(ok:pU P w H h)(e:H a=some (.dK kvs)):kvs.length<=sizeLine/\(a == sysModules)=false /\ ∃ vs,KV kvs vs/\h.DictOf (bB P w) a vs:=UG ok (.inl e)
theorem DU{ks:List Key}(ok:pU P w H h)(e:H a=some (.tup (ks.map kV))):(tupleKind (bB P w)).is h ks a:=by obtain ⟨_,its,r,o,h1,h2,n,h3⟩:=(show eA P w H h a (.tup (ks.map kV)) from ok a _ e);exact ⟨o,its.toArray,n,h1,h2,h3,by simpa using BQ r⟩
theorem UH{kvs:List (List Key×V)}(ok:pU P w H h)(e:Rd H a (.dT kvs)):kvs.length<=sizeLine/\(a == sysModules)=false /\
  ∃ xs,KT H kvs xs/\h.DictOfH (tupleKind (bB P w)) a xs:=by
 obtain ⟨z,y,xs,r,o,es,ep,h1,h2,h3,h4,h5⟩:=(show eA P w H h a (.dT kvs) from aAc ok e);refine ⟨z,y,xs,r,o,es,ep,h1,h2,h3,h4,λx hx=>?_,h5⟩;have all:∀ {l:List (List Key×V)} {m:List (List Key×Addr×Value)},KT H l m -> ∀ x∈m,(tupleKind (bB P w)).is h x.1 x.2.1:=by
  intro l m q
  induction q with
  | nil=>intro x hx; exact nomatch hx
  | @cons p q ps qs hq t ih =>
   intro x hx;rcases List.mem_cons.mp hx with e | hx
   .subst e;exact DU ok (by rw [<- hq.1]; exact hq.2.1)
   .exact ih x hx
 exact all r x hx
theorem aEi{kvs:List (List Key×V)}(ok:pU P w H h)(e:H a=some (.dT kvs)):kvs.length<=sizeLine/\(a == sysModules)=false /\
  ∃ xs,KT H kvs xs/\h.DictOfH (tupleKind (bB P w)) a xs:=UH ok (.inl e)
end
def FX(H:Hp)(a:Addr)(y:V)(r:Option V):Prop :=
 (∃ kvs k,Rd H a (.dK kvs)/\y=kV k/\r=iB kvs k) \/ ∃ kvs k b,Rd H a (.dT kvs)/\y=.ref b/\H b=some (.tup (k.map kV))/\r=iB kvs k
def JG(H:Hp)(a:Addr)(y v:V)(H':Hp):Prop :=
 (∃ kvs k,H a=some (.dK kvs)/\y=kV k/\kvs.length<sizeLine/\H' = upd H a (.dK (putK kvs k v))) \/
 ∃ kvs k b,H a=some (.dT kvs)/\y=.ref b/\H b=some (.tup (k.map kV))/\kvs.length<sizeLine/\H' = upd H a (.dT (putK kvs k v))
theorem FX.k{H:Hp}{a:Addr}{kvs:List (Key×V)}{k:Key}(e:H a=some (.dK kvs)):FX H a (kV k) (iB kvs k):=.inl ⟨kvs,k,.inl e,rfl,rfl⟩
theorem FX.t{H:Hp}{a b:Addr}{kvs:List (List Key×V)}{k:List Key}(e:H a=some (.dT kvs))(eb:H b=some (.tup (k.map kV))):FX H a (.ref b) (iB kvs k):=.inr ⟨kvs,k,b,.inl e,rfl,eb,rfl⟩
theorem JG.k{H:Hp}{a:Addr}{kvs:List (Key×V)}{k:Key}{v:V}(e:H a=some (.dK kvs))(hl:kvs.length<sizeLine):JG H a (kV k) v (upd H a (.dK (putK kvs k v))):=.inl ⟨kvs,k,e,rfl,hl,rfl⟩
theorem JG.t{H:Hp}{a b:Addr}{kvs:List (List Key×V)}{k:List Key}{v:V}(e:H a=some (.dT kvs))(eb:H b=some (.tup (k.map kV)))(hl:kvs.length<sizeLine) :
  JG H a (.ref b) v (upd H a (.dT (putK kvs k v))):=.inr ⟨kvs,k,b,e,rfl,eb,hl,rfl⟩
section
variable{X:Cx}{pins:List (Addr×Obj)}{U:St}{H:Hp}{s:Shared}{a:Addr}{y v:V}{u r:Value}{o:Option V}{A:Around}{E:Q0Q}
theorem Inv.big(I:Inv X pins U H s):sysModules<s.heap.objs.size:=by have h:mainGlobals<s.heap.objs.size:=(I.mod.glob.keeps I.bk).lt;exact Nat.lt_trans (by decide) h
theorem OM{Q:Q0Q}(hu:A.units+1<cLine)(I:Inv X pins U H s)(g:FX H a y (some v))(ry:RelV y u)(h:∀ w' s',Inv X pins U H s'->RelV v w'->Q w' s') :
  wpAny (model X.prog X.w) A (getItem (.ref a) u) Q E s:=by
 rcases g with ⟨kvs,k,e,ey,l⟩ | ⟨kvs,k,b,e,ey,eb,l⟩
 .subst ey;obtain ⟨z,hd,vs,rel,dd⟩:=UG I.hok e;obtain ⟨w',hw,w8⟩:=oD.some_of (v:=v) (o:=valueAt vs k) (by rw [l]; exact rel.val k);exact wpAny_getItem_of (p6 ry) dd.mapOf hw (h w' _ (I.tok _) w8)
 .subst ey;cases (show u=Value.ref b from ry);obtain ⟨z,hd,xs,rel,dd⟩:=UH I.hok e;obtain ⟨w',hw,w8⟩:=oD.some_of (v:=v) (o:=(atKey xs k).map (·.2)) (by rw [l]; exact rel.val k);obtain ⟨p,hp,hp2⟩:=Option.map_eq_some_iff.mp hw;refine wpAny_getItem_heap (tupleKind_room_in1 hu) (DU I.hok eb) dd hp ?_;rw [hp2];exact h w' _ (I.tok _) w8
theorem pK{h':Heap}{t':Nat}{ob:HO}(I:Inv X pins U H s)(mu:Mut (H a))(hs:Heap.SameBut a s.heap h')(he:∃ q,h'.get? a=some q)(new:eA X.prog X.w (upd H a ob) h' a ob) :
  Inv X pins U (upd H a ob) { s with heap:=h',toks:=t' } :=
 I.write (x:=a) (e:=a) mu (.inl rfl) (λb q hb z=>(hs.2 b hb).trans z) he new
theorem aCR{P:Program}{w:World}{H':Hp}{h':Heap}{kvs:List (Key×V)}{vs:List (Key×Value)}(z:kvs.length<=sizeLine)(hd:(a == sysModules)=false)(rel:KV kvs vs)(dd:h'.DictOf (bB P w) a vs) :
  eA P w H' h' a (.dK kvs):=⟨z,hd,vs,rel,dd⟩
theorem ON{H':Hp}{Q:Unit->Shared->Prop}(hu:A.units+1<cLine)(I:Inv X pins U H s)(g:JG H a y v H')(ry:RelV y u)(rv:RelV v r)(h:∀ s',Inv X pins U H' s'->Q () s') :
  wpAny (model X.prog X.w) A (setItem (.ref a) u r) Q E s:=by
 rcases g with ⟨kvs,k,e,ey,l,eH⟩ | ⟨kvs,k,b,e,ey,eb,l,eH⟩
 .subst ey eH;obtain ⟨z,hd,vs,rel,dd⟩:=aEh I.hok e;have hz:vs.length<=sizeLine:=by rw [<- rel.length]; exact z
  have hl:(putK kvs k v).length<=sizeLine:=by have:=uR kvs k v; omega
  refine wpAny_setItem_pairs (hsz:=hz) (p6 ry) dd λh' QZ hs=>h _ ?_;have he:∃ q,h'.get? a=some q:=let ⟨q,_,_,hq,_⟩:=QZ; ⟨q,hq⟩;exact pK I (by rw [e]; exact True.intro) hs he (aCR hl hd (rel.put k rv) QZ)
 .subst ey eH;cases (show u=Value.ref b from ry);obtain ⟨z,hd,xs,rel,dd⟩:=aEi I.hok e;have hz:xs.length<=sizeLine:=by rw [<- Paired.length rel]; exact z
  have hl:(putK kvs k v).length<=sizeLine:=by have:=uR kvs k v; omega
  refine wpAny_setItem_heap (hsz:=hz) (tupleKind_room_in1 hu) (DU I.hok eb) dd λh' QZ hs=>h _ ?_;obtain ⟨q,es,ep,hq,h2,h3,h4,_,h5⟩:=QZ;refine pK I (by rw [e]; exact True.intro) hs ⟨q,hq⟩ ⟨hl,hd,_,(rel.put k eb rv).keeps λc ys ec=>?_,q,es,ep,hq,h2,h3,h4,h5⟩;rw [bQ (aA2 ec e (λz=>nomatch z))];exact ec
end
section
variable{X:Cx}{pins:List (Addr×Obj)}{U:St}{H:Hp}{s:Shared}{a:Addr}{kvs:List (Key×V)}{k:Key}{u:Value}{A:Around}{E:Q0Q}
end
def OO(i:Expr):Prop:=∀ ov iv,subscripted i false ov iv=operate [ov,iv] (getItem ov iv)
theorem MM{prog:Program}{w:World}{A:Around}{E:Q0Q}{s:Shared}{env:Env}{value slice:Expr}{pos:Pos}{T id:String}{Q:Q0Q}
  (hl:typeLookup (.type T) "__getitem__" = pure (some (.builtin id))) (hs:OO slice)
  (h:wpAny (model prog w) A (eval value env) (λo s₁=>wpAny (model prog w) A (eval slice env) (λi s₂=>s₂.TypeIs o T/\wpAny (model prog w) A (getItem o i) Q E s₂) E s₁) E s) :
  wpAny (model prog w) A (eval (.Subscript value slice pos) env) Q E s:=by
 refine Subscript_ (wpAny_mono h (λo s₁ h₁=>wpAny_mono h₁ (λi s₂ h₂=>?_) λ_ _ x=>x) λ_ _ x=>x);obtain ⟨hT,h₂⟩:=h₂;unfold subscriptTail;refine wpAny_bind ?_;rw [getitemInPython_of_ne hT.not_modules];refine wpAny_bind (wpAny_specialOf hT hl ?_);have fin:wpAny (model prog w) A (subscripted slice false o i) (λr s₃=>wpAny (model prog w) A (letTemporaryGo value o r >>= λ_=>pure r) Q E s₃) E s₂:=by rw [hs o i];exact wpAny_operating (wpAny_mono h₂ (λr s₃ h₃=>wpAny_bind (wpAny_letTemporaryGo (wpAny_pure h₃))) λ_ _ x=>x)
 first
  | exact wpAny_pure (wpAny_bind fin)
  | exact wpAny_bind (wpAny_pure (wpAny_bind fin))
  | exact wpAny_bind fin
theorem FY{X:Cx}{pins:List (Addr×Obj)}{U:St}{H:Hp}{s:Shared}{a:Addr}{y:V}{o:Option V}(I:Inv X pins U H s)(g:FX H a y o):s.TypeIs (.ref a) "dict" := by
 rcases g with ⟨kvs,k,e,_,_⟩ | ⟨kvs,k,b,e,_,_,_⟩
 .obtain ⟨_,_,vs,_,dd⟩:=UG I.hok e;exact dd.typeIs
 .obtain ⟨_,_,xs,_,dd⟩:=UH I.hok e;exact dd.typeIs
def aEj(td ty:TE):TE:=λU H Q=>td U H λx H1=>ty U H1 λy H2=>∃ a v,x=.ref a/\FX H2 a y (some v)/\Q v H2
def aEk(td ty tv:TE):TS:=λD U H=>tv U H λv H1=>td U H1 λx H2=>ty U H2 λy H3=>∃ a H4,x=.ref a/\JG H3 a y v H4/\D.nx U H4
section
variable{X:Cx}{o i e value:Expr}{pos pos' tpos:Pos}{td ty tv:TE}
theorem ZC(hu:X.A.units+1<cLine)(ho:PE X o td)(hi:PE X i ty)(hs:OO i):PE X (.Subscript o i pos) (aEj td ty):=by intro pins s U H Q I h;refine MM PySem.F.slot_dict_getitem.lookup hs (dN (ho pins s U H _ I h) λu s1 ⟨x,H1,I1,rx,q1⟩=>dN (hi pins s1 U H1 _ I1 q1) λiv s2 ⟨y,H2,I2,ry,a,v,ex,g,q2⟩=>?_);subst ex;obtain rfl:u=Value.ref a:=rx;exact ⟨FY I2 g,OM hu I2 g ry λw' s3 I3 w8=>⟨v,H2,I3,w8,q2⟩⟩
theorem ZD(hu:X.A.units+1<cLine)(ho:PE X o td)(hi:PE X i ty)(hv:PE X value tv)(hs:swapsWith value (some (.Subscript o i pos')) pos.line X.env=pure false) :
  PS X (.Assign [.Subscript o i pos'] value pos) (aEk td ty tv):=by
 intro pins s U H D I h;refine wpAny_Assign_Subscript (dN (hv pins s U H _ I h) λr s1 ⟨v,H1,I1,rv,q1⟩=>dN (ho pins s1 U H1 _ I1 q1) λu s2 ⟨x,H2,I2,rx,q2⟩=>dN (hi pins s2 U H2 _ I2 q2) λiv s3 ⟨y,H3,I3,ry,a,H4,ex,g,q3⟩=>?_) hs;subst ex;obtain rfl:u=Value.ref a:=rx;exact ON hu I3 g ry rv λs4 I4=>⟨U,H4,I4,q3⟩
end
theorem UI{P:Program}{H:Hp}(h:Heap)(hb:sysModules<h.objs.size):eA P w H (h.push { cls:=.type "dict",data:=.dict #[] }) h.objs.size (.dK []) :=
 ⟨Nat.zero_le _,beq_eq_false_iff_ne.mpr (Ne.symm (ne_of_lt hb)),[],.nil,Heap.DictOf.new h⟩
def aCS:TE:=λ_ H Q=>∀ p,H p=none->Q (.ref p) (upd H p (.dK []))
section
variable{X:Cx}{pos:Pos}
theorem UJ:PE X (.Dict [] [] pos) aCS:=λpins s U H Q I h =>
 wpAny_Dict_empty ⟨.ref s.heap.objs.size,_,I.laid (a:=s.heap.objs.size) (o:=.dK []) (t':=s.toks) (λ_ _ q=>get?_push_of_some _ q) (le_refl _) (UI s.heap I.big),rfl,h _ (I.hok.fresh (le_refl _))⟩
end
def UK:List (TE×TE)->St->Hp->(List (V×V)->Hp->Prop)->Prop
 | [],_,H,Q=>Q [] H
 | (tk,tv)::r,U,H,Q=>tk U H λx H1=>tv U H1 λy H2=>UK r U H2 λps H3=>Q ((x,y)::ps) H3
abbrev VV:List (V×V)->List (Value×Value)->Prop:=Paired λp q=>RelV p.1 q.1/\RelV p.2 q.2
def PPs(X:Cx)(pos:Pos)(keys:List (Option Expr))(values:List Expr)(trs:List (TE×TE)):Prop :=
 ∀ (pins:List (Addr×Obj)) (s:Shared) (U:St) (H:Hp) (Q:List (V×V)->Hp->Prop),Inv X pins U H s->UK trs U H Q ->
  wpAny (model X.prog X.w) X.A (evalPairs (pairTrees keys values X.env pos)) (λvs s'=>∃ ps H',Inv X pins U H' s'/\VV ps vs/\Q ps H') X.xe s
theorem ZE{X:Cx}{pos:Pos}:PPs X pos [] [] []:=λpins s U H Q I h=>pairTrees_nil_walk ⟨[],H,I,.nil,h⟩
theorem UL{X:Cx}{pos:Pos}{k v:Expr}{ks:List (Option Expr)}{vs:List Expr}{tk tv:TE}{trs:List (TE×TE)}(hk:PE X k tk)(hv:PE X v tv)(hr:PPs X pos ks vs trs) :
  PPs X pos (some k::ks) (v::vs) ((tk,tv)::trs):=λpins s U H Q I h =>
 pairTrees_cons_walk (dN (hk pins s U H _ I h) λu s1 ⟨x,H1,I1,rx,q1⟩=>dN (hv pins s1 U H1 _ I1 q1) λw2 s2 ⟨y,H2,I2,ry,q2⟩ =>
  dN (hr pins s2 U H2 _ I2 q2) λws s3 ⟨ps,H3,I3,rel,q3⟩=>⟨(x,y)::ps,H3,I3,.cons ⟨rx,ry⟩ rel,q3⟩)
structure M1 (X:Cx) (o:Expr) (m:Str) (apos:Pos) (e:Expr) (cpos:Pos):Prop where
 base:attributeBase o m X.env (eval o X.env)=eval o X.env
 few:((backTo cpos (starEach [e] X.env)).all (λx=>!x.1)&&(backToKw cpos (keywordEach [] X.env)).all (λx=>x.1.isSome)
  && decide (([e]:List Expr).length+([]:List Keyword).length+(if ([]:List Keyword).isEmpty then 0 else 1)<30))=true
 line:(apos.endLine == cpos.line)=true
 trees:backTo cpos (starEach [e] X.env)=[(false,eval e X.env)]
structure M2 (X:Cx) (o:Expr) (m:Str) (apos:Pos) (e f:Expr) (cpos:Pos):Prop where
 base:attributeBase o m X.env (eval o X.env)=eval o X.env
 few:((backTo cpos (starEach [e,f] X.env)).all (λx=>!x.1)&&(backToKw cpos (keywordEach [] X.env)).all (λx=>x.1.isSome)
  && decide (([e,f]:List Expr).length+([]:List Keyword).length+(if ([]:List Keyword).isEmpty then 0 else 1)<30))=true
 line:(apos.endLine == cpos.line)=true
 trees:backTo cpos (starEach [e,f] X.env)=[(false,eval e X.env),(false,eval f X.env)]
section
variable{X:Cx}{pins:List (Addr×Obj)}{U:St}{H:Hp}{s:Shared}{a:Addr}{y d:V}{u r:Value}{o:Option V}{A:Around}{E:Q0Q}
end
section
variable{X:Cx}{o e f:Expr}{apos cpos:Pos}{td ty tx:TE}
end
section
variable{X:Cx}{pins:List (Addr×Obj)}{U:St}{H:Hp}{s:Shared}{a:Addr}{kvs:List (Key×V)}{A:Around}{E:Q0Q}
end
section
variable{X:Cx}{pins:List (Addr×Obj)}{U:St}{H:Hp}{s:Shared}{a:Addr}{y:V}{u:Value}{A:Around}{E:Q0Q}
end
end L2
namespace L2
open PySem PySem.Spec PyProof.Rows
section
variable{X:Cx}
end
section
variable{κ:Type}[DecidableEq κ]
end
end L2
end
section
namespace L3
open PySem L2
def Scr(K:W.Frag)(H:Hp)(a:Addr)(ns:List Int):Prop:=(∃ o,H a=some (.HL o (.lst (ns.map V.int))))\/gH K (λ_=>none) a (ns.map V.int)
mutual
def Dn(K:W.Frag)(S:Addr->Prop)(H:Hp):D->V->Prop
 | .non,v=>v=.non
 | .bl b,v=>v=.bl b
 | .int i,v=>v=.int i
 | .str x,v=>v=.str x
 | .tup ds,v=>∃ a xs,v=.ref a/\H a=some (.tup xs)/\bC K S H ds xs
 | .lst ds,v=>∃ a xs,v=.ref a/\H a=some (.lst xs)/\S a/\bC K S H ds xs
 | .jW ns,v=>∃ a,v=.ref a/\Scr K H a ns
 | .lB ks ds,v=>∃ a xs,v=.ref a/\H a=some (.dK (ks.zip xs))/\S a/\ks.length=xs.length/\bC K S H ds xs
 | .dF q ks ds,v=>∃ a o kvs,v=.ref a/\H a=some (.dX o kvs)/\S a/\(kvs.map (·.1)=ks/\q a o)/\bC K S H ds (kvs.map (·.2.2))
 | .exc _ a,v=>v=.ref a
def bC(K:W.Frag)(S:Addr->Prop)(H:Hp):List D->List V->Prop
 | [],xs=>xs=[]
 | d::ds,xs=>∃ v r,xs=v::r/\Dn K S H d v/\bC K S H ds r
end
structure Fits (K:W.Frag) (S S':Addr->Prop) (H H':Hp):Prop where
 t:∀ a xs,H a=some (.tup xs)->H' a=some (.tup xs)
 s:∀ a ns,Scr K H a ns->Scr K H' a ns
 l:∀ a xs,H a=some (.lst xs)->S a->H' a=some (.lst xs)/\S' a
 d:∀ a xs,H a=some (.dK xs)->S a->H' a=some (.dK xs)/\S' a
 e:∀ a o xs,H a=some (.dX o xs)->S a->H' a=some (.dX o xs)/\S' a
section
variable{K:W.Frag}{S S':Addr->Prop}{H H':Hp}
mutual
theorem Dn.fits(f:Fits K S S' H H'):∀ (d:D) (v:V),Dn K S H d v->Dn K S' H' d v
 | .non,v,h=>by simpa only [Dn] using h
 | .bl b,v,h=>by simpa only [Dn] using h
 | .int i,v,h=>by simpa only [Dn] using h
 | .str x,v,h=>by simpa only [Dn] using h
 | .tup ds,v,h=>by simp only [Dn] at h ⊢;obtain ⟨a,xs,e,q,r⟩:=h;exact ⟨a,xs,e,f.t a xs q,bC.fits f ds xs r⟩
 | .lst ds,v,h=>by simp only [Dn] at h ⊢;obtain ⟨a,xs,e,q,s,r⟩:=h;obtain ⟨q',s'⟩:=f.l a xs q s;exact ⟨a,xs,e,q',s',bC.fits f ds xs r⟩
 | .jW ns,v,h=>by simp only [Dn] at h ⊢;obtain ⟨a,e,q⟩:=h;exact ⟨a,e,f.s a ns q⟩
 | .lB ks ds,v,h=>by simp only [Dn] at h ⊢;obtain ⟨a,xs,e,q,s,l,r⟩:=h;obtain ⟨q',s'⟩:=f.d a _ q s;exact ⟨a,xs,e,q',s',l,bC.fits f ds xs r⟩
 | .dF _ ks ds,v,h=>by simp only [Dn] at h ⊢;obtain ⟨a,o,kvs,e,q,s,l,r⟩:=h;obtain ⟨q',s'⟩:=f.e a _ _ q s;exact ⟨a,o,kvs,e,q',s',l,bC.fits f ds _ r⟩
 | .exc _ _,v,h=>by simpa only [Dn] using h
theorem bC.fits(f:Fits K S S' H H'):∀ (ds:List D) (xs:List V),bC K S H ds xs->bC K S' H' ds xs
 | [],xs,h=>by simpa only [bC] using h
 | d::ds,xs,h=>by simp only [bC] at h ⊢;obtain ⟨v,r,e,h1,h2⟩:=h;exact ⟨v,r,e,Dn.fits f d v h1,bC.fits f ds r h2⟩
end
mutual
theorem Dn.OP:∀ (d:D) (v:V),d.vN=true->Dn K S H d v->Dn K S' H d v
 | .non,v,_,h=>by simpa only [Dn] using h
 | .bl b,v,_,h=>by simpa only [Dn] using h
 | .int i,v,_,h=>by simpa only [Dn] using h
 | .str x,v,_,h=>by simpa only [Dn] using h
 | .tup ds,v,hi,h=>by simp only [Dn] at h ⊢;obtain ⟨a,xs,e,q,r⟩:=h;exact ⟨a,xs,e,q,bC.OP ds xs (by simpa only [D.vN] using hi) r⟩
 | .lst _,v,hi,h=>by simp only [D.vN] at hi; cases hi
 | .jW ns,v,_,h=>by simpa only [Dn] using h
 | .lB _ _,v,hi,h=>by simp only [D.vN] at hi; cases hi
 | .dF _ _ _,v,hi,h=>by simp only [D.vN] at hi; cases hi
 | .exc _ _,v,_,h=>by simpa only [Dn] using h
theorem bC.OP:∀ (ds:List D) (xs:List V),kW ds=true->bC K S H ds xs->bC K S' H ds xs
 | [],xs,_,h=>by simpa only [bC] using h
 | d::ds,xs,hi,h=>by simp only [kW,Bool.and_eq_true] at hi;simp only [bC] at h ⊢;obtain ⟨v,r,e,h1,h2⟩:=h;exact ⟨v,r,e,Dn.OP d v hi.1 h1,bC.OP ds r hi.2 h2⟩
end
theorem Dn.vN{d:D}(hi:d.vN=true){v:V}(h:Dn K S H d v):Dn K S' H d v:=Dn.OP d v hi h
theorem bC.vN{ds:List D}(hi:kW ds=true){xs:List V}(h:bC K S H ds xs):bC K S' H ds xs:=bC.OP ds xs hi h
theorem gH.some{a:Addr}{xs:List V}(h:gH K (λ_=>none) a xs):gH K H a xs:=by
 rcases h with (h | ⟨o,h⟩) | h
 .cases h
 .cases h
 .exact .inr h
theorem Scr.sq{a:Addr}{ns:List Int}(h:Scr K H a ns):gH K H a (ns.map V.int):=by
 rcases h with ⟨o,h⟩ | h
 .exact .inl (.inr ⟨o,h⟩)
 .exact gH.some h
def Wr(H:Hp)(p:Addr):Prop:=(∃ xs,H p=some (.lst xs))\/(∃ xs,H p=some (.dK xs)) \/ ∃ o xs,H p=some (.dX o xs)
theorem Wr.tup{p a:Addr}{o:HO}{xs:List V}(w:Wr H p)(h:H a=some (.tup xs)):upd H p o a=some (.tup xs):=by
 rw [bQ]
 .exact h
 .intro e;subst e;rcases w with ⟨ys,w⟩ | ⟨ys,w⟩ | ⟨_,ys,w⟩<;>rw [h] at w<;>cases w
theorem Wr.jW{p a:Addr}{o:HO}{ns:List Int}(w:Wr H p)(h:Scr K H a ns):Scr K (upd H p o) a ns:=by
 rcases h with ⟨ob,h⟩ | h
 .refine .inl ⟨ob,?_⟩;rw [bQ]
  .exact h
  .intro e;subst e;rcases w with ⟨ys,w⟩ | ⟨ys,w⟩ | ⟨_,ys,w⟩<;>rw [h] at w<;>cases w
 .exact .inr h
theorem Fits.same(e:Same H H'):Fits K S S H H' :=
 ⟨λa xs h=>e _ _ h,λa ns h=>h.elim (λ⟨o,h⟩=>.inl ⟨o,e _ _ h⟩) .inr,λa xs h s=>⟨e _ _ h,s⟩,λa xs h s=>⟨e _ _ h,s⟩,λa _ xs h s=>⟨e _ _ h,s⟩⟩
theorem Fits.mono(m:∀ a,S a->S' a):Fits K S S' H H :=
 ⟨λ_ _ h=>h,λ_ _ h=>h,λa _ h s=>⟨h,m a s⟩,λa _ h s=>⟨h,m a s⟩,λa _ _ h s=>⟨h,m a s⟩⟩
theorem Fits.fresh{p:Addr}(hp:H p=none):Fits K S (λa=>S a/\a≠p) H H :=
 ⟨λ_ _ h=>h,λ_ _ h=>h,λa _ h s=>⟨h,s,bU h hp⟩,λa _ h s=>⟨h,s,bU h hp⟩,λa _ _ h s=>⟨h,s,bU h hp⟩⟩
theorem Fits.upd{p:Addr}{o:HO}(w:Wr H p)(hs:¬ S p):Fits K S S H (upd H p o):=by have ne:∀ a,S a->a≠p:=λa s e=>hs (e▸s);exact ⟨λa xs h=>w.tup h,λa ns h=>w.jW h,λa xs h s=>⟨by rw [bQ (ne a s)]; exact h,s⟩,λa xs h s=>⟨by rw [bQ (ne a s)]; exact h,s⟩,λa _ xs h s=>⟨by rw [bQ (ne a s)]; exact h,s⟩⟩
theorem Fits.trans{S'':Addr->Prop}{H'':Hp}(a:Fits K S S' H H')(b:Fits K S' S'' H' H''):Fits K S S'' H H'' :=
 ⟨λx xs h=>b.t x xs (a.t x xs h),λx ns h=>b.s x ns (a.s x ns h),λx xs h s=>let ⟨h1,s1⟩:=a.l x xs h s; b.l x xs h1 s1,λx xs h s=>let ⟨h1,s1⟩:=a.d x xs h s; b.d x xs h1 s1,λx o xs h s=>let ⟨h1,s1⟩:=a.e x o xs h s; b.e x o xs h1 s1⟩
theorem aX{p:Addr}{o:HO}(hp:H p=none):Same H (upd H p o):=λb u h=>by rw [bQ (bU h hp)]; exact h
theorem bC.len:∀ {ds:List D} {xs:List V},bC K S H ds xs->ds.length=xs.length
 | [],xs,h=>by simp only [bC] at h; subst h; rfl
 | d::ds,xs,h=>by simp only [bC] at h;obtain ⟨v,r,e,_,h2⟩:=h;subst e;simp [bC.len h2]
theorem bC.get:∀ {ds:List D} {xs:List V} {i:Nat} {d:D},bC K S H ds xs->ds[i]? = some d -> ∃ v,xs[i]? = some v/\Dn K S H d v
 | [],xs,i,d,h,e=>by simp at e
 | d::ds,xs,i,d',h,e=>by
  simp only [bC] at h;obtain ⟨v,r,e1,h1,h2⟩:=h;subst e1
  cases i with
  | zero=>simp at e; subst e; exact ⟨v,by simp,h1⟩
  | succ i =>
   obtain ⟨u,e2,q⟩:=bC.get (i:=i) (d:=d') h2 (by simpa using e);exact ⟨u,by simpa using e2,q⟩
theorem bC.nil:bC K S H [] []:=by simp only [bC]
theorem bC.cons{d:D}{ds:List D}{v:V}{xs:List V}(h:Dn K S H d v)(t:bC K S H ds xs):bC K S H (d::ds) (v::xs):=by simp only [bC]; exact ⟨v,xs,rfl,h,t⟩
theorem bC.bV{d:D}{ds:List D}{xs:List V}(h:bC K S H (d::ds) xs):∃ v r,xs=v::r/\Dn K S H d v/\bC K S H ds r:=by simpa only [bC] using h
theorem bC.append:∀ {ds es:List D} {xs ys:List V},bC K S H ds xs->bC K S H es ys->bC K S H (ds++es) (xs++ys)
 | [],es,xs,ys,h,g=>by simp only [bC] at h; subst h; exact g
 | d::ds,es,xs,ys,h,g=>by obtain ⟨v,r,e,h1,h2⟩:=h.bV;subst e;exact bC.cons h1 (bC.append h2 g)
theorem bC.one{d:D}{v:V}(h:Dn K S H d v):bC K S H [d] [v]:=bC.cons h bC.nil
theorem bC.take:∀ {ds:List D} {xs:List V} (n:Nat),bC K S H ds xs->bC K S H (ds.take n) (xs.take n)
 | _,_,0,_=>by simp [bC.nil]
 | [],xs,n+1,h=>by simp only [bC] at h; subst h; simp [bC.nil]
 | d::ds,xs,n+1,h=>by obtain ⟨v,r,e,h1,h2⟩:=h.bV;subst e;simpa using bC.cons h1 (bC.take n h2)
theorem bC.drop:∀ {ds:List D} {xs:List V} (n:Nat),bC K S H ds xs->bC K S H (ds.drop n) (xs.drop n)
 | _,_,0,h=>by simpa using h
 | [],xs,n+1,h=>by simp only [bC] at h; subst h; simp [bC.nil]
 | d::ds,xs,n+1,h=>by obtain ⟨v,r,e,h1,h2⟩:=h.bV;subst e;simpa using bC.drop n h2
theorem bC.erase:∀ {ds:List D} {xs:List V} (n:Nat),bC K S H ds xs->bC K S H (ds.eraseIdx n) (xs.eraseIdx n)
 | [],xs,n,g=>by simp only [bC] at g; subst g; simp [bC.nil]
 | d::ds,xs,n,g=>by
  obtain ⟨v,r,e,h1,h2⟩:=g.bV;subst e
  cases n with
  | zero=>exact h2
  | succ n=>exact bC.cons h1 (bC.erase n h2)
theorem bC.ints:∀ {ns:List Int} {xs:List V},bC K S H (ns.map D.int) xs↔xs=ns.map V.int
 | [],xs=>by simp [bC]
 | n::ns,xs=>by
  rw [map_cons,map_cons]
  constructor
  .intro h;obtain ⟨v,r,e,h1,h2⟩:=h.bV;simp only [Dn] at h1;rw [e,h1,bC.ints.mp h2]
  .intro e;rw [e];exact bC.cons (by simp only [Dn]) (bC.ints.mpr rfl)
theorem j4:∀ ns:List Int,kW (ns.map D.int)=true
 | []=>rfl
 | n::ns=>by rw [map_cons,kW,j4 ns]; rfl
end
def Sl(K:W.Frag)(S:Addr->Prop)(H:Hp)(Z:bR)(U:St):Prop:=∀ (i:Nat) (d:D),Z[i]? = some (some d) -> ∃ v,U[i]? = some (some v)/\Dn K S H d v
theorem Sl.fits{S S':Addr->Prop}{H H':Hp}{Z:bR}{U:St}(f:Fits K S S' H H')(h:Sl K S H Z U):Sl K S' H' Z U:=λi d e =>
 let ⟨v,e1,q⟩:=h i d e; ⟨v,e1,Dn.fits f d v q⟩
def zV(K:W.Frag)(S:Addr->Prop)(H:Hp)(d:D)(p:Addr):Prop :=
 match d with
 | .lst ds=>∃ xs,H p=some (.lst xs)/\bC K S H ds xs
 | .lB ks ds=>∃ xs,H p=some (.dK (ks.zip xs))/\ks.length=xs.length/\bC K S H ds xs
 | .dF q ks ds=>∃ o kvs,H p=some (.dX o kvs)/\(kvs.map (·.1)=ks/\q p o)/\bC K S H ds (kvs.map (·.2.2))
 | _=>False
def SO(S:Addr->Prop)(w:Nat->Addr)(Z:aP):Addr->Prop:=λa=>S a /\ ∀ (i:Nat) (d:D),Z[i]? = some (Sv.ow d)->a≠w i
structure ST (K:W.Frag) (H₀:Hp) (S:Addr->Prop) (w:Nat->Addr) (U:St) (H:Hp) (Z:aP) (G:List (D×V)):Prop where
 fc:∀ a,H₀ a=none->S a
 sm:Same H₀ H
 own:∀ (i:Nat) (d:D),Z[i]? = some (Sv.ow d)->U[i]? = some (some (.ref (w i)))/\H₀ (w i)=none/\zV K (SO S w Z) H d (w i)
 inj:∀ (i j:Nat) (d e:D),Z[i]? = some (Sv.ow d)->Z[j]? = some (Sv.ow e)->w i=w j->i=j
 ro:∀ (i:Nat) (d:D),Z[i]? = some (Sv.ro d) -> ∃ v,U[i]? = some (some v)/\Dn K (SO S w Z) H d v
 gh:∀ g∈G,Dn K (SO S w Z) H g.1 g.2
section
variable{K:W.Frag}{H₀ H H':Hp}{S S':Addr->Prop}{w:Nat->Addr}{U:St}{Z:aP}{G:List (D×V)}
theorem zV.wr{d:D}{p:Addr}(h:zV K S H d p):Wr H p:=by
 cases d with
 | lst ds=>obtain ⟨xs,e,_⟩:=h; exact .inl ⟨_,e⟩
 | lB ks ds=>obtain ⟨xs,e,_⟩:=h; exact .inr (.inl ⟨_,e⟩)
 | dF q0 ks ds=>obtain ⟨o,kvs,e,_⟩:=h; exact .inr (.inr ⟨_,_,e⟩)
 | _=>exact False.elim h
theorem zV.dn{d:D}{p:Addr}(h:zV K S H d p)(hs:S' p)(m:∀ a,S a->S' a):Dn K S' H d (.ref p):=by
 cases d with
 | lst ds=>obtain ⟨xs,e,q⟩:=h; simp only [Dn]; exact ⟨p,xs,rfl,e,hs,bC.fits (.mono m) ds xs q⟩
 | lB ks ds=>obtain ⟨xs,e,l,q⟩:=h; simp only [Dn]; exact ⟨p,xs,rfl,e,hs,l,bC.fits (.mono m) ds xs q⟩
 | dF q0 ks ds=>obtain ⟨o,kvs,e,l,q⟩:=h; simp only [Dn]; exact ⟨p,o,kvs,rfl,e,hs,l,bC.fits (.mono m) ds _ q⟩
 | _=>exact False.elim h
theorem zV.fits{d:D}{p:Addr}(f:Fits K S S' H H')(hp:∀ o,H p=some o->H' p=some o)(h:zV K S H d p):zV K S' H' d p:=by
 cases d with
 | lst ds=>obtain ⟨xs,e,q⟩:=h; exact ⟨xs,hp _ e,bC.fits f ds xs q⟩
 | lB ks ds=>obtain ⟨xs,e,l,q⟩:=h; exact ⟨xs,hp _ e,l,bC.fits f ds xs q⟩
 | dF q0 ks ds=>obtain ⟨o,kvs,e,l,q⟩:=h; exact ⟨o,kvs,hp _ e,l,bC.fits f ds _ q⟩
 | _=>exact False.elim h
theorem ST.OQ(h:ST K H₀ S w U H Z G):∀ a,H a=none->S a:=λa e=>h.fc a (h.sm.free e)
theorem ST.UM(h:ST K H₀ S w U H Z G):∀ a,H a=none->SO S w Z a:=λa e=>⟨h.OQ a e,λi d q z=>by have wr:=(h.own i d q).2.2.wr;subst z;rcases wr with ⟨xs,k⟩ | ⟨xs,k⟩ | ⟨_,xs,k⟩<;>rw [e] at k<;>cases k⟩
theorem zW{i:Nat}{d:D}(h:(bT Z)[i]? = some (some d)):Z[i]? = some (Sv.ro d)\/Z[i]? = some (Sv.ow d):=by
 unfold bT at h;rw [getElem?_map] at h
 cases e:Z[i]? with
 | none=>rw [e] at h; cases h
 | some s =>
  rw [e] at h
  cases s with
  | no=>cases h
  | ro d'=>cases h; exact .inl rfl
  | ow d'=>cases h; exact .inr rfl
theorem DW{i:Nat}{d:D}(h:(kD Z)[i]? = some (some d)):Z[i]? = some (Sv.ro d):=by
 unfold kD at h;rw [getElem?_map] at h
 cases e:Z[i]? with
 | none=>rw [e] at h; cases h
 | some s =>
  rw [e] at h
  cases s with
  | no=>cases h
  | ro d'=>cases h; rfl
  | ow d'=>cases h
theorem ST.all(h:ST K H₀ S w U H Z G):Sl K S H (bT Z) U:=λi d e=>by
 rcases zW e with e | e
 .obtain ⟨v,e1,q⟩:=h.ro i d e;exact ⟨v,e1,Dn.fits (.mono λ_ z=>z.1) d v q⟩
 .obtain ⟨e1,e2,q⟩:=h.own i d e;exact ⟨_,e1,q.dn (h.fc _ e2) λ_ z=>z.1⟩
theorem ST.rd(h:ST K H₀ S w U H Z G):Sl K (SO S w Z) H (kD Z) U:=λi d e=>h.ro i d (DW e)
theorem ST.same(h:ST K H₀ S w U H Z G)(e:Same H H'):ST K H₀ S w U H' Z G :=
 ⟨h.fc,h.sm.trans e,λi d q=>let ⟨a,b,c⟩:=h.own i d q; ⟨a,b,c.fits (.same e) λo z=>e _ o z⟩,h.inj,λi d q=>let ⟨v,a,b⟩:=h.ro i d q; ⟨v,a,Dn.fits (.same e) d v b⟩,λg hg=>Dn.fits (.same e) _ _ (h.gh g hg)⟩
theorem SO.mono{ρ':aP}(hw:∀ (i:Nat) (d:D),ρ'[i]? = some (Sv.ow d) -> ∃ e,Z[i]? = some (Sv.ow e)):∀ a,SO S w Z a->SO S w ρ' a:=λa hq6=>by obtain ⟨s,n⟩:=hq6; exact ⟨s,λi d e=>let ⟨d',e'⟩:=hw i d e; n i d' e'⟩
theorem get_set{α:Type}{l:List α}{i j:Nat}{x y:α}(h:(l.set i x)[j]? = some y):(j=i/\y=x/\i<l.length)\/(j≠i/\l[j]? = some y):=by
 by_cases e:j=i
 .subst e;by_cases hl:j<l.length
  .rw [getElem?_set_self hl] at h;exact .inl ⟨rfl,(Option.some.inj h).symm,hl⟩
  .rw [getElem?_eq_none (by simp; omega)] at h;cases h
 .rw [getElem?_set_ne (Ne.symm e)] at h;exact .inr ⟨e,h⟩
theorem ST.nF{i:Nat}{d:D}{v:V}(h:ST K H₀ S w U H Z G)(hi:i<U.length)(q:Dn K (SO S w Z) H d v):ST K H₀ S w (U.set i (some v)) H (Z.set i (.ro d)) G:=by
 have hw:∀ (j:Nat) (e:D),(Z.set i (.ro d))[j]? = some (Sv.ow e)->j≠i/\Z[j]? = some (Sv.ow e):=λj e he=>by
  rcases get_set he with ⟨_,z,_⟩ | z
  .cases z
  .exact z
 have m:∀ a,SO S w Z a->SO S w (Z.set i (.ro d)) a:=SO.mono λj e he=>⟨e,(hw j e he).2⟩;refine ⟨h.fc,h.sm,λj e he=>?_,λj k d' e' h1 h2=>h.inj j k d' e' (hw j d' h1).2 (hw k e' h2).2,λj e he=>?_,λg hg=>Dn.fits (.mono m) _ _ (h.gh g hg)⟩
 .obtain ⟨hj,he'⟩:=hw j e he;obtain ⟨a,b,c⟩:=h.own j e he';exact ⟨by rw [getElem?_set_ne (Ne.symm hj)]; exact a,b,c.fits (.mono m) λ_ z=>z⟩
 .rcases get_set he with ⟨hj,z,_⟩ | ⟨hj,z⟩
  .cases z;subst hj;exact ⟨v,getElem?_set_self hi,Dn.fits (.mono m) d v q⟩
  .obtain ⟨u,a,b⟩:=h.ro j e z;exact ⟨u,by rw [getElem?_set_ne (Ne.symm hj)]; exact a,Dn.fits (.mono m) e u b⟩
def freeze(Z:aP)(i:Nat):aP:=match Z[i]? with
 | some (.ow d)=>Z.set i (.ro d)
 | _=>Z
theorem ST.frozen{i:Nat}(h:ST K H₀ S w U H Z G):ST K H₀ S w U H (freeze Z i) G:=by
 unfold freeze
 cases e:Z[i]? with
 | none=>exact h
 | some s =>
  cases s with
  | no=>exact h
  | ro d=>exact h
  | ow d =>
   dsimp only;obtain ⟨a,b,c⟩:=h.own i d e;have hi:i<U.length:=(List.getElem?_eq_some_iff.mp a).1;have hw:∀ (j:Nat) (e:D),(Z.set i (.ro d))[j]? = some (Sv.ow e)->j≠i/\Z[j]? = some (Sv.ow e):=λj e he=>by
    rcases get_set he with ⟨_,z,_⟩ | z
    .cases z
    .exact z
   have m:∀ a,SO S w Z a->SO S w (Z.set i (.ro d)) a:=SO.mono λj e he=>⟨e,(hw j e he).2⟩;refine ⟨h.fc,h.sm,λj f hf=>?_,λj k d' e' h1 h2=>h.inj j k d' e' (hw j d' h1).2 (hw k e' h2).2,λj f hf=>?_,λg hg=>Dn.fits (.mono m) _ _ (h.gh g hg)⟩
   .obtain ⟨a,b,c⟩:=h.own j f (hw j f hf).2;exact ⟨a,b,c.fits (.mono m) λ_ z=>z⟩
   .rcases get_set hf with ⟨hj,z,_⟩ | ⟨hj,z⟩
    .cases z;subst hj;refine ⟨_,a,c.dn ⟨h.fc _ b,λk f' hk z=>?_⟩ m⟩;obtain ⟨hk1,hk2⟩:=hw k f' hk;exact hk1 (h.inj _ _ _ _ e hk2 z).symm
    .obtain ⟨u,a,b⟩:=h.ro j f z;exact ⟨u,a,Dn.fits (.mono m) f u b⟩
theorem ST.xO{i:Nat}{d:D}{p:Addr}(h:ST K H₀ S w U H Z G)(hi:i<U.length)(e:Same H H')(hp:H p=none)(q:zV K (λa=>SO S w Z a/\a≠p) H' d p) :
  ST K H₀ S (λj=>if j=i then p else w j) (U.set i (some (.ref p))) H' (Z.set i (.ow d)) G:=by
 have h0:H₀ p=none:=h.sm.free hp;have hw:∀ (j:Nat) (e:D),j≠i->(Z.set i (.ow d))[j]? = some (Sv.ow e)->Z[j]? = some (Sv.ow e):=λj e hj he=>by
  rcases get_set he with ⟨z,_,_⟩ | ⟨_,z⟩
  .exact absurd z hj
  .exact z
 have m:∀ a,(SO S w Z a/\a≠p)->SO S (λj=>if j=i then p else w j) (Z.set i (.ow d)) a:=λa ⟨⟨s,n⟩,ne⟩=>⟨s,λj f hf=>by
  show a≠(if j=i then p else w j);by_cases hj:j=i
  .rw [if_pos hj]; exact ne
  .rw [if_neg hj]; exact n j f (hw j f hj hf)⟩
 have F:Fits K (SO S w Z) (SO S (λj=>if j=i then p else w j) (Z.set i (.ow d))) H H':=((Fits.fresh hp).trans (.mono m)).trans (.same e);have wp:∀ (j:Nat) (f:D),Z[j]? = some (Sv.ow f)->w j≠p:=λj f hf z=>by have wr:=(h.own j f hf).2.2.wr;rw [z] at wr;rcases wr with ⟨xs,k⟩ | ⟨xs,k⟩ | ⟨_,xs,k⟩<;>rw [hp] at k<;>cases k
 refine ⟨h.fc,h.sm.trans e,λj f hf=>?_,λj k d' e' h1 h2 z=>?_,λj f hf=>?_,λg hg=>Dn.fits F _ _ (h.gh g hg)⟩
 .by_cases hj:j=i
  .subst hj;rcases get_set hf with ⟨_,z,_⟩ | ⟨z,_⟩
   .cases z;rw [if_pos rfl];exact ⟨getElem?_set_self hi,h0,q.fits (.mono m) λ_ z=>z⟩
   .exact absurd rfl z
  .rw [if_neg hj];obtain ⟨a,b,c⟩:=h.own j f (hw j f hj hf);exact ⟨by rw [getElem?_set_ne (Ne.symm hj)]; exact a,b,c.fits F λo z=>e _ o z⟩
 .have z:(if j=i then p else w j)=(if k=i then p else w k):=z;by_cases hj:j=i
  .by_cases hk:k=i
   .rw [hj,hk]
   .rw [if_pos hj,if_neg hk] at z;exact absurd z.symm (wp k e' (hw k e' hk h2))
  .by_cases hk:k=i
   .rw [if_neg hj,if_pos hk] at z;exact absurd z (wp j d' (hw j d' hj h1))
   .rw [if_neg hj,if_neg hk] at z;exact h.inj j k d' e' (hw j d' hj h1) (hw k e' hk h2) z
 .rcases get_set hf with ⟨_,z,_⟩ | ⟨hj,z⟩
  .cases z
  .obtain ⟨u,a,b⟩:=h.ro j f z;exact ⟨u,by rw [getElem?_set_ne (Ne.symm hj)]; exact a,Dn.fits F f u b⟩
theorem ST.write{i:Nat}{d d':D}{o:HO}(h:ST K H₀ S w U H Z G)(e:Z[i]? = some (Sv.ow d))(q:zV K (SO S w Z) (upd H (w i) o) d' (w i)):ST K H₀ S w U (upd H (w i) o) (Z.set i (.ow d')) G:=by
 obtain ⟨a0,b0,c0⟩:=h.own i d e;have so:SO S w (Z.set i (.ow d'))=SO S w Z:=by
  funext a
  refine propext ⟨λ⟨s,n⟩=>⟨s,λj f hf=>?_⟩,λ⟨s,n⟩=>⟨s,λj f hf=>?_⟩⟩
  .by_cases hj:j=i
   .subst hj;exact n j d' (by rw [getElem?_set_self (List.getElem?_eq_some_iff.mp e).1])
   .exact n j f (by rw [getElem?_set_ne (Ne.symm hj)]; exact hf)
  .by_cases hj:j=i
   .subst hj; exact n j d e
   .exact n j f (by rw [getElem?_set_ne (Ne.symm hj)] at hf; exact hf)
 have nS:¬ SO S w Z (w i):=λ⟨_,n⟩=>n i d e rfl;have F:Fits K (SO S w Z) (SO S w Z) H (upd H (w i) o):=.upd c0.wr nS;refine ⟨h.fc,λb u hb=>?_,λj f hf=>?_,λj k d1 e1 h1 h2 z=>?_,λj f hf=>?_,λg hg=>by rw [so]; exact Dn.fits F _ _ (h.gh g hg)⟩
 .rw [bQ (bU hb b0)];exact h.sm b u hb
 .rw [so];rcases get_set hf with ⟨hj,z,_⟩ | ⟨hj,z⟩
  .cases z;subst hj;exact ⟨a0,b0,q⟩
  .obtain ⟨a,b,c⟩:=h.own j f z;exact ⟨a,b,c.fits F λob hob=>by rw [bQ λy=>hj (h.inj _ _ _ _ z e y)]; exact hob⟩
 .have g1:∃ d2,Z[j]? = some (Sv.ow d2):=by
   rcases get_set h1 with ⟨hj,_,_⟩ | ⟨_,z⟩
   .subst hj; exact ⟨d,e⟩
   .exact ⟨_,z⟩
  have g2:∃ d2,Z[k]? = some (Sv.ow d2):=by
   rcases get_set h2 with ⟨hj,_,_⟩ | ⟨_,z⟩
   .subst hj; exact ⟨d,e⟩
   .exact ⟨_,z⟩
  obtain ⟨_,g1⟩:=g1;obtain ⟨_,g2⟩:=g2;exact h.inj j k _ _ g1 g2 z
 .rw [so];rcases get_set hf with ⟨_,z,_⟩ | ⟨hj,z⟩
  .cases z
  .obtain ⟨u,a,b⟩:=h.ro j f z;exact ⟨u,a,Dn.fits F f u b⟩
theorem ST.ghost(h:ST K H₀ S w U H Z G){G':List (D×V)}(hg:∀ g∈G',Dn K (SO S w Z) H g.1 g.2):ST K H₀ S w U H Z G':=⟨h.fc,h.sm,h.own,h.inj,h.ro,hg⟩
end
end L3
end
section
namespace L3
open PySem PySem.Spec PyProof.Rows L2
abbrev WE:=bR->(D->Prop)->Prop
abbrev WT:=bR->(Bool->Prop)->Prop
abbrev WA:=bR->(List D->Prop)->Prop
def lift(K:W.Frag)(t:WE):TE:=λU H Q=>∃ (S:Addr->Prop) (Z:bR) (Q3:D->Prop),(∀ a,H a=none->S a)/\Sl K S H Z U/\t Z Q3 /\ ∀ v H' d,Same H H'->Dn K S H' d v->Q3 d->Q v H'
def liftT(K:W.Frag)(t:WT):TT:=λU H Q=>∃ (S:Addr->Prop) (Z:bR) (Q3:Bool->Prop),(∀ a,H a=none->S a)/\Sl K S H Z U/\t Z Q3 /\ ∀ b H',Same H H'->Q3 b->Q b H'
def UN(K:W.Frag)(t:WA):TA:=λU H Q=>∃ (S:Addr->Prop) (Z:bR) (Q3:List D->Prop),(∀ a,H a=none->S a)/\Sl K S H Z U/\t Z Q3 /\ ∀ vs H' ds,Same H H'->bC K S H' ds vs->Q3 ds->Q vs H'
def UO(K:W.Frag)(t:WE):TE:=λU H Q=>∃ (S:Addr->Prop) (Z:bR) (Q3:D->Prop),(∀ a,H a=none->S a)/\Sl K S H Z U/\t Z Q3 /\
 ∀ p xs H' ds,H p=none->H' p=some (.lst xs)->Same H H'->bC K (λa=>S a/\a≠p) H' ds xs->Q3 (.lst ds)->Q (.ref p) H'
def cU(X:Cx)(e:Expr)(t:WE):Prop:=PE X e (lift X.K t)
def HN(X:Cx)(e:Expr)(t:WE):Prop:=PE X e (UO X.K t)
def vY(X:Cx)(e:Expr)(t:WT):Prop:=PT X e (liftT X.K t)
def zJ(X:Cx)(es:List Expr)(t:WA):Prop:=PA X es (UN X.K t)
section
variable{X:Cx}
theorem imp{e:Expr}{t t':TE}(h:PE X e t)(f:∀ U H Q,t' U H Q->t U H Q):PE X e t':=λpins s U H Q I q=>h pins s U H Q I (f U H Q q)
theorem JH{e:Expr}{t t':TT}(h:PT X e t)(f:∀ U H Q,t' U H Q->t U H Q):PT X e t':=λpins s U H Q I q=>h pins s U H Q I (f U H Q q)
theorem UP{e:List Expr}{t t':TA}(h:PA X e t)(f:∀ U H Q,t' U H Q->t U H Q):PA X e t':=λpos pins s U H Q I q=>h pos pins s U H Q I (f U H Q q)
theorem bP{H H':Hp}{S:Addr->Prop}(fc:∀ a,H a=none->S a)(s:Same H H'):∀ a,H' a=none->S a:=λa e=>fc a (s.free e)
theorem HN.pe{e:Expr}{t:WE}(h:HN X e t):cU X e t:=imp h λU H Q hq7=>by obtain ⟨S,Z,Q3,fc,sl,ht,k⟩:=hq7;exact ⟨S,Z,Q3,fc,sl,ht,λp xs H' ds hp hp' s dn q=>k _ H' _ s (by simp only [Dn]; exact ⟨p,xs,rfl,hp',fc p hp,bC.fits (.mono λ_ z=>z.1) ds xs dn⟩) q⟩
def ZF(i:Nat):WE:=λZ Q=>match Z[i]? with
 | some (some d)=>Q d
 | _=>False
def wC(d:D):WE:=λ_ Q=>Q d
theorem UQ{i:Nat}{U:L2.St}{H:Hp}{Q:VK}(h:lift K (ZF i) U H Q):aBh i U H Q:=by
 obtain ⟨S,Z,Q3,fc,sl,ht,k⟩:=h;unfold ZF at ht;split at ht
 .rename_i d e;obtain ⟨v,e1,q⟩:=sl i d e;exact ⟨v,e1,k v H d (Same.refl H) q ht⟩
 .exact ht.elim
theorem x3(i:Nat){x:Str}{pos:Pos}(hN:X.N[i]? = some x:=by rfl)(hv:EL X.env.scope x:=by first | exact Or.inl rfl | exact Or.inr (Or.inl rfl) | exact Or.inr (Or.inr rfl))(hd:(x == ("__debug__" : Str))=false:=by decide)
  (hcd:(x == ("__classdict__" : Str))=false:=by decide):cU X (.Name x pos) (ZF i):=imp (t5 hN hv hd hcd) λ_ _ _=>UQ
theorem DX{d:D}{v:V}{U:L2.St}{H:Hp}{Q:VK}(hd:∀ S H,Dn K S H d v)(h:lift K (wC d) U H Q):tC v U H Q:=by obtain ⟨S,Z,Q3,fc,sl,ht,k⟩:=h;exact k v H d (Same.refl H) (hd S H) ht
theorem i3{i:Int}{j pos}:cU X (.Constant (.int i) j pos) (wC (.int i)):=imp aBi λ_ _ _=>DX (λ_ _=>by simp only [Dn])
theorem b3{b:Bool}{j pos}:cU X (.Constant (.bool b) j pos) (wC (.bl b)):=imp aEM λ_ _ _=>DX (λ_ _=>by simp only [Dn])
theorem s3{x:Str}{j pos}:cU X (.Constant (.str x) j pos) (wC (.str x)):=imp aBj λ_ _ _=>DX (λ_ _=>by simp only [Dn])
theorem g3{x:Str}{i:Int}{t:Tok}{pos:Pos}(hg:Gl X x)(hm:X.mg x=some (.int i t))(hd:(x == ("__debug__" : Str))=false:=by decide):cU X (.Name x pos) (wC (.int i)) :=
 imp (YO hg hm (v:=.int i) ⟨t,rfl⟩ hd) λ_ _ _=>DX (λ_ _=>by simp only [Dn])
abbrev F2:=D->D->(D->Prop)->Prop
def iM(f:F2)(ta tb:WE):WE:=λZ Q=>ta Z λx=>tb Z λy=>f x y Q
def O3(K:W.Frag)(r:R2)(f:F2):Prop:=∀ (S:Addr->Prop) (H:Hp) (x y:V) (dx dy:D) (Q3:D->Prop) (Q:VK),(∀ a,H a=none->S a)->Dn K S H dx x->Dn K S H dy y->f dx dy Q3 ->
 (∀ v H' d,Same H H'->Dn K S H' d v->Q3 d->Q v H')->r x y H Q
theorem sM{r:R2}{f:F2}{ta tb:WE}{U:L2.St}{H:Hp}{Q:VK}(h3:O3 K r f)(h:lift K (iM f ta tb) U H Q):tOp r (lift K ta) (lift K tb) U H Q:=by obtain ⟨S,Z,Q3,fc,sl,ht,k⟩:=h;refine ⟨S,Z,_,fc,sl,ht,λv H1 d s1 d1 q1=>?_⟩;refine ⟨S,Z,_,bP fc s1,Sl.fits (.same s1) sl,q1,λu H2 d2 s2 d2' q2=>?_⟩;exact h3 S H2 v u d d2 Q3 Q (bP fc (s1.trans s2)) (Dn.fits (.same s2) _ _ d1) d2' q2 λv' H' d' s' dn' q'=>k v' H' d' ((s1.trans s2).trans s') dn' q'
theorem W7{a b:Expr}{op:Operator}{pos:Pos}{r:R2}{f:F2}{ta tb:WE}(ho:i6 X (binaryOp op) r)(h3:O3 X.K r f)(ha:cU X a ta)(hb:cU X b tb):cU X (.BinOp a op b pos) (iM f ta tb) :=
 imp (aA4 ho ha hb) λ_ _ _=>sM h3
def OR(C:Int->Int->Prop)(g:Int->Int->D):F2
 | .int i,.int j,Q=>C i j/\Q (g i j)
 | _,_,_=>False
theorem oJ{C:Int->Int->Prop}{g:Int->Int->Int}:O3 K (rI C λi j=>.int (g i j)) (OR C λi j=>.int (g i j)):=by
 intro S H x y dx dy Q3 Q fc hx hy hf k;cases dx<;>cases dy<;>try exact hf.elim
 simp only [Dn] at hx hy;exact ⟨_,_,hx,hy,hf.1,k _ H _ (Same.refl H) (by simp only [Dn]) hf.2⟩
def uS(g:Int->Int->D):F2
 | .int i,.int j,Q=>Q (g i j)
 | _,_,_=>False
theorem ZG{g:Int->Int->Int}:O3 K (OD λi j=>.int (g i j)) (uS λi j=>.int (g i j)):=by
 intro S H x y dx dy Q3 Q fc hx hy hf k;cases dx<;>cases dy<;>try exact hf.elim
 simp only [Dn] at hx hy;exact ⟨_,_,hx,hy,k _ H _ (Same.refl H) (by simp only [Dn]) hf⟩
def aJH:F2:=uS λi j=>.int (i - j)
def aJI:F2:=OR (λ_ j=>0<j) λi j=>.int (i % j)
def aJJ:F2:=OR aE2 λi j=>.int (i / j)
def aJK:F2:=OR aBw λi j=>.int (i ^ j.toNat)
section
variable{a b:Expr}{pos:Pos}{ta tb:WE}
theorem aJL(ha:cU X a ta)(hb:cU X b tb):cU X (.BinOp a .Sub b pos) (iM aJH ta tb):=W7 aBy ZG ha hb
theorem aJM(ha:cU X a ta)(hb:cU X b tb):cU X (.BinOp a .Mod b pos) (iM aJI ta tb):=W7 aBz oJ ha hb
theorem aJN(ha:cU X a ta)(hb:cU X b tb):cU X (.BinOp a .FloorDiv b pos) (iM aJJ ta tb):=W7 YW oJ ha hb
theorem aJO(ha:cU X a ta)(hb:cU X b tb):cU X (.BinOp a .Pow b pos) (iM aJK ta tb):=W7 aCA oJ ha hb
end
def aAe(K:W.Frag):R2:=λx y H Q=>∃ a b xs ys,x=.ref a/\y=.ref b/\gA K H a xs/\gA K H b ys/\xs.length+ys.length<=sizeLine /\
 (xs=[]->Q (.ref b) H)/\(xs≠[]->ys=[]->Q (.ref a) H)/\(xs≠[]->ys≠[] -> ∀ p,H p=none->Q (.ref p) (upd H p (.tup (xs++ys))))
theorem UR{prog:Program}{w:World}{A:Around}{E:Q0Q}{s:Shared}{t b:Addr}{ws:List Value}{Q:Q0Q}(ht:IsTup s.heap t #[])(hb:IsTup s.heap b ws.toArray)
  (h1:Q (.ref b) s):wpAny (model prog w) A (binaryOp .Add (.ref t) (.ref b)) Q E s:=by
 obtain ⟨⟨cls,dd,data,sl⟩,ho,hc,n,hd⟩:=id ht;obtain ⟨⟨cls2,dd2,data2,sl2⟩,ho2,hc2,n2,hd2⟩:=id hb;simp only at hc hd hc2 hd2;subst hc hd hc2 hd2;exact concat_meets ⟨_,ho,rfl⟩ ⟨_,ho2,rfl⟩ noFill_tuple_add seq_tuple_add PySem.F.slot_tuple_add PySem.F.entry_tuple_add (PySem.F.args_tuple_add_2 _ _)
   (tuple_addW0 t b #[] ws.toArray n n2 dd dd2 sl sl2 (by simp)) ⟨ho,ho2,h1⟩
theorem US:i6 X (binaryOp .Add) (aAe X.K):=by
 intro pins s U H x y v u Q I rx ry h;obtain ⟨a,b,xs,ys,rfl,rfl,ha,hb,hz,q0,q1,q2⟩:=h;by_cases hx:xs=[]
 .cases rx;cases ry;subst hx;obtain ⟨its,r1,p1,_⟩:=I.tuple ha;obtain ⟨its2,r2,p2,_⟩:=I.tuple hb;cases r1;exact UR p1 p2 ⟨.ref b,H,I,rfl,q0 rfl⟩
 .exact Y5 pins s U H _ _ v u Q I rx ry ⟨a,b,xs,ys,rfl,rfl,ha,hb,hx,hz,q1 hx,q2 hx⟩
def aCT:F2
 | .int i,.int j,Q=>Q (.int (i+j))
 | .lst a,.lst b,Q=>a.length+b.length<=sizeLine/\Q (.lst (a++b))
 | .tup a,.tup b,Q=>a.length+b.length<=sizeLine/\Q (.tup (a++b))
 | .str a,.str b,Q=>a.length+b.length<=sizeLine/\Q (.str (a++b))
 | _,_,_=>False
def aEm(K:W.Frag):R2:=λx y H Q=>(OD λi j=>.int (i+j)) x y H Q\/(aEf x y H Q\/(aAe K x y H Q \/ ∃ i j,x=.str i/\y=.str j/\i.length+j.length<=sizeLine/\Q (.str (i++j)) H))
theorem aCU:O3 K (aEm K) aCT:=by
 intro S H x y dx dy Q3 Q fc hx hy hf k
 cases dx with
 | int i =>
  cases dy with
  | int j=>simp only [Dn] at hx hy; exact .inl ⟨_,_,hx,hy,k _ H _ (Same.refl H) (by simp only [Dn]) hf⟩
  | _=>exact hf.elim
 | str i =>
  cases dy with
  | str j=>simp only [Dn] at hx hy; exact .inr (.inr (.inr ⟨_,_,hx,hy,hf.1,k _ H _ (Same.refl H) (by simp only [Dn]) hf.2⟩))
  | _=>exact hf.elim
 | lst ds =>
  cases dy with
  | lst es =>
   simp only [Dn] at hx hy;obtain ⟨a,xs,rfl,ha,sa,da⟩:=hx;obtain ⟨b,ys,rfl,hb,sb,db⟩:=hy;refine .inr (.inl ⟨a,b,xs,ys,rfl,rfl,ha,hb,by rw [<- da.len,<- db.len]; exact hf.1,λp hp=>k _ _ _ (aX hp) ?_ hf.2⟩);simp only [Dn];exact ⟨p,_,rfl,bD,fc p hp,bC.fits (.same (aX hp)) _ _ (da.append db)⟩
  | _=>exact hf.elim
 | tup ds =>
  cases dy with
  | tup es =>
   simp only [Dn] at hx hy;obtain ⟨a,xs,rfl,ha,da⟩:=hx;obtain ⟨b,ys,rfl,hb,db⟩:=hy;refine .inr (.inr (.inl ⟨a,b,xs,ys,rfl,rfl,gA.of ha,gA.of hb,by rw [<- da.len,<- db.len]; exact hf.1,λe=>?_,λ_ e=>?_,λ_ _ p hp=>?_⟩))
   .subst e;have e2:ds=[]:=List.length_eq_zero_iff.mp da.len;subst e2;exact k _ H _ (Same.refl H) (by simp only [Dn]; exact ⟨b,ys,rfl,hb,db⟩) hf.2
   .subst e;have e2:es=[]:=List.length_eq_zero_iff.mp db.len;subst e2;have q:=hf.2;rw [append_nil] at q;exact k _ H _ (Same.refl H) (by simp only [Dn]; exact ⟨a,xs,rfl,ha,da⟩) q
   .refine k _ _ _ (aX hp) ?_ hf.2;simp only [Dn];exact ⟨p,_,rfl,bD,bC.fits (.same (aX hp)) _ _ (da.append db)⟩
  | _=>exact hf.elim
 | _=>cases dy<;>exact hf.elim
theorem ZH:i6 X (binaryOp .Add) (aEm X.K):=i6.or aBx (i6.or UC (i6.or US JB))
theorem aJP{a b:Expr}{pos:Pos}{ta tb:WE}(ha:cU X a ta)(hb:cU X b tb):cU X (.BinOp a .Add b pos) (iM aCT ta tb):=W7 ZH aCU ha hb
def aEn:F2
 | .lst a,.lst b,Q=>a.length+b.length<=sizeLine/\Q (.lst (a++b))
 | _,_,_=>False
theorem aEo{a b:Expr}{pos:Pos}{ta tb:WE}(ha:cU X a ta)(hb:cU X b tb):HN X (.BinOp a .Add b pos) (iM aEn ta tb):=imp (aA4 UC ha hb) λU H Q h=>by
 obtain ⟨S,Z,Q3,fc,sl,ht,k⟩:=h;refine ⟨S,Z,_,fc,sl,ht,λv H1 d s1 d1 q1=>?_⟩;refine ⟨S,Z,_,bP fc s1,Sl.fits (.same s1) sl,q1,λu H2 d2 s2 d2' q2=>?_⟩;cases d<;>cases d2<;>try exact q2.elim
 simp only [Dn] at d1 d2';obtain ⟨a,xs,rfl,ha,sa,da⟩:=d1;obtain ⟨b,ys,rfl,hb,sb,db⟩:=d2';have da':=bC.fits (.same s2) _ _ da;refine ⟨a,b,xs,ys,rfl,rfl,s2 _ _ ha,hb,by rw [<- da.len,<- db.len]; exact q2.1,λp hp=>k p _ _ _ ((s1.trans s2).free hp) bD ((s1.trans s2).trans (aX hp)) ?_ q2.2⟩;exact bC.fits ((Fits.fresh hp).trans (.same (aX hp))) _ _ (da'.append db)
def aJQ:WA:=λ_ Q=>Q []
def aEp(ta:WE)(t:WA):WA:=λZ Q=>ta Z λd=>t Z λds=>Q (d::ds)
theorem aJR:zJ X [] aJQ:=UP xM λU H Q hq8=>by obtain ⟨S,Z,Q3,fc,sl,ht,k⟩:=hq8; exact k [] H [] (Same.refl H) bC.nil ht
theorem aEq{e:Expr}{es:List Expr}{te:WE}{t:WA}(ha:cU X e te)(hr:zJ X es t)(hs:starEach (e::es) X.env=(false,eval e X.env)::starEach es X.env:=by rfl):zJ X (e::es) (aEp te t) :=
 UP (nE ha hr hs) λU H Q hq9=>by obtain ⟨S,Z,Q3,fc,sl,ht,k⟩:=hq9;refine ⟨S,Z,_,fc,sl,ht,λv H1 d s1 d1 q1=>?_⟩;refine ⟨S,Z,_,bP fc s1,Sl.fits (.same s1) sl,q1,λus H2 ds s2 d2 q2=>?_⟩;exact k _ H2 _ (s1.trans s2) (bC.cons (Dn.fits (.same s2) _ _ d1) d2) q2
def aJS(t:WA):WE:=λZ Q=>t Z λds=>ds.length<=sizeLine/\Q (.tup ds)
def aJT(t:WA):WE:=λZ Q=>t Z λds=>ds.length<=sizeLine/\Q (.lst ds)
theorem aJU{es:List Expr}{t:WA}{x1}{pos:Pos}(h:zJ X es t):cU X (.Tuple es x1 pos) (aJS t):=imp (T4 h) λU H Q aJV=>by obtain ⟨S,Z,Q3,fc,sl,ht,k⟩:=aJV;refine ⟨S,Z,_,fc,sl,ht,λvs H1 ds s1 d1 q1=>⟨by rw [<- d1.len]; exact q1.1,λp hp=>k _ _ _ (s1.trans (aX hp)) ?_ q1.2⟩⟩;simp only [Dn];exact ⟨p,_,rfl,bD,bC.fits (.same (aX hp)) _ _ d1⟩
theorem aJW{es:List Expr}{t:WA}{pos:Pos}(h:zJ X es t):HN X (.List es pos) (aJT t):=imp (aCH h) λU H Q aJX=>by obtain ⟨S,Z,Q3,fc,sl,ht,k⟩:=aJX;refine ⟨S,Z,_,fc,sl,ht,λvs H1 ds s1 d1 q1=>⟨by rw [<- d1.len]; exact q1.1,λp hp=>k p vs _ ds (s1.free hp) bD (s1.trans (aX hp)) ?_ q1.2⟩⟩;exact bC.fits ((Fits.fresh hp).trans (.same (aX hp))) _ _ d1
end
section
variable{X:Cx}
def nM(t:WE):WT:=λZ Q=>t Z λd=>match d with
 | .bl b=>Q b
 | _=>False
theorem BR{t:WE}{U:L2.St}{H:Hp}{Q:Bool->Hp->Prop}(h:liftT K (nM t) U H Q):FS (lift K t) U H Q:=by
 obtain ⟨S,Z,Q3,fc,sl,ht,k⟩:=h;refine ⟨S,Z,_,fc,sl,ht,λv H1 d s1 d1 q1=>?_⟩
 cases d with
 | bl b=>simp only [Dn] at d1; exact ⟨b,d1,k b H1 s1 q1⟩
 | _=>exact q1.elim
theorem xP{t t':TE}{U:L2.St}{H:Hp}{Q:Bool->Hp->Prop}(f:∀ U H Q,t' U H Q->t U H Q)(h:FS t' U H Q):FS t U H Q:=f U H _ h
theorem OS{a b:Expr}{op:CmpOp}{pos:Pos}{r:R2}{f:F2}{ta tb:WE}(ho:i6 X (compareOp op) r)(h3:O3 X.K r f)(ha:cU X a ta)(hb:cU X b tb)(hm:behindInMarks op b=false):cU X (.Compare a [op] [b] pos) (iM f ta tb) :=
 imp (YX ho ha hb hm) λ_ _ _=>sM h3
theorem p7{a b:Expr}{op:CmpOp}{pos:Pos}{r:R2}{f:F2}{ta tb:WE}(ho:i6 X (compareOp op) r)(h3:O3 X.K r f)(ha:cU X a ta)(hb:cU X b tb)(hm:behindInMarks op b=false):vY X (.Compare a [op] [b] pos) (nM (iM f ta tb)) :=
 JH (YY ho ha hb hm) λ_ _ _ h=>xP (λ_ _ _=>sM h3) (BR h)
theorem qS{g:Int->Int->Bool}:O3 K (OD λi j=>.bl (g i j)) (uS λi j=>.bl (g i j)):=by
 intro S H x y dx dy Q3 Q fc hx hy hf k;cases dx<;>cases dy<;>try exact hf.elim
 simp only [Dn] at hx hy;exact ⟨_,_,hx,hy,k _ H _ (Same.refl H) (by simp only [Dn]) hf⟩
def UT:D->D->Bool
 | .non,.non=>true | .non,.int _=>true | .int _,.non=>true | .non,.bl _=>true | .bl _,.non=>true | .non,.str _=>true | .str _,.non=>true
 | .int _,.int _=>true | .bl _,.bl _=>true | .str _,.str _=>true | .int _,.str _=>true | .str _,.int _=>true | .bl _,.str _=>true | .str _,.bl _=>true
 | _,_=>false
def eqS:D->D->Bool
 | .non,.non=>true
 | .int i,.int j=>decide (i=j)
 | .bl i,.bl j=>decide (i=j)
 | .str i,.str j=>decide (i=j)
 | _,_=>false
def ZI:F2:=λx y Q=>UT x y=true/\Q (.bl (eqS x y))
def ZJ:F2:=λx y Q=>UT x y=true/\Q (.bl (!eqS x y))
theorem MN{S:Addr->Prop}{H:Hp}{x y:V}{dx dy:D}(hx:Dn K S H dx x)(hy:Dn K S H dy y)(h:UT dx dy=true):aCE x y=true/\decide (x=y)=eqS dx dy:=by
 cases dx<;>first
  | (exact absurd (show false=true from h) Bool.false_ne_true)
  | skip
 all_goals (cases dy<;>first
  | (exact absurd (show false=true from h) Bool.false_ne_true)
  | (simp only [Dn] at hx hy; subst hx; subst hy; exact ⟨rfl,by first | exact DL | exact IZ | exact DM | exact decide_eq_false (λh=>by cases h) | exact decide_eq_true rfl⟩))
theorem xQ:O3 K rEq ZI:=by intro S H x y dx dy Q3 Q fc hx hy hf k;obtain ⟨h1,h2⟩:=MN hx hy hf.1;exact ⟨h1,k _ H _ (Same.refl H) (by simp only [Dn]; rw [h2]) hf.2⟩
theorem xR:O3 K rNe ZJ:=by intro S H x y dx dy Q3 Q fc hx hy hf k;obtain ⟨h1,h2⟩:=MN hx hy hf.1;exact ⟨h1,k _ H _ (Same.refl H) (by simp only [Dn]; rw [h2]) hf.2⟩
def allI:List D->Bool
 | []=>true
 | .int _::r=>allI r
 | _::_=>false
def zX(i:Int):List D->Bool
 | []=>false
 | .int j::r=>j == i||zX i r
 | _::r=>zX i r
theorem BS:∀ ns:List Int,allI (ns.map D.int)=true
 | []=>rfl
 | n::ns=>by rw [map_cons]; exact BS ns
theorem BU(i:Int):∀ ns:List Int,zX i (ns.map D.int)=ns.contains i
 | []=>rfl
 | n::ns=>by rw [map_cons,zX,BU i ns,List.contains_cons];congr 1;exact Bool.beq_comm
theorem DY:∀ {ds:List D},allI ds=true -> ∃ ns:List Int,ds=ns.map D.int
 | [],_=>⟨[],rfl⟩
 | .int n::r,h=>by obtain ⟨ns,e⟩:=DY (ds:=r) h;exact ⟨n::ns,by rw [e]; rfl⟩
 | .non::r,h=>absurd (show false=true from h) Bool.false_ne_true
 | .bl _::r,h=>absurd (show false=true from h) Bool.false_ne_true
 | .str _::r,h=>absurd (show false=true from h) Bool.false_ne_true
 | .tup _::r,h=>absurd (show false=true from h) Bool.false_ne_true
 | .lst _::r,h=>absurd (show false=true from h) Bool.false_ne_true
 | .jW _::r,h=>absurd (show false=true from h) Bool.false_ne_true
 | .lB _ _::r,h=>absurd (show false=true from h) Bool.false_ne_true
 | .dF _ _ _::r,h=>absurd (show false=true from h) Bool.false_ne_true
def inF(neg:Bool):F2
 | .int i,.tup ds,Q=>allI ds=true/\Q (.bl (if neg then !zX i ds else zX i ds))
 | .int i,.lst ds,Q=>allI ds=true/\Q (.bl (if neg then !zX i ds else zX i ds))
 | _,_,_=>False
theorem xS(i:Int):∀ ns:List Int,inV (.int i) (ns.map V.int)=zX i (ns.map D.int)
 | []=>rfl
 | n::ns=>by have e:=xS i ns;unfold inV at e ⊢;rw [map_cons,map_cons,any_cons,zX,e];rfl
theorem t7:∀ ns:List Int,(ns.map V.int).all sJ=true
 | []=>rfl
 | n::ns=>by rw [map_cons,all_cons,t7 ns]; rfl
theorem MO{neg:Bool}:O3 K (rIn K neg) (inF neg):=by
 intro S H x y dx dy Q3 Q fc hx hy hf k
 cases dx with
 | int i =>
  simp only [Dn] at hx;subst hx
  cases dy with
  | tup ds =>
   simp only [Dn] at hy;obtain ⟨a,xs,rfl,ha,da⟩:=hy;obtain ⟨h1,h2⟩:=hf;obtain ⟨ns,rfl⟩:=DY h1;have e:=bC.ints.mp da;subst e;refine ⟨a,_,rfl,.inr (gA.of ha),rfl,t7 ns,k _ H _ (Same.refl H) ?_ h2⟩;simp only [Dn];rw [xS]
  | lst ds =>
   simp only [Dn] at hy;obtain ⟨a,xs,rfl,ha,_,da⟩:=hy;obtain ⟨h1,h2⟩:=hf;obtain ⟨ns,rfl⟩:=DY h1;have e:=bC.ints.mp da;subst e;refine ⟨a,_,rfl,.inl (gH.of ha),rfl,t7 ns,k _ H _ (Same.refl H) ?_ h2⟩;simp only [Dn];rw [xS]
  | _=>exact hf.elim
 | _=>cases dy<;>exact hf.elim
section
variable{a b:Expr}{pos:Pos}{ta tb:WE}
def ltF:F2:=uS λi j=>.bl (decide (i<j))
def leF:F2:=uS λi j=>.bl (decide (i<=j))
def gtF:F2:=uS λi j=>.bl (decide (i>j))
def geF:F2:=uS λi j=>.bl (decide (i >= j))
theorem gt3(ha:cU X a ta)(hb:cU X b tb):cU X (.Compare a [.Gt] [b] pos) (iM gtF ta tb):=OS aA6 qS ha hb (jQ _)
theorem aJY(ha:cU X a ta)(hb:cU X b tb):cU X (.Compare a [.Eq] [b] pos) (iM ZI ta tb):=OS TU xQ ha hb (jQ _)
theorem aJZ(ha:cU X a ta)(hb:cU X b tb):cU X (.Compare a [.NotEq] [b] pos) (iM ZJ ta tb):=OS TV xR ha hb (jQ _)
theorem in3(ha:cU X a ta)(hb:cU X b tb)(hm:behindInMarks .In b=false:=by with_unfolding_all rfl):cU X (.Compare a [.In] [b] pos) (iM (inF false) ta tb):=OS BM MO ha hb hm
theorem aJ0(ha:cU X a ta)(hb:cU X b tb)(hm:behindInMarks .NotIn b=false:=by with_unfolding_all rfl):cU X (.Compare a [.NotIn] [b] pos) (iM (inF true) ta tb):=OS sL MO ha hb hm
theorem aJ1(ha:cU X a ta)(hb:cU X b tb):vY X (.Compare a [.Lt] [b] pos) (nM (iM ltF ta tb)):=p7 MD qS ha hb (jQ _)
theorem aJ2(ha:cU X a ta)(hb:cU X b tb):vY X (.Compare a [.LtE] [b] pos) (nM (iM leF ta tb)):=p7 ME qS ha hb (jQ _)
theorem aJ3(ha:cU X a ta)(hb:cU X b tb):vY X (.Compare a [.Gt] [b] pos) (nM (iM gtF ta tb)):=p7 aA6 qS ha hb (jQ _)
theorem aJ4(ha:cU X a ta)(hb:cU X b tb):vY X (.Compare a [.GtE] [b] pos) (nM (iM geF ta tb)):=p7 aE3 qS ha hb (jQ _)
theorem aEr(ha:cU X a ta)(hb:cU X b tb):vY X (.Compare a [.Eq] [b] pos) (nM (iM ZI ta tb)):=p7 TU xQ ha hb (jQ _)
theorem aEs(ha:cU X a ta)(hb:cU X b tb):vY X (.Compare a [.NotEq] [b] pos) (nM (iM ZJ ta tb)):=p7 TV xR ha hb (jQ _)
theorem aJ5(ha:cU X a ta)(hb:cU X b tb)(hm:behindInMarks .In b=false:=by with_unfolding_all rfl):vY X (.Compare a [.In] [b] pos) (nM (iM (inF false) ta tb)):=p7 BM MO ha hb hm
theorem aEt(ha:cU X a ta)(hb:cU X b tb)(hm:behindInMarks .NotIn b=false:=by with_unfolding_all rfl):vY X (.Compare a [.NotIn] [b] pos) (nM (iM (inF true) ta tb)):=p7 sL MO ha hb hm
end
def aEu(t:WT):WT:=λZ Q=>t Z λb=>Q (!b)
def aEv(t u:WT):WT:=λZ Q=>t Z λb=>if b=true then u Z Q else Q false
def aJ6(t u:WT):WT:=λZ Q=>t Z λb=>if b=true then Q true else u Z Q
def Q0(X:Cx)(e:Expr)(t:WT):Prop:=PW X e (liftT X.K t)
theorem aCW{e:Expr}{t t':TT}(h:PW X e t)(f:∀ U H Q,t' U H Q->t U H Q):PW X e t':=λwh pins s U H Q I q=>h wh pins s U H Q I (f U H Q q)
section
variable{a b:Expr}{rest:List Expr}{pos:Pos}{ta tb:WT}
theorem Q0.pt{e:Expr}{t:WT}(h:Q0 X e t):vY X e t:=PW.pt h
theorem aEw(ha:vY X a ta):vY X (.UnaryOp .Not a pos) (aEu ta):=JH (aBm ha) λU H Q aJ7=>by obtain ⟨S,Z,Q3,fc,sl,ht,k⟩:=aJ7; exact ⟨S,Z,_,fc,sl,ht,λb H1 s1 q1=>k (!b) H1 s1 q1⟩
theorem aJ8(ha:vY X a ta):Q0 X (.BoolOp .And [a] pos) ta:=YR ha
theorem or1(ha:vY X a ta):Q0 X (.BoolOp .Or [a] pos) ta:=aBk ha
theorem aEx(ha:vY X a ta)(hb:Q0 X (.BoolOp .And (b::rest) pos) tb):Q0 X (.BoolOp .And (a::b::rest) pos) (aEv ta tb):=aCW (aBl ha hb) λU H Q aJ9=>by
 obtain ⟨S,Z,Q3,fc,sl,ht,k⟩:=aJ9;refine ⟨S,Z,_,fc,sl,ht,λc H1 s1 q1=>?_⟩
 cases c with
 | true=>rw [if_pos rfl] at q1 ⊢; exact ⟨S,Z,Q3,bP fc s1,Sl.fits (.same s1) sl,q1,λb' H2 s2 q2=>k b' H2 (s1.trans s2) q2⟩
 | false=>rw [if_neg Bool.false_ne_true] at q1 ⊢; exact k false H1 s1 q1
theorem aJa(ha:vY X a ta)(hb:Q0 X (.BoolOp .Or (b::rest) pos) tb):Q0 X (.BoolOp .Or (a::b::rest) pos) (aJ6 ta tb):=aCW (aEO ha hb) λU H Q aJb=>by
 obtain ⟨S,Z,Q3,fc,sl,ht,k⟩:=aJb;refine ⟨S,Z,_,fc,sl,ht,λc H1 s1 q1=>?_⟩
 cases c with
 | false=>rw [if_neg Bool.false_ne_true] at q1 ⊢; exact ⟨S,Z,Q3,bP fc s1,Sl.fits (.same s1) sl,q1,λb' H2 s2 q2=>k b' H2 (s1.trans s2) q2⟩
 | true=>rw [if_pos rfl] at q1 ⊢; exact k true H1 s1 q1
end
def aJc(ta tb:WE):WE:=λZ Q=>ta Z λx=>match x with
 | .bl true=>tb Z Q
 | .bl false=>Q (.bl false)
 | _=>False
def wOr(ta tb:WE):WE:=λZ Q=>ta Z λx=>match x with
 | .bl true=>Q (.bl true)
 | .bl false=>tb Z Q
 | _=>False
def wIf(t:WT)(ta tb:WE):WE:=λZ Q=>t Z λb=>if b=true then ta Z Q else tb Z Q
section
variable{a b c:Expr}{rest:List Expr}{pos:Pos}{ta tb:WE}{tc:WT}
theorem aJd{op}(ha:cU X a ta):cU X (.BoolOp op [a] pos) ta:=aBn ha
theorem aJe(ha:cU X a ta)(hb:cU X (.BoolOp .And (b::rest) pos) tb):cU X (.BoolOp .And (a::b::rest) pos) (aJc ta tb):=imp (aBo ha hb) λU H Q aJf=>by
 obtain ⟨S,Z,Q3,fc,sl,ht,k⟩:=aJf;refine ⟨S,Z,_,fc,sl,ht,λv H1 d s1 d1 q1=>?_⟩
 cases d with
 | bl c =>
  simp only [Dn] at d1;refine ⟨c,d1,?_⟩
  cases c with
  | true=>rw [if_pos rfl]; exact ⟨S,Z,Q3,bP fc s1,Sl.fits (.same s1) sl,q1,λv' H2 d' s2 d2 q2=>k v' H2 d' (s1.trans s2) d2 q2⟩
  | false=>rw [if_neg Bool.false_ne_true]; exact k _ H1 (.bl false) s1 (by simp only [Dn]) q1
 | _=>exact q1.elim
theorem or3(ha:cU X a ta)(hb:cU X (.BoolOp .Or (b::rest) pos) tb):cU X (.BoolOp .Or (a::b::rest) pos) (wOr ta tb):=imp (aEQ ha hb) λU H Q aJg=>by
 obtain ⟨S,Z,Q3,fc,sl,ht,k⟩:=aJg;refine ⟨S,Z,_,fc,sl,ht,λv H1 d s1 d1 q1=>?_⟩
 cases d with
 | bl c =>
  simp only [Dn] at d1;refine ⟨c,d1,?_⟩
  cases c with
  | false=>rw [if_neg Bool.false_ne_true]; exact ⟨S,Z,Q3,bP fc s1,Sl.fits (.same s1) sl,q1,λv' H2 d' s2 d2 q2=>k v' H2 d' (s1.trans s2) d2 q2⟩
  | true=>rw [if_pos rfl]; exact k _ H1 (.bl true) s1 (by simp only [Dn]) q1
 | _=>exact q1.elim
theorem if3(hc:vY X c tc)(ha:cU X a ta)(hb:cU X b tb):cU X (.IfExp c a b pos) (wIf tc ta tb):=imp (TJ hc ha hb) λU H Q aJh=>by
 obtain ⟨S,Z,Q3,fc,sl,ht,k⟩:=aJh;refine ⟨S,Z,_,fc,sl,ht,λc H1 s1 q1=>?_⟩
 cases c with
 | true=>rw [if_pos rfl] at q1 ⊢; exact ⟨S,Z,Q3,bP fc s1,Sl.fits (.same s1) sl,q1,λv' H2 d' s2 d2 q2=>k v' H2 d' (s1.trans s2) d2 q2⟩
 | false=>rw [if_neg Bool.false_ne_true] at q1 ⊢; exact ⟨S,Z,Q3,bP fc s1,Sl.fits (.same s1) sl,q1,λv' H2 d' s2 d2 q2=>k v' H2 d' (s1.trans s2) d2 q2⟩
def aJi(ta:WE):WE:=λZ Q=>ta Z λx=>match x with
 | .int i=>Q (.int (-i))
 | _=>False
theorem aJj(ha:cU X a ta):cU X (.UnaryOp .USub a pos) (aJi ta):=imp (aE0 aCD ha) λU H Q aJk=>by
 obtain ⟨S,Z,Q3,fc,sl,ht,k⟩:=aJk;refine ⟨S,Z,_,fc,sl,ht,λv H1 d s1 d1 q1=>?_⟩
 cases d with
 | int i=>simp only [Dn] at d1; exact ⟨i,d1,k _ H1 (.int (-i)) s1 (by simp only [Dn]) q1⟩
 | _=>exact q1.elim
end
def DZ(f g:F2)(ta tb tc:WE):WE:=λZ Q=>ta Z λx=>tb Z λy=>f x y λz=>match z with
 | .bl true=>tc Z λu=>g y u Q
 | .bl false=>Q (.bl false)
 | _=>False
theorem xT{r r':R2}{f g:F2}{ta tb tc:WE}{U:L2.St}{H:Hp}{Q:VK}(h1:O3 K r f)(h2:O3 K r' g)(h:lift K (DZ f g ta tb tc) U H Q):I0 r r' (lift K ta) (lift K tb) (lift K tc) U H Q:=by
 obtain ⟨S,Z,Q3,fc,sl,ht,k⟩:=h;refine ⟨S,Z,_,fc,sl,ht,λv H1 d s1 d1 q1=>?_⟩;refine ⟨S,Z,_,bP fc s1,Sl.fits (.same s1) sl,q1,λu H2 e s2 e1 q2=>?_⟩;refine h1 S H2 v u d e _ _ (bP fc (s1.trans s2)) (Dn.fits (.same s2) _ _ d1) e1 q2 λz H3 dz s3 dz1 q3=>?_
 cases dz with
 | bl c =>
  simp only [Dn] at dz1;refine ⟨c,dz1,?_⟩
  cases c with
  | false=>rw [if_neg Bool.false_ne_true]; exact k _ H3 (.bl false) ((s1.trans s2).trans s3) (by simp only [Dn]) q3
  | true =>
   rw [if_pos rfl];refine ⟨S,Z,_,bP fc ((s1.trans s2).trans s3),Sl.fits (.same ((s1.trans s2).trans s3)) sl,q3,λw' H4 dw s4 dw1 q4=>?_⟩;exact h2 S H4 u w' e dw Q3 Q (bP fc (((s1.trans s2).trans s3).trans s4)) (Dn.fits (.same (s3.trans s4)) _ _ e1) dw1 q4 λv' H5 d' s5 d5 q5=>k v' H5 d' ((((s1.trans s2).trans s3).trans s4).trans s5) d5 q5
 | _=>exact q3.elim
theorem aCX{a b c:Expr}{op op':CmpOp}{pos:Pos}{r r':R2}{f g:F2}{ta tb tc:WE}(ho:i6 X (compareOp op) r)(ho':i6 X (compareOp op') r')(h1:O3 X.K r f)(h2:O3 X.K r' g)(ha:cU X a ta)(hb:cU X b tb)(hc:cU X c tc)
  (hm:lastMarks [op,op'] [b,c]=false:=by with_unfolding_all rfl):cU X (.Compare a [op,op'] [b,c] pos) (DZ f g ta tb tc):=imp (TX ho ho' ha hb hc hm) λ_ _ _=>xT h1 h2
theorem ZK{a b c:Expr}{op op':CmpOp}{pos:Pos}{r r':R2}{f g:F2}{ta tb tc:WE}(ho:i6 X (compareOp op) r)(ho':i6 X (compareOp op') r')(h1:O3 X.K r f)(h2:O3 X.K r' g)(ha:cU X a ta)(hb:cU X b tb)(hc:cU X c tc)
  (hm:lastMarks [op,op'] [b,c]=false:=by with_unfolding_all rfl):vY X (.Compare a [op,op'] [b,c] pos) (nM (DZ f g ta tb tc)):=JH (TY ho ho' ha hb hc hm) λ_ _ _ h=>xP (λ_ _ _=>xT h1 h2) (BR h)
def ixF:F2
 | .lst ds,.int i,Q=>(match vE ds i with | some d=>Q d | none=>False)
 | .tup ds,.int i,Q=>(match vE ds i with | some d=>Q d | none=>False)
 | .jW ns,.int i,Q=>(match vE ns i with | some n=>Q (.int n) | none=>False)
 | _,_,_=>False
theorem bC.at{S:Addr->Prop}{H:Hp}{ds:List D}{xs:List V}{i:Int}{d:D}(h:bC K S H ds xs)(e:vE ds i=some d):∃ v,vE xs i=some v/\Dn K S H d v:=by
 unfold vE at e ⊢;rw [<- h.len]
 cases q:Y6 ds.length i with
 | none=>rw [q] at e; cases e
 | some j =>
  rw [q] at e;obtain ⟨v,e1,dn⟩:=h.get (i:=j) (d:=d) e;exact ⟨v,e1,dn⟩
theorem ZL{α β:Type}(f:α->β)(xs:List α)(i:Int):vE (xs.map f) i=(vE xs i).map f:=by
 unfold vE;rw [length_map]
 cases Y6 xs.length i with
 | none=>rfl
 | some j=>simp
theorem aEy:O3 K (λx y H Q=>aEb K x y H Q\/aEc K x y H Q) ixF:=by
 intro S H x y dx dy Q3 Q fc hx hy hf k
 cases dx with
 | lst ds =>
  cases dy with
  | int i =>
   simp only [Dn] at hx hy;obtain ⟨a,xs,rfl,ha,sa,da⟩:=hx;have hf:(match vE ds i with | some d=>Q3 d | none=>False):=hf
   cases e:vE ds i with
   | none=>rw [e] at hf; exact hf.elim
   | some d =>
    rw [e] at hf;obtain ⟨v,e1,dv⟩:=da.at e;exact .inl ⟨a,xs,i,v,rfl,hy,gH.of ha,e1,k v H d (Same.refl H) dv hf⟩
  | _=>exact hf.elim
 | tup ds =>
  cases dy with
  | int i =>
   simp only [Dn] at hx hy;obtain ⟨a,xs,rfl,ha,da⟩:=hx;have hf:(match vE ds i with | some d=>Q3 d | none=>False):=hf
   cases e:vE ds i with
   | none=>rw [e] at hf; exact hf.elim
   | some d =>
    rw [e] at hf;obtain ⟨v,e1,dv⟩:=da.at e;exact .inr ⟨a,xs,i,v,rfl,hy,(gA.of ha),e1,k v H d (Same.refl H) dv hf⟩
  | _=>exact hf.elim
 | jW ns =>
  cases dy with
  | int i =>
   simp only [Dn] at hx hy;obtain ⟨a,rfl,ha⟩:=hx;have hf:(match vE ns i with | some n=>Q3 (.int n) | none=>False):=hf
   cases e:vE ns i with
   | none=>rw [e] at hf; exact hf.elim
   | some n =>
    rw [e] at hf;exact .inl ⟨a,_,i,.int n,rfl,hy,ha.sq,by rw [ZL,e]; rfl,k _ H (.int n) (Same.refl H) (by simp only [Dn]) hf⟩
  | _=>exact hf.elim
 | _=>cases dy<;>exact hf.elim
theorem ix3{a b:Expr}{pos:Pos}{ta tb:WE}(ha:cU X a ta)(hb:cU X b tb)(hs:DQ b:=by intro _ _; rfl):cU X (.Subscript a b pos) (iM ixF ta tb) :=
 imp (aEa (Y7.or aCN) ha hb hs) λ_ _ _=>sM aEy
abbrev F1:=List D->(D->Prop)->Prop
def OT(f:F1)(t:WA):WE:=λZ Q=>t Z λds=>f ds Q
def C3(K:W.Frag)(r:List V->Hp->VK->Prop)(f:F1):Prop:=∀ (S:Addr->Prop) (H:Hp) (xs:List V) (ds:List D) (Q3:D->Prop) (Q:VK),(∀ a,H a=none->S a)->bC K S H ds xs->f ds Q3 ->
 (∀ v H' d,Same H H'->Dn K S H' d v->Q3 d->Q v H')->r xs H Q
def C3F(K:W.Frag)(r:List V->Hp->VK->Prop)(f:F1):Prop:=∀ (S:Addr->Prop) (H:Hp) (xs:List V) (ds:List D) (Q3:D->Prop) (Q:VK),(∀ a,H a=none->S a)->bC K S H ds xs->f ds Q3 ->
 (∀ p ys H' es,H p=none->H' p=some (.lst ys)->Same H H'->bC K (λa=>S a/\a≠p) H' es ys->Q3 (.lst es)->Q (.ref p) H')->r xs H Q
theorem MP{r:List V->Hp->VK->Prop}{f:F1}{t:WA}{U:L2.St}{H:Hp}{Q:VK}(h3:C3 K r f)(h:lift K (OT f t) U H Q):tCB r (UN K t) U H Q:=by obtain ⟨S,Z,Q3,fc,sl,ht,k⟩:=h;refine ⟨S,Z,_,fc,sl,ht,λvs H1 ds s1 d1 q1=>?_⟩;exact h3 S H1 vs ds Q3 Q (bP fc s1) d1 q1 λv H' d s' d' q'=>k v H' d (s1.trans s') d' q'
theorem FZ{r:List V->Hp->VK->Prop}{f:F1}{t:WA}{U:L2.St}{H:Hp}{Q:VK}(h3:C3F K r f)(h:UO K (OT f t) U H Q):tCB r (UN K t) U H Q:=by obtain ⟨S,Z,Q3,fc,sl,ht,k⟩:=h;refine ⟨S,Z,_,fc,sl,ht,λvs H1 ds s1 d1 q1=>?_⟩;exact h3 S H1 vs ds Q3 Q (bP fc s1) d1 q1 λp ys H' es hp hp' s' d' q'=>k p ys H' es (s1.free hp) hp' (s1.trans s') d' q'
theorem D0{x:Str}{p pos:Pos}{e:Expr}{es:List Expr}{t:WA}{id:String}{r:List V->Hp->VK->Prop}{f:F1}(hc:jI X (.builtin id) r)(h3:C3 X.K r f)(hv:bootBuiltins x=some (.builtin id))(hg:Gl X x)(hm:X.mg x=none)(ha:zJ X (e::es) t)(hn:x ≠ "__name__" := by decide)(hdb:(x == ("__debug__" : Str))=false:=by decide)
  (he:starEach (e::es) X.env=(false,eval e X.env)::starEach es X.env:=by rfl) (hpl:(backTo pos (starEach es X.env)).any (·.1)=false:=by rfl):cU X (.Call (.Name x p) (e::es) [] pos) (OT f t) :=
 imp (sH hc hg hm hv ha hn hdb he hpl) λ_ _ _=>MP h3
theorem ZM{x:Str}{p pos:Pos}{e:Expr}{es:List Expr}{t:WA}{id:String}{r:List V->Hp->VK->Prop}{f:F1}(hc:jI X (.builtin id) r)(h3:C3F X.K r f)(hv:bootBuiltins x=some (.builtin id))(hg:Gl X x)(hm:X.mg x=none)(ha:zJ X (e::es) t)(hn:x ≠ "__name__" := by decide)(hdb:(x == ("__debug__" : Str))=false:=by decide)
  (he:starEach (e::es) X.env=(false,eval e X.env)::starEach es X.env:=by rfl) (hpl:(backTo pos (starEach es X.env)).any (·.1)=false:=by rfl):HN X (.Call (.Name x p) (e::es) [] pos) (OT f t) :=
 imp (sH hc hg hm hv ha hn hdb he hpl) λ_ _ _=>FZ h3
theorem ZN{x:Str}{p pos:Pos}{e:Expr}{es:List Expr}{t:WA}{T:String}{r:List V->Hp->VK->Prop}{f:F1}(hc:jI X (.type T) r)(h3:C3 X.K r f)(hv:bootBuiltins x=some (.type T))(hg:Gl X x)(hm:X.mg x=none)(ha:zJ X (e::es) t)(hn:x ≠ "__name__" := by decide)(hdb:(x == ("__debug__" : Str))=false:=by decide)
  (he:starEach (e::es) X.env=(false,eval e X.env)::starEach es X.env:=by rfl) (hpl:(backTo pos (starEach es X.env)).any (·.1)=false:=by rfl):cU X (.Call (.Name x p) (e::es) [] pos) (OT f t) :=
 imp (pH hc hg hm hv ha hn hdb he hpl) λ_ _ _=>MP h3
theorem UU{x:Str}{p pos:Pos}{e:Expr}{es:List Expr}{t:WA}{T:String}{r:List V->Hp->VK->Prop}{f:F1}(hc:jI X (.type T) r)(h3:C3F X.K r f)(hv:bootBuiltins x=some (.type T))(hg:Gl X x)(hm:X.mg x=none)(ha:zJ X (e::es) t)(hn:x ≠ "__name__" := by decide)(hdb:(x == ("__debug__" : Str))=false:=by decide)
  (he:starEach (e::es) X.env=(false,eval e X.env)::starEach es X.env:=by rfl) (hpl:(backTo pos (starEach es X.env)).any (·.1)=false:=by rfl):HN X (.Call (.Name x p) (e::es) [] pos) (OT f t) :=
 imp (pH hc hg hm hv ha hn hdb he hpl) λ_ _ _=>FZ h3
def GA:F1
 | [.lst ds],Q=>Q (.int ds.length)
 | [.tup ds],Q=>Q (.int ds.length)
 | [.jW ns],Q=>Q (.int ns.length)
 | _,_=>False
theorem aCY:C3 K (λxs H Q=>∃ p ys,xs=[.ref p]/\(gH K H p ys\/gA K H p ys)/\Q (.int ys.length) H) GA:=by
 intro S H xs ds Q3 Q fc hd hf k
 match ds,hf with
 | [.lst es],hf =>
  obtain ⟨v,r,rfl,h1,h2⟩:=hd.bV;simp only [bC] at h2;subst h2;simp only [Dn] at h1;obtain ⟨a,ys,rfl,ha,sa,da⟩:=h1;exact ⟨a,ys,rfl,.inl (gH.of ha),k _ H _ (Same.refl H) (by simp only [Dn]; rw [da.len]) hf⟩
 | [.tup es],hf =>
  obtain ⟨v,r,rfl,h1,h2⟩:=hd.bV;simp only [bC] at h2;subst h2;simp only [Dn] at h1;obtain ⟨a,ys,rfl,ha,da⟩:=h1;exact ⟨a,ys,rfl,.inr (gA.of ha),k _ H _ (Same.refl H) (by simp only [Dn]; rw [da.len]) hf⟩
 | [.jW ns],hf =>
  obtain ⟨v,r,rfl,h1,h2⟩:=hd.bV;simp only [bC] at h2;subst h2;simp only [Dn] at h1;obtain ⟨a,rfl,ha⟩:=h1;exact ⟨a,_,rfl,.inl ha.sq,k _ H _ (Same.refl H) (by simp only [Dn]; rw [length_map]) hf⟩
theorem aJm{p pos:Pos}{e:Expr}{t:WA}(hm:X.mg "len" = none)(ha:zJ X [e] t)(hg:Gl X "len" := by rfl)
  (he:starEach [e] X.env=(false,eval e X.env)::starEach [] X.env:=by rfl):cU X (.Call (.Name "len" p) [e] [] pos) (OT GA t):=D0 DS aCY PySem.boot_len hg hm ha (by decide) (by decide) he (by rfl)
def JI:F1
 | [.lst ds],Q=>Q (.tup ds)
 | [.tup ds],Q=>Q (.tup ds)
 | _,_=>False
theorem UV:C3 K (λxs H Q=>∃ p ys,xs=[.ref p]/\((gH K H p ys /\ ∀ l,H l=none->Q (.ref l) (upd H l (.tup ys)))\/(gA K H p ys/\Q (.ref p) H))) JI:=by
 intro S H xs ds Q3 Q fc hd hf k
 match ds,hf with
 | [.lst es],hf =>
  obtain ⟨v,r,rfl,h1,h2⟩:=hd.bV;simp only [bC] at h2;subst h2;simp only [Dn] at h1;obtain ⟨a,ys,rfl,ha,sa,da⟩:=h1;refine ⟨a,ys,rfl,.inl ⟨gH.of ha,λl hl=>k _ _ _ (aX hl) ?_ hf⟩⟩;simp only [Dn];exact ⟨l,ys,rfl,bD,bC.fits (.same (aX hl)) _ _ da⟩
 | [.tup es],hf =>
  obtain ⟨v,r,rfl,h1,h2⟩:=hd.bV;simp only [bC] at h2;subst h2;have h1':=h1;simp only [Dn] at h1;obtain ⟨a,ys,rfl,ha,da⟩:=h1;exact ⟨a,ys,rfl,.inr ⟨(gA.of ha),k _ H _ (Same.refl H) h1' hf⟩⟩
theorem aCZ{p pos:Pos}{e:Expr}{t:WA}(hm:X.mg "tuple" = none)(hv:bootBuiltins "tuple" = some (.type "tuple"))(ha:zJ X [e] t)(hg:Gl X "tuple" := by rfl)
  (he:starEach [e] X.env=(false,eval e X.env)::starEach [] X.env:=by rfl):cU X (.Call (.Name "tuple" p) [e] [] pos) (OT JI t):=ZN zU UV hv hg hm ha (by decide) (by decide) he (by rfl)
def UW:F1
 | [.lst ds],Q=>Q (.lst ds)
 | [.tup ds],Q=>Q (.lst ds)
 | _,_=>False
theorem ZO:C3F K (λxs H Q=>∃ p ys,xs=[.ref p]/\(gH K H p ys\/gA K H p ys) /\ ∀ l,H l=none->Q (.ref l) (upd H l (.lst ys))) UW:=by
 intro S H xs ds Q3 Q fc hd hf k
 match ds,hf with
 | [.lst es],hf =>
  obtain ⟨v,r,rfl,h1,h2⟩:=hd.bV;simp only [bC] at h2;subst h2;simp only [Dn] at h1;obtain ⟨a,ys,rfl,ha,sa,da⟩:=h1;exact ⟨a,ys,rfl,.inl (gH.of ha),λl hl=>k l ys _ es hl bD (aX hl) (bC.fits ((Fits.fresh hl).trans (.same (aX hl))) _ _ da) hf⟩
 | [.tup es],hf =>
  obtain ⟨v,r,rfl,h1,h2⟩:=hd.bV;simp only [bC] at h2;subst h2;simp only [Dn] at h1;obtain ⟨a,ys,rfl,ha,da⟩:=h1;exact ⟨a,ys,rfl,.inr (gA.of ha),λl hl=>k l ys _ es hl bD (aX hl) (bC.fits ((Fits.fresh hl).trans (.same (aX hl))) _ _ da) hf⟩
theorem aEz{p pos:Pos}{e:Expr}{t:WA}(hm:X.mg "list" = none)(hv:bootBuiltins "list" = some (.type "list"))(ha:zJ X [e] t)(hg:Gl X "list" := by rfl)
  (he:starEach [e] X.env=(false,eval e X.env)::starEach [] X.env:=by rfl):HN X (.Call (.Name "list" p) [e] [] pos) (OT UW t):=UU DT ZO hv hg hm ha (by decide) (by decide) he (by rfl)
abbrev Spec:=List D->(D->Prop)->Prop
def sp3(K:W.Frag)(R:Spec):Sp:=λvs H Q _=>∃ (S:Addr->Prop) (ds:List D) (Q3:D->Prop),(∀ a,H a=none->S a)/\bC K S H ds vs/\R ds Q3 /\ ∀ v H' d,Same H H'->Dn K S H' d v->Q3 d->Q v H'
theorem aFA{k:Nat}{f:Addr}{fd:FuncData}{ps:List Str}{R:Spec}{x:Str}{p pos:Pos}{e:Expr}{es:List Expr}{t:WA}(F:aW X.prog X.w X.K X.mg X.base dO k f fd ps (sp3 X.K R))(hr:lA k X.A)(hm:X.mg x=some (.ref f))(hk:W.keepIn X.K (.ref f)=true)(hb:Binds X.K fd ps [])
  (ha:zJ X (e::es) t) (hg:Gl X x:=by rfl) (hdb:(x == ("__debug__" : Str))=false:=by decide) (he:starEach (e::es) X.env=(false,eval e X.env)::starEach es X.env:=by rfl) (hpl:(backTo pos (starEach es X.env)).any (·.1)=false:=by rfl) :
  cU X (.Call (.Name x p) (e::es) [] pos) (OT R t):=imp (DO F hr hg hm hk hb .nil aEg ha hdb he hpl) λU H Q aJn=>by
 obtain ⟨S,Z,Q3,fc,sl,ht,k⟩:=aJn;refine ⟨S,Z,_,fc,sl,ht,λvs H1 ds s1 d1 q1=>?_⟩;show sp3 X.K R (vs++[]) H1 Q E0;rw [append_nil];exact ⟨S,ds,Q3,bP fc s1,d1,q1,λv H' d s' d' q'=>k v H' d (s1.trans s') d' q'⟩
end
structure DE where
 nx:aP->Prop
 rt:D->Prop
 bk:aP->Prop:=λ_=>False
 ct:aP->Prop:=λ_=>False
 ex:Str->Prop:=λ_=>False
abbrev WS:=DE->aP->Prop
structure D1 (X:Cx) (pins:List (Addr×Obj)) (H:Hp) (s:Shared) (e:Addr) (cls a0:Value) (P:List Addr):Prop where
 mem:e∈P
 free:∀ q∈P,H q=none
 new:∀ q∈P,X.s₀.heap.get? q=none
 fld:∀ q∈P,∃ o vs,s.heap.get? q=some o/\o.data=.fields vs
 pin:∀ q∈P,∀ p∈X.pn++pins,p.1≠q
 tr:(∃ oe vs,s.heap.get? e=some oe/\oe.cls=cls/\oe.data=.fields vs/\vs[1]? = some .none/\vs[0]? = some a0) \/
  (∃ oe vs T oT ts,s.heap.get? e=some oe/\(oe.cls=cls/\vs[0]? = some a0)/\oe.data=.fields vs/\vs[1]? = some (.ref T)/\T∈P/\T≠e/\s.heap.get? T=some oT/\oT.data=.fields ts/\ts[3]? = some .none)
def XC(X:Cx)(c:Str)(H:Hp):Prop:=∃ C:Addr,X.mg c=some (.ref C) /\ ∀ (pins:List (Addr×Obj)) (U:L2.St) (s:Shared) (e:Addr) (a0:Value) (P:List Addr),Inv X pins U H s->D1 X pins H s e (.ref C) a0 P->X.xe (.ref e) s
structure aC0 (K:W.Frag) (xc:Str->Hp->Prop) (n:Nat) (H₀:Hp) (S:Addr->Prop) (G:List (D×V)) (E:DE) (B:Ends):Prop where
 nx:∀ w U H Z,U.length=n->ST K H₀ S w U H Z G->E.nx Z->B.nx U H
 rt:∀ v H d,Same H₀ H->Dn K S H d v->E.rt d->B.rt v H
 bk:∀ w U H Z,U.length=n->ST K H₀ S w U H Z G->E.bk Z->B.bk U H
 ct:∀ w U H Z,U.length=n->ST K H₀ S w U H Z G->E.ct Z->B.ct U H
 ex:∀ c H,Same H₀ H->E.ex c->xc c H
def aAf(K:W.Frag)(xc:Str->Hp->Prop)(n:Nat)(t:WS):TS:=λB U H=>∃ (H₀:Hp) (S:Addr->Prop) (w:Nat->Addr) (Z:aP) (G:List (D×V)) (E:DE),U.length=n/\ST K H₀ S w U H Z G/\t E Z/\aC0 K xc n H₀ S G E B
def EM(X:Cx)(st:Stmt)(t:WS):Prop:=PS X st (aAf X.K (XC X) X.N.length t)
def vG(X:Cx)(st:List Stmt)(t:WS):Prop:=HM X st (aAf X.K (XC X) X.N.length t)
section
variable{X:Cx}
theorem j3{e:Stmt}{t t':TS}(h:PS X e t)(f:∀ B U H,t' B U H->t B U H):PS X e t':=λpins s U H B I q=>h pins s U H B I (f B U H q)
theorem MQ{e:List Stmt}{t t':TS}(h:HM X e t)(f:∀ B U H,t' B U H->t B U H):HM X e t':=λpins s U H B I q=>h pins s U H B I (f B U H q)
def aFB:WS:=λE Z=>E.nx Z
def aC1(t u:WS):WS:=λE Z=>t { E with nx:=u E } Z
theorem aJo:vG X [] aFB:=MQ YS λB U H aJp=>by obtain ⟨H₀,S,w,Z,G,E,hl,st,ht,ok⟩:=aJp; exact ok.nx w U H Z hl st ht
theorem aJq{st:Stmt}{rest:List Stmt}{t u:WS}(h1:EM X st t)(h2:vG X rest u):vG X (st::rest) (aC1 t u):=MQ (TK h1 h2) λB U H aJr=>by obtain ⟨H₀,S,w,Z,G,E,hl,sT,ht,ok⟩:=aJr;exact ⟨H₀,S,w,Z,G,{ E with nx:=u E },hl,sT,ht,⟨λw' σ' H' ρ' hl' st' q=>⟨H₀,S,w',ρ',G,E,hl',st',q,ok⟩,ok.rt,ok.bk,ok.ct,ok.ex⟩⟩
theorem aFC{st:Stmt}{t:WS}(h1:EM X st t):vG X [st] t:=MQ (YT h1) λ_ _ _ h=>h
def aJs(t:WE):WS:=λE Z=>t (bT Z) E.rt
theorem aJt{e:Expr}{t:WE}{pos:Pos}(h:cU X e t):EM X (.Return (some e) pos) (aJs t):=j3 (TL h) λB U H aJu=>by obtain ⟨H₀,S,w,Z,G,E,hl,st,ht,ok⟩:=aJu;exact ⟨S,bT Z,E.rt,st.OQ,st.all,ht,λv H' d s' d' q'=>ok.rt v H' d (st.sm.trans s') d' q'⟩
def aJv(c:WT)(t u:WS):WS:=λE Z=>c (bT Z) λb=>if b=true then t E Z else u E Z
theorem aJw{c:Expr}{a b:List Stmt}{pos:Pos}{tc:WT}{t u:WS}(hc:vY X c tc)(ha:vG X a t)(hb:vG X b u):EM X (.If c a b pos) (aJv tc t u):=j3 (aET hc ha hb) λB U H aJx=>by
 obtain ⟨H₀,S,w,Z,G,E,hl,st,ht,ok⟩:=aJx;refine ⟨S,bT Z,_,st.OQ,st.all,ht,λd H1 s1 q1=>?_⟩
 cases d with
 | true=>rw [if_pos rfl] at q1 ⊢; exact ⟨H₀,S,w,Z,G,E,hl,st.same s1,q1,ok⟩
 | false=>rw [if_neg Bool.false_ne_true] at q1 ⊢; exact ⟨H₀,S,w,Z,G,E,hl,st.same s1,q1,ok⟩
def aJy(i:Nat)(t:WE):WS:=λE Z=>t (kD Z) λd=>E.nx (Z.set i (.ro d))
def aC2(i:Nat)(t:WE):WS:=λE Z=>t (kD Z) λd=>E.nx (Z.set i (.ow d))
section
variable{i:Nat}{x:Str}{e:Expr}{t:WE}{pos pos':Pos}
theorem iO{N:List Str}{i:Nat}{x:Str}(h:N[i]? = some x):i<N.length:=(List.getElem?_eq_some_iff.mp h).1
theorem aJz(hN:X.N.Nodup)(he:cU X e t)(hi:X.N[i]? = some x:=by rfl)(hx:Loc X.env.scope x:=by first | exact .inl rfl | exact .inr rfl)(hs:swapsWith e (some (.Name x pos')) pos.line X.env=pure false:=by rfl)(hf:X.fn x=true\/X.env.scope.names.lookup x=some .local:=by first | exact .inl rfl | exact .inr rfl) :
  EM X (.Assign [.Name x pos'] e pos) (aJy i t):=j3 (oG hN hi hx he hs hf) λB U H aKA=>by
 obtain ⟨H₀,S,w,Z,G,E,hl,st,ht,ok⟩:=aKA;exact ⟨_,kD Z,_,st.UM,st.rd,ht,λv H' d s' d' q'=>ok.nx w _ H' _ (by rw [length_set]; exact hl) ((st.same s').nF (by rw [hl]; exact iO hi) d') q'⟩
theorem aKB(hN:X.N.Nodup)(he:HN X e t)(hi:X.N[i]? = some x:=by rfl)(hx:Loc X.env.scope x:=by first | exact .inl rfl | exact .inr rfl)(hs:swapsWith e (some (.Name x pos')) pos.line X.env=pure false:=by rfl)(hf:X.fn x=true\/X.env.scope.names.lookup x=some .local:=by first | exact .inl rfl | exact .inr rfl) :
  EM X (.Assign [.Name x pos'] e pos) (aC2 i t):=j3 (oG hN hi hx he hs hf) λB U H aKC=>by
 obtain ⟨H₀,S,w,Z,G,E,hl,st,ht,ok⟩:=aKC;exact ⟨_,kD Z,_,st.UM,st.rd,ht,λp xs H' ds hp hp' s' d' q'=>ok.nx _ _ H' _ (by rw [length_set]; exact hl) (st.xO (d:=.lst ds) (by rw [hl]; exact iO hi) s' hp ⟨xs,hp',d'⟩) q'⟩
end
def lO(N:List Str)(ds:List D):aP:=ds.map Sv.ro++List.replicate (N.length - ds.length) Sv.no
theorem GB{H:Hp}{S:Addr->Prop}{N:List Str}{ds:List D}{vs:List V}(fc:∀ a,H a=none->S a)(h:bC K S H ds vs):ST K H S (λ_=>0) (L2.start N vs) H (lO N ds) []:=by
 have no:∀ (i:Nat) (d:D),(lO N ds)[i]?≠some (Sv.ow d):=λi d e=>by
  unfold lO at e;by_cases hi:i<ds.length
  .rw [getElem?_append_left (by simpa using hi),getElem?_map] at e
   cases q:ds[i]? with
   | none=>rw [q] at e; cases e
   | some a=>rw [q] at e; cases e
  .rw [getElem?_append_right (by simpa using hi),getElem?_replicate] at e;split at e<;>cases e
 have so:∀ a,S a->SO S (λ_=>0) (lO N ds) a:=λa s=>⟨s,λi d e=>absurd e (no i d)⟩;refine ⟨fc,Same.refl H,λi d e=>absurd e (no i d),λi j d e h1=>absurd h1 (no i d),λi d e=>?_,λg hg=>nomatch hg⟩;unfold lO at e;by_cases hi:i<ds.length
 .rw [getElem?_append_left (by simpa using hi),getElem?_map] at e
  cases q:ds[i]? with
  | none=>rw [q] at e; cases e
  | some a =>
   rw [q] at e;cases e;obtain ⟨v,e1,dv⟩:=h.get q;refine ⟨v,?_,Dn.fits (.mono so) _ _ dv⟩;unfold L2.start;have hv:i<vs.length:=(List.getElem?_eq_some_iff.mp e1).1;rw [getElem?_append_left (by simpa using hv),getElem?_map,e1];rfl
 .rw [getElem?_append_right (by simpa using hi),getElem?_replicate] at e;split at e<;>cases e
theorem aKD{P:Program}{w:World}{K:W.Frag}{mg:Q0Z}{base:Heap}{x qual:Str}{st:Stmt}{f:Addr}{fd:FuncData}{N ps:List Str}{k:Nat}{R:Spec}(F:nU K x qual st f fd)(S:bH N ps (aI st))(len:∀ ds Q,R ds Q->ds.length=ps.length)
  (hbody:∀ (cdv:Value) (A:Around) (outer:List Env) (s:Shared) (H:Hp) (E:XK),lA k (A.deeper (envOfC qual (aI st) s.heap.objs.size f cdv)) ->
   ∃ t:WS,vG (t6 dO P w K mg base N qual (aI st) f cdv A outer s H E).nox (bE st) t /\ ∀ ds Q,R ds Q->t { nx:=λ_=>Q .non,rt:=Q } (lO N ds)):aW P w K mg base dO (k+1) f fd ps (sp3 K R):=by
 refine F.ok S (λvs H Q E h=>?_) λcdv A outer s H vs Q E hr h=>?_
 .obtain ⟨S',ds,Q3,fc,dn,r,_⟩:=h;rw [<- dn.len];exact len ds Q3 r
 .obtain ⟨t,ht,hq⟩:=hbody cdv A outer s H E hr;obtain ⟨S',ds,Q3,fc,dn,r,kk⟩:=h;refine ⟨_,ht,H,S',λ_=>0,lO N ds,[],{ nx:=λ_=>Q3 .non,rt:=Q3 },?_,GB fc dn,hq ds Q3 r,⟨λw' σ' H' ρ' _ st' q=>?_,λv H' d s' d' q=>kk v H' d s' d' q,λ_ _ _ _ _ _ q=>q,λ_ _ _ _ _ _ q=>q,λ_ _ _ q=>q.elim⟩⟩
  .have hl:=len ds Q3 r;have hl2:=dn.len;have hp:ps.length<=N.length:=by have:=congrArg List.length S.pre; rw [length_take] at this; omega
   unfold L2.start;show _=N.length;rw [List.length_append,length_map,length_replicate];omega
  .exact kk .non H' .non st'.sm (by simp only [Dn]) q
end
abbrev WX:=aP->(aP->D->Prop)->Prop
def UX(K:W.Frag)(n:Nat)(t:WX):TE:=λU H Q=>∃ (H₀:Hp) (S:Addr->Prop) (w:Nat->Addr) (Z:aP) (G:List (D×V)) (Q3:aP->D->Prop),U.length=n/\ST K H₀ S w U H Z G/\t Z Q3 /\
 ∀ w' v H' ρ' d,ST K H₀ S w' U H' ρ' G->Dn K (SO S w' ρ') H' d v->Q3 ρ' d->Q v H'
def GC(X:Cx)(e:Expr)(t:WX):Prop:=PE X e (UX X.K X.N.length t)
def aFD(t:WE):WX:=λZ Q=>t (bT Z) λd=>d.vN=true/\Q Z d
def aC3(t:WE):WX:=λZ Q=>t (kD Z) λd=>Q Z d
section
variable{X:Cx}
theorem px3{e:Expr}{t:WE}(h:cU X e t):GC X e (aFD t):=imp h λU H Q aKE=>by obtain ⟨H₀,S,w,Z,G,Q3,hl,st,ht,k⟩:=aKE;exact ⟨S,bT Z,_,st.OQ,st.all,ht,λv H' d s' d' q'=>k w v H' Z d (st.same s') (Dn.vN q'.1 d') q'.2⟩
theorem aKF{e:Expr}{t:WE}(h:cU X e t):GC X e (aC3 t):=imp h λU H Q aKG=>by obtain ⟨H₀,S,w,Z,G,Q3,hl,st,ht,k⟩:=aKG;exact ⟨_,kD Z,_,st.UM,st.rd,ht,λv H' d s' d' q'=>k w v H' Z d (st.same s') d' q'⟩
def aFE(i:Nat)(t:WX):WS:=λE Z=>t Z λρ' d=>E.nx (ρ'.set i (.ro d))
theorem aFF{i:Nat}{x:Str}{e:Expr}{t:WX}{pos pos':Pos}(hN:X.N.Nodup)(he:GC X e t)(hi:X.N[i]? = some x:=by rfl)(hx:Loc X.env.scope x:=by first | exact .inl rfl | exact .inr rfl)(hs:swapsWith e (some (.Name x pos')) pos.line X.env=pure false:=by rfl)(hf:X.fn x=true\/X.env.scope.names.lookup x=some .local:=by first | exact .inl rfl | exact .inr rfl) :
  EM X (.Assign [.Name x pos'] e pos) (aFE i t):=j3 (oG hN hi hx he hs hf) λB U H aKH=>by
 obtain ⟨H₀,S,w,Z,G,E,hl,st,ht,ok⟩:=aKH;exact ⟨H₀,S,w,Z,G,_,hl,st,ht,λw' v H' ρ' d st' d' q'=>ok.nx w' _ H' _ (by rw [length_set]; exact hl) (st'.nF (by rw [hl]; exact iO hi) d') q'⟩
def aFG(t:WX):WS:=λE Z=>t Z λρ' _=>E.nx ρ'
theorem aFH{e:Expr}{t:WX}{pos:Pos}(he:GC X e t)(hs:swapsWith e none pos.line X.env=pure false:=by rfl):EM X (.Expr e pos) (aFG t):=j3 (L1 he hs) λB U H aKI=>by obtain ⟨H₀,S,w,Z,G,E,hl,st,ht,ok⟩:=aKI;exact ⟨H₀,S,w,Z,G,_,hl,st,ht,λw' v H' ρ' d st' d' q'=>ok.nx w' _ H' _ hl st' q'⟩
def wM1(i:Nat)(f:List D->D->(List D->D->Prop)->Prop)(t:WX):WX:=λZ Q=>(match Z[i]? with | some (.ow (.lst _))=>True | _=>False)/\t Z λρ' d=>match ρ'[i]? with
 | some (.ow (.lst ds))=>f ds d λds' r=>Q (ρ'.set i (.ow (.lst ds'))) r
 | _=>False
def M3(K:W.Frag)(r:V->List V->Hp->VK->Prop)(f:List D->D->(List D->D->Prop)->Prop):Prop:=∀ (S:Addr->Prop) (H:Hp) (p:Addr) (xs:List V) (ds:List D) (y:V) (d:D) (Q3:List D->D->Prop) (Q:VK),
 H p=some (.lst xs)->bC K S H ds xs->Dn K S H d y->f ds d Q3->(∀ ys ds' v d',bC K S H ds' ys->Dn K S H d' v->Q3 ds' d'->Q v (upd H p (.lst ys)))->r (.ref p) [y] H Q
theorem ZP{K:W.Frag}{n i:Nat}{r:V->List V->Hp->VK->Prop}{f:List D->D->(List D->D->Prop)->Prop}{t:WX}{U:L2.St}{H:Hp}{Q:VK}(h3:M3 K r f)(h:UX K n (wM1 i f t) U H Q) :
  tBM K "list" r (aBh i) (aA7 (UX K n t) aE5) U H Q:=by
 obtain ⟨H₀,S,w,Z,G,Q3,hl,st,⟨h0,ht⟩,k⟩:=h;split at h0
 .rename_i ds e;obtain ⟨a,b,c⟩:=st.own i _ e;obtain ⟨xs,hp,dn⟩:=c;refine ⟨_,a,.inl ⟨rfl,xs,gH.of hp⟩,H₀,S,w,Z,G,_,hl,st,ht,λw' v H' ρ' d st' d' q'=>?_⟩;split at q'
  .rename_i ds' e';obtain ⟨a',b',c'⟩:=st'.own i _ e';obtain ⟨xs',hp',dn'⟩:=c';have ew:w i=w' i:=by have z:=a.symm.trans a';have z1:=Option.some.inj (Option.some.inj z);injection z1
   rw [ew];refine h3 _ H' (w' i) xs' ds' v d _ Q hp' dn' d' q' λys ds2 v2 d2 Q2 dv2 q2=>?_;have nS:¬ SO S w' ρ' (w' i):=λ⟨_,z⟩=>z i _ e' rfl;have F:Fits K (SO S w' ρ') (SO S w' ρ') H' (upd H' (w' i) (.lst ys)):=.upd (.inl ⟨_,hp'⟩) nS;have so:∀ a,SO S w' ρ' a->SO S w' (ρ'.set i (.ow (.lst ds2))) a:=SO.mono λj f hf=>by
    rcases get_set hf with ⟨hj,_,_⟩ | ⟨_,z⟩
    .subst hj; exact ⟨_,e'⟩
    .exact ⟨_,z⟩
   exact k w' v2 _ _ d2 (st'.write (d':=.lst ds2) e' ⟨ys,bD,bC.fits F _ _ Q2⟩) (Dn.fits (F.trans (.mono so)) _ _ dv2) q2
  .exact q'.elim
 .exact h0.elim
theorem m1{i:Nat}{x:Str}{id:String}{name:Str}{e:Expr}{p apos cpos:Pos}{r:V->List V->Hp->VK->Prop}{f:List D->D->(List D->D->Prop)->Prop}{t:WX}(slot:Slot "list" name id)(hty:typeOf (.builtin id)=pure (.type "method_descriptor"))(hm:MtR X id r)(h3:M3 X.K r f)(he:GC X e t)
  (hN:X.N[i]? = some x:=by rfl) (hv:EL X.env.scope x:=by first | exact Or.inl rfl | exact Or.inr (Or.inl rfl) | exact Or.inr (Or.inr rfl)) (hd:(x == ("__debug__" : Str))=false:=by decide) (hcd:(x == ("__classdict__" : Str))=false:=by decide)
  (hbase:attributeBase (.Name x p) name X.env (eval (.Name x p) X.env)=eval (.Name x p) X.env:=by rfl)
  (hfew:((backTo cpos (starEach [e] X.env)).all (λx=>!x.1)&&(backToKw cpos (keywordEach [] X.env)).all (λx=>x.1.isSome)
   && decide ([e].length+([]:List Keyword).length+(if ([]:List Keyword).isEmpty then 0 else 1)<30))=true:=by rfl)
  (hline:(apos.endLine == cpos.line)=true:=by rfl) (hs:starEach [e] X.env=(false,eval e X.env)::starEach [] X.env:=by rfl) :
  GC X (.Call (.Attribute (.Name x p) name apos) [e] [] cpos) (wM1 i f t) :=
 imp (aEd PySem.F.plainAttrs_list slot hty hm (t5 hN hv hd hcd) (nE he xM hs) hbase hfew hline hs (by rfl)) λ_ _ _ h=>ZP h3 h
def aC4:List D->D->(List D->D->Prop)->Prop:=λds d Q=>ds.length<sizeLine/\Q (ds++[d]) .non
theorem aC5:M3 K MJ aC4:=by intro S H p xs ds y d Q3 Q hp dn dy hf k;exact ⟨p,xs,y,rfl,rfl,hp,by rw [<- dn.len]; exact hf.1,k _ _ _ _ (dn.append (bC.one dy)) (by simp only [Dn]) hf.2⟩
def aC6:List D->D->(List D->D->Prop)->Prop
 | ds,.int k,Q=>(-(2 ^ 63)<=k/\k<2 ^ 63)/\(match Y6 ds.length k with | some j=>(match ds[j]? with | some d=>Q (ds.eraseIdx j) d | none=>False) | none=>False)
 | _,_,_=>False
theorem aC7:M3 K UA aC6:=by
 intro S H p xs ds y d Q3 Q hp dn dy hf k
 cases d with
 | int i =>
  simp only [Dn] at dy;subst dy;obtain ⟨⟨h1,h2⟩,hf⟩:=hf;split at hf
  .rename_i j ej;split at hf
   .rename_i dd ed;obtain ⟨v,ev,dv⟩:=dn.get ed;obtain ⟨g1,_⟩:=MH ej;exact ⟨p,xs,i,j,v,rfl,rfl,hp,h1,h2,by rw [<- dn.len]; exact g1,ev,k _ _ _ _ (dn.erase j) dv hf⟩
   .exact hf.elim
  .exact hf.elim
 | _=>exact hf.elim
section
variable{i:Nat}{x:Str}{e:Expr}{p apos cpos:Pos}{t:WX}
theorem aKK(he:GC X e t)(hN:X.N[i]? = some x:=by rfl)(hv:EL X.env.scope x:=by first | exact Or.inl rfl | exact Or.inr (Or.inl rfl) | exact Or.inr (Or.inr rfl))(hd:(x == ("__debug__" : Str))=false:=by decide)(hcd:(x == ("__classdict__" : Str))=false:=by decide)
  (hbase:attributeBase (.Name x p) "append" X.env (eval (.Name x p) X.env)=eval (.Name x p) X.env:=by rfl)
  (hfew:((backTo cpos (starEach [e] X.env)).all (λx=>!x.1)&&(backToKw cpos (keywordEach [] X.env)).all (λx=>x.1.isSome)
   && decide ([e].length+([]:List Keyword).length+(if ([]:List Keyword).isEmpty then 0 else 1)<30))=true:=by rfl)
  (hline:(apos.endLine == cpos.line)=true:=by rfl) (hs:starEach [e] X.env=(false,eval e X.env)::starEach [] X.env:=by rfl) :
  GC X (.Call (.Attribute (.Name x p) "append" apos) [e] [] cpos) (wM1 i aC4 t):=m1 PySem.F.slot_list_append PySem.F.type_list_append BO aC5 he hN hv hd hcd hbase hfew hline hs
theorem aKL(he:GC X e t)(hN:X.N[i]? = some x:=by rfl)(hv:EL X.env.scope x:=by first | exact Or.inl rfl | exact Or.inr (Or.inl rfl) | exact Or.inr (Or.inr rfl))(hd:(x == ("__debug__" : Str))=false:=by decide)(hcd:(x == ("__classdict__" : Str))=false:=by decide)
  (hbase:attributeBase (.Name x p) "pop" X.env (eval (.Name x p) X.env)=eval (.Name x p) X.env:=by rfl)
  (hfew:((backTo cpos (starEach [e] X.env)).all (λx=>!x.1)&&(backToKw cpos (keywordEach [] X.env)).all (λx=>x.1.isSome)
   && decide ([e].length+([]:List Keyword).length+(if ([]:List Keyword).isEmpty then 0 else 1)<30))=true:=by rfl)
  (hline:(apos.endLine == cpos.line)=true:=by rfl) (hs:starEach [e] X.env=(false,eval e X.env)::starEach [] X.env:=by rfl) :
  GC X (.Call (.Attribute (.Name x p) "pop" apos) [e] [] cpos) (wM1 i aC6 t):=m1 PySem.F.slot_list_pop PySem.F.type_list_pop UB aC7 he hN hv hd hcd hbase hfew hline hs
end
end
structure Wlk (K:W.Frag) (J:It) (ds:List D) (G:List (D×V)):Prop where
 go:∀ (S:Addr->Prop) (H:Hp),(∀ a,H a=none->S a)->(∀ g∈G,Dn K S H g.1 g.2) -> ∀ (i:Nat) (d:D),ds[i]? = some d->J.go i H /\ ∀ x H',J.yld i H x H'->Same H H'/\Dn K S H' d x
 stop:∀ (S:Addr->Prop) (H:Hp),(∀ g∈G,Dn K S H g.1 g.2) -> ∀ i:Nat,ds.length=i->J.stop i H
abbrev WI:=bR->(List D->Prop)->Prop
def aAg(K:W.Frag)(t:WI):TI:=λU H R=>∃ (S:Addr->Prop) (Z:bR) (Q3:List D->Prop),(∀ a,H a=none->S a)/\Sl K S H Z U/\t Z Q3 /\
 ∀ J H' ds G,Same H H'->(∀ g∈G,Dn K S H' g.1 g.2)->Wlk K J ds G->Q3 ds->R J H'
def UY(X:Cx)(tg iter:Expr)(t:WI):Prop:=PI X tg iter (aAg X.K t)
section
variable{X:Cx}{tg:Expr}
theorem OU{e:Expr}{t t':TI}(h:PI X tg e t)(f:∀ U H R,t' U H R->t U H R):PI X tg e t':=λpins s U H R I q=>h pins s U H R I (f U H R q)
def aFI(t:WE):WI:=λZ Q=>t Z λd=>match d with
 | .lst ds=>Q ds
 | .tup ds=>Q ds
 | _=>False
theorem UZ{K:W.Frag}{a:Addr}{ds:List D}:Wlk K (Itl K a) ds [(.lst ds,.ref a)] where
 go:=λS H fc hg i d e=>by have h:=hg _ (List.mem_singleton.mpr rfl);simp only [Dn] at h;obtain ⟨b,xs,eb,hb,sb,dn⟩:=h;injection eb with eb;subst eb;obtain ⟨v,ev,dv⟩:=dn.get e;refine ⟨⟨xs,v,gH.of hb,ev⟩,λx H' y=>?_⟩;obtain ⟨e1,y⟩:=y;subst e1;have ex:=y xs (gH.of hb);rw [ev] at ex;cases ex;exact ⟨Same.refl _,dv⟩
 stop:=λS H hg i hi=>by have h:=hg _ (List.mem_singleton.mpr rfl);simp only [Dn] at h;obtain ⟨b,xs,eb,hb,sb,dn⟩:=h;injection eb with eb;subst eb;exact ⟨xs,gH.of hb,by rw [<- dn.len]; exact Nat.le_of_eq hi⟩
theorem ZQ{K:W.Frag}{a:Addr}{ds:List D}:Wlk K (Itt K a) ds [(.tup ds,.ref a)] where
 go:=λS H fc hg i d e=>by have h:=hg _ (List.mem_singleton.mpr rfl);simp only [Dn] at h;obtain ⟨b,xs,eb,hb,dn⟩:=h;injection eb with eb;subst eb;obtain ⟨v,ev,dv⟩:=dn.get e;refine ⟨⟨xs,v,(gA.of hb),ev⟩,λx H' y=>?_⟩;obtain ⟨e1,y⟩:=y;subst e1;have ex:=y xs (gA.of hb);rw [ev] at ex;cases ex;exact ⟨Same.refl _,dv⟩
 stop:=λS H hg i hi=>by have h:=hg _ (List.mem_singleton.mpr rfl);simp only [Dn] at h;obtain ⟨b,xs,eb,hb,dn⟩:=h;injection eb with eb;subst eb;exact ⟨xs,(gA.of hb),by rw [<- dn.len]; exact Nat.le_of_eq hi⟩
theorem aC9{l:Expr}{tl:TE}(hl:PE X l tl):PI X tg l (λU H R=>tl U H λx H1=>∃ a,x=.ref a/\(((∃ xs,gH X.K H1 a xs)/\R (Itl X.K a) H1)\/((∃ xs,gA X.K H1 a xs)/\R (Itt X.K a) H1))):=by
 intro pins s U H R I h;refine dN (hl pins s U H _ I h) λv s1 aKM=>?_;obtain ⟨x,H1,I1,r1,q1⟩:=aKM;obtain ⟨a,e,q⟩:=q1;subst e;cases r1;rcases q with ⟨⟨xs,hq⟩,q⟩ | ⟨⟨xs,hq⟩,q⟩
 .obtain ⟨its,rv,p,hz⟩:=I1.list hq;refine wpAny_pyIter_list p.isList ?_;refine ⟨s1.heap.objs.size,[s1.heap.objs.size],_,_,H1,rfl,I1.kept (t':=s1.toks) λb o e=>get?_push_of_some _ e,N9 a _,⟨_,get?_push_size _ rfl,rfl,rfl⟩,λb hb=>?_,q⟩;have e:b=s1.heap.objs.size:=by simpa using hb
  subst e;exact I1.IV (le_refl _) (I1.hok.fresh (le_refl _))
 .obtain ⟨its,rv,p,hz⟩:=I1.tuple hq;refine wpAny_pyIter_tuple (show s1.heap.IsTuple a its.toArray from p) ?_;refine ⟨s1.heap.objs.size,[s1.heap.objs.size],_,_,H1,rfl,I1.kept (t':=s1.toks) λb o e=>get?_push_of_some _ e,IW a _,⟨_,get?_push_size _ rfl,rfl,rfl⟩,λb hb=>?_,q⟩;have e:b=s1.heap.objs.size:=by simpa using hb
  subst e;exact I1.IV (le_refl _) (I1.hok.fresh (le_refl _))
theorem aFJ{l:Expr}{t:WE}(h:cU X l t):UY X tg l (aFI t):=OU (aC9 h) λU H R aKN=>by
 obtain ⟨S,Z,Q3,fc,sl,ht,k⟩:=aKN;refine ⟨S,Z,_,fc,sl,ht,λv H1 d s1 d1 q1=>?_⟩
 cases d with
 | lst ds =>
  have d1':=d1;simp only [Dn] at d1;obtain ⟨a,xs,rfl,ha,sa,da⟩:=d1;exact ⟨a,rfl,.inl ⟨⟨xs,gH.of ha⟩,k _ H1 ds [(.lst ds,.ref a)] s1 (λg hg=>by cases List.mem_singleton.mp hg; exact d1') UZ q1⟩⟩
 | tup ds =>
  have d1':=d1;simp only [Dn] at d1;obtain ⟨a,xs,rfl,ha,da⟩:=d1;exact ⟨a,rfl,.inr ⟨⟨xs,(gA.of ha)⟩,k _ H1 ds [(.tup ds,.ref a)] s1 (λg hg=>by cases List.mem_singleton.mp hg; exact d1') ZQ q1⟩⟩
 | _=>exact q1.elim
def t8(lo:Int)(n:Nat):List Int:=(List.range n).map λk:Nat=>lo+(k:Int)
theorem uT(lo:Int)(n:Nat):(t8 lo n).length=n:=by simp [t8]
theorem U0{lo:Int}{n i:Nat}:(t8 lo n)[i]? = if i<n then some (lo+(i:Int)) else none:=by
 unfold t8;rw [getElem?_map];by_cases h:i<n
 .rw [if_pos h,List.getElem?_range h]; rfl
 .rw [if_neg h,getElem?_eq_none (by simpa using h)]; rfl
theorem BV{K:W.Frag}{lo:Int}{n:Nat}:Wlk K (Itr lo n) ((t8 lo n).map D.int) [] where
 go:=λS H fc hg i d e=>by
  rw [getElem?_map,U0] at e;by_cases h:i<n
  .rw [if_pos h] at e;cases e;refine ⟨h,λx H' y=>?_⟩;obtain ⟨e1,e2⟩:=y;subst e1;exact ⟨Same.refl _,by simp only [Dn]; exact e2⟩
  .rw [if_neg h] at e; cases e
 stop:=λS H hg i hi=>by rw [length_map,uT] at hi; exact Nat.le_of_eq hi
def aCa(t:WA):WI:=λZ Q=>t Z λds=>match ds with
 | [.int j]=>(-(2 ^ 62)<=j/\j<2 ^ 62)/\Q ((t8 0 j.toNat).map D.int)
 | _=>False
def ZR(t:WA):WI:=λZ Q=>t Z λds=>match ds with
 | [.int i,.int j]=>(-(2 ^ 62)<=i/\i<2 ^ 62 /\ -(2 ^ 62)<=j/\j<2 ^ 62)/\Q ((t8 i (j - i).toNat).map D.int)
 | _=>False
theorem aCb{a:Expr}{t:WA}{p pos:Pos}(hm:X.mg "range" = none)(ha:zJ X [a] t)(hg:Gl X "range" := by rfl)(hs:starEach [a] X.env=[(false,eval a X.env)]:=by rfl):UY X tg (.Call (.Name "range" p) [a] [] pos) (aCa t) :=
 OU (OA hg hm ha hs) λU H R aKO=>by
  obtain ⟨S,Z,Q3,fc,sl,ht,k⟩:=aKO;refine ⟨S,Z,_,fc,sl,ht,λvs H1 ds s1 d1 q1=>?_⟩;split at q1
  .rename_i j;obtain ⟨v,r,rfl,h1,h2⟩:=d1.bV;simp only [bC] at h2;subst h2;simp only [Dn] at h1;subst h1;exact ⟨j,rfl,q1.1.1,q1.1.2,k _ H1 _ [] s1 (λg hg=>nomatch hg) BV q1.2⟩
  .exact q1.elim
theorem ZS{a b:Expr}{t:WA}{p pos:Pos}(hm:X.mg "range" = none)(ha:zJ X [a,b] t)(hg:Gl X "range" := by rfl)(hs:starEach [a,b] X.env=[(false,eval a X.env),(false,eval b X.env)]:=by rfl)(hs2:starEach [b] X.env=[(false,eval b X.env)]:=by rfl):UY X tg (.Call (.Name "range" p) [a,b] [] pos) (ZR t) :=
 OU (OB hg hm ha hs hs2) λU H R aKP=>by
  obtain ⟨S,Z,Q3,fc,sl,ht,k⟩:=aKP;refine ⟨S,Z,_,fc,sl,ht,λvs H1 ds s1 d1 q1=>?_⟩;split at q1
  .rename_i i j;obtain ⟨v,r,rfl,h1,h2⟩:=d1.bV;obtain ⟨v2,r2,rfl,h3,h4⟩:=h2.bV;simp only [bC] at h4;subst h4;simp only [Dn] at h1 h3;subst h1 h3;exact ⟨i,j,rfl,q1.1,k _ H1 _ [] s1 (λg hg=>nomatch hg) BV q1.2⟩
  .exact q1.elim
abbrev WG:=D->aP->(aP->Prop)->Prop
def aFK(K:W.Frag)(n:Nat)(g:WG):TG:=λv U H Q=>∃ (H₀:Hp) (S:Addr->Prop) (w:Nat->Addr) (Z:aP) (G:List (D×V)) (d:D) (Q3:aP->Prop),U.length=n/\ST K H₀ S w U H Z G/\Dn K (SO S w Z) H d v/\g d Z Q3 /\
 ∀ σ' H' ρ',σ'.length=n->ST K H₀ S w σ' H' ρ' G->Q3 ρ'->Q σ' H'
def ZT(X:Cx)(tg:Expr)(g:WG):Prop:=PG X tg (aFK X.K X.N.length g)
theorem OV{e:Expr}{t t':TG}(h:PG X e t)(f:∀ v U H Q,t' v U H Q->t v U H Q):PG X e t':=λpins s U H v u Q I r q=>h pins s U H v u Q I r (f v U H Q q)
def gN(i:Nat):WG:=λd Z Q=>Q (Z.set i (.ro d))
theorem aFL{i:Nat}{x:Str}{pos:Pos}(hN:X.N.Nodup)(hi:X.N[i]? = some x:=by rfl)(hx:Loc X.env.scope x:=by first | exact .inl rfl | exact .inr rfl)(hf:X.fn x=true\/X.env.scope.names.lookup x=some .local:=by first | exact .inl rfl | exact .inr rfl):ZT X (.Name x pos) (gN i) :=
 OV (pG hN hi hx hf) λv U H Q aKQ=>by obtain ⟨H₀,S,w,Z,G,d,Q3,hl,st,dn,hg,k⟩:=aKQ; exact k _ H _ (by rw [length_set]; exact hl) (st.nF (by rw [hl]; exact iO hi) dn) hg
def g2(i j:Nat):WG:=λd Z Q=>match d with
 | .tup [d1,d2]=>Q ((Z.set i (.ro d1)).set j (.ro d2))
 | _=>False
theorem aFM{i j:Nat}{x y:Str}{k:Nat}{pos px py:Pos}(hc:X.calm=true)(hN:X.N.Nodup)(hi:X.N[i]? = some x:=by rfl)(hj:X.N[j]? = some y:=by rfl)(hx:Loc X.env.scope x:=by first | exact .inl rfl | exact .inr rfl)(hy:Loc X.env.scope y:=by first | exact .inl rfl | exact .inr rfl)
  (hf:X.fn x=true\/X.env.scope.names.lookup x=some .local:=by first | exact .inl rfl | exact .inr rfl) (hf2:X.fn y=true\/X.env.scope.names.lookup y=some .local:=by first | exact .inl rfl | exact .inr rfl)
  (hn:(assignEach [.Name x px,.Name y py] X.env).length=2:=by rfl) (hst:(assignEach [.Name x px,.Name y py] X.env).findIdx? (·.1)=none:=by rfl)
  (hs1:(assignEach [.Name x px,.Name y py] X.env).map (·.2)=assign (.Name x px) X.env::(assignEach [.Name y py] X.env).map (·.2):=by rfl) (hs2:(assignEach [.Name y py] X.env).map (·.2)=assign (.Name y py) X.env::(assignEach [] X.env).map (·.2):=by rfl) :
  ZT X (.Tuple [.Name x px,.Name y py] k pos) (g2 i j) :=
 OV (TQ (n:=2) hc (sE (pG hN hi hx hf) (sE (pG hN hj hy hf2) MA hs2) hs1) hn hst) λv U H Q aKR=>by
  obtain ⟨H₀,S,w,Z,G,d,Q3,hl,st,dn,hg,k⟩:=aKR;unfold g2 at hg;split at hg
  .rename_i d1 d2;simp only [Dn] at dn;obtain ⟨a,xs,rfl,ha,da⟩:=dn;obtain ⟨v1,r1,rfl,h1,h2⟩:=da.bV;obtain ⟨v2,r2,rfl,h3,h4⟩:=h2.bV;simp only [bC] at h4;subst h4;refine ⟨a,_,rfl,(gA.of ha),rfl,v1,[v2],rfl,v2,[],rfl,rfl,?_⟩;have st1:=st.nF (i:=i) (by rw [hl]; exact iO hi) h1;have m:∀ a,SO S w Z a->SO S w (Z.set i (.ro d1)) a:=SO.mono λn f hf=>by
    rcases get_set hf with ⟨_,z,_⟩ | ⟨_,z⟩
    .cases z
    .exact ⟨_,z⟩
   have st2:=st1.nF (i:=j) (d:=d2) (v:=v2) (by rw [length_set,hl]; exact iO hj) (Dn.fits (.mono m) _ _ h3);exact k _ H _ (by rw [length_set,length_set]; exact hl) st2 hg
  .exact hg.elim
def aKS(ti:WI)(g:WG)(tb:WS):WS:=λE Z=>ti (kD Z) λds=>∃ Inv:Nat->aP->Prop,Inv 0 Z /\
 (∀ (i:Nat) (d:D) (ρ':aP),ds[i]? = some d->Inv i ρ'->g d ρ' λρ2=>tb { E with nx:=Inv (i+1),ct:=Inv (i+1),bk:=E.nx } ρ2) /\ ∀ ρ',Inv ds.length ρ'->E.nx ρ'
theorem aKT{iter:Expr}{body:List Stmt}{ti:WI}{g:WG}{tb:WS}{pos:Pos}(hc:X.calm=true)(hp:PassesOwn (model X.prog X.w) X.A X.env X.xe)(hi:UY X tg iter ti)(hg:ZT X tg g)(hb:vG X body tb)
  (hs:∀ x,foldedSetIterable iter X.env x=pure x:=by intro _; rfl):EM X (.For tg iter body [] pos) (aKS ti g tb):=j3 (aBu hp hc hi hg hb hs) λB U H aKU=>by
 obtain ⟨H₀,S,w,Z,G,E,hl,st,ht,ok⟩:=aKU;refine ⟨_,kD Z,_,st.UM,st.rd,ht,λJ H1 ds G1 s1 hg1 wk q1=>?_⟩;obtain ⟨Iv,h0,turn,fin⟩:=q1;have stG:∀ {w U H Z},ST X.K H₀ S w U H Z (G1++G)->ST X.K H₀ S w U H Z G:=λst=>st.ghost λg hg=>st.gh g (mem_append_right _ hg);refine ⟨λi m U H=>m=ds.length - i/\i<=ds.length/\U.length=X.N.length /\ ∃ w Z,ST X.K H₀ S w U H Z (G1++G)/\Iv i Z,
  ⟨_,rfl,Nat.zero_le _,hl,w,Z,(st.same s1).ghost λg hg=>(List.mem_append.mp hg).elim (λz=>hg1 g z) λz=>(st.same s1).gh g z,h0⟩,?_⟩
 rintro i m σ2 H2 ⟨rfl,hi2,hl2,w2,ρ2,st2,iv⟩;by_cases hlt:i<ds.length
 .refine .inr ?_;obtain ⟨g1,g2⟩:=wk.go _ H2 st2.UM (λg hg=>st2.gh g (mem_append_left _ hg)) i ds[i] (by simp [hlt]);refine ⟨g1,λσ' H'=>σ'.length=X.N.length /\ ∃ w Z,ST X.K H₀ S w σ' H' Z (G1++G)/\Iv (i+1) Z,λσ' H' ⟨hl',w',ρ',st',iv'⟩=>⟨ds.length - (i+1),by omega,rfl,hlt,hl',w',ρ',st',iv'⟩,λx H' y=>?_⟩;obtain ⟨s3,dx⟩:=g2 x H' y;refine ⟨H₀,S,w2,ρ2,G1++G,ds[i],_,hl2,st2.same s3,dx,turn i ds[i] ρ2 (by simp [hlt]) iv,λσ4 H4 ρ4 hl4 st4 q4=>?_⟩;exact ⟨H₀,S,w2,ρ4,G1++G,_,hl4,st4,q4,⟨λw' σ' H' ρ' hl' st' q=>⟨hl',w',ρ',st',q⟩,λv H' d s' d' q=>ok.rt v H' d s' d' q,λw' σ' H' ρ' hl' st' q=>ok.nx w' σ' H' ρ' hl' (stG st') q,λw' σ' H' ρ' hl' st' q=>⟨hl',w',ρ',st',q⟩,ok.ex⟩⟩
 .have e:i=ds.length:=by omega
  subst e;exact .inl ⟨wk.stop _ H2 (λg hg=>st2.gh g (mem_append_left _ hg)) _ rfl,ok.nx w2 σ2 H2 ρ2 hl2 (stG st2) (fin ρ2 iv)⟩
end
theorem JJ{scope:Scope}{env:Env}(h:∀ x∈scope.names,x.2=.free -> ∃ c,env.cells.lookup x.1=some c) :
  ∃ cl,closureFor scope env=pure cl/\(∀ x∈scope.names,x.2=.free->cl.lookup x.1=env.cells.lookup x.1) /\ ∀ x c,cl.lookup x=some c->env.cells.lookup x=some c:=by
 have go:∀ (l:List (Str×NameKind)) (acc:List (Str×Addr)),(∀ x∈l,x.2=.free -> ∃ c,env.cells.lookup x.1=some c)->(∀ x c,acc.lookup x=some c->env.cells.lookup x=some c) ->
   ∃ cl,(forIn l acc λ(x:Str×NameKind) (cs:List (Str×Addr))=>(match x with | (name,kind)=>if (kind == NameKind.free)=true then (do let c <- cellOf env name; pure (ForInStep.yield ((name,c)::cs))) else pure (ForInStep.yield cs):Sem (ForInStep (List (Str×Addr)))))=pure cl /\
    (∀ x c,acc.lookup x=some c->cl.lookup x=some c)/\(∀ x∈l,x.2=.free->cl.lookup x.1=env.cells.lookup x.1) /\ ∀ x c,cl.lookup x=some c->env.cells.lookup x=some c:=by
  intro l
  induction l with
  | nil=>intro acc _ ha; exact ⟨acc,by rw [forIn_nil],λ_ _ z=>z,λx hx=>(nomatch hx),ha⟩
  | cons y l ih =>
   intro acc hf ha;by_cases hk:y.2=.free
   .obtain ⟨c,hc⟩:=hf y mem_cons_self hk;have ha':∀ x c',((y.1,c)::acc).lookup x=some c'->env.cells.lookup x=some c':=λx c' hx=>by
     rw [lookup_cons] at hx;split at hx
     .rename_i e;cases hx;rw [eq_of_beq e]; exact hc
     .exact ha x c' hx
    obtain ⟨cl,e,h1,h2,h3⟩:=ih ((y.1,c)::acc) (λx hx=>hf x (mem_cons_of_mem _ hx)) ha';refine ⟨cl,?_,λx c' hx=>?_,λx hx hfx=>?_,h3⟩
    .rw [forIn_cons,<- e];have e1:(y.2 == NameKind.free)=true:=by rw [hk]; rfl
     have e2:cellOf env y.1=pure c:=by unfold cellOf; rw [hc]
     obtain ⟨yn,yk⟩:=y;dsimp only at e1 e2 ⊢;rw [if_pos e1,e2];rfl
    .by_cases hxy:x=y.1
     .subst hxy;have e3:((y.1,c)::acc).lookup y.1=some c:=by simp
      have e4:=ha _ _ hx;rw [hc] at e4;cases e4;exact h1 _ _ e3
     .refine h1 x c' ?_;rw [lookup_cons];have:(x == y.1)=false:=by simpa using hxy
      rw [this]; exact hx
    .rcases List.mem_cons.mp hx with rfl | hx
     .rw [hc]; exact h1 _ _ (by simp)
     .exact h2 x hx hfx
   .obtain ⟨cl,e,h1,h2,h3⟩:=ih acc (λx hx=>hf x (mem_cons_of_mem _ hx)) ha;refine ⟨cl,?_,h1,λx hx hfx=>?_,h3⟩
    .rw [forIn_cons,<- e];have e1:¬ (y.2 == NameKind.free)=true:=by simpa using hk
     obtain ⟨yn,yk⟩:=y;dsimp only at e1 ⊢;rw [if_neg e1];rfl
    .rcases List.mem_cons.mp hx with rfl | hx
     .exact absurd hfx hk
     .exact h2 x hx hfx
 obtain ⟨cl,e,_,h2,h3⟩:=go scope.names [] h (λx c z=>by simp at z);refine ⟨cl,?_,h2,h3⟩;have e':=congrArg (λt=>t >>= λr=>(pure r:Sem (List (Str×Addr)))) e;exact e'
theorem i7:∀ (l:List (Str×NameKind)) (n:Nat) (own cl:List (Str×Addr)),cellsFrom n l (own++cl)=cellsFrom n l own++cl
 | [],_,_,_=>rfl
 | (x,k)::r,n,own,cl=>by
  unfold cellsFrom;split
  .exact i7 r (n+1) ((x,n)::own) cl
  .exact i7 r n own cl
theorem kP:∀ (l:List (Str×NameKind)) (n:Nat) (own:List (Str×Addr)) (p:Str×Addr),p∈cellsFrom n l own->p∈own\/(p.1,NameKind.cell)∈l
 | [],_,_,_,h=>.inl h
 | (x,k)::r,n,own,p,h=>by
  unfold cellsFrom at h;split at h
  .rename_i hk;rcases kP r _ _ p h with h | h
   .rcases List.mem_cons.1 h with rfl | h
    .exact .inr (by rw [<- eq_of_beq hk]; exact mem_cons_self)
    .exact .inl h
   .exact .inr (mem_cons_of_mem _ h)
  .rcases kP r _ _ p h with h | h
   .exact .inl h
   .exact .inr (mem_cons_of_mem _ h)
theorem lR:∀ (l:List (Str×NameKind)) (n:Nat) (own:List (Str×Addr)) (x:Str),((∃ c,own.lookup x=some c)\/(x,NameKind.cell)∈l) -> ∃ c,(cellsFrom n l own).lookup x=some c
 | [],_,_,_,h=>h.elim id λz=>(nomatch z)
 | (y,k)::r,n,own,x,h=>by
  unfold cellsFrom;split
  .refine lR r _ _ x ?_;by_cases e:x=y
   .exact .inl ⟨n,by rw [e,lookup_cons,beq_self_eq_true]⟩
   .rcases h with ⟨c,h⟩ | h
    .exact .inl ⟨c,by rw [lookup_cons,beq_eq_false_iff_ne.mpr e]; exact h⟩
    .rcases List.mem_cons.mp h with z | z
     .exact absurd (Prod.mk.inj z).1 e
     .exact .inr z
  .rename_i hk;refine lR r _ _ x (h.imp_right λz=>?_);rcases List.mem_cons.mp z with z | z
   .rw [<- (Prod.mk.inj z).2] at hk; exact absurd rfl hk
   .exact z
theorem OW{M:Model}{A:Around}{E:Q0Q}{s:Shared}{sc:Scope}{g:Addr}{cl:List (Str×Addr)}{q:Str}{f:Option Addr}{code:Value}{env:Env}{bl:Addr}{Q:Env->Shared->Prop}
  (h:∀ h4:Heap,h4.Ns s.heap.objs.size (λ_=>none)->(∀ b o,s.heap.get? b=some o->h4.get? b=some o)->CellsOk h4 (s.heap.objs.size+1) (cellsFrom (s.heap.objs.size+1) sc.names []) ->
   Q (newEnv sc s.heap.objs.size g (cellsFrom (s.heap.objs.size+1) sc.names cl) q f code (some env) bl) { s with heap:=h4 }) :
  wpAny M A (newFunctionEnv sc g cl [] q f code (some env) bl) Q E s:=by
 unfold newFunctionEnv;refine wpAny_bind (wpAny_alloc (wpAny_bind (wpAny_layCells _ (λx k c=>by cases e:k == NameKind.cell<;>simp [e]) _ _ _ _ ?_)));have hz:∀ o:Obj,(s.heap.push o).objs.size=s.heap.objs.size+1:=λo=>Heap.size_push ..;have ok:=λo=>cellsFrom_ok sc.names (s.heap.push o) (s.heap.objs.size+1) [] ⟨λ_ _ z=>(nomatch z),.nil⟩ (by rw [hz]; exact le_refl _);simp only [hz] at ok ⊢;rw [forIn_nil];exact wpAny_bind (wpAny_pure (wpAny_pure (h _ ((Heap.Ns.new s.heap _).keeps (pushCells_keeps _ _)) (λb o e=>pushCells_keeps _ _ b o (get?_push_of_some _ e)) (ok _))))
def blk(X:Cx)(N:List Str)(sc:Scope)(cl:List (Str×Addr))(C:Addr)(pn:List (Addr×Obj))(ex:List Addr)(s₀:Shared)(H₀:Hp):Cx :=
 { X with N:=N,s₀:=s₀,H₀:=H₀,env:=compEnvC sc cl C X.env,outer:=X.stack,stack:=X.stack,ex:=ex,fn:=λx=>sc.names.lookup x == some NameKind.cell,pn:=pn,xe:=λ_ _=>False }
def GD(nl:Nat)(fr:List Nat)(U:L2.St):L2.St:=List.replicate nl none++fr.map λj=>(U[j]?).join
structure GF (X:Cx) (ls fs:List Str) (fr:List Nat) (sc:Scope):Prop where
 kind:sc.kind=.function
 nd:(ls++fs).Nodup
 uniq:∀ x∈sc.names,sc.names.lookup x.1=some x.2
 free:∀ x∈sc.names,x.2=.free->X.env.kindOf x.1=some .cell\/X.env.kindOf x.1=some .free
 slot:∀ (k:Nat) (x:Str),fs[k]? = some x -> ∃ j,fr[k]? = some j/\X.N[j]? = some x/\(x,NameKind.free)∈sc.names/\sc.names.lookup x=some .free
 GA:fr.length=fs.length
section
variable{X:Cx}
theorem uU(t:Str->NameKind->NameKind)(x:Str):∀ l:List (Str×NameKind),(l.map λp=>(p.1,t p.1 p.2)).lookup x=(l.lookup x).map (t x)
 | []=>rfl
 | (n,k)::r=>by
  rw [map_cons,lookup_cons,lookup_cons];by_cases hx:(x == n)=true
  .rw [hx,eq_of_beq hx]; rfl
  .rw [Bool.not_eq_true] at hx;rw [hx];exact uU t x r
theorem xU{sc:Scope}{env:Env}{x:Str}{l:List (Str×NameKind)}:(l.map λ(n,k)=>if (k == NameKind.free&&env.scope.kind == .function&&env.kindOf n == some .cell) then (n,NameKind.cell) else (n,k)).lookup x =
  (l.lookup x).map λk=>if (k == NameKind.free&&env.scope.kind == .function&&env.kindOf x == some .cell) then NameKind.cell else k:=by
 rw [<- uU (λy k=>if (k == NameKind.free&&env.scope.kind == .function&&env.kindOf y == some .cell) then NameKind.cell else k) x l];refine congrArg (List.lookup x) (map_congr_left λp _=>?_);dsimp only;split<;>rfl
theorem ne_size{b c:Addr}{h:Heap}{o:Obj}(e:h.get? b=some o)(hc:c=h.objs.size):b≠c:=λz=>lt_irrefl _ (by have q:=lt_size e; rw [z,hc] at q; exact q)
theorem GG{b c:Addr}{n:Nat}(h:b<n)(hc:n<=c):b≠c:=λz=>lt_irrefl c (lt_of_lt_of_le (z▸h) hc)
theorem ZU{ls fs:List Str}{fr:List Nat}{sc:Scope}{cl:List (Str×Addr)}{C:Addr}{pins:List (Addr×Obj)}{ex:List Addr}{U:L2.St}{H:Hp}{s s4:Shared}(B:GF X ls fs fr sc)(I:Inv X pins U H s)
  (hcl:∀ x∈sc.names,x.2=.free->cl.lookup x.1=X.env.cells.lookup x.1) (D2:∀ x c,cl.lookup x=some c->X.env.cells.lookup x=some c\/(C<c/\s4.heap.IsCell c none)) (aFN:∀ x∈sc.names,x.2=.cell -> ∃ c,cl.lookup x.1=some c/\C<c)
  (hinj:∀ x y c,cl.lookup x=some c->cl.lookup y=some c->x=y) (hex:∀ b∈ex,qQ X pins H b/\b<s.heap.objs.size)
  (hC:C=s.heap.objs.size) {m:Q0Z} (hn:s4.heap.Ns C m) (hk:∀ b o,s.heap.get? b=some o->s4.heap.get? b=some o) (ho:s4.os=s.os) (hg:s4.gens=s.gens) :
  Inv (blk X (ls++fs) sc cl C (X.pn++pins) ex s H) [] (GD ls.length fr U) H s4:=by
 have ltC:∀ {b:Addr} {o:Obj},s.heap.get? b=some o->b≠C:=λe=>ne_size e hC;have aPa:∀ x c,cl.lookup x=some c->c≠C:=λx c e=>by
  rcases D2 x c e with e | ⟨e,_⟩
  .obtain ⟨v,o,ho,_⟩:=I.cell x c e;exact ltC ho
  .exact Nat.ne_of_gt e
 have kOf:∀ x,(compEnvC sc cl C X.env).kindOf x=(sc.names.lookup x).map λk=>if (k == NameKind.free&&X.env.scope.kind == .function&&X.env.kindOf x == some .cell) then NameKind.cell else k:=λx=>xU (sc:=sc)
 have okX:(blk X (ls++fs) sc cl C (X.pn++pins) ex s H).Ok:=by
  refine ⟨I.ok.mod,B.kind,I.ok.glob,I.ok.blt,(by show s.heap.objs.size<=C; rw [hC]; exact le_refl _),hinj,λx hx=>?_,λx c hf hl=>?_,I.ok.hd,I.ok.frames,.inl rfl,λb hb=>?_,λb o e=>I.bs b o e,le_trans I.ok.YM I.sz,λb o e hb=>?_,λb hb=>?_,I.stack,I.DJ⟩
  ·-- a cell or free name of the block
   have hx':∃ k,sc.names.lookup x=some k/\((if (k == NameKind.free&&X.env.scope.kind == .function&&X.env.kindOf x == some .cell) then NameKind.cell else k)=.cell\/(if (k == NameKind.free&&X.env.scope.kind == .function&&X.env.kindOf x == some .cell) then NameKind.cell else k)=.free):=by
    have hx:(compEnvC sc cl C X.env).kindOf x=some .cell\/(compEnvC sc cl C X.env).kindOf x=some .free:=hx;rw [kOf] at hx
    cases e:sc.names.lookup x with
    | none=>rw [e] at hx; rcases hx with hx | hx<;>cases hx
    | some k=>rw [e] at hx; exact ⟨k,rfl,hx.imp (λz=>Option.some.inj z) λz=>Option.some.inj z⟩
   obtain ⟨k,e,hk'⟩:=hx';have hm:=PySem.mem_of_lookup e;by_cases kf:k=.free
   .subst kf;have q:=hcl _ hm rfl;obtain ⟨c,hc⟩:=I.ok.has x (B.free _ hm rfl);exact ⟨c,q.trans hc⟩
   .have e2:(k == NameKind.free)=false:=by simpa using kf
    rw [e2] at hk';simp only [Bool.false_and,Bool.false_eq_true,if_false] at hk';rcases hk' with z | z
    .obtain ⟨c,hc,_⟩:=aFN _ hm z;exact ⟨c,hc⟩
    .exact absurd z kf
  ·-- an own cell is new
   obtain ⟨c',hc',hlt⟩:=aFN _ (PySem.mem_of_lookup (eq_of_beq hf)) rfl;have hc':cl.lookup x=some c':=hc';have hl:cl.lookup x=some c:=hl;rw [hl] at hc';cases hc';rw [hC] at hlt;exact Nat.le_of_lt hlt
  .refine ⟨GG (hex b hb).2 (Nat.le_of_eq hC.symm),λx c e=>?_⟩;rcases D2 x c e with e | ⟨e,_⟩
   .exact (hex b hb).1.2.2.2.2.1 x c e
   .exact Ne.symm (GG (hex b hb).2 (by rw [<- hC]; exact Nat.le_of_lt e))
  .obtain ⟨⟨_,_,_,f3,_,_⟩,_⟩:=hex b hb;rcases f3 with f3 | f3
   .exact I.ok.TD b o e f3
   .exact absurd (lt_of_lt_of_le (lt_size e) (le_trans I.ok.YM f3)) (lt_irrefl _)
  .intro z;obtain ⟨⟨_,f1,f2,_,_,_⟩,_⟩:=hex b hb;rcases List.mem_cons.mp (I.qO b z) with z | z
   .exact f1 z
   .exact f2 z
 refine ⟨okX,ho,by rw [hg]; exact I.bare,Un.kept hk,⟨m,hn,λi x v h1 h2 h3=>?_⟩,λx c e=>?_,?_,λx c e=>?_,λp hp=>?_,I.hok.kept hk,?_⟩
 ·-- a name with a value is one from around
  have hi:¬ i<ls.length:=λhi=>by unfold GD at h2;rw [getElem?_append_left (by simpa using hi),getElem?_replicate,if_pos hi] at h2;cases h2
  have e1:fs[i - ls.length]? = some x:=by have h1:(ls++fs)[i]? = some x:=h1;rw [getElem?_append_right (by omega)] at h1;exact h1
  obtain ⟨j,ej,eN,hm,hlk⟩:=B.slot _ _ e1;have e2:(U[j]?).join=some v:=by unfold GD at h2;rw [getElem?_append_right (by simpa using hi),getElem?_map,length_replicate,ej] at h2;exact Option.some.inj h2
  have e3:U[j]? = some (some v):=by
   cases q:U[j]? with
   | none=>rw [q] at e2; cases e2
   | some o=>rw [q] at e2; rw [show o=some v from e2]
  have hfr:=B.free _ hm rfl;have vis:EL X.env.scope x:=.inr hfr;obtain ⟨mm,hnm,hl⟩:=I.loc;obtain ⟨u,r,l⟩:=hl j x v eN e3 vis;refine ⟨u,r,?_⟩;rcases l with ⟨k1,_⟩ | ⟨k1,c,ec,zc⟩
  .have k1:X.env.kindOf x=some .local:=k1;rcases hfr with z | z<;>rw [k1] at z<;>cases z
  .refine .inr ⟨?_,c,(hcl _ hm rfl).trans ec,?_⟩
   .show (compEnvC sc cl C X.env).kindOf x=some .cell\/(compEnvC sc cl C X.env).kindOf x=some .free;rw [kOf,hlk];dsimp only [Option.map];split
    .exact .inl rfl
    .exact .inr rfl
   .obtain ⟨oc,hoc,hd⟩:=zc;exact ⟨oc,hk _ _ hoc,hd⟩
 .rcases D2 x c e with e | ⟨_,e⟩
  .obtain ⟨v,oc,hoc,hd⟩:=I.cell x c e;exact ⟨v,oc,hk _ _ hoc,hd⟩
  .exact ⟨none,e⟩
 .show H C=none;rw [hC]; exact I.hok.fresh (le_refl _)
 .rcases D2 x c e with e | ⟨e,_⟩
  .exact I.mI x c e
  .exact I.hok.fresh (by rw [<- hC]; exact Nat.le_of_lt e)
 .have hp:p∈(X.pn++pins)++[]:=hp;rw [append_nil] at hp;obtain ⟨e,n,ne,nf,d⟩:=I.pin p hp;refine ⟨hk _ _ e,n,ltC e,λz=>?_,d⟩;rcases List.mem_cons.mp (I.qO _ z) with z | z
  .exact ne z
  .exact nf z
 .show (GD ls.length fr U).length=(ls++fs).length;unfold GD;rw [List.length_append,List.length_append,length_replicate,length_map,B.GA]
theorem U1{ls fs:List Str}{sc:Scope}{cl:List (Str×Addr)}{C:Addr}{pins LZ:List (Addr×Obj)}{ex:List Addr}{U σ':L2.St}{H H':Hp}{s s':Shared}{h':Heap}(I:Inv X pins U H s)
  (J:Inv (blk X (ls++fs) sc cl C (X.pn++pins) ex s H) LZ σ' H' s') (hex:∀ b∈ex,qQ X pins H b) (hC:C=s.heap.objs.size) (hs:Heap.SameBut C s'.heap h'):Inv X pins U H' { s' with heap:=h' }:=by
 have ltC:∀ {b:Addr} {o:Obj},s.heap.get? b=some o->b≠C:=λe=>ne_size e hC;have fr:H' C=none:=J.free;have un:Un (frs X.stack) ex H H' s.heap s'.heap:=J.base;refine I.call' (s':={ s' with heap:=h' }) (ch:=ex) J.os ⟨λb o e n hb hx=>(hs.2 b (ltC e)).trans (un.keep b o e n hb hx),λb o e n hb hx=>?_,un.free,λb o e hx=>?_,un.tups,un.sB,un.t4⟩ ?_ J.bare λb hb=>?_
 .obtain ⟨sl,q⟩:=un.slot b o e n hb hx;exact ⟨sl,(hs.2 b (ltC e)).trans q⟩
 .obtain ⟨o',q⟩:=un.there b o e hx;exact ⟨o',(hs.2 b (ltC e)).trans q⟩
 .intro b ob e;refine (J.hok b ob e).stay (λc u hc q=>(hs.2 c ?_).trans q) (λ_ q=>q) λ_ _ q=>q;intro z;rcases hc with hc | hc
  .rw [z] at hc; rw [<- hc,fr] at e; cases e
  .rw [z,fr] at hc; cases hc
 .obtain ⟨_,f1,_,f3,f4,f5⟩:=hex b hb;exact ⟨f3,f1,f4,f5⟩
abbrev aCc(ifs:List Expr)(env:Env):Sem Bool:=forIn ifs true λc r=>if r=true then (do let b <- isTrue c env (eval c env); pure (ForInStep.yield b)) else pure (ForInStep.yield r)
abbrev Calm(prog:Program)(w:World)(A:Around){α:Type}(t:Sem α)(Q:α->Shared->Prop)(s:Shared):Prop:=wpAny (model prog w) A t Q (λ_ _=>False) s
theorem oK{prog:Program}{w:World}{A:Around}{R:Result->Shared->Prop}{s:Shared}{el tg src:Expr}{ifs:List Expr}{bs:Scope}{at_:Pos}{it acc:Value}{env:Env}(Iv:Nat->Shared->Prop)
  (turn:∀ n s,Iv n s->Calm prog w A (pyNext it) (λgot s1=>match got with
   | none=>R (.ok .next) s1
   | some v=>Calm prog w A (letOwnedTupleGo tg it v) (λ_ s2=>Calm prog w A (assign tg env v) (λ_ s3=>Calm prog w A (aCc ifs env) (λok s4 =>
     if ok=true then Calm prog w A (eval el env) (λx s5=>Calm prog w A (call (.builtin "list.append") [acc,x]) (λ_ s6=>∃ m,m<n/\Iv m s6) s5) s4 else ∃ m,m<n/\Iv m s4) s3) s2) s1) s)
  (n:Nat) (h:Iv n s):codeAny (model prog w) A (.compLoop (.ListComp el [⟨tg,src,ifs,0⟩] bs at_) 0 it acc env) R s:=by
 have no:∀ {α:Type} {E:Q0Q} {t:Sem α} {Q Q':α->Shared->Prop} {s:Shared},Calm prog w A t Q s->(∀ a s,Q a s->Q' a s)->wpAny (model prog w) A t Q' E s:=λh f=>wpAny_mono h f λ_ _ z=>z.elim;refine codeAny_loop rfl Iv (λn s hI=>?_) n h;refine wpAny_noted (m:=compTurn (.ListComp el [⟨tg,src,ifs,0⟩] bs at_) 0 it acc env) ?_;rw [compTurn_list];refine wpAny_bind (wpAny_standAt (wpAny_bind (no (turn n s hI) λgot s1 h1=>?_)))
 match got,h1 with
 | none,h1=>exact wpAny_pure h1
 | some v,h1 =>
  refine wpAny_bind (no h1 λ_ _ h2=>wpAny_bind (no h2 λ_ _ h3=>wpAny_bind (no h3 λok s4 h4=>?_)))
  match ok,h4 with
  | false,h4=>exact wpAny_pure (And.intro rfl h4)
  | true,h4=>exact wpAny_bind (wpAny_bind (no h4 λ_ _ h5=>wpAny_bind (no h5 λ_ _ h6=>wpAny_pure (wpAny_pure (And.intro rfl h6)))))
abbrev TFk:=L2.St->Hp->(Bool->Hp->Prop)->Prop
def PIf(X:Cx)(ifs:List Expr)(t:TFk):Prop :=
 ∀ (pins:List (Addr×Obj)) (s:Shared) (U:L2.St) (H:Hp) (Q:Bool->Hp->Prop),Inv X pins U H s->t U H Q ->
  wpAny (model X.prog X.w) X.A (forIn ifs true λc r=>if r=true then do let ok <- isTrue c X.env (eval c X.env); pure (ForInStep.yield ok) else pure (ForInStep.yield r)) (TP X pins U Q) X.xe s
theorem ZV:PIf X [] (λ_ H Q=>Q true H):=λpins s U H Q I h=>by rw [forIn_nil];exact wpAny_pure ⟨H,I,h⟩
theorem aCd{c:Expr}{t:TT}(h:PT X c t):PIf X [c] t:=λpins s U H Q I hw=>by rw [forIn_cons];refine wpAny_bind ?_;rw [if_pos rfl];refine wpAny_bind (dN (h pins s U H Q I hw) λb s1 q=>wpAny_pure ?_);dsimp only;rw [forIn_nil];exact wpAny_pure q
def MR(nl:Nat)(fr:List Nat)(wi:TI)(g:TG)(tf:TFk)(te:TE):TE:=λU H Q=>wi U H λJ H1=>∀ acc,H1 acc=none -> ∃ W:Nat->Nat->Hp->List V->Prop,(∃ m,W 0 m (upd H1 acc (.lst [])) []) /\
 ∀ i m H ys,W i m H ys->H acc=some (.lst ys)/\((J.stop i H/\Q (.ref acc) H)\/(J.go i H /\ ∀ x H',J.yld i H x H'->g x (GD nl fr U) H' λσ2 H2=>(σ2.drop nl=fr.map λj=>(U[j]?).join)/\tf σ2 H2 λb H3 =>
  if b=true then te σ2 H3 λy H4=>H4 acc=some (.lst ys)/\ys.length<sizeLine /\ ∃ m',m'<m/\W (i+1) m' (upd H4 acc (.lst (ys++[y]))) (ys++[y]) else ∃ m',m'<m/\W (i+1) m' H3 ys))
theorem GH{ls fs:List Str}{fr:List Nat}{sc:Scope}{tg iter elt:Expr}{ifs:List Expr}{pos p2:Pos}{wi:TI}{g:TG}{tf:TFk}{te:TE}{pins:List (Addr×Obj)}{U:L2.St}{H:Hp}{s:Shared}{Qe:VK}{use:Option (Value->Sem Unit)}{Qv:Q0Q}
  (hc:X.calm=true) (B:GF X ls fs fr sc) (hi:PI X tg iter wi) (hg:∀ cl C pn ex s H,PG (blk X (ls++fs) sc cl C pn ex s H) tg g) (hf:∀ cl C pn ex s H,PIf (blk X (ls++fs) sc cl C pn ex s H) ifs tf) (he:∀ cl C pn ex s H,PE (blk X (ls++fs) sc cl C pn ex s H) elt te)
  (hs:∀ x,foldedSetIterable iter X.env x=pure x) (I:Inv X pins U H s) (h:MR ls.length fr wi g tf te U H Qe)
  (fin:∀ acc C s' H',Inv X pins U H' s'->(∃ m,s'.heap.Ns C m)->qQ X pins H' C->Qe (.ref acc) H'->compPost (model X.prog X.w) X.A X.xe use Qv (.ref acc) C (.ok .next) s') :
  wpAny (model X.prog X.w) X.A (comprehension (.ListComp elt [⟨tg,iter,ifs,0⟩] sc pos) sc X.env p2 (newList []) false (eval iter X.env) use) Qv X.xe s:=by
 obtain ⟨cl,ecl,hcl,D2⟩:=JJ (scope:=sc) (env:=X.env) λx hx hf=>I.ok.has x.1 (B.free x hx hf);refine wpAny_comprehension_free (g:=⟨tg,iter,ifs,0⟩) (gs:=[]) rfl hs ecl B.kind (λx hx e=>(B.uniq x hx).trans (congrArg some e)) ?_;refine dN (hi pins s U H _ I h) λv s1 h1=>dN h1 λitv s2 h2=>?_;obtain ⟨it,fp,tn,J,H2,e,I2,T,st2,f2,h2⟩:=h2;subst e;refine wpAny_newObj_type ?_ (by show ([]:List Value).toArray.size<=sizeLine; simp);have hacc:H2 s2.heap.objs.size=none:=I2.hok.fresh (le_refl _);have I3:Inv X pins U (upd H2 s2.heap.objs.size (.lst [])) { s2 with heap:=s2.heap.push { cls:=.type "list",data:=.seq ([]:List Value).toArray } } :=
  I2.laid (t':=s2.toks) (λb o e=>get?_push_of_some _ e) (le_refl _) ⟨by simp,[],0,.nil,get?_push_size _ rfl⟩
 have hfp:∀ b∈fp,b<s2.heap.objs.size:=λb hb=>by obtain ⟨o,e,_⟩:=T.obj _ _ st2 b hb; exact lt_size e
 obtain ⟨W,⟨m0,w0⟩,turn⟩:=h2 _ hacc;generalize GI:s2.heap.objs.size=acc at hacc I3 w0 turn ⊢;have aKW:∀ b∈fp,b≠acc:=λb hb=>GG (hfp b hb) (Nat.le_of_eq GI);have f3:∀ b∈fp,qQ X pins (upd H2 acc (.lst [])) b:=λb hb=>⟨by rw [bQ (aKW b hb)]; exact (f2 b hb).1,(f2 b hb).2⟩;generalize hs3:({ s2 with heap:=s2.heap.push { cls:=.type "list",data:=.seq ([]:List Value).toArray } }:Shared)=s3 at I3;have hsz3:s3.heap.objs.size=acc+1:=by rw [<- hs3]; show (s2.heap.push _).objs.size=_; rw [Heap.size_push,GI]
 have st3:tn 0 s3.heap:=T.keep _ _ _ st2 λb hb o e=>by rw [<- hs3]; exact get?_push_of_some _ e
 refine OW λh4 hn4 hk4 co=>?_;generalize hC:s3.heap.objs.size=C at hn4 co ⊢;have eC:cellsFrom (C+1) sc.names cl=cellsFrom (C+1) sc.names []++cl:=i7 sc.names (C+1) [] cl;generalize hcs:cellsFrom (C+1) sc.names []=cs at co eC;have own:∀ x c,cs.lookup x=some c->(x,NameKind.cell)∈sc.names/\C<c/\h4.IsCell c none:=λx c e=>by
  have m:=PySem.mem_of_lookup e;refine ⟨?_,(co.empty x c m).2,(co.empty x c m).1⟩;rw [<- hcs] at m;rcases kP _ _ _ _ m with z | z
  .cases z
  .exact z
 generalize hdl:cellsFrom (C+1) sc.names cl=dl at eC ⊢;have two:∀ x c,dl.lookup x=some c->cs.lookup x=some c\/(cs.lookup x=none/\cl.lookup x=some c):=λx c e=>by
  rw [eC,List.lookup_append] at e
  cases q:cs.lookup x with
  | none=>rw [q] at e; exact .inr ⟨rfl,e⟩
  | some d=>rw [q] at e; exact .inl e
 have aKX:∀ x∈sc.names,x.2=.free->dl.lookup x.1=X.env.cells.lookup x.1:=λx hx e=>by
  rw [<- hcl x hx e,eC,List.lookup_append]
  cases q:cs.lookup x.1 with
  | none=>rfl
  | some d =>
   have z:=B.uniq _ (own _ _ q).1;rw [B.uniq x hx,e] at z;cases z
 have aFP:∀ x c,dl.lookup x=some c->X.env.cells.lookup x=some c\/(C<c/\h4.IsCell c none):=λx c e=>by
  rcases two x c e with e | ⟨_,e⟩
  .exact .inr (own x c e).2
  .exact .inl (D2 x c e)
 have aKY:∀ x∈sc.names,x.2=.cell -> ∃ c,dl.lookup x.1=some c/\C<c:=λx hx e=>by obtain ⟨c,hc⟩:=lR sc.names (C+1) [] x.1 (.inr (by rw [<- e]; exact hx));rw [hcs] at hc;exact ⟨c,by rw [eC,List.lookup_append,hc]; rfl,(own _ _ hc).2.1⟩
 have low:∀ x c,cl.lookup x=some c->c<C:=λx c e=>by obtain ⟨v,o,ho,_⟩:=I3.cell x c (D2 x c e);rw [<- hC]; exact lt_size ho
 have aKZ:∀ x y c,dl.lookup x=some c->dl.lookup y=some c->x=y:=λx y c e e'=>by
  rcases two x c e with e | ⟨_,e⟩<;>rcases two y c e' with e' | ⟨_,e'⟩
  .exact name_of_addr co.apart (PySem.mem_of_lookup e) (PySem.mem_of_lookup e')
  .exact absurd (own _ _ e).2.1 (Nat.lt_asymm (low _ _ e'))
  .exact absurd (own _ _ e').2.1 (Nat.lt_asymm (low _ _ e))
  .exact I3.ok.inj x y c (D2 x c e) (D2 y c e')
 have I4:Inv (blk X (ls++fs) sc dl C (X.pn++pins) fp s3 (upd H2 acc (.lst []))) [] (GD ls.length fr U) (upd H2 acc (.lst [])) { s3 with heap:=h4 } :=
  ZU B I3 aKX aFP aKY aKZ (λb hb=>⟨f3 b hb,by rw [hsz3,<- GI]; exact Nat.lt_succ_of_lt (hfp b hb)⟩) hC.symm hn4 hk4 rfl rfl
 generalize hX:blk X (ls++fs) sc dl C (X.pn++pins) fp s3 (upd H2 acc (.lst []))=Y at I4;have pY:Y.prog=X.prog:=by rw [<- hX]; rfl
 have wY:Y.w=X.w:=by rw [<- hX]; rfl
 have kY:Y.K=X.K:=by rw [<- hX]; rfl
 have AY:Y.A=X.A:=by rw [<- hX]; rfl
 have cY:Y.calm=true:=by rw [<- hX]; exact hc
 have eY:Y.env=compEnvC sc dl C X.env:=by rw [<- hX]; rfl
 have xY:Y.xe=λ_ _=>False:=by rw [<- hX]; rfl
 have U2:∀ {H':Hp},(∀ b∈fp,H' b=none) -> ∀ b∈fp,qQ Y [] H' b:=λhn b hb=>by
  rw [<- hX];obtain ⟨_,f1,f2',_,f4,f5⟩:=f3 b hb;refine ⟨hn b hb,λz=>?_,λz=>?_,.inl hb,λx c e=>?_,λp hp=>f5 p ?_⟩
  .exact absurd z (GG (hfp b hb) (by rw [<- hC,hsz3,GI]; exact Nat.le_succ _))
  .rcases List.mem_cons.mp (I3.qO b z) with z | z
   .exact f1 z
   .exact f2' z
  .rcases aFP x c e with e | ⟨e,_⟩
   .exact f4 x c e
   .exact Ne.symm (GG (hfp b hb) (by rw [GI]; exact Nat.le_of_lt (Nat.lt_trans (by rw [<- hC,hsz3]; exact Nat.lt_succ_self _) e)))
  .have hp:p∈(X.pn++pins)++[]:=hp;rw [append_nil] at hp; exact hp
 have st4:tn 0 h4:=T.keep _ _ _ st3 λb hb o e=>hk4 b o e;have loop:∀ s5:Shared,(∃ i H',Inv Y [] (GD ls.length fr U) H' s5/\tn i s5.heap/\(∀ b∈fp,H' b=none) /\ ∃ m ys,W i m H' ys)->codeAny (model X.prog X.w) X.A (.compLoop (.ListComp elt [⟨tg,iter,ifs,0⟩] sc pos) 0 (.ref it) (.ref acc) (compEnvC sc dl C X.env)) (compPost (model X.prog X.w) X.A X.xe use Qv (.ref acc) C) s5:=by
  rintro s5 ⟨i,H',I5,st5,fr5,m,ys,w5⟩;refine oK (λn s'=>∃ i H' ys,Inv Y [] (GD ls.length fr U) H' s'/\tn i s'.heap/\(∀ b∈fp,H' b=none)/\W i n H' ys) ?_ m ⟨i,H',ys,I5,st5,fr5,w5⟩;rintro n s6 ⟨i,H6,ys,I6,st6,fr6,w6⟩;obtain ⟨ha6,alt⟩:=turn i n H6 ys w6;rcases alt with ⟨stop,qn⟩ | ⟨go,step⟩
  .have q:=T.done Y pY wY kY cY i [] s6 _ H6 (λ_ _=>False) I6 (U2 fr6) st6 stop;rw [AY] at q;refine dN q λr s7 aK0=>?_;obtain ⟨hr,I7⟩:=aK0;subst hr;have fr7:H6 C=none:=by have:=I7.free;rw [eY] at this;exact this
   refine fin acc C s7 H6 ?_ ?_ (I3.IV (Nat.le_of_eq hC) fr7) qn
   .rw [<- hX] at I7;exact U1 I3 I7 (λb hb=>f3 b hb) hC.symm (.refl ..)
   .obtain ⟨m,hm,_⟩:=I7.loc;rw [eY] at hm;exact ⟨m,hm⟩
  .have q:=T.item Y pY wY kY cY i [] s6 _ H6 (λ_ _=>False) I6 (U2 fr6) st6 go;rw [AY] at q;refine dN q λr s7 aK1=>?_;obtain ⟨u,hr,h7⟩:=aK1;subst hr;refine dN h7 λ_ s8 aK2=>?_;obtain ⟨x,H8,I8,r8,y8,st8,fr8⟩:=aK2;have I8':=I8.pinned (U2 fr8) (T.obj _ _ st8);have hgY:=hg dl C (X.pn++pins) fp s3 (upd H2 acc (.lst []));have hfY:=hf dl C (X.pn++pins) fp s3 (upd H2 acc (.lst []));have heY:=he dl C (X.pn++pins) fp s3 (upd H2 acc (.lst []));rw [hX] at hgY hfY heY;have q8:=hgY _ s8 _ H8 x u _ I8' r8 (step x H8 y8);rw [pY,wY,AY,eY,xY] at q8;refine dN q8 λ_ s9 aK4=>?_;obtain ⟨σ9,H9,I9,hσ9,q9⟩:=aK4;have q10:=hfY _ s9 σ9 H9 _ I9 q9;rw [pY,wY,AY,eY,xY] at q10;refine dN q10 λok s10 aK5=>?_;obtain ⟨H10,I10,q10⟩:=aK5;have bl:∀ {H7:Hp} {s7:Shared},Inv Y ([]++xL fp s8.heap) σ9 H7 s7->(∃ m',m'<n /\ ∃ ys',W (i+1) m' H7 ys') -> ∃ m,m<n /\ ∃ i H' ys,Inv Y [] (GD ls.length fr U) H' s7/\tn i s7.heap/\(∀ b∈fp,H' b=none)/\W i m H' ys:=λ{H7 s7} I7 ⟨m',hm,ys',w7⟩=>by
    refine ⟨m',hm,i+1,H7,ys',?_,T.keep _ _ _ st8 λb hb o e=>(I7.pin (b,o) (mem_append_right _ (mem_append_right _ (nC hb e)))).1,λb hb=>?_,w7⟩
    .refine I7.sF.weak ?_ λk v e=>?_
     .rw [I7.len,<- I6.len]
     .by_cases hk:k<ls.length
      .unfold GD at e;rw [getElem?_append_left (by simpa using hk),getElem?_replicate,if_pos hk] at e;cases e
      .have e2:(σ9.drop ls.length)[k - ls.length]? = some (some v):=by rw [hσ9];unfold GD at e;rw [getElem?_append_right (by simpa using hk),length_replicate] at e;exact e
       rw [List.getElem?_drop] at e2;rw [show ls.length+(k - ls.length)=k by omega] at e2;exact e2
    .obtain ⟨o,e,d⟩:=T.obj _ _ st8 b hb;exact (I7.pin (b,o) (mem_append_right _ (mem_append_right _ (nC hb e)))).2.1
   cases ok with
   | false =>
    rw [if_neg Bool.false_ne_true] at q10 ⊢;obtain ⟨m',hm,w'⟩:=q10;exact bl I10 ⟨m',hm,ys,w'⟩
   | true =>
    rw [if_pos rfl] at q10 ⊢;have q11:=heY _ s10 σ9 H10 _ I10 q10;rw [pY,wY,AY,eY,xY] at q11;refine dN q11 λyv s11 aK6=>?_;obtain ⟨y,H11,I11,r11,aCf,aK7,m',hm,w'⟩:=aK6;have q12:=(BO (X:=Y)) _ s11 σ9 H11 (.ref acc) [y] (.ref acc) [yv] (λ_ H'=>H' = upd H11 acc (.lst (ys++[y]))) I11 rfl (.cons r11 .nil) ⟨acc,ys,y,rfl,rfl,aCf,aK7,rfl⟩;rw [pY,wY,AY,xY] at q12;refine dN q12 λ_ s12 aK8=>?_;obtain ⟨_,H12,I12,_,e12⟩:=aK8;subst e12;exact bl I12 ⟨m',hm,_,w'⟩
 have L0:=loop _ ⟨0,_,I4,st4,λb hb=>(f3 b hb).1,m0,[],w0⟩;refine codeAny_compStart_list L0 (T.self _ 0 _ _ _ st4 L0)
theorem ZW{ls fs:List Str}{fr:List Nat}{sc:Scope}{tg iter elt:Expr}{ifs:List Expr}{pos:Pos}{wi:TI}{g:TG}{tf:TFk}{te:TE}
  (hc:X.calm=true) (B:GF X ls fs fr sc) (hi:PI X tg iter wi) (hg:∀ cl C pn ex s H,PG (blk X (ls++fs) sc cl C pn ex s H) tg g) (hf:∀ cl C pn ex s H,PIf (blk X (ls++fs) sc cl C pn ex s H) ifs tf) (he:∀ cl C pn ex s H,PE (blk X (ls++fs) sc cl C pn ex s H) elt te)
  (hs:∀ x,foldedSetIterable iter X.env x=pure x:=by intro _; rfl):PE X (.ListComp elt [⟨tg,iter,ifs,0⟩] sc pos) (MR ls.length fr wi g tf te):=by
 intro pins s U H Q I h;rw [eval_ListComp];refine GH (use:=none) hc B hi hg hf he hs I h λacc C s' H' I' hm fp q=>?_;obtain ⟨m,hm⟩:=hm;obtain ⟨f0,f1,_,f3,f4,f5⟩:=fp;exact ⟨m,hm,λh' hsb=>⟨.ref acc,H',I'.turned (t':=s'.toks) (λb o hb e=>(hsb.2 b hb).trans e) f0 f1 f3 f4 f5,rfl,q⟩⟩
theorem xV{i:Nat}{x:Str}{ls fs:List Str}{fr:List Nat}{sc:Scope}{tg iter elt:Expr}{ifs:List Expr}{pos spos pos':Pos}{wi:TI}{g:TG}{tf:TFk}{te:TE}(hN:X.N.Nodup)(hx0:X.N[i]? = some x)(hx:X.env.scope.names.lookup x=some .local)
  (hc:X.calm=true) (B:GF X ls fs fr sc) (hi:PI X tg iter wi) (hg:∀ cl C pn ex s H,PG (blk X (ls++fs) sc cl C pn ex s H) tg g) (hf:∀ cl C pn ex s H,PIf (blk X (ls++fs) sc cl C pn ex s H) ifs tf) (he:∀ cl C pn ex s H,PE (blk X (ls++fs) sc cl C pn ex s H) elt te)
  (hsw:swapsWith (.ListComp elt [⟨tg,iter,ifs,0⟩] sc pos) (some (.Name x pos')) spos.line X.env=pure true)
  (hs:∀ x,foldedSetIterable iter X.env x=pure x:=by intro _; rfl):PS X (.Assign [.Name x pos'] (.ListComp elt [⟨tg,iter,ifs,0⟩] sc pos) spos) (aBq (MR ls.length fr wi g tf te) (TN i)):=by
 intro pins s U H D I h;rw [exec_Assign_Name_used _ _ _ _ hsw]; refine wpAny_bind (wpAny_standAt (wpAny_bind ?_));show wpAny _ X.A (do let _ <- comprehension (.ListComp elt [⟨tg,iter,ifs,0⟩] sc pos) sc X.env _ (newList []) false (eval iter X.env) (some (assign (.Name x pos') X.env))) _ _ s;refine wpAny_bind (wpAny_mono (GH (use:=some (assign (.Name x pos') X.env)) (Qv:=λ_ s'=>SP X pins D .next s') hc B hi hg hf he hs I h λacc C s' H' I' hm fp q=>?_) (λ_ s' hq=>wpAny_pure (wpAny_pure hq)) λ_ _ e=>e);obtain ⟨m,hm⟩:=hm;obtain ⟨f0,f1,_,f3,f4,f5⟩:=fp;refine wpAny_assign_Name (BH I' hN hx0 (.inl hx) (v:=.ref acc) rfl (λs'' I'' hsb=>?_) (.inr hx));obtain ⟨a,hsb,ha⟩:=hsb;have haC:a≠C:=by
  rcases ha with rfl | ha
  .exact Ne.symm f1
  .exact f4 x a ha
 exact ⟨m,hm.sameBut hsb (Ne.symm haC),λh' hs'=>⟨_,H',I''.turned (t':=s''.toks) (λb o hb e=>(hs'.2 b hb).trans e) f0 f1 f3 f4 f5,q⟩⟩
end
def chk(outer:List (Str×NameKind))(sc:Scope)(N ls fs:List Str)(fr:List Nat):Bool :=
 (sc.kind == .function)&&decide (ls++fs).Nodup&&sc.names.all (λx=>decide (sc.names.lookup x.1=some x.2)) &&
 sc.names.all (λx=>decide (x.2=.free->(outer.lookup x.1=some .cell\/outer.lookup x.1=some .free)))&&decide (fr.length=fs.length) &&
 (fs.zip fr).all (λx=>decide (N[x.2]? = some x.1)&&sc.names.contains (x.1,NameKind.free)&&decide (sc.names.lookup x.1=some .free))
theorem nG{X:Cx}{ls fs:List Str}{fr:List Nat}{sc:Scope}(h:chk X.env.scope.names sc X.N ls fs fr=true):GF X ls fs fr sc:=by
 unfold chk at h;simp only [Bool.and_eq_true,all_eq_true,decide_eq_true_eq] at h;obtain ⟨⟨⟨⟨⟨h1,h2⟩,h3⟩,h5⟩,h6⟩,h7⟩:=h;refine ⟨eq_of_beq h1,h2,h3,h5,λk x e=>?_,h6⟩;have hk:k<fs.length:=(List.getElem?_eq_some_iff.mp e).1;have hm:(x,fr[k]'(by omega))∈fs.zip fr:=by
  have:(fs.zip fr)[k]? = some (x,fr[k]'(by omega)):=by rw [List.getElem?_zip_eq_some];exact ⟨e,by simp⟩
  exact mem_of_getElem? this
 obtain ⟨⟨a,b⟩,c⟩:=h7 _ hm;exact ⟨fr[k]'(by omega),by simp,a,by simpa using b,c⟩
abbrev GE:=D->bR->(bR->Prop)->Prop
def xW(K:W.Frag)(nl n:Nat)(g:GE):TG:=λv U H Q=>∃ (S:Addr->Prop) (Z:bR) (d:D) (Q3:bR->Prop),U.length=n/\(∀ a,H a=none->S a)/\Sl K S H Z U/\Dn K S H d v/\g d Z Q3 /\
 ∀ σ' ρ',Sl K S H ρ' σ'->σ'.drop nl=U.drop nl->Q3 ρ'->Q σ' H
def PG4(X:Cx)(nl:Nat)(tg:Expr)(g:GE):Prop:=PG X tg (xW X.K nl X.N.length g)
theorem Sl.set{S:Addr->Prop}{H:Hp}{Z:bR}{U:L2.St}{i:Nat}{d:D}{v:V}(h:Sl K S H Z U)(hi:i<U.length)(q:Dn K S H d v):Sl K S H (Z.set i (some d)) (U.set i (some v)):=λj e he=>by
 rcases get_set he with ⟨hj,z,_⟩ | ⟨hj,z⟩
 .cases z;subst hj;exact ⟨v,getElem?_set_self hi,q⟩
 .obtain ⟨u,a,b⟩:=h j e z;exact ⟨u,by rw [getElem?_set_ne (Ne.symm hj)]; exact a,b⟩
def hN(i:Nat):GE:=λd Z Q=>Q (Z.set i (some d))
def h2(i j:Nat):GE:=λd Z Q=>match d with
 | .tup [d1,d2]=>Q ((Z.set i (some d1)).set j (some d2))
 | _=>False
theorem drop_set{α:Type}{l:List α}{i n:Nat}{x:α}(h:i<n):(l.set i x).drop n=l.drop n:=by rw [List.drop_set,if_pos h]
section
variable{X:Cx}
theorem aFQ{nl i:Nat}{x:Str}{pos:Pos}(nd:X.N.Nodup)(hil:i<nl)(hi:X.N[i]? = some x:=by rfl)(hx:Loc X.env.scope x:=by first | exact .inl rfl | exact .inr rfl)(hfx:X.fn x=true\/X.env.scope.names.lookup x=some .local:=by first | exact .inr rfl | exact .inl rfl):PG4 X nl (.Name x pos) (hN i) :=
 OV (pG nd hi hx hfx) λv U H Q aK9=>by obtain ⟨S,Z,d,Q3,hl,fc,sl,dn,hg,k⟩:=aK9; exact k _ _ (sl.set (by rw [hl]; exact iO hi) dn) (drop_set hil) hg
theorem aFR{nl i j:Nat}{x y:Str}{pos px py:Pos}(hc:X.calm=true)(nd:X.N.Nodup)(hil:i<nl)(hjl:j<nl)(hi:X.N[i]? = some x:=by rfl)(hj:X.N[j]? = some y:=by rfl)(hx:Loc X.env.scope x:=by first | exact .inl rfl | exact .inr rfl)(hfx:X.fn x=true\/X.env.scope.names.lookup x=some .local:=by first | exact .inr rfl | exact .inl rfl)(hy:Loc X.env.scope y:=by first | exact .inl rfl | exact .inr rfl)(hfy:X.fn y=true\/X.env.scope.names.lookup y=some .local:=by first | exact .inr rfl | exact .inl rfl)
  (hn:(assignEach [.Name x px,.Name y py] X.env).length=2:=by rfl) (hst:(assignEach [.Name x px,.Name y py] X.env).findIdx? (·.1)=none:=by rfl)
  (hs1:(assignEach [.Name x px,.Name y py] X.env).map (·.2)=assign (.Name x px) X.env::(assignEach [.Name y py] X.env).map (·.2):=by rfl) (hs2:(assignEach [.Name y py] X.env).map (·.2)=assign (.Name y py) X.env::(assignEach [] X.env).map (·.2):=by rfl) :
  PG4 X nl (.Tuple [.Name x px,.Name y py] kk pos) (h2 i j) :=
 OV (TQ (n:=2) hc (sE (pG nd hi hx hfx) (sE (pG nd hj hy hfy) MA hs2) hs1) hn hst) λv U H Q aKb=>by
  obtain ⟨S,Z,d,Q3,hl,fc,sl,dn,hg,k⟩:=aKb;unfold h2 at hg;split at hg
  .rename_i d1 d2;simp only [Dn] at dn;obtain ⟨a,xs,rfl,ha,da⟩:=dn;obtain ⟨v1,r1,rfl,h1,h2⟩:=da.bV;obtain ⟨v2,r2,rfl,h3,h4⟩:=h2.bV;simp only [bC] at h4;subst h4;refine ⟨a,_,rfl,(gA.of ha),rfl,v1,[v2],rfl,v2,[],rfl,rfl,?_⟩;exact k _ _ ((sl.set (by rw [hl]; exact iO hi) h1).set (by rw [length_set,hl]; exact iO hj) h3) (by rw [drop_set hjl,drop_set hil]) hg
  .exact hg.elim
def OX(X:Cx)(ifs:List Expr)(t:WT):Prop:=PIf X ifs (liftT X.K t)
def aFS:WT:=λ_ Q=>Q true
theorem aKc:OX X [] aFS:=λpins s U H Q I aKd=>by obtain ⟨S,Z,Q3,fc,sl,ht,k⟩:=aKd; exact ZV pins s U H Q I (k true H (Same.refl H) ht)
theorem aFT{c:Expr}{t:WT}(h:vY X c t):OX X [c] t:=aCd h
def sN(g:GE)(tf:WT)(te:WE)(Z:bR):List D->List D->(D->Prop)->Prop
 | [],acc,Q=>Q (.lst acc)
 | d::r,acc,Q=>g d Z λρ2=>tf ρ2 λb=>if b=true then te ρ2 λy=>acc.length<sizeLine/\sN g tf te Z r (acc++[y]) Q else sN g tf te Z r acc Q
def benv(nl:Nat)(fr:List Nat)(Z:bR):bR:=List.replicate nl none++fr.map λj=>(Z[j]?).join
def GJ(nl:Nat)(fr:List Nat)(ti:WI)(g:GE)(tf:WT)(te:WE):WE:=λZ Q=>ti Z λds=>sN g tf te (benv nl fr Z) ds [] Q
theorem ZX{S:Addr->Prop}{H:Hp}{Z:bR}{U:L2.St}{nl:Nat}{fr:List Nat}(h:Sl K S H Z U):Sl K S H (benv nl fr Z) (GD nl fr U):=λi d e=>by
 unfold benv at e;unfold GD;by_cases hi:i<nl
 .rw [getElem?_append_left (by simpa using hi),getElem?_replicate,if_pos hi] at e;cases e
 .rw [getElem?_append_right (by simpa using hi),getElem?_map,length_replicate] at e ⊢
  cases q:fr[i - nl]? with
  | none=>rw [q] at e; cases e
  | some j =>
   rw [q] at e;have e1:(Z[j]?).join=some d:=Option.some.inj e;have e2:Z[j]? = some (some d):=by
    cases z:Z[j]? with
    | none=>rw [z] at e1; cases e1
    | some o=>rw [z] at e1; rw [show o=some d from e1]
   obtain ⟨v,ev,dv⟩:=h j d e2;exact ⟨v,by show some ((U[j]?).join)=_; rw [ev]; rfl,dv⟩
theorem t9{nl n:Nat}{fr:List Nat}{ti:WI}{g:GE}{tf:WT}{te:WE}{U:L2.St}{H:Hp}{Q:VK}(hn:nl+fr.length=n)(h:UO K (GJ nl fr ti g tf te) U H Q):MR nl fr (aAg K ti) (xW K nl n g) (liftT K tf) (lift K te) U H Q:=by
 obtain ⟨S,Z,Q3,fc,sl,ht,k⟩:=h;refine ⟨S,Z,_,fc,sl,ht,λJ H1 ds G s1 hG wk q1=>?_⟩;intro acc hacc;have h0:H acc=none:=s1.free hacc;have fc1:=bP fc s1;have ok:∀ {H2:Hp},Same H1 H2->(∃ ys,H2 acc=some (.lst ys))->(∀ a,H2 a=none->S a/\a≠acc)/\Sl K (λa=>S a/\a≠acc) H2 (benv nl fr Z) (GD nl fr U) /\ ∀ g∈G,Dn K (λa=>S a/\a≠acc) H2 g.1 g.2:=λ{H2} s2 hy=>by
  refine ⟨λa e=>⟨bP fc1 s2 a e,λz=>?_⟩,?_,λg hg=>Dn.fits ((Fits.fresh hacc).trans (.same s2)) _ _ (hG g hg)⟩
  .subst z;obtain ⟨ys,hy⟩:=hy;rw [e] at hy; cases hy
  .exact ZX (Sl.fits ((Fits.fresh h0).trans (.same (s1.trans s2))) sl)
 refine ⟨λi m H2 ys=>m=ds.length - i/\i<=ds.length/\Same H1 H2/\H2 acc=some (.lst ys) /\ ∃ aD,bC K (λa=>S a/\a≠acc) H2 aD ys/\sN g tf te (benv nl fr Z) (ds.drop i) aD Q3,
  ⟨_,rfl,Nat.zero_le _,aX hacc,bD,[],bC.nil,q1⟩,?_⟩
 rintro i m H2 ys ⟨rfl,hi,s2,hy,aD,dn,cw⟩;obtain ⟨fc2,sl2,gh2⟩:=ok s2 ⟨ys,hy⟩;refine ⟨hy,?_⟩;by_cases hlt:i<ds.length
 .refine .inr ?_;obtain ⟨g1,g2⟩:=wk.go _ H2 fc2 gh2 i ds[i] (by simp [hlt]);refine ⟨g1,λx H' y=>?_⟩;obtain ⟨s3,dx⟩:=g2 x H' y;rw [List.drop_eq_getElem_cons hlt,sN] at cw;refine ⟨λa=>S a/\a≠acc,benv nl fr Z,ds[i],_,?_,bP fc2 s3,Sl.fits (.same s3) sl2,dx,cw,λσ' ρ' sl' hd q'=>?_⟩
  .unfold GD; rw [List.length_append,length_replicate,length_map]; exact hn
  .refine ⟨by rw [hd]; unfold GD; rw [List.drop_append_of_le_length (by simp),List.drop_replicate]; simp,λa=>S a/\a≠acc,ρ',_,bP fc2 s3,sl',q',λb H3 s4 q4=>?_⟩
   cases b with
   | false =>
    rw [if_neg Bool.false_ne_true] at q4 ⊢;exact ⟨_,by omega,rfl,hlt,(s2.trans s3).trans s4,(s3.trans s4) _ _ hy,aD,bC.fits (.same (s3.trans s4)) _ _ dn,q4⟩
   | true =>
    rw [if_pos rfl] at q4 ⊢;refine ⟨λa=>S a/\a≠acc,ρ',_,bP fc2 (s3.trans s4),Sl.fits (.same s4) sl',q4,λv H4 d s5 d5 q5=>?_⟩;have hy4:H4 acc=some (.lst ys):=((s3.trans s4).trans s5) _ _ hy;have F:Fits K (λa=>S a/\a≠acc) (λa=>S a/\a≠acc) H4 (upd H4 acc (.lst (ys++[v]))):=.upd (.inl ⟨_,hy4⟩) λz=>z.2 rfl;refine ⟨hy4,by rw [<- dn.len]; exact q5.1,_,by omega,rfl,hlt,λb u hb=>?_,bD,aD++[d],bC.fits F _ _ ((bC.fits (.same ((s3.trans s4).trans s5)) _ _ dn).append (bC.one d5)),q5.2⟩;rw [bQ (bU hb hacc)];exact (((s2.trans s3).trans s4).trans s5) _ _ hb
 .have e:i=ds.length:=by omega
  subst e;rw [List.drop_length,sN] at cw;exact .inl ⟨wk.stop _ H2 gh2 _ rfl,k acc ys H2 aD h0 hy (s1.trans s2) dn cw⟩
theorem aFU{ls fs:List Str}{fr:List Nat}{sc:Scope}{tg iter elt:Expr}{ifs:List Expr}{pos:Pos}{ti:WI}{g:GE}{tf:WT}{te:WE}(hc:X.calm=true)(hi:UY X tg iter ti)
  (hg:∀ cl C pn ex s H,(blk X (ls++fs) sc cl C pn ex s H).N.Nodup->PG4 (blk X (ls++fs) sc cl C pn ex s H) ls.length tg g) (hf:∀ cl C pn ex s H,OX (blk X (ls++fs) sc cl C pn ex s H) ifs tf) (he:∀ cl C pn ex s H,cU (blk X (ls++fs) sc cl C pn ex s H) elt te)
  (B:chk X.env.scope.names sc X.N ls fs fr=true:=by rfl) (hs:∀ x,foldedSetIterable iter X.env x=pure x:=by intro _; rfl):HN X (.ListComp elt [⟨tg,iter,ifs,0⟩] sc pos) (GJ ls.length fr ti g tf te) :=
 imp (ZW (g:=xW X.K ls.length (ls++fs).length g) (tf:=liftT X.K tf) (te:=lift X.K te) hc (nG B) hi (λcl C pn ex s H=>hg cl C pn ex s H (nG B).nd) hf he hs) λU H Q h=>t9 (n:=(ls++fs).length) (by rw [List.length_append,(nG B).GA]) h
theorem U3{i:Nat}{x:Str}{ls fs:List Str}{fr:List Nat}{sc:Scope}{tg iter elt:Expr}{ifs:List Expr}{pos spos pos':Pos}{ti:WI}{g:GE}{tf:WT}{te:WE}(nd:X.N.Nodup)(hc:X.calm=true)(hi:UY X tg iter ti)
  (hg:∀ cl C pn ex s H,(blk X (ls++fs) sc cl C pn ex s H).N.Nodup->PG4 (blk X (ls++fs) sc cl C pn ex s H) ls.length tg g) (hf:∀ cl C pn ex s H,OX (blk X (ls++fs) sc cl C pn ex s H) ifs tf) (he:∀ cl C pn ex s H,cU (blk X (ls++fs) sc cl C pn ex s H) elt te)
  (hx0:X.N[i]? = some x:=by rfl) (hx:X.env.scope.names.lookup x=some .local:=by rfl) (hsw:swapsWith (.ListComp elt [⟨tg,iter,ifs,0⟩] sc pos) (some (.Name x pos')) spos.line X.env=pure true:=by rfl)
  (B:chk X.env.scope.names sc X.N ls fs fr=true:=by rfl) (hs:∀ x,foldedSetIterable iter X.env x=pure x:=by intro _; rfl):EM X (.Assign [.Name x pos'] (.ListComp elt [⟨tg,iter,ifs,0⟩] sc pos) spos) (aC2 i (GJ ls.length fr ti g tf te)) :=
 j3 (xV (g:=xW X.K ls.length (ls++fs).length g) (tf:=liftT X.K tf) (te:=lift X.K te) nd hx0 hx hc (nG B) hi (λcl C pn ex s H=>hg cl C pn ex s H (nG B).nd) hf he hsw hs) λBd U H aKe=>by
 obtain ⟨H₀,S,w,Z,G,E,hl,st,ht,ok⟩:=aKe;exact t9 (n:=(ls++fs).length) (by rw [List.length_append,(nG B).GA]) ⟨_,kD Z,_,st.UM,st.rd,ht,λp xs H' ds hp hp' s' d' q'=>ok.nx _ _ H' _ (by rw [length_set]; exact hl) (st.xO (d:=.lst ds) (by rw [hl]; exact iO hx0) s' hp ⟨xs,hp',d'⟩) q'⟩
end
section
variable{X:Cx}
def tyD:D->String
 | .non => "NoneType"
 | .bl _ => "bool"
 | .int _ => "int"
 | .str _ => "str"
 | .tup _ => "tuple"
 | .lst _ => "list"
 | .jW _ => "list"
 | .lB _ _ => "dict"
 | .dF _ _ _ => "dict"
 | .exc _ _ => "NoneType"
inductive Ty4:String->Prop
 | t:Ty4 "tuple"
 | b:Ty4 "bool"
 | i:Ty4 "int"
 | s:Ty4 "str"
def isT(T:String)(d:D):Bool:=tyD d == T||(T == "int" && tyD d == "bool")
def aKf(K:W.Frag)(T:String):List V->Hp->VK->Prop:=λxs H Q=>∃ x t b,xs=[x,.ty T]/\(sG K H x t\/(t=.type "tuple" /\ ∃ a ys,x=.ref a/\gA K H a ys)\/(t=.type "list" /\ ∃ a ys,x=.ref a/\gH K H a ys))/\W.kitOne K t (.type T)=some b/\Q (.bl b) H
theorem U4{T:String}:jI X (.builtin "isinstance") (aKf X.K T):=by
 intro pins s U H xs us Q I r h;obtain ⟨x,t,b,rfl,ty,e,q⟩:=h;obtain ⟨u,w',rfl,r1,r2⟩:=vals2 r;obtain rfl:w' = Value.type T:=r2;rcases ty with ty | ⟨rfl,a,ys,rfl,hq⟩ | ⟨rfl,a,ys,rfl,hq⟩
 .exact OG I r1 ty e λtk=>⟨.bl b,H,I.tok tk,rfl,q⟩
 .cases r1;obtain ⟨its,_,p,_⟩:=I.tuple hq;obtain ⟨o,h1,h2,_⟩:=p;exact W.kia_one W.kitx_tuple I.zH ⟨o,h1,h2⟩ e (λz=>nomatch z) λtk=>⟨.bl b,H,I.tok tk,rfl,q⟩
 .cases r1;obtain ⟨its,_,p,_⟩:=I.list hq;obtain ⟨o,n,h1,h2,_⟩:=p;exact W.kia_one W.kitx_list I.zH ⟨o,h1,h2⟩ e (λz=>nomatch z) λtk=>⟨.bl b,H,I.tok tk,rfl,q⟩
def aAk:D->Prop
 | .exc _ _=>False
 | .dF _ _ _=>False
 | _=>True
def aKg(T:String)(t:WE):WE:=λZ Q=>t Z λd=>aAk d/\Q (.bl (isT T d))
theorem aKh{T:String}(h:Ty4 T)(d:D):W.kitOne K (.type (tyD d)) (.type T)=some (isT T d):=by cases h<;>cases d<;>with_unfolding_all rfl
theorem aFW{S:Addr->Prop}{H:Hp}{d:D}{v:V}(hne:aAk d)(h:Dn K S H d v):∃ t,t=Value.type (tyD d)/\(sG K H v t\/(t=.type "tuple" /\ ∃ a ys,v=.ref a/\gA K H a ys)\/(t=.type "list" /\ ∃ a ys,v=.ref a/\gH K H a ys)):=by
 refine ⟨_,rfl,?_⟩;cases d<;>simp only [Dn] at h
 .subst h; exact .inl .non
 .subst h; exact .inl (.bl _)
 .subst h; exact .inl (.int _)
 .subst h; exact .inl (.str _)
 .obtain ⟨a,xs,rfl,hq,_⟩:=h; exact .inr (.inl ⟨rfl,a,xs,rfl,(gA.of hq)⟩)
 .obtain ⟨a,xs,rfl,hq,_⟩:=h; exact .inl (.lst hq)
 .obtain ⟨a,rfl,hq⟩:=h; exact .inr (.inr ⟨rfl,a,_,rfl,hq.sq⟩)
 .obtain ⟨a,xs,rfl,hq,_⟩:=h; exact .inl (.dK hq)
 .exact hne.elim
 .exact hne.elim
theorem aKi{T:String}{x:Str}{e:Expr}{t:WE}{p p2 pos:Pos}(hT:Ty4 T)(hm:X.mg "isinstance" = none)(hmT:X.mg x=none)(hv:bootBuiltins x=some (.type T))(he:cU X e t)(hg:Gl X "isinstance" := by rfl)(hgT:Gl X x:=by rfl)(hn:x ≠ "__name__" := by decide)(hdb:(x == ("__debug__" : Str))=false:=by decide)
  (hs:starEach [e,.Name x p2] X.env=(false,eval e X.env)::starEach [.Name x p2] X.env:=by rfl) (hs2:starEach [.Name x p2] X.env=(false,eval (.Name x p2) X.env)::starEach [] X.env:=by rfl) (hpl:(backTo pos (starEach [.Name x p2] X.env)).any (·.1)=false:=by rfl) :
  cU X (.Call (.Name "isinstance" p) [e,.Name x p2] [] pos) (aKg T t) :=
 imp (sH (U4 (T:=T)) hg hm PyProof.Rows.boot_isinstance (nE he (nE (YQ (v:=.ty T) hgT hmT hv rfl hn hdb) xM hs2) hs) (by decide) (by decide) hs hpl) λU H Q aKl=>by obtain ⟨S,Z,Q3,fc,sl,ht,k⟩:=aKl;refine ⟨S,Z,_,fc,sl,ht,λv H1 d s1 d1 q1=>?_⟩;obtain ⟨tt,e1,e2⟩:=aFW q1.1 d1;refine ⟨v,tt,isT T d,rfl,e2,?_,k _ H1 (.bl _) s1 (by simp only [Dn]) q1.2⟩;rw [e1]; exact aKh hT d
def aAl:List D->Option (List Bool)
 | []=>some []
 | .bl b::r=>(aAl r).map (b :: ·)
 | _::_=>none
theorem range_all(bs:List Bool):(List.range bs.length).all (λi=>bs.getD i true)=bs.all id:=by
 induction bs with
 | nil=>rfl
 | cons b bs ih=>rw [length_cons,List.range_succ_eq_map,all_cons,all_map,all_cons,<- ih]; rfl
def blF(f:List Bool->Bool):F1
 | [.lst ds],Q=>(match aAl ds with | some bs=>Q (.bl (f bs)) | none=>False)
 | _,_=>False
def aAm:List V->Hp->VK->Prop:=λxs H Q=>∃ a ns,xs=[.ref a]/\H a=some (.lst (ns.map V.int))/\ns.length<64 /\ ∀ ns':List Int,ns'.Perm ns->ns'.Pairwise (· <= ·) -> ∀ p,H p=none->Q (.ref p) (upd H p (.lst (ns'.map V.int)))
theorem D3:jI X (.builtin "sorted") aAm:=by
 intro pins s U H xs us Q I r h;obtain ⟨a,ns,rfl,ha,h64,q⟩:=h;obtain ⟨u,rfl,ru⟩:=vals1 r;cases ru;obtain ⟨its,rv,p,hz⟩:=I.list (gH.of ha);have hi:=intsAre_of rv;have hlen:its.length=ns.length:=by have:=rv.length; rw [length_map] at this; exact this.symm
 refine sorted_ints p.isList hi (by omega) λout ns' a1 a2 a3=>?_;have hfr:H (s.heap.objs.size+1)=none:=I.hok.fresh (Nat.le_succ _);obtain ⟨e1,hat⟩:=sortedAll_at s.heap its out;have hz2:ns'.length<=sizeLine:=by rw [a2.length_eq,sizeLine_eq]; omega
 have I1:Inv X pins U (upd H (s.heap.objs.size+1) (.lst (ns'.map V.int))) { s with heap:=sortedAll s.heap its out } :=
  I.laid (t':=s.toks) (λb o e=>sortedAll_old e) (Nat.le_succ _) ⟨by rw [length_map]; exact hz2,out.toList,e1,pI a1,by simpa [seqObj] using hat⟩
 exact ⟨.ref _,_,I1,rfl,q ns' a2 a3 _ hfr⟩
def intsOf:List D->Option (List Int)
 | []=>some []
 | .int b::r=>(intsOf r).map (b :: ·)
 | _::_=>none
theorem eK:∀ bs:List Int,intsOf (bs.map D.int)=some bs
 | []=>rfl
 | b::bs=>by rw [map_cons,intsOf,eK bs]; rfl
theorem uA:∀ {ds:List D} {bs:List Int},intsOf ds=some bs->ds=bs.map D.int
 | [],bs,h=>by cases h; rfl
 | .int b::r,bs,h=>by
  rw [intsOf] at h
  cases q:intsOf r with
  | none=>rw [q] at h; cases h
  | some cs=>rw [q] at h; cases h; rw [map_cons,uA q]
 | .non::r,bs,h=>by cases h
 | .bl _::r,bs,h=>by cases h
 | .str _::r,bs,h=>by cases h
 | .tup _::r,bs,h=>by cases h
 | .lst _::r,bs,h=>by cases h
 | .jW _::r,bs,h=>by cases h
 | .lB _ _::r,bs,h=>by cases h
 | .dF _ _ _::r,bs,h=>by cases h
def U5:F1
 | [.lst ds],Q=>(match intsOf ds with | some ns=>ns.length<64 /\ ∀ ns':List Int,ns'.Perm ns->ns'.Pairwise (· <= ·)->Q (.lst (ns'.map D.int)) | none=>False)
 | _,_=>False
theorem ZY:C3F K aAm U5:=by
 intro S H xs ds Q3 Q fc hd hf k
 match ds,hf with
 | [.lst es],hf =>
  obtain ⟨v,r,rfl,h1,h2⟩:=hd.bV;simp only [bC] at h2;subst h2;simp only [Dn] at h1;obtain ⟨a,ys,rfl,ha,sa,da⟩:=h1;have hf2:(match intsOf es with | some ns=>ns.length<64 /\ ∀ ns':List Int,ns'.Perm ns->ns'.Pairwise (· <= ·)->Q3 (.lst (ns'.map D.int)) | none=>False):=hf
  clear hf
  cases q:intsOf es with
  | none=>rw [q] at hf2; exact hf2.elim
  | some ns =>
   rw [q] at hf2;have e:=uA q;subst e;have e2:=bC.ints.mp da;subst e2;exact ⟨a,ns,rfl,ha,hf2.1,λns' h1 h2 p hp=>k p _ _ _ hp bD (aX hp) (bC.ints.mpr rfl) (hf2.2 ns' h1 h2)⟩
theorem ZZ{p pos:Pos}{e:Expr}{t:WA}(hm:X.mg "sorted" = none)(ha:zJ X [e] t)(hg:Gl X "sorted" := by rfl)
  (he:starEach [e] X.env=(false,eval e X.env)::starEach [] X.env:=by rfl):HN X (.Call (.Name "sorted" p) [e] [] pos) (OT U5 t):=ZM D3 ZY PyProof.Rows.boot_sorted hg hm ha (by decide) (by decide) he (by rfl)
end
section
variable{i j:Int}{a b:List D}{Q:D->Prop}
end
section
variable{X:Cx}
theorem OY{a:Expr}{ta:TA}{p pos:Pos}(hg:Gl X "range")(hm:X.mg "range" = none)(ha:PA X [a] ta)(hs:starEach [a] X.env=[(false,eval a X.env)]:=by rfl) :
  PE X (.Call (.Name "range" p) [a] [] pos) (λU H Q=>ta U H λvs H1=>∃ j:Int,vs=[.int j] /\ ∀ p,H1 p=none->Q (.ref p) (upd H1 p (.rng 0 j))):=by
 intro pins s U H Q I h;refine Call_ (qP I hg hm PyProof.Rows.boot_range (PyProof.Rows.callWith_type1 (dN (ha pos pins s U H _ I h) λus s1 ⟨vs,H1,I1,r1,q1⟩=>?_) hs rfl));obtain ⟨j,e,q⟩:=q1;subst e;obtain ⟨u,rfl,ru⟩:=vals1 r1;obtain ⟨t,rfl⟩:=ru;refine call_range_1 ?_;exact ⟨.ref s1.heap.objs.size,_,I1.laid (o:=.rng 0 j) (λb o e=>get?_push_of_some _ e) (le_refl _) ⟨_,_,_,get?_push_size _ rfl⟩,rfl,q _ (I1.hok.fresh (le_refl _))⟩
theorem U6{lo:Int}{n:Nat}{acc:Array Value}(h:ItemsOf (λi v=>∃ t,v=.int (lo+(i:Nat)*1) t) acc n):Vals ((t8 lo n).map V.int) acc.toList:=by
 obtain ⟨hz,hv⟩:=h;have key:∀ (l:List Value) (k:Nat) (m:Nat),l.length=m->(∀ (j:Nat) (v:Value),l[j]? = some v -> ∃ t,v=Value.int (lo+((k+j:Nat):Int)) t)->Vals (((List.range' k m).map λi:Nat=>lo+(i:Int)).map V.int) l:=by
  intro l
  induction l with
  | nil=>intro k m hm _; subst hm; exact .nil
  | cons v l ih =>
   intro k m hm hh;subst hm;rw [length_cons,List.range'_succ,map_cons,map_cons];refine .cons ?_ (ih (k+1) l.length rfl λj w e=>?_)
   .obtain ⟨t,e⟩:=hh 0 v (by simp);exact ⟨t,by simpa using e⟩
   .obtain ⟨t,e2⟩:=hh (j+1) w (by simpa using e);exact ⟨t,by rw [e2]; congr 1; congr 1; congr 1; omega⟩
 have:=key acc.toList 0 n (by simpa using hz) λj v e=>by obtain ⟨t,e2⟩:=hv j v (by simpa using e);exact ⟨t,by rw [e2]; simp⟩
 unfold t8;rw [List.range_eq_range'];exact this
theorem zY(hc:X.calm=true):jI X (.type "list") (λxs H Q=>∃ p j,xs=[.ref p]/\H p=some (.rng 0 j) /\ -(2 ^ 62)<=j/\j<=16777216 /\ ∀ l,H l=none->Q (.ref l) (upd H l (.lst ((t8 0 j.toNat).map V.int)))):=by
 intro pins s U H xs us Q I r h;obtain ⟨p,j,rfl,hp,h0,h1,q⟩:=h;obtain ⟨u,rfl,ru⟩:=vals1 r;cases ru;obtain ⟨t,u,v,e⟩:=I.hok p _ hp;have hsz:Builtin.Range.rangeSize 0 j 1=(j.toNat:Int):=by rw [rangeSize_one]; split<;>omega
 refine call_list_range (a:=0) (b:=j) (c:=1) (n:=j.toNat) (I.ok.hd hc) e (small_one (by omega) (by omega) (by omega) (by omega)) hsz (by omega) λh' tk acc' c' kp hn hit=>?_;have hfr:H s.heap.objs.size=none:=I.hok.fresh (le_refl _);have hv:Vals ((t8 0 j.toNat).map V.int) acc'.toList:=U6 hit;refine ⟨.ref s.heap.objs.size,_,I.laid (o:=.lst ((t8 0 j.toNat).map V.int)) kp (le_refl _) ⟨?_,acc'.toList,c',hv,by simpa using hn⟩,rfl,q _ hfr⟩;rw [length_map,uT,sizeLine_eq];omega
def aCg(t:WA):WE:=λZ Q=>t Z λds=>match ds with
 | [.int j]=>(-(2 ^ 62)<=j/\j<=16777216)/\Q (.lst ((t8 0 j.toNat).map D.int))
 | _=>False
theorem JK{a:Expr}{t:WA}{p pos p2 pos2:Pos}(hc:X.calm=true)(hm:X.mg "list" = none)(hmr:X.mg "range" = none)(ha:zJ X [a] t)(hg:Gl X "list" := by rfl)(hgr:Gl X "range" := by rfl)(hs:starEach [a] X.env=[(false,eval a X.env)]:=by rfl)
  (he:starEach [.Call (.Name "range" p2) [a] [] pos2] X.env=(false,eval (.Call (.Name "range" p2) [a] [] pos2) X.env)::starEach [] X.env:=by rfl) :
  HN X (.Call (.Name "list" p) [.Call (.Name "range" p2) [a] [] pos2] [] pos) (aCg t) :=
 imp (pH (zY hc) hg hm PyProof.Rows.boot_list (nE (OY hgr hmr ha hs) xM he) (by decide) (by decide) he (by rfl)) λU H Q aKm=>by
  obtain ⟨S,Z,Q3,fc,sl,ht,k⟩:=aKm;refine ⟨S,Z,_,fc,sl,ht,λvs H1 ds s1 d1 q1=>?_⟩;split at q1
  .rename_i j;obtain ⟨v,r,rfl,h1,h2⟩:=d1.bV;simp only [bC] at h2;subst h2;simp only [Dn] at h1;subst h1;refine ⟨j,rfl,λp hp=>⟨p,j,rfl,bD,q1.1.1,q1.1.2,λl hl=>?_⟩⟩;have hl1:H1 l=none:=(aX hp).free hl;exact k l _ _ _ (s1.free hl1) bD ((s1.trans (aX hp)).trans (aX hl)) (bC.ints.mpr rfl) q1.2
  .exact q1.elim
def lH(ks:List Key)(ds:List D)(k:Key):Option D:=((ks.zip ds).find? λkv=>decide (kv.1=k)).map (·.2)
theorem xX{K:W.Frag}{S:Addr->Prop}{H:Hp}{k:Key}:∀ {ks:List Key} {ds:List D} {xs:List V},ks.length=xs.length->bC K S H ds xs ->
  (∀ d,lH ks ds k=some d -> ∃ v,iB (ks.zip xs) k=some v/\Dn K S H d v)/\(lH ks ds k=none->iB (ks.zip xs) k=none)
 | [],ds,xs,_,_=>by
  refine ⟨λd e=>?_,λ_=>?_⟩
  .simp [lH] at e
  .simp [iB]
 | q::ks,ds,xs,hl,dn=>by
  cases ds with
  | nil=>simp only [bC] at dn; subst dn; simp at hl
  | cons d0 ds =>
   obtain ⟨v,r,rfl,h1,h2⟩:=dn.bV;have ih:=xX (k:=k) (ks:=ks) (ds:=ds) (xs:=r) (by simpa using hl) h2;by_cases e:q=k
   .refine ⟨λd ed=>?_,λed=>?_⟩
    .simp only [lH,zip_cons_cons,find?_cons,e,decide_true,map_some] at ed;cases ed;exact ⟨v,by simp [iB,e],h1⟩
    .simp [lH,e] at ed
   .refine ⟨λd ed=>?_,λed=>?_⟩
    .have ed':lH ks ds k=some d:=by simpa [lH,e] using ed
     obtain ⟨u,eu,du⟩:=ih.1 d ed';exact ⟨u,by simpa [iB,e] using eu,du⟩
    .have ed':lH ks ds k=none:=by simpa [lH,e] using ed
     simpa [iB,e] using ih.2 ed'
theorem U7{i:Nat}{x:Str}{pos pos' p:Pos}(hN:X.N.Nodup)(hi:X.N[i]? = some x:=by rfl)(hx:Loc X.env.scope x:=by first | exact .inl rfl | exact .inr rfl)(hs:swapsWith (.Dict [] [] p) (some (.Name x pos')) pos.line X.env=pure false:=by rfl)(hf:X.fn x=true\/X.env.scope.names.lookup x=some .local:=by first | exact .inl rfl | exact .inr rfl) :
  EM X (.Assign [.Name x pos'] (.Dict [] [] p) pos) (λE Z=>E.nx (Z.set i (.ow (.lB [] [])))):=j3 (oG hN hi hx UJ hs hf) λB U H ⟨H₀,S,w,Z,G,E,hl,st,ht,ok⟩=>λp hp =>
 ok.nx _ _ _ _ (by rw [length_set]; exact hl) (st.xO (d:=.lB [] []) (by rw [hl]; exact iO hi) (aX hp) hp ⟨[],bD,rfl,bC.nil⟩) ht
def GK:D->Option Key
 | .int i=>some (.inl i)
 | .str x=>some (.inr x)
 | _=>none
theorem U8{S:Addr->Prop}{H:Hp}{d:D}{v:V}{k:Key}(h:Dn K S H d v)(e:GK d=some k):v=kV k:=by cases d<;>simp only [GK] at e<;>cases e<;>simp only [Dn] at h<;>exact h
def aCh:F2:=λx y Q=>match x,GK y with
 | .lB ks ds,some k=>(match lH ks ds k with | some d=>Q d | none=>False)
 | _,_=>False
theorem aKn{o i:Expr}{pos:Pos}{to ti:WE}(hu:X.A.units+1<cLine)(ho:cU X o to)(hi:cU X i ti)(hs:OO i:=by intro _ _; rfl):cU X (.Subscript o i pos) (iM aCh to ti):=imp (ZC hu ho hi hs) λU H Q aKo=>by
 obtain ⟨S,Z,Q3,fc,sl,ht,k⟩:=aKo;refine ⟨S,Z,_,fc,sl,ht,λv H1 d s1 d1 q1=>?_⟩;refine ⟨S,Z,_,bP fc s1,Sl.fits (.same s1) sl,q1,λu H2 d2 s2 Q2 q2=>?_⟩;unfold aCh at q2;split at q2
 .rename_i ks ds kk ek;have d1':=Dn.fits (.same s2) _ _ d1;simp only [Dn] at d1';obtain ⟨a,xs,rfl,ha,sa,hl,da⟩:=d1';split at q2
  .rename_i d3 e3;obtain ⟨v3,ev,dv⟩:=(xX hl da).1 d3 e3;have eu:=U8 Q2 ek;subst eu;refine ⟨a,v3,rfl,?_,k v3 H2 d3 (s1.trans s2) dv q2⟩;have g:=FX.k (k:=kk) ha;rw [ev] at g;exact g
  .exact q2.elim
 .exact q2.elim
def aFX(i:Nat)(t:WX)(tk:WE):WS:=λE Z=>t Z λρ' d=>(match ρ'[i]? with | some (.ow (.lB _ _))=>True | _=>False)/\tk (bT ρ') λkd=>match ρ'[i]?,GK kd with
 | some (.ow (.lB ks ds)),some k=>(lH ks ds k=none/\ds.length<sizeLine)/\E.nx (ρ'.set i (.ow (.lB (ks++[k]) (ds++[d]))))
 | _,_=>False
theorem aFY{i:Nat}{x:Str}{e k:Expr}{t:WX}{tk:WE}{pos pos' p:Pos}(hu:X.A.units+1<cLine)(he:GC X e t)(hk:cU X k tk)
  (hN:X.N[i]? = some x:=by rfl) (hv:EL X.env.scope x:=by first | exact Or.inl rfl | exact Or.inr (Or.inl rfl) | exact Or.inr (Or.inr rfl)) (hd:(x == ("__debug__" : Str))=false:=by decide) (hcd:(x == ("__classdict__" : Str))=false:=by decide)
  (hs:swapsWith e (some (.Subscript (.Name x p) k pos')) pos.line X.env=pure false:=by rfl) :
  EM X (.Assign [.Subscript (.Name x p) k pos'] e pos) (aFX i t tk):=j3 (ZD hu (t5 hN hv hd hcd) hk he hs) λB U H aKp=>by
 obtain ⟨H₀,S,w,Z,G,E,hl,st,ht,ok⟩:=aKp;refine ⟨H₀,S,w,Z,G,_,hl,st,ht,λw' v H' ρ' d st' d' q'=>?_⟩;obtain ⟨q0,q'⟩:=q';split at q0
 .rename_i ks0 ds0 e0;obtain ⟨a0,_,_⟩:=st'.own i _ e0;refine ⟨_,a0,S,bT ρ',_,st'.OQ,st'.all,q',λkv H2 dk s2 dk2 q2=>?_⟩;split at q2
  .rename_i ks ds kk e1 ek;have st2:=st'.same s2;obtain ⟨a,b,c⟩:=st2.own i _ e1;obtain ⟨xs,hp,hlen,dn⟩:=c;have eu:=U8 dk2 ek;subst eu;have hno:=(xX (k:=kk) hlen dn).2 q2.1.1;have nS:¬ SO S w' ρ' (w' i):=λ⟨_,z⟩=>z i _ e1 rfl;have hz:(ks.zip xs).length<sizeLine:=by rw [List.length_zip,hlen,Nat.min_self,<- dn.len]; exact q2.1.2
   have aKq:putK (ks.zip xs) kk v=(ks++[kk]).zip (xs++[v]):=by rw [UF v hno,List.zip_append hlen]; rfl
   have F:Fits X.K (SO S w' ρ') (SO S w' ρ') H2 (upd H2 (w' i) (.dK (putK (ks.zip xs) kk v))):=.upd (.inr (.inl ⟨_,hp⟩)) nS;refine ⟨w' i,_,rfl,JG.k hp hz,ok.nx w' U _ _ hl (st2.write (d':=.lB (ks++[kk]) (ds++[d])) e1 ⟨xs++[v],?_,by simp [hlen],bC.fits F _ _ (dn.append (bC.one (Dn.fits (.same s2) _ _ d')))⟩) q2.2⟩;rw [bD,aKq]
  .exact q2.elim
 .exact q0.elim
def aAn(i:Nat)(t:WE):WS:=λE Z=>t (bT Z) λd=>(match d with | .lst ds=>kW ds=true | _=>False)/\E.nx (Z.set i (.ro d))
theorem aFZ{i:Nat}{x:Str}{e:Expr}{t:WE}{pos pos':Pos}(hN:X.N.Nodup)(he:HN X e t)(hi:X.N[i]? = some x:=by rfl)(hx:Loc X.env.scope x:=by first | exact .inl rfl | exact .inr rfl)(hs:swapsWith e (some (.Name x pos')) pos.line X.env=pure false:=by rfl)(hf:X.fn x=true\/X.env.scope.names.lookup x=some .local:=by first | exact .inl rfl | exact .inr rfl) :
  EM X (.Assign [.Name x pos'] e pos) (aAn i t):=j3 (oG hN hi hx he hs hf) λB U H aKr=>by
 obtain ⟨H₀,S,w,Z,G,E,hl,st,ht,ok⟩:=aKr;exact ⟨_,bT Z,_,st.OQ,st.all,ht,λp xs H' ds hp hp' s' d' q'=>ok.nx w _ H' _ (by rw [length_set]; exact hl) ((st.same s').nF (d:=.lst ds) (by rw [hl]; exact iO hi) (by simp only [Dn]; exact ⟨p,xs,rfl,hp',st.UM p hp,bC.vN q'.1 d'⟩)) q'.2⟩
def aCi(c:WT)(tb:WS):WS:=λE Z=>∃ (Inv:aP->Prop) (μ:aP->Nat),Inv Z /\ ∀ ρ',Inv ρ'->c (bT ρ') λb=>if b=true then tb { E with nx:=λρ2=>Inv ρ2/\μ ρ2<μ ρ',ct:=λρ2=>Inv ρ2/\μ ρ2<μ ρ',bk:=E.nx } ρ' else E.nx ρ'
theorem aCj{c:Expr}{body:List Stmt}{tc:WT}{tb:WS}{pos:Pos}(hp:PassesOwn (model X.prog X.w) X.A X.env X.xe)(hc:vY X c tc)(hb:vG X body tb):EM X (.While c body [] pos) (aCi tc tb):=j3 (TR hp hc hb) λB U H aKs=>by
 obtain ⟨H₀,S,w,Z,G,E,hl,st,⟨Iv,μ,h0,turn⟩,ok⟩:=aKs;refine ⟨λm U H=>∃ w Z,U.length=X.N.length/\ST X.K H₀ S w U H Z G/\Iv Z/\m=μ Z,⟨_,w,Z,hl,st,h0,rfl⟩,?_⟩;rintro m σ2 H2 ⟨w2,ρ2,hl2,st2,iv,rfl⟩;refine ⟨S,bT ρ2,_,st2.OQ,st2.all,turn ρ2 iv,λb H3 s3 q3=>?_⟩
 cases b with
 | false=>rw [if_neg Bool.false_ne_true] at q3 ⊢; exact ok.nx w2 σ2 H3 ρ2 hl2 (st2.same s3) q3
 | true =>
  rw [if_pos rfl] at q3 ⊢;refine ⟨λσ' H'=>∃ w Z,σ'.length=X.N.length/\ST X.K H₀ S w σ' H' Z G/\Iv Z/\μ Z<μ ρ2,λσ' H' ⟨w',ρ',hl',st',iv',hm⟩=>⟨_,hm,w',ρ',hl',st',iv',rfl⟩,?_⟩;exact ⟨H₀,S,w2,ρ2,G,_,hl2,st2.same s3,q3,⟨λw' σ' H' ρ' hl' st' q=>⟨w',ρ',hl',st',q.1,q.2⟩,λv H' d s' d' q=>ok.rt v H' d s' d' q,λw' σ' H' ρ' hl' st' q=>ok.nx w' σ' H' ρ' hl' st' q,λw' σ' H' ρ' hl' st' q=>⟨w',ρ',hl',st',q.1,q.2⟩,ok.ex⟩⟩
def aCk:List D->D->(List D->D->Prop)->Prop
 | ds,.lst es,Q=>ds.length+es.length<=sizeLine/\Q (ds++es) .non
 | _,_,_=>False
theorem aCl:M3 K MK aCk:=by
 intro S H p xs ds y d Q3 Q hp dn dy hf k
 cases d with
 | lst es =>
  simp only [Dn] at dy;obtain ⟨b,zs,rfl,hb,sb,db⟩:=dy;exact ⟨p,b,xs,zs,rfl,rfl,hp,hb,by rw [<- dn.len,<- db.len]; exact hf.1,k _ _ _ _ (dn.append db) (by simp only [Dn]) hf.2⟩
 | _=>exact hf.elim
section
variable{i:Nat}{x:Str}{e:Expr}{p apos cpos:Pos}{t:WX}
theorem Z0(he:GC X e t)(hN:X.N[i]? = some x:=by rfl)(hv:EL X.env.scope x:=by first | exact Or.inl rfl | exact Or.inr (Or.inl rfl) | exact Or.inr (Or.inr rfl))(hd:(x == ("__debug__" : Str))=false:=by decide)(hcd:(x == ("__classdict__" : Str))=false:=by decide)
  (hbase:attributeBase (.Name x p) "extend" X.env (eval (.Name x p) X.env)=eval (.Name x p) X.env:=by rfl)
  (hfew:((backTo cpos (starEach [e] X.env)).all (λx=>!x.1)&&(backToKw cpos (keywordEach [] X.env)).all (λx=>x.1.isSome)
   && decide ([e].length+([]:List Keyword).length+(if ([]:List Keyword).isEmpty then 0 else 1)<30))=true:=by rfl)
  (hline:(apos.endLine == cpos.line)=true:=by rfl) (hs:starEach [e] X.env=(false,eval e X.env)::starEach [] X.env:=by rfl) :
  GC X (.Call (.Attribute (.Name x p) "extend" apos) [e] [] cpos) (wM1 i aCk t):=m1 PySem.F.slot_list_extend PySem.F.type_list_extend OJ aCl he hN hv hd hcd hbase hfew hline hs
def aAo(i:Nat):WX:=λZ Q=>match Z[i]? with
 | some (.ow (.lst ds))=>(match ds[ds.length - 1]? with | some d=>Q (Z.set i (.ow (.lst ds.dropLast))) d | none=>False)
 | _=>False
theorem bC.dropLast{S:Addr->Prop}{H:Hp}{ds:List D}{xs:List V}(h:bC K S H ds xs):bC K S H ds.dropLast xs.dropLast:=by rw [<- qR,<- qR,<- h.len];exact h.erase _
theorem aF0(hN:X.N[i]? = some x:=by rfl)(hv:EL X.env.scope x:=by first | exact Or.inl rfl | exact Or.inr (Or.inl rfl) | exact Or.inr (Or.inr rfl))(hd:(x == ("__debug__" : Str))=false:=by decide)(hcd:(x == ("__classdict__" : Str))=false:=by decide)
  (hbase:attributeBase (.Name x p) "pop" X.env (eval (.Name x p) X.env)=eval (.Name x p) X.env:=by rfl) (hline:(apos.endLine == cpos.line)=true:=by rfl) :
  GC X (.Call (.Attribute (.Name x p) "pop" apos) [] [] cpos) (aAo i) :=
 imp (aCP PySem.F.plainAttrs_list PySem.F.slot_list_pop PySem.F.type_list_pop aCQ (t5 hN hv hd hcd) hbase hline) λU H Q aKt=>by
  obtain ⟨H₀,S,w,Z,G,Q3,hl,st,ht,k⟩:=aKt;unfold aAo at ht;split at ht
  .rename_i ds e;split at ht
   .rename_i d ed;obtain ⟨a,b,c⟩:=st.own i _ e;obtain ⟨xs,hp,dn⟩:=c;obtain ⟨v,ev,dv⟩:=dn.get ed;have nS:¬ SO S w Z (w i):=λ⟨_,z⟩=>z i _ e rfl;have F:Fits X.K (SO S w Z) (SO S w Z) H (upd H (w i) (.lst xs.dropLast)):=.upd (.inl ⟨_,hp⟩) nS;have so:∀ a,SO S w Z a->SO S w (Z.set i (.ow (.lst ds.dropLast))) a:=SO.mono λj f hf=>by
     rcases get_set hf with ⟨hj,_,_⟩ | ⟨_,z⟩
     .subst hj; exact ⟨_,e⟩
     .exact ⟨_,z⟩
    refine ⟨_,a,.inl ⟨rfl,xs,gH.of hp⟩,w i,xs,v,rfl,rfl,hp,by rw [<- dn.len]; exact ev,?_⟩;exact k w v _ _ d (st.write (d':=.lst ds.dropLast) e ⟨_,bD,bC.fits F _ _ dn.dropLast⟩) (Dn.fits (F.trans (.mono so)) _ _ dv) ht
   .exact ht.elim
  .exact ht.elim
end
end
section
variable{X:Cx}{pins:List (Addr×Obj)}{U:L2.St}{H:Hp}{s:Shared}{h':Heap}
theorem turnT{t':Nat}{ch:List Addr}{T:Addr}{xs:List V}{its:List Value}(I:Inv X pins U H s)(k:∀ b o,b∉ch->s.heap.get? b=some o->h'.get? b=some o)(hf:∀ b∈ch,qQ X pins H b)
  (hT:s.heap.objs.size<=T) (hv:Vals xs its) (hz:xs.length<=sizeLine) (ht:IsTup h' T its.toArray):Inv X pins U (upd H T (.tup xs)) { s with heap:=h',toks:=t' }:=by
 have fr:H T=none:=I.hok.fresh hT;have nT:∀ {b:Addr} {o:Obj},s.heap.get? b=some o->b≠T:=λ{b} {o} e z=>lt_irrefl _ (lt_of_lt_of_le (lt_size e) (z▸hT));have live:∀ {b:Addr} {u:HO},H b=some u->b∉ch:=λ{b} {u} e z=>by rw [(hf _ z).1] at e; cases e
 refine I.call' (s':={ s with heap:=h',toks:=t' }) (ch:=ch) rfl ⟨λb o e _ _ hx=>k b o hx e,λb o e _ _ hx=>⟨o.slots,k b o hx e⟩,λb o e n _=>by rw [bQ (nT e)]; exact n,λb o e hx=>⟨o,k b o hx e⟩,
  λb ys e=>by rw [bQ (bU e fr)]; exact e,λb o u e=>by rw [bQ (bU e fr)]; exact e,λb ps e=>⟨#[],by rw [bQ (bU e fr),e]; simp⟩⟩ ?_ I.bare λb hb=>?_
 .intro b u e;by_cases hb:b=T
  .subst hb; rw [bD] at e; cases e; exact ⟨hz,its,hv,ht⟩
  .rw [bQ hb] at e;refine (I.hok b u e).stay (λc v hc q=>k c v ?_ q) (λc q=>by rw [bQ (bU q fr)]; exact q) λc ys q=>by rw [bQ (bU q fr)]; exact q
   rcases hc with rfl | hc
   .exact live e
   .exact live hc
 .obtain ⟨_,f1,_,f3,f4,f5⟩:=hf b hb;exact ⟨f3,f1,f4,f5⟩
theorem U9{t':Nat}{ch:List Addr}(I:Inv X pins U H s)(k:∀ b o,b∉ch->s.heap.get? b=some o->h'.get? b=some o)(hf:∀ b∈ch,qQ X pins H b):Inv X pins U H { s with heap:=h',toks:=t' }:=by
 have live:∀ {b:Addr} {u:HO},H b=some u->b∉ch:=λ{b} {u} e z=>by rw [(hf _ z).1] at e; cases e
 refine I.call' (s':={ s with heap:=h',toks:=t' }) (ch:=ch) rfl ⟨λb o e _ _ hx=>k b o hx e,λb o e _ _ hx=>⟨o.slots,k b o hx e⟩,λb o e n _=>n,λb o e hx=>⟨o,k b o hx e⟩,
  λb ys e=>e,λb o u e=>e,λb ps e=>⟨#[],by rw [e]; simp⟩⟩ ?_ I.bare λb hb=>?_
 .intro b u e;refine (I.hok b u e).stay (λc v hc q=>k c v ?_ q) (λc q=>q) λc ys q=>q;rcases hc with rfl | hc
  .exact live e
  .exact live hc
 .obtain ⟨_,f1,_,f3,f4,f5⟩:=hf b hb;exact ⟨f3,f1,f4,f5⟩
end
def Itp(go:Nat->Hp->Prop)(Y:Nat->Hp->List V->Prop)(stop:Nat->Hp->Prop):It:=⟨go,λi H x H'=>∃ T vs,x=.ref T/\H T=none/\H' = upd H T (.tup vs)/\Y i H vs,stop⟩
theorem xZ{P:Program}{w:World}{K:W.Frag}{es:List Expr}{kk:Nat}{tp:Pos}{go:Nat->Hp->Prop}{Y:Nat->Hp->List V->Prop}{stop:Nat->Hp->Prop}{fp:List Addr}{it:Addr}{tn:Nat->Heap->Prop}(mem:it∈fp)
  (obj:∀ i h,tn i h -> ∀ b∈fp,∃ o,h.get? b=some o /\ ∀ v,o.data≠.cell v) (keep:∀ i h h',tn i h->(∀ b∈fp,∀ o,h.get? b=some o->h'.get? b=some o)->tn i h')
  (wk:∀ (X:Cx),X.prog=P->X.w=w->X.K=K->X.calm=true -> ∀ (i:Nat) (pins:List (Addr×Obj)) (s:Shared) (U:L2.St) (H:Hp),Inv X pins U H s->tn i s.heap->go i H\/stop i H ->
   ∃ fp2 wr n Pt St Mid,WalksT P w X.A it fp2 wr n Pt St Mid/\St i s.heap/\(∀ b∈wr,b∈fp)/\(∀ h,St (i+1) h->tn (i+1) h) /\
    (go i H->i<n /\ ∀ vals,Pt i vals -> ∃ vs,vs.length<=sizeLine/\Vals vs vals.toList/\Y i H vs)/\(stop i H->i=n))
  (self:∀ (A:Around) (i:Nat) (s:Shared) (Q:Q0Q) (E:Q0Q),tn i s.heap->Q (.ref it) s->wpAny (model P w) A (pyIter (.ref it)) Q E s) :
  Turn P w K (.Tuple es kk tp) (Itp go Y stop) fp it tn where
 mem:=mem
 obj:=obj
 keep:=keep
 self:=self
 item:=by intro X hP hw hK hc i pins s U H E I hf st hg;obtain ⟨fp2,wr,n,Pt,St,Mid,W,hs,sub,nx,ok,_⟩:=wk X hP hw hK hc i pins s U H I st (.inl hg);obtain ⟨hi,ok⟩:=ok hg;refine W.item i s _ _ hi hs λT vals h1 tk hp hT ht hm k1=>⟨.ref T,rfl,W.go es kk tp i T _ _ _ hm λh2 s2 k2=>?_⟩;obtain ⟨vs,hz,hv,hy⟩:=ok vals hp;obtain ⟨o,eo,c,d⟩:=ht;have ht2:IsTup h2 T vals.toList.toArray:=⟨o,k2 T o (W.apart i T _ hm) eo,c,by simpa using d⟩;have I2:Inv X pins U (upd H T (.tup vs)) { s with heap:=h2,toks:=tk }:=turnT (t':=tk) (ch:=wr) I (λb o hb e=>k2 b o hb (k1 b o hb e)) (λb hb=>hf b (sub b hb)) hT hv hz ht2;refine ⟨.ref T,upd H T (.tup vs),I2,rfl,⟨T,vs,rfl,I.hok.fresh hT,rfl,hy⟩,nx h2 s2,λb hb=>?_⟩;obtain ⟨ob,eb,_⟩:=obj _ _ st b hb;have nb:b≠T:=λz=>lt_irrefl _ (lt_of_lt_of_le (lt_size eb) (z▸hT));rw [bQ nb];exact (hf b hb).1
 done:=by intro X hP hw hK hc i pins s U H E I hf st hg;obtain ⟨fp2,wr,n,Pt,St,Mid,W,hs,sub,nx,_,ok⟩:=wk X hP hw hK hc i pins s U H I st (.inr hg);obtain rfl:=ok hg;exact W.done s _ _ hs λh2 tk k2=>⟨rfl,U9 (t':=tk) (ch:=wr) I k2 λb hb=>hf b (sub b hb)⟩
def Iel(K:W.Frag)(l:Addr):It:=Itp (λi H=>∃ xs v,gH K H l xs/\xs[i]? = some v) (λi H vs=>∃ v,vs=[.int i,v] /\ ∀ xs,gH K H l xs->xs[i]? = some v) (λi H=>∃ xs,gH K H l xs/\xs.length=i)
def Iet(K:W.Frag)(l:Addr):It:=Itp (λi H=>∃ xs v,gA K H l xs/\xs[i]? = some v) (λi H vs=>∃ v,vs=[.int i,v] /\ ∀ xs,gA K H l xs->xs[i]? = some v) (λi H=>∃ xs,gA K H l xs/\xs.length=i)
theorem GL:[V.int 0,V.int 0].length<=sizeLine:=by rw [sizeLine_eq]; decide
theorem JL{P:Program}{w:World}{K:W.Frag}{es:List Expr}{kk:Nat}{tp:Pos}{e it l:Addr}(hei:e≠it)(hle:l≠e)(hli:l≠it) :
  Turn P w K (.Tuple es kk tp) (Iel K l) [e,it] e (λi h=>(∃ old,IsEnum h e it i old)/\h.IsListIter it l i):=by
 refine xZ (by simp) (λi h st b hb=>?_) (λi h h2 st k=>?_) (λX hP hw hK hc i pins s U H I st hg=>?_) (λA i s Q E st q=>?_)
 .obtain ⟨⟨old,a⟩,o,c,d1,d2⟩:=st;rcases List.mem_cons.mp hb with rfl | hq
  .exact ⟨_,a,λv z=>by cases z⟩
  .rw [List.mem_singleton.mp hq]; exact ⟨o,c,λv z=>by rw [d2] at z; cases z⟩
 .obtain ⟨⟨old,a⟩,b⟩:=st;exact ⟨⟨old,k e (by simp) _ a⟩,b.at λo q=>k it (by simp) o q⟩
 .subst hP hw hK;have hq:∃ xs,gH X.K H l xs:=by rcases hg with ⟨xs,_,a,_⟩ | ⟨xs,a,_⟩<;>exact ⟨xs,a⟩
  obtain ⟨xs,hq⟩:=hq;obtain ⟨its,rv,p,hz⟩:=I.list hq;have hl:=rv.length;refine ⟨_,_,_,_,_,_,WalksT.enumerate (I.ok.hd hc) e it l hei hle hli its.toArray,⟨st.1,st.2,p.isList⟩,λb hb=>hb,λh q=>⟨q.1,q.2.1⟩,λg=>?_,λg=>?_⟩
  .obtain ⟨ys,v,hy,hv⟩:=g;obtain rfl:=I.sD hy hq;obtain ⟨u,hu,ru⟩:=rv.get hv;have hlt:i<ys.length:=(List.getElem?_eq_some_iff.mp hv).1;refine ⟨by rw [size_toArray,<- hl]; exact hlt,λvals q=>?_⟩;obtain ⟨t,x,hx,rfl⟩:=q;have ex:x=u:=by
    have:its[i]? = some x:=by simpa using hx
    rw [hu] at this; exact (Option.some.inj this).symm
   subst ex;exact ⟨[.int i,v],GL,.cons ⟨t,rfl⟩ (.cons ru .nil),v,rfl,λzs hzs=>by rw [I.sD hzs hq]; exact hv⟩
  .obtain ⟨ys,hy,e2⟩:=g;obtain rfl:=I.sD hy hq;rw [size_toArray,<- hl,e2]
 .obtain ⟨⟨old,a⟩,b⟩:=st;exact wpAny_pyIter_enum a q
section
variable{prog:Program}{w:World}{A:Around}{E:Q0Q}{s:Shared}
theorem VA{it t:Addr}{i:Nat}{items:Array Value}{x:Value}{Q:Q0Q}(hit:s.heap.IsTupleIter it t i)(ht:s.heap.IsTuple t items)(hx:items[i]? = some x)
  (hQ:∀ h',h'.IsTupleIter it t (i+1)->Heap.SameBut it s.heap h'->Q x { s with heap:=h' }):wpAny (model prog w) A (Builtin.SmallTypes.nextOf (.ref it)) Q E s:=by
 obtain ⟨⟨ol,hol,_,nl,hdl⟩,o,ho,hc,hd⟩:=And.intro ht hit;refine wpAny_bind (m:=callSpecial? _ _) (wpAny_callSpecial?_slot hit.typeIs F.slot_tuple_iterator_next (wpAny_call_entry F.slot_tuple_iterator_next hit.typeIs F.entry_tuple_iterator_next ?_ (F.args_tuple_iterator_next_1 _)));refine wpAny_bind (m:=field _ 0) (wpAny_field ho hd (x:=.ref t) rfl ?_);show wpAny _ _ (if false=true then _ else _) _ _ s;rw [if_neg Bool.false_ne_true];refine wpAny_bind (m:=field _ 1) (wpAny_field ho hd (x:=.int i 0) rfl (wpAny_bind (m:=seqItems? _) (wpAny_seqItems hol hdl ?_)));simp only [hx,Int.toNat_natCast];refine wpAny_bind (wpAny_setField ho hd (by simp) (wpAny_pure ⟨x,rfl,wpAny_pure (hQ _ ⟨_,Heap.get?_update_self _ ho (Obj.isFreed_of_fields (Obj.data_mapFields hd _)),(Obj.cls_mapFields ..).trans hc,?_⟩ (Heap.SameBut.update ..))⟩));rw [Obj.data_mapFields hd];simp [rawInt]
theorem OZ{it t:Addr}{i:Nat}{items:Array Value}{Q:Q0Q}(hh:A.handled=none)(hit:s.heap.IsTupleIter it t i)(ht:s.heap.IsTuple t items)(hx:items[i]? = none)
  (hE:∀ h' e,Heap.ExtBut it s.heap h'->(∃ o,h'.get? e=some o/\o.cls=.type "StopIteration")->E (.ref e) { s with heap:=h' }):wpAny (model prog w) A (Builtin.SmallTypes.nextOf (.ref it)) Q E s:=by
 obtain ⟨⟨ol,hol,_,nl,hdl⟩,o,ho,hc,hd⟩:=And.intro ht hit;refine wpAny_bind (m:=callSpecial? _ _) (wpAny_callSpecial?_slot hit.typeIs F.slot_tuple_iterator_next (wpAny_call_entry F.slot_tuple_iterator_next hit.typeIs F.entry_tuple_iterator_next ?_ (F.args_tuple_iterator_next_1 _)));refine wpAny_bind (m:=field _ 0) (wpAny_field ho hd (x:=.ref t) rfl ?_);show wpAny _ _ (if false=true then _ else _) _ _ s;rw [if_neg Bool.false_ne_true];refine wpAny_bind (m:=field _ 1) (wpAny_field ho hd (x:=.int i 0) rfl (wpAny_bind (m:=seqItems? _) (wpAny_seqItems hol hdl ?_)));simp only [hx,Int.toNat_natCast];refine wpAny_bind (wpAny_rule (wpAny_bind (m:=setField _ _ _) (wpAny_setField ho hd (by simp) ?_)));have hh2:A.in1.handled=none:=hh
 wp_walk
 unfold raiseNew;apply wpAny_bind;apply wpAny_handled;rw [hh2];exact wpAny_bind (wpAny_pure (wpAny_throw (hE _ _ (((Heap.SameBut.update ..).extBut.push _).push _) ⟨_,get?_push_size _ rfl,rfl⟩)))
theorem aCm(hh:A.handled=none)(it t:Addr)(hne:t≠it)(items:Array Value):Draws prog w A it [it,t] items.size (λi v=>items[i]? = some v) (λi h=>h.IsTupleIter it t i/\h.IsTuple t items) where
 live:=λi h st=>by obtain ⟨⟨o,ho,_⟩,_⟩:=st; exact ⟨o,ho⟩
 frame:=λi h h' st k=>by obtain ⟨⟨o,ho,r⟩,o2,ho2,r2⟩:=st;exact ⟨⟨o,k it (by simp) o ho,r⟩,o2,k t (by simp) o2 ho2,r2⟩
 item:=λi s Q E hi st q=>VA st.1 st.2 (x:=items[i]) (Array.getElem?_eq_getElem hi) λh' a b=>q _ h' s.toks (Array.getElem?_eq_getElem hi) ⟨a,st.2.extBut b.extBut hne⟩ b
 done:=λs Q E st q=>OZ hh st.1 st.2 (Array.getElem?_eq_none (le_refl _)) q
theorem O0(l:Addr)(items:Array Value):Meets (Builtin.«enumerate.__new__» ⟨[.type "enumerate",.ref l],[]⟩) (λ_ R s=>s.heap.IsTuple l items /\
  R (.ok (.ret (.ref (s.heap.push { cls:=.type "tuple_iterator",data:=.fields #[.ref l,.int 0 0] }).objs.size))) { s with heap:=(s.heap.push { cls:=.type "tuple_iterator",data:=.fields #[.ref l,.int 0 0] }).push { cls:=.type "enumerate",data:=.fields #[.none,.bool false,.ref s.heap.objs.size,rawInt 0,.none,.none] } }):=by
 refine .of_wp λp0 w0 A0 R0 s h=>?_;obtain ⟨hl,h⟩:=h;obtain ⟨hp0,g0,d,tk,os⟩:=s;have hsub:=sub_enumerate
 wp_walk using wpAny_pyIter_tuple hl
 refine wpAny_stack_any λ_=>wpAny_pure ?_;split<;>first
  | (rename_i c _ _ _ _ _; cases (c == Value.type "enumerate")<;>(wp_walk using wpAny_pyIter_tuple hl; exact ⟨_,rfl,h⟩))
  | (wp_walk using wpAny_pyIter_tuple hl; exact ⟨_,rfl,h⟩)
theorem JM{l:Addr}{items:Array Value}{Q:Q0Q}(hT:s.heap.IsTuple l items)
  (h:∀ h',IsEnum h' (s.heap.objs.size+1) s.heap.objs.size 0 .none->h'.IsTupleIter s.heap.objs.size l 0->(∀ b o,s.heap.get? b=some o->h'.get? b=some o)->Q (.ref (s.heap.objs.size+1)) { s with heap:=h' }):wpAny (model prog w) A (call (.type "enumerate") [.ref l]) Q E s:=by
 refine callType_new F.called_enumerate (by decide) (F.typeCall_enumerate_1 _) (F.newCall_enumerate_1 _) (λobj=>F.args_object_init_2 obj _) F.entry_enumerate_new (O0 l items) ⟨hT,?_⟩;generalize hh1:s.heap.push { cls:=.type "tuple_iterator",data:=.fields #[.ref l,.int 0 0] }=h1;have e1:h1.objs.size=s.heap.objs.size+1:=by rw [<- hh1,Heap.size_push]
 have g1:h1.get? s.heap.objs.size=some { cls:=.type "tuple_iterator",data:=.fields #[.ref l,.int 0 0] }:=by rw [<- hh1]; exact get?_push_size _ rfl
 have k1:∀ b o,s.heap.get? b=some o->h1.get? b=some o:=λb o e=>by rw [<- hh1]; exact get?_push_of_some _ e
 generalize hh2:h1.push { cls:=.type "enumerate",data:=.fields #[.none,.bool false,.ref s.heap.objs.size,rawInt 0,.none,.none] }=h2;have g2:h2.get? h1.objs.size=some { cls:=.type "enumerate",data:=.fields #[.none,.bool false,.ref s.heap.objs.size,rawInt 0,.none,.none] }:=by rw [<- hh2]; exact get?_push_size _ rfl
 have k2:∀ b o,h1.get? b=some o->h2.get? b=some o:=λb o e=>by rw [<- hh2]; exact get?_push_of_some _ e
 refine ⟨⟨_,g2,rfl⟩,?_⟩;rw [e1] at g2 ⊢;exact h h2 g2 ⟨_,k2 _ _ g1,rfl,rfl⟩ λb o e=>k2 b o (k1 b o e)
end
theorem JN{P:Program}{w:World}{K:W.Frag}{es:List Expr}{kk:Nat}{tp:Pos}{e it l:Addr}(hei:e≠it)(hle:l≠e)(hli:l≠it) :
  Turn P w K (.Tuple es kk tp) (Iet K l) [e,it] e (λi h=>(∃ old,IsEnum h e it i old)/\h.IsTupleIter it l i):=by
 refine xZ (by simp) (λi h st b hb=>?_) (λi h h2 st k=>?_) (λX hP hw hK hc i pins s U H I st hg=>?_) (λA i s Q E st q=>?_)
 .obtain ⟨⟨old,a⟩,o,c,d1,d2⟩:=st;rcases List.mem_cons.mp hb with rfl | hq
  .exact ⟨_,a,λv z=>by cases z⟩
  .rw [List.mem_singleton.mp hq]; exact ⟨o,c,λv z=>by rw [d2] at z; cases z⟩
 .obtain ⟨⟨old,a⟩,o,b,r⟩:=st;exact ⟨⟨old,k e (by simp) _ a⟩,o,k it (by simp) o b,r⟩
 .subst hP hw hK;have hq:∃ xs,gA X.K H l xs:=by rcases hg with ⟨xs,_,a,_⟩ | ⟨xs,a,_⟩<;>exact ⟨xs,a⟩
  obtain ⟨xs,hq⟩:=hq;obtain ⟨its,rv,p,hz⟩:=I.tuple hq;have hl:=rv.length;have D:Draws X.prog X.w X.A.in1 it [it,l] its.toArray.size (λi v=>its.toArray[i]? = some v) (λi h=>h.IsTupleIter it l i/\h.IsTuple l its.toArray):=aCm (show X.A.in1.handled=none from I.ok.hd hc) it l hli its.toArray;have hef:e∉[it,l]:=λz=>by
   rcases List.mem_cons.mp z with z1 | z1
   .exact hei z1
   .exact hle (List.mem_singleton.mp z1).symm
  refine ⟨_,_,_,_,_,_,WalksT.enumerateD D e hei hef (by simp),⟨st.1,st.2,p⟩,λb hb=>hb,λh q=>⟨q.1,q.2.1⟩,λg=>?_,λg=>?_⟩
  .obtain ⟨ys,v,hy,hv⟩:=g;obtain rfl:=I.mJ hy hq;obtain ⟨u,hu,ru⟩:=rv.get hv;have hlt:i<ys.length:=(List.getElem?_eq_some_iff.mp hv).1;refine ⟨by rw [size_toArray,<- hl]; exact hlt,λvals q=>?_⟩;obtain ⟨t,x,hx,rfl⟩:=q;have ex:x=u:=by
    have:its[i]? = some x:=by simpa using hx
    rw [hu] at this; exact (Option.some.inj this).symm
   subst ex;exact ⟨[.int i,v],GL,.cons ⟨t,rfl⟩ (.cons ru .nil),v,rfl,λzs hzs=>by rw [I.mJ hzs hq]; exact hv⟩
  .obtain ⟨ys,hy,e2⟩:=g;obtain rfl:=I.mJ hy hq;rw [size_toArray,<- hl,e2]
 .obtain ⟨⟨old,a⟩,b⟩:=st;exact wpAny_pyIter_enum a q
section
variable{X:Cx}{es:List Expr}{kk:Nat}{tp:Pos}
theorem Z1{a:Expr}{ta:TA}{p pos:Pos}(hg:Gl X "enumerate")(hm:X.mg "enumerate" = none)(ha:PA X [a] ta)(hs:starEach [a] X.env=[(false,eval a X.env)]:=by rfl) :
  PI X (.Tuple es kk tp) (.Call (.Name "enumerate" p) [a] [] pos) (λU H R=>ta U H λvs H1=>∃ l,vs=[.ref l]/\(((∃ xs,gH X.K H1 l xs)/\R (Iel X.K l) H1)\/((∃ xs,gA X.K H1 l xs)/\R (Iet X.K l) H1))):=by
 intro pins s U H R I h;refine Call_ (qP I hg hm boot_enumerate (PyProof.Rows.callWith_type1 (dN (ha pos pins s U H _ I h) λus s1 ⟨vs,H1,I1,r1,q1⟩=>?_) hs rfl));obtain ⟨l,e,q⟩:=q1;subst e;obtain ⟨u,rfl,ru⟩:=vals1 r1;cases ru;have fo:∀ b∈[s1.heap.objs.size+1,s1.heap.objs.size],qQ X pins H1 b:=λb hb=>by
  have hle:s1.heap.objs.size<=b:=by
   simp only [mem_cons,or_false,List.not_mem_nil] at hb;rcases hb with rfl | rfl
   .exact Nat.le_succ _
   .exact le_refl _
  exact I1.IV hle (I1.hok.fresh hle)
 rcases q with ⟨⟨xs,hq⟩,q⟩ | ⟨⟨xs,hq⟩,q⟩
 .obtain ⟨its,rv,pl,hz⟩:=I1.list hq;have hlt:l<s1.heap.objs.size:=by obtain ⟨o,n,e,_⟩:=pl; exact lt_size e
  refine call_enumerate_list pl.isList λh' he hi hsz hk=>wpAny_pyIter_enum he ?_;exact ⟨s1.heap.objs.size+1,_,_,_,H1,rfl,I1.kept (t':=s1.toks) hk,JL (Nat.succ_ne_self _) (ne_of_lt (Nat.lt_succ_of_lt hlt)) (ne_of_lt hlt),⟨⟨_,he⟩,hi⟩,fo,q⟩
 .obtain ⟨its,rv,pl,hz⟩:=I1.tuple hq;have hlt:l<s1.heap.objs.size:=pl.lt;refine JM (items:=its.toArray) pl λh' he hi hk=>wpAny_pyIter_enum he ?_;exact ⟨s1.heap.objs.size+1,_,_,_,H1,rfl,I1.kept (t':=s1.toks) hk,JN (Nat.succ_ne_self _) (ne_of_lt (Nat.lt_succ_of_lt hlt)) (ne_of_lt hlt),⟨⟨_,he⟩,hi⟩,fo,q⟩
def uV(ds:List D):List D:=ds.zipIdx.map λp=>.tup [.int (p.2:Int),p.1]
theorem BW{ds:List D}{i:Nat}{d:D}(h:(uV ds)[i]? = some d):∃ d0,ds[i]? = some d0/\d=.tup [.int (i:Int),d0]:=by
 unfold uV at h;rw [getElem?_map,getElem?_zipIdx] at h
 cases q:ds[i]? with
 | none=>rw [q] at h; cases h
 | some d0 =>
  rw [q] at h;simp at h;exact ⟨d0,rfl,h.symm⟩
theorem MS{S:Addr->Prop}{H:Hp}{T:Addr}{x y:V}{dx dy:D}(fr:H T=none)(hx:Dn K S H dx x)(hy:Dn K S H dy y):Dn K S (upd H T (.tup [x,y])) (.tup [dx,dy]) (.ref T):=by simp only [Dn];exact ⟨T,[x,y],rfl,bD,bC.fits (.same (aX fr)) _ _ (bC.cons hx (bC.one hy))⟩
theorem O1{K:W.Frag}{a:Addr}{ds:List D}:Wlk K (Iel K a) (uV ds) [(.lst ds,.ref a)] where
 go:=λS H fc hg i d e=>by have h:=hg _ (List.mem_singleton.mpr rfl);simp only [Dn] at h;obtain ⟨b,xs,eb,hb,sb,dn⟩:=h;injection eb with eb;subst eb;obtain ⟨d0,e0,rfl⟩:=BW e;obtain ⟨v,ev,dv⟩:=dn.get e0;refine ⟨⟨xs,v,gH.of hb,ev⟩,λx H' y=>?_⟩;obtain ⟨T,vs,rfl,fr,rfl,v',rfl,hy⟩:=y;have ex:=hy xs (gH.of hb);rw [ev] at ex;cases ex;exact ⟨aX fr,MS fr (by simp only [Dn]) dv⟩
 stop:=λS H hg i hi=>by have h:=hg _ (List.mem_singleton.mpr rfl);simp only [Dn] at h;obtain ⟨b,xs,eb,hb,sb,dn⟩:=h;injection eb with eb;subst eb;exact ⟨xs,gH.of hb,by rw [<- dn.len,<- hi]; simp [uV]⟩
theorem O2{K:W.Frag}{a:Addr}{ds:List D}:Wlk K (Iet K a) (uV ds) [(.tup ds,.ref a)] where
 go:=λS H fc hg i d e=>by have h:=hg _ (List.mem_singleton.mpr rfl);simp only [Dn] at h;obtain ⟨b,xs,eb,hb,dn⟩:=h;injection eb with eb;subst eb;obtain ⟨d0,e0,rfl⟩:=BW e;obtain ⟨v,ev,dv⟩:=dn.get e0;refine ⟨⟨xs,v,(gA.of hb),ev⟩,λx H' y=>?_⟩;obtain ⟨T,vs,rfl,fr,rfl,v',rfl,hy⟩:=y;have ex:=hy xs (gA.of hb);rw [ev] at ex;cases ex;exact ⟨aX fr,MS fr (by simp only [Dn]) dv⟩
 stop:=λS H hg i hi=>by have h:=hg _ (List.mem_singleton.mpr rfl);simp only [Dn] at h;obtain ⟨b,xs,eb,hb,dn⟩:=h;injection eb with eb;subst eb;exact ⟨xs,(gA.of hb),by rw [<- dn.len,<- hi]; simp [uV]⟩
def aF1(t:WA):WI:=λZ Q=>t Z λds=>match ds with
 | [.lst es]=>Q (uV es)
 | [.tup es]=>Q (uV es)
 | _=>False
theorem JO{a:Expr}{t:WA}{p pos:Pos}(hm:X.mg "enumerate" = none)(ha:zJ X [a] t)(hg:Gl X "enumerate" := by rfl)(hs:starEach [a] X.env=[(false,eval a X.env)]:=by rfl):UY X (.Tuple es kk tp) (.Call (.Name "enumerate" p) [a] [] pos) (aF1 t) :=
 OU (Z1 hg hm ha hs) λU H R aKz=>by
  obtain ⟨S,Z,Q3,fc,sl,ht,k⟩:=aKz;refine ⟨S,Z,_,fc,sl,ht,λvs H1 ds s1 d1 q1=>?_⟩;split at q1
  .obtain ⟨v,r,rfl,h1,h2⟩:=d1.bV;simp only [bC] at h2;subst h2;have h1':=h1;simp only [Dn] at h1;obtain ⟨l,xs,rfl,hl,sl',da⟩:=h1;exact ⟨l,rfl,.inl ⟨⟨xs,gH.of hl⟩,k _ H1 _ [(_,.ref l)] s1 (λg hg=>by cases List.mem_singleton.mp hg; exact h1') O1 q1⟩⟩
  .obtain ⟨v,r,rfl,h1,h2⟩:=d1.bV;simp only [bC] at h2;subst h2;have h1':=h1;simp only [Dn] at h1;obtain ⟨l,xs,rfl,hl,da⟩:=h1;exact ⟨l,rfl,.inr ⟨⟨xs,(gA.of hl)⟩,k _ H1 _ [(_,.ref l)] s1 (λg hg=>by cases List.mem_singleton.mp hg; exact h1') O2 q1⟩⟩
  .exact q1.elim
end
section
variable{X:Cx}{a b:Expr}{pos:Pos}{ta tb:WE}
theorem Z2:i6 X (binaryOp .Mult) (rI IntMulOk λi j=>.int (i*j)):=opI λ_ _ _ _ _ _ _ hc q=>mul_int q hc
def aF2:F2:=OR IntMulOk λi j=>.int (i*j)
theorem aF3(ha:cU X a ta)(hb:cU X b tb):cU X (.BinOp a .Mult b pos) (iM aF2 ta tb):=W7 Z2 oJ ha hb
end
theorem Z3{i j:Int}{m n:Nat}(hi:i.natAbs<2 ^ m)(hj:j.natAbs<2 ^ n)(h:m+n<=134217728):IntMulOk i j:=by exact mulOk_of_bits (intBits_le hi) (intBits_le hj) h
section
variable{X:Cx}
def aPp(t:WE):WT:=λZ Q=>t Z λd=>match d with
 | .lst ds=>Q (!ds.isEmpty)
 | .tup ds=>Q (!ds.isEmpty)
 | _=>False
theorem bC.empty{S:Addr->Prop}{H:Hp}{ds:List D}{xs:List V}(h:bC K S H ds xs):ds.isEmpty=xs.isEmpty:=by have:=h.len;cases ds<;>cases xs<;>simp at this ⊢
def aF4:List V->Hp->VK->Prop:=λxs H Q=>∃ (a:Addr) (ns:List Int),xs=[.ref a]/\H a=some (.lst (ns.map V.int))/\Q (.int ns.sum) H
theorem O5(hc:X.calm=true):jI X (.builtin "sum") aF4:=by
 intro pins s U H xs us Q I r h;obtain ⟨a,ns,rfl,ha,q⟩:=h;obtain ⟨u,rfl,ru⟩:=vals1 r;cases ru;obtain ⟨its,rv,p,hz⟩:=I.list (gH.of ha);have hi:=intsAre_of rv;obtain ⟨zs,ez⟩:=hi.allInts.items;have en:zs.toList.map (·.1)=ns:=by rw [<- nums_intItems,<- ez];exact hi.numsOf
 have ev:preSum (numAt zs) zs.size=ns.sum:=by rw [preSum_eq,take_of_length_le (by simp),en]
 refine sum_intListG (I.ok.hd hc) (ez▸p.isList) λh' tk t' hk=>⟨.int ns.sum,H,I.kept hk,⟨t',by rw [ev]⟩,q⟩
def sumF:F1
 | [.lst ds],Q=>(match intsOf ds with | some ns=>Q (.int ns.sum) | none=>False)
 | _,_=>False
theorem O6{ns:List Int}{Q:D->Prop}:sumF [.lst (ns.map D.int)] Q=Q (.int ns.sum):=by show (match intsOf (ns.map D.int) with | some ns=>Q (.int ns.sum) | none=>False)=_;rw [eK]
theorem aCn:C3 K aF4 sumF:=by
 intro S H xs ds Q3 Q fc hd hf k
 match ds,hf with
 | [.lst es],hf =>
  obtain ⟨v,r,rfl,h1,h2⟩:=hd.bV;simp only [bC] at h2;subst h2;simp only [Dn] at h1;obtain ⟨a,ys,rfl,ha,sa,da⟩:=h1;have hf2:(match intsOf es with | some ns=>Q3 (.int ns.sum) | none=>False):=hf
  clear hf
  cases q:intsOf es with
  | none=>rw [q] at hf2; exact hf2.elim
  | some ns =>
   rw [q] at hf2;have e:=uA q;subst e;have e2:=bC.ints.mp da;subst e2;exact ⟨a,ns,rfl,ha,k _ H _ (Same.refl H) (by simp only [Dn]) hf2⟩
theorem aLA{p pos:Pos}{e:Expr}{t:WA}(hc:X.calm=true)(hm:X.mg "sum" = none)(ha:zJ X [e] t)(hg:Gl X "sum" := by rfl)
  (he:starEach [e] X.env=(false,eval e X.env)::starEach [] X.env:=by rfl):cU X (.Call (.Name "sum" p) [e] [] pos) (OT sumF t):=D0 (O5 hc) aCn PyProof.Rows.boot_sum hg hm ha (by decide) (by decide) he (by rfl)
abbrev WO:=bR->(Option Int->Prop)->Prop
def aF5(K:W.Frag)(t:WO):TO:=λU H Q=>∃ (S:Addr->Prop) (Z:bR) (Q3:Option Int->Prop),(∀ a,H a=none->S a)/\Sl K S H Z U/\t Z Q3 /\ ∀ o H',Same H H'->Q3 o->Q o H'
def PO3(X:Cx)(e:Option Expr)(t:WO):Prop:=PO X e (aF5 X.K t)
def Z4:WO:=λ_ Q=>Q none
def aF6(t:WE):WO:=λZ Q=>t Z λd=>match d with
 | .int i=>Q (some i)
 | _=>False
theorem aLB:PO3 X none Z4:=λpins s U H Q I aLC=>by obtain ⟨S,Z,Q3,fc,sl,ht,k⟩:=aLC; exact Y3 pins s U H Q I (k none H (Same.refl H) ht)
theorem po3{e:Expr}{t:WE}(h:cU X e t):PO3 X (some e) (aF6 t):=λpins s U H Q I aLD=>by
 obtain ⟨S,Z,Q3,fc,sl,ht,k⟩:=aLD;refine Y4 h pins s U H Q I ⟨S,Z,_,fc,sl,ht,λv H1 d s1 d1 q1=>?_⟩
 cases d with
 | int i=>simp only [Dn] at d1; exact ⟨i,d1,k _ H1 s1 q1⟩
 | _=>exact q1.elim
def cutD(xs:List D)(lo hi:Option Int):List D:=(xs.drop (HT.iC xs.length 0 lo)).take (HT.iC xs.length xs.length hi - HT.iC xs.length 0 lo)
theorem bC.cut{S:Addr->Prop}{H:Hp}{ds:List D}{xs:List V}{lo hi:Option Int}(h:bC K S H ds xs):bC K S H (cutD ds lo hi) (FU xs lo hi):=by unfold cutD FU;rw [h.len];exact (h.drop _).take _
theorem VB{prog:Program}{w:World}{A:Around}{E:Q0Q}{s:Shared}{t sl:Addr}{items:Array Value}{vl vu:Value}{lo hi:Option Int}{Q:Q0Q}(ht:IsTup s.heap t items)(hs:s.heap.IsSliceOf sl vl vu .none)(pl:IsPart vl lo)(pu:IsPart vu hi)
  (h0:HT.iC items.size 0 lo=0) (h1:HT.iC items.size items.size hi=items.size) (h:Q (.ref t) s):wpAny (model prog w) A (getItem (.ref t) (.ref sl)) Q E s:=by
 have hT:s.TypeIs (.ref sl) "slice" := by obtain ⟨o,a,b,_⟩:=hs; exact ⟨o,a,b⟩
 unfold getItem
 try with_reducible refine wpAny_holding ?_
 first | refine wpAny_bind (wpAny_pure ?_) | skip
 apply wpAny_bind;refine wpAny_sequenceKey ht.typeIs (by decide) (wpAny_bind (wpAny_callSpecial?_slot ht.typeIs PyProof.Rows.slot_tuple_getitem (wpAny_call_entry PyProof.Rows.slot_tuple_getitem ht.typeIs entry_tuple_getitem ?_ (args_tuple_getitem _ _))));refine wpAny_bind (m:=Builtin.Tuple.tupleItemsOf _) (tupleItemsOf_ ht (wpAny_bind (wpAny_typeOf hT ?_)));rw [if_pos (by decide)];refine wpAny_bind (HT.mK (n:=items.size) hs pl pu ?_);rw [h0,h1];show wpAny _ _ (if ((((0:Nat):Int) == 0)&&((1:Int) == 1)&&((items.size - 0) == items.size))=true then _ else _) _ _ s;rw [if_pos (by simp)];refine wpAny_bind (m:=Builtin.Tuple.tupleIsExact _) (wpAny_bind (wpAny_typeOf ht.typeIs (wpAny_pure ?_)));show wpAny _ _ (if true=true then _ else _) _ _ s;rw [if_pos rfl];exact wpAny_bind (wpAny_rule (wpAny_pure ⟨_,rfl,wpAny_pure h⟩))
def aLE(K:W.Frag):V->Option Int->Option Int->Hp->VK->Prop:=λx lo hi H Q=>∃ a xs,x=.ref a/\gA K H a xs/\(HT.iC xs.length 0 lo=0/\HT.iC xs.length xs.length hi=xs.length)/\Q (.ref a) H
theorem Z5:SlR X (aLE X.K):=by
 intro pins s U H x v vl vu lo hi sl Q I rx hs pl pu h;obtain ⟨a,xs,rfl,hx,hw,q⟩:=h;cases rx;obtain ⟨its,r,ht,hz⟩:=I.tuple hx;have hlen:its.toArray.size=xs.length:=by rw [size_toArray]; exact r.length.symm
 exact ⟨"tuple",_,PyProof.Rows.slot_tuple_getitem.lookup,ht.typeIs,VB ht hs pl pu (by rw [hlen]; exact hw.1) (by rw [hlen]; exact hw.2) ⟨.ref a,H,I,rfl,q⟩⟩
def wSl(te:WE)(tl th:WO):WE:=λZ Q=>te Z λd=>tl Z λlo=>th Z λhi=>match d with
 | .lst ds=>Q (.lst (cutD ds lo hi))
 | .tup ds=>Q (.tup (cutD ds lo hi))
 | _=>False
theorem sl3{e:Expr}{lo hi:Option Expr}{p2 pos:Pos}{te:WE}{tl th:WO}(he:cU X e te)(hl:PO3 X lo tl)(hh:PO3 X hi th):cU X (.Subscript e (.Slice lo hi none p2) pos) (wSl te tl th) :=
 imp (T6 (Y8.or (aCL.or Z5)) he hl hh) λU H Q aLG=>by
  obtain ⟨S,Z,Q3,fc,sl,ht,k⟩:=aLG;refine ⟨S,Z,_,fc,sl,ht,λv H1 d s1 d1 q1=>?_⟩;refine ⟨S,Z,_,bP fc s1,Sl.fits (.same s1) sl,q1,λo H2 s2 q2=>?_⟩;refine ⟨S,Z,_,bP fc (s1.trans s2),Sl.fits (.same (s1.trans s2)) sl,q2,λo2 H3 s3 q3=>?_⟩;have d3:=Dn.fits (.same (s2.trans s3)) _ _ d1;have sa:=(s1.trans s2).trans s3
  cases d with
  | lst ds =>
   simp only [Dn] at d3;obtain ⟨a,xs,rfl,ha,sa',da⟩:=d3;refine .inl ⟨a,xs,rfl,gH.of ha,λp hp=>k _ _ _ (sa.trans (aX hp)) ?_ q3⟩;simp only [Dn];exact ⟨p,_,rfl,bD,bP fc sa p hp,bC.fits (.same (aX hp)) _ _ da.cut⟩
  | tup ds =>
   simp only [Dn] at d3;obtain ⟨a,xs,rfl,ha,da⟩:=d3;have hl:=da.len;by_cases hw:HT.iC xs.length 0 o=0/\HT.iC xs.length xs.length o2=xs.length
   .refine .inr (.inr ⟨a,xs,rfl,(gA.of ha),hw,k _ _ _ sa ?_ q3⟩);have e:cutD ds o o2=ds:=by unfold cutD;rw [hl,hw.1,hw.2,drop_zero,Nat.sub_zero,take_of_length_le (Nat.le_of_eq hl)]
    rw [e];simp only [Dn];exact ⟨a,xs,rfl,ha,da⟩
   .refine .inr (.inl ⟨a,xs,rfl,(gA.of ha),hw,λp hp=>k _ _ _ (sa.trans (aX hp)) ?_ q3⟩);simp only [Dn];exact ⟨p,_,rfl,bD,bC.fits (.same (aX hp)) _ _ da.cut⟩
  | _=>exact q3.elim
end
section
variable{X:Cx}{tg:Expr}
end
end L3
end
section
namespace L4
open PySem PySem.Spec PyProof.Rows L2 L3
def wE(f:EF):WE:=λZ Q=>∃ d,f Z=some d/\Q d
def wT(f:TF):WT:=λZ Q=>∃ d,f Z=some d/\Q d
def wA(f:AF):WA:=λZ Q=>∃ d,f Z=some d/\Q d
def wI(f:AF):WI:=λZ Q=>∃ d,f Z=some d/\Q d
def wO(f:OF):WO:=λZ Q=>∃ d,f Z=some d/\Q d
def wX(f:XF):WX:=λZ Q=>∃ p,f Z=some p/\Q p.1 p.2
def wS(f:SF):WS:=λE Z=>match f Z with
 | .nx ρ'=>E.nx ρ'
 | .rt d=>E.rt d
 | .ex c=>E.ex c
 | .no=>False
def wG(g:K2):WG:=λd Z Q=>∃ ρ',g d Z=some ρ'/\Q ρ'
def wGE(g:HU):GE:=λd Z Q=>∃ ρ',g d Z=some ρ'/\Q ρ'
abbrev bS(X:Cx)(e:Expr)(f:EF):Prop:=cU X e (wE f)
abbrev pL(X:Cx)(e:Expr)(f:EF):Prop:=HN X e (wE f)
abbrev vH(X:Cx)(e:Expr)(f:TF):Prop:=vY X e (wT f)
abbrev BX(X:Cx)(e:Expr)(f:TF):Prop:=Q0 X e (wT f)
abbrev zZ(X:Cx)(es:List Expr)(f:AF):Prop:=zJ X es (wA f)
abbrev Z6(X:Cx)(tg e:Expr)(f:AF):Prop:=UY X tg e (wI f)
abbrev PO4(X:Cx)(e:Option Expr)(f:OF):Prop:=PO3 X e (wO f)
abbrev MT(X:Cx)(e:Expr)(f:XF):Prop:=GC X e (wX f)
abbrev tJ(X:Cx)(st:Stmt)(f:SF):Prop:=EM X st (wS f)
abbrev z0(X:Cx)(st:List Stmt)(f:SF):Prop:=vG X st (wS f)
section
variable{X:Cx}
theorem cE{e:Expr}{t t':WE}(h:cU X e t)(c:∀ Z Q,t' Z Q->t Z Q):cU X e t':=imp h λ_ _ _ aLI=>by obtain ⟨S,Z,Q3,fc,sl,ht,k⟩:=aLI; exact ⟨S,Z,Q3,fc,sl,c Z Q3 ht,k⟩
theorem cF{e:Expr}{t t':WE}(h:HN X e t)(c:∀ Z Q,t' Z Q->t Z Q):HN X e t':=imp h λ_ _ _ aLJ=>by obtain ⟨S,Z,Q3,fc,sl,ht,k⟩:=aLJ; exact ⟨S,Z,Q3,fc,sl,c Z Q3 ht,k⟩
theorem cT{e:Expr}{t t':WT}(h:vY X e t)(c:∀ Z Q,t' Z Q->t Z Q):vY X e t':=JH h λ_ _ _ aLK=>by obtain ⟨S,Z,Q3,fc,sl,ht,k⟩:=aLK; exact ⟨S,Z,Q3,fc,sl,c Z Q3 ht,k⟩
theorem cW{e:Expr}{t t':WT}(h:Q0 X e t)(c:∀ Z Q,t' Z Q->t Z Q):Q0 X e t':=aCW h λ_ _ _ aLL=>by obtain ⟨S,Z,Q3,fc,sl,ht,k⟩:=aLL; exact ⟨S,Z,Q3,fc,sl,c Z Q3 ht,k⟩
theorem cA{e:List Expr}{t t':WA}(h:zJ X e t)(c:∀ Z Q,t' Z Q->t Z Q):zJ X e t':=UP h λ_ _ _ aLM=>by obtain ⟨S,Z,Q3,fc,sl,ht,k⟩:=aLM; exact ⟨S,Z,Q3,fc,sl,c Z Q3 ht,k⟩
theorem cI{tg e:Expr}{t t':WI}(h:UY X tg e t)(c:∀ Z Q,t' Z Q->t Z Q):UY X tg e t':=OU h λ_ _ _ aLN=>by obtain ⟨S,Z,Q3,fc,sl,ht,k⟩:=aLN; exact ⟨S,Z,Q3,fc,sl,c Z Q3 ht,k⟩
theorem cX{e:Expr}{t t':WX}(h:GC X e t)(c:∀ Z Q,t' Z Q->t Z Q):GC X e t':=imp h λ_ _ _ aLO=>by obtain ⟨H₀,S,w,Z,G,Q3,hl,st,ht,k⟩:=aLO; exact ⟨H₀,S,w,Z,G,Q3,hl,st,c Z Q3 ht,k⟩
theorem cS{e:Stmt}{t t':WS}(h:EM X e t)(c:∀ E Z,t' E Z->t E Z):EM X e t':=j3 h λ_ _ _ aLP=>by obtain ⟨H₀,S,w,Z,G,E,hl,st,ht,ok⟩:=aLP; exact ⟨H₀,S,w,Z,G,E,hl,st,c E Z ht,ok⟩
theorem cSs{e:List Stmt}{t t':WS}(h:vG X e t)(c:∀ E Z,t' E Z->t E Z):vG X e t':=MQ h λ_ _ _ aLQ=>by obtain ⟨H₀,S,w,Z,G,E,hl,st,ht,ok⟩:=aLQ; exact ⟨H₀,S,w,Z,G,E,hl,st,c E Z ht,ok⟩
theorem BX.pt{e:Expr}{f:TF}(h:BX X e f):vH X e f:=Q0.pt h
theorem pL.pe{e:Expr}{f:EF}(h:pL X e f):bS X e f:=HN.pe h
theorem bnd{α β:Type}{o:Option α}{f:α->Option β}{b:β}(h:o.bind f=some b):∃ a,o=some a/\f a=some b:=by
 cases o with
 | none=>cases h
 | some a=>exact ⟨a,rfl,h⟩
theorem tK{α β:Type}{o:Option α}{f:α->β}{b:β}(h:o.map f=some b):∃ a,o=some a/\f a=b:=by
 cases o with
 | none=>cases h
 | some a=>exact ⟨a,rfl,Option.some.inj h⟩
theorem x4(i:Nat){x:Str}{pos:Pos}(hN:X.N[i]? = some x:=by rfl)(hv:EL X.env.scope x:=by first | exact Or.inl rfl | exact Or.inr (Or.inl rfl) | exact Or.inr (Or.inr rfl))(hd:(x == ("__debug__" : Str))=false:=by decide)
  (hcd:(x == ("__classdict__" : Str))=false:=by decide):bS X (.Name x pos) (aB i):=cE (x3 i hN hv hd hcd) λZ Q aLR=>by
 obtain ⟨d,e,q⟩:=aLR;unfold aB at e;unfold ZF
 cases h:Z[i]? with
 | none=>rw [h] at e; cases e
 | some o =>
  rw [h] at e
  cases o with
  | none=>cases e
  | some d'=>cases e; exact q
theorem i4{i:Int}{j pos}:bS X (.Constant (.int i) j pos) (eC (.int i)):=cE i3 λ_ _ aLS=>by obtain ⟨_,e,q⟩:=aLS; cases e; exact q
theorem b4{b:Bool}{j pos}:bS X (.Constant (.bool b) j pos) (eC (.bl b)):=cE b3 λ_ _ aLT=>by obtain ⟨_,e,q⟩:=aLT; cases e; exact q
theorem s4{x:Str}{j pos}:bS X (.Constant (.str x) j pos) (eC (.str x)):=cE s3 λ_ _ aLU=>by obtain ⟨_,e,q⟩:=aLU; cases e; exact q
theorem c4{x:Str}{i:Int}{t:Tok}{pos:Pos}(hm:X.mg x=some (.int i t))(hg:Gl X x:=by rfl)(hd:(x == ("__debug__" : Str))=false:=by decide):bS X (.Name x pos) (eC (.int i)):=cE (g3 hg hm hd) λ_ _ aLV=>by obtain ⟨_,e,q⟩:=aLV; cases e; exact q
def Tells(f:F2)(g:D->D->Option D):Prop:=∀ (x y d:D) (Q:D->Prop),g x y=some d->Q d->f x y Q
theorem iH{f:F2}{g:D->D->Option D}(h:Tells f g){fa fb:EF}(Z:bR)(Q:D->Prop)(w:wE (aC g fa fb) Z Q):iM f (wE fa) (wE fb) Z Q:=by obtain ⟨d,e,q⟩:=w;obtain ⟨x,ex,e⟩:=bnd e;obtain ⟨y,ey,e⟩:=bnd e;exact ⟨x,ex,y,ey,h x y d Q e q⟩
theorem gY{g:Int->Int->D}:Tells (uS g) (HP g):=λx y d Q e q=>by
 cases x<;>first | (cases e; done) | skip
 all_goals (cases y<;>first | (cases e; done) | skip)
 cases e; exact q
theorem fS{C:Int->Int->Prop}{c:Int->Int->Bool}{g:Int->Int->D}(h:∀ i j,c i j=true->C i j):Tells (OR C g) (lC c g):=λx y d Q e q=>by
 cases x<;>first | (cases e; done) | skip
 all_goals (cases y<;>first | (cases e; done) | skip)
 rename_i i j;have e:(if c i j=true then some (g i j) else none)=some d:=e;by_cases hc:c i j=true
 .rw [if_pos hc] at e; cases e; exact ⟨h i j hc,q⟩
 .rw [if_neg hc] at e; cases e
theorem szl{n:Nat}{α:Type}{x d:α}{Q:α->Prop}(e:(if n<=uK then some x else none)=some d)(q:Q d):n<=sizeLine/\Q x:=by
 by_cases h:n<=uK
 .rw [if_pos h] at e; cases e; exact ⟨by rw [sizeLine_eq]; exact h,q⟩
 .rw [if_neg h] at e; cases e
theorem O7:Tells aCT bO:=λx y d Q e q=>by
 cases x<;>first | (cases e; done) | skip
 all_goals (cases y<;>first | (cases e; done) | skip)
 .cases e; exact q
 .exact szl (x:=D.str _) e q
 .exact szl (x:=D.tup _) e q
 .exact szl (x:=D.lst _) e q
theorem O8:Tells aEn ES:=λx y d Q e q=>by
 cases x<;>first | (cases e; done) | skip
 all_goals (cases y<;>first | (cases e; done) | skip)
 exact szl (x:=D.lst _) e q
theorem aCp{i j:Int}(h:ER i j=true):IntMulOk i j:=by
 unfold ER at h;simp only [Bool.or_eq_true,decide_eq_true_eq] at h;rcases h with (h | h) | h
 .exact YV.ok (.inl ⟨by omega,by omega⟩)
 .exact YV.ok (.inr ⟨by omega,by omega⟩)
 .refine Z3 (m:=i.natAbs.log2+1) (n:=j.natAbs.log2+1) ?_ ?_ (by omega)
  .exact Nat.lt_log2_self
  .exact Nat.lt_log2_self
section
variable{a b:Expr}{pos:Pos}{fa fb:EF}
theorem iN(ha:bS X a fa)(hb:bS X b fb):bS X (.BinOp a .Add b pos) (aC bO fa fb):=cE (aJP ha hb) (iH O7)
theorem Z7(ha:bS X a fa)(hb:bS X b fb):bS X (.BinOp a .Sub b pos) (aC fE fa fb):=cE (aJL ha hb) (iH gY)
theorem AA(ha:bS X a fa)(hb:bS X b fb):bS X (.BinOp a .Mult b pos) (aC mulM fa fb):=cE (aF3 ha hb) (iH (fS λ_ _ h=>aCp h))
theorem lT(ha:bS X a fa)(hb:bS X b fb):bS X (.BinOp a .Mod b pos) (aC dI fa fb):=cE (aJM ha hb) (iH (fS λ_ _ h=>by simpa using h))
theorem O9(ha:bS X a fa)(hb:bS X b fb):bS X (.BinOp a .FloorDiv b pos) (aC mX fa fb):=cE (aJN ha hb) (iH (fS λi j h=>by simp only [Bool.and_eq_true,decide_eq_true_eq] at h;exact ⟨h.1,by omega⟩))
theorem aLW(ha:bS X a fa)(hb:bS X b fb):bS X (.BinOp a .Pow b pos) (aC HQ fa fb):=cE (aJO ha hb) (iH (fS λi j h=>by simp only [Bool.and_eq_true,decide_eq_true_eq] at h;exact ⟨h.1.1,by omega,h.2⟩))
theorem aAp(ha:bS X a fa)(hb:bS X b fb):pL X (.BinOp a .Add b pos) (aC ES fa fb):=cF (aEo ha hb) (iH O8)
theorem tells_eq:Tells ZI kT:=λx y d Q e q=>by
 cases x<;>first | (cases e; done) | skip
 all_goals (cases y<;>first | (cases e; done) | skip)
 all_goals (cases e; exact ⟨rfl,q⟩)
theorem GM:Tells ZJ KU:=λx y d Q e q=>by
 cases x<;>first | (cases e; done) | skip
 all_goals (cases y<;>first | (cases e; done) | skip)
 all_goals (cases e; exact ⟨rfl,q⟩)
theorem ints_of:∀ {ds:List D} {ns:List Int},intsOf ds=some ns->ds=ns.map D.int
 | [],ns,h=>by cases h; rfl
 | d::ds,ns,h=>by
  cases d<;>first | cases h; done | skip
  obtain ⟨m,e,rfl⟩:=tK h;rw [ints_of e]; rfl
theorem sO{neg:Bool}:Tells (inF neg) (lY neg):=λx y d Q e q=>by
 cases x<;>first | (cases e; done) | skip
 all_goals (cases y<;>first | (cases e; done) | skip)
 all_goals
  obtain ⟨ns,e1,rfl⟩:=tK e;have:=ints_of e1;subst this;exact ⟨BS ns,by rw [BU]; exact q⟩
theorem gt4(ha:bS X a fa)(hb:bS X b fb):bS X (.Compare a [.Gt] [b] pos) (aC tL fa fb):=cE (gt3 ha hb) (iH gY)
theorem eq4(ha:bS X a fa)(hb:bS X b fb):bS X (.Compare a [.Eq] [b] pos) (aC kT fa fb):=cE (aJY ha hb) (iH tells_eq)
theorem ne4(ha:bS X a fa)(hb:bS X b fb):bS X (.Compare a [.NotEq] [b] pos) (aC KU fa fb):=cE (aJZ ha hb) (iH GM)
theorem in4(ha:bS X a fa)(hb:bS X b fb)(hm:behindInMarks .In b=false:=by with_unfolding_all rfl):bS X (.Compare a [.In] [b] pos) (aC (lY false) fa fb):=cE (in3 ha hb hm) (iH sO)
theorem aCq(ha:bS X a fa)(hb:bS X b fb)(hm:behindInMarks .NotIn b=false:=by with_unfolding_all rfl):bS X (.Compare a [.NotIn] [b] pos) (aC (lY true) fa fb):=cE (aJ0 ha hb hm) (iH sO)
theorem p8{f:F2}{g:D->D->Option D}(h:Tells f g)(hb:∀ x y d,g x y=some d -> ∃ b,d=.bl b){fa fb:EF}(Z:bR)(Q:Bool->Prop)(w:wT (tV (aC g fa fb)) Z Q):nM (iM f (wE fa) (wE fb)) Z Q:=by obtain ⟨b,e,q⟩:=w;obtain ⟨d,e1,e2⟩:=bnd e;obtain ⟨x,ex,e1⟩:=bnd e1;obtain ⟨y,ey,e1⟩:=bnd e1;obtain ⟨c,rfl⟩:=hb x y d e1;cases e2;exact ⟨x,ex,y,ey,h x y _ _ e1 q⟩
theorem uB{g:Int->Int->Bool}(x y d:D)(e:HP (λi j=>.bl (g i j)) x y=some d):∃ b,d=.bl b:=by
 cases x<;>first | (cases e; done) | skip
 all_goals (cases y<;>first | (cases e; done) | skip)
 cases e; exact ⟨_,rfl⟩
theorem aF7(x y d:D)(e:kT x y=some d):∃ b,d=.bl b:=by obtain ⟨b,_,rfl⟩:=tK e; exact ⟨_,rfl⟩
theorem aF8(x y d:D)(e:KU x y=some d):∃ b,d=.bl b:=by obtain ⟨b,_,rfl⟩:=tK e; exact ⟨_,rfl⟩
theorem aAq{neg:Bool}(x y d:D)(e:lY neg x y=some d):∃ b,d=.bl b:=by
 cases x<;>first | (cases e; done) | skip
 all_goals (cases y<;>first | (cases e; done) | skip)
 all_goals (obtain ⟨b,_,rfl⟩:=tK e; exact ⟨_,rfl⟩)
theorem aLX(ha:bS X a fa)(hb:bS X b fb):vH X (.Compare a [.Lt] [b] pos) (tV (aC W2 fa fb)):=cT (aJ1 ha hb) (p8 gY uB)
theorem aLY(ha:bS X a fa)(hb:bS X b fb):vH X (.Compare a [.LtE] [b] pos) (tV (aC W9 fa fb)):=cT (aJ2 ha hb) (p8 gY uB)
theorem D4(ha:bS X a fa)(hb:bS X b fb):vH X (.Compare a [.Gt] [b] pos) (tV (aC tL fa fb)):=cT (aJ3 ha hb) (p8 gY uB)
theorem aF9(ha:bS X a fa)(hb:bS X b fb):vH X (.Compare a [.GtE] [b] pos) (tV (aC geM fa fb)):=cT (aJ4 ha hb) (p8 gY uB)
theorem x5(ha:bS X a fa)(hb:bS X b fb):vH X (.Compare a [.Eq] [b] pos) (tV (aC kT fa fb)):=cT (aEr ha hb) (p8 tells_eq aF7)
theorem aLZ(ha:bS X a fa)(hb:bS X b fb):vH X (.Compare a [.NotEq] [b] pos) (tV (aC KU fa fb)):=cT (aEs ha hb) (p8 GM aF8)
theorem aFa(ha:bS X a fa)(hb:bS X b fb)(hm:behindInMarks .In b=false:=by with_unfolding_all rfl):vH X (.Compare a [.In] [b] pos) (tV (aC (lY false) fa fb)):=cT (aJ5 ha hb hm) (p8 sO aAq)
theorem MU(ha:bS X a fa)(hb:bS X b fb)(hm:behindInMarks .NotIn b=false:=by with_unfolding_all rfl):vH X (.Compare a [.NotIn] [b] pos) (tV (aC (lY true) fa fb)):=cT (aEt ha hb hm) (p8 sO aAq)
end
def O4(K:W.Frag)(r:R2)(g:D->D->Option D):Prop:=∃ f,O3 K r f/\Tells f g /\ ∀ x y d,g x y=some d -> ∃ b,d=.bl b
theorem VC:O4 K (OD λi j=>.bl (decide (i<j))) W2:=⟨_,qS,gY,uB⟩
theorem VD:O4 K (OD λi j=>.bl (decide (i<=j))) W9:=⟨_,qS,gY,uB⟩
theorem MV{f g:F2}{p q:D->D->Option D}(hf:Tells f p)(hg:Tells g q){fa fb fc:EF}(Z:bR)(Q:D->Prop)(w:wE (kF p q fa fb fc) Z Q):DZ f g (wE fa) (wE fb) (wE fc) Z Q:=by
 obtain ⟨d,e,k⟩:=w;obtain ⟨x,ex,e⟩:=bnd e;obtain ⟨y,ey,e⟩:=bnd e;obtain ⟨z,ez,e⟩:=bnd e;obtain ⟨b,eb,e5⟩:=bnd e;refine ⟨x,ex,y,ey,hf x y z _ ez ?_⟩
 clear e
 cases z<;>first | cases eb; done | skip
 cases eb
 cases b with
 | true =>
  rw [if_pos rfl] at e5;obtain ⟨u,eu,e⟩:=bnd e5;exact ⟨u,eu,hg y u d Q e k⟩
 | false =>
  rw [if_neg Bool.false_ne_true] at e5;cases e5;exact k
theorem aCr{a b c:Expr}{op op':CmpOp}{pos:Pos}{r r':R2}{p q:D->D->Option D}{fa fb fc:EF}(ho:i6 X (compareOp op) r)(ho':i6 X (compareOp op') r')(h1:O4 X.K r p)(h2:O4 X.K r' q)(ha:bS X a fa)(hb:bS X b fb)(hc:bS X c fc)
  (hm:lastMarks [op,op'] [b,c]=false:=by with_unfolding_all rfl):bS X (.Compare a [op,op'] [b,c] pos) (kF p q fa fb fc):=by
 obtain ⟨f,o1,t1,_⟩:=h1;obtain ⟨g,o2,t2,_⟩:=h2;exact cE (aCX ho ho' o1 o2 ha hb hc hm) (MV t1 t2)
theorem MW{a b c:Expr}{op op':CmpOp}{pos:Pos}{r r':R2}{p q:D->D->Option D}{fa fb fc:EF}(ho:i6 X (compareOp op) r)(ho':i6 X (compareOp op') r')(h1:O4 X.K r p)(h2:O4 X.K r' q)(ha:bS X a fa)(hb:bS X b fb)(hc:bS X c fc)
  (hm:lastMarks [op,op'] [b,c]=false:=by with_unfolding_all rfl):vH X (.Compare a [op,op'] [b,c] pos) (tV (kF p q fa fb fc)):=by
 obtain ⟨f,o1,t1,_⟩:=h1;obtain ⟨g,o2,t2,b2⟩:=h2;refine cT (ZK ho ho' o1 o2 ha hb hc hm) λZ Q w=>?_;obtain ⟨b,e,q⟩:=w;obtain ⟨d,e1,e2⟩:=bnd e;refine MV t1 t2 Z _ ⟨d,e1,?_⟩;have hd:∃ c,d=.bl c:=by
  obtain ⟨x,ex,e1⟩:=bnd e1;obtain ⟨y,ey,e1⟩:=bnd e1;obtain ⟨z,ez,e1⟩:=bnd e1;obtain ⟨k,ek,e1⟩:=bnd e1
  cases k with
  | true =>
   rw [if_pos rfl] at e1;obtain ⟨u,eu,e1⟩:=bnd e1;exact b2 _ _ _ e1
  | false =>
   rw [if_neg Bool.false_ne_true] at e1;cases e1;exact ⟨_,rfl⟩
 obtain ⟨c,rfl⟩:=hd;cases e2;exact q
section
variable{a b c:Expr}{rest:List Expr}{pos:Pos}{fa fb:EF}{ta tb tc:TF}
theorem sP(ha:vH X a ta):vH X (.UnaryOp .Not a pos) (hZ ta):=cT (aEw ha) λZ Q aL0=>by obtain ⟨b,e,q⟩:=aL0;obtain ⟨c,ec,rfl⟩:=tK e;exact ⟨c,ec,q⟩
theorem x6(ha:vH X a ta):BX X (.BoolOp .And [a] pos) ta:=aJ8 ha
theorem VE(ha:vH X a ta):BX X (.BoolOp .Or [a] pos) ta:=or1 ha
theorem x8(ha:vH X a ta)(hb:BX X (.BoolOp .And (b::rest) pos) tb):BX X (.BoolOp .And (a::b::rest) pos) (kX ta tb):=cW (aEx ha hb) λZ Q aL1=>by
 obtain ⟨d,e,q⟩:=aL1;obtain ⟨c,ec,e⟩:=bnd e;refine ⟨c,ec,?_⟩
 cases c with
 | true=>rw [if_pos rfl] at e ⊢; exact ⟨d,e,q⟩
 | false=>rw [if_neg Bool.false_ne_true] at e ⊢; cases e; exact q
theorem VF(ha:vH X a ta)(hb:BX X (.BoolOp .Or (b::rest) pos) tb):BX X (.BoolOp .Or (a::b::rest) pos) (u4 ta tb):=cW (aJa ha hb) λZ Q aL2=>by
 obtain ⟨d,e,q⟩:=aL2;obtain ⟨c,ec,e⟩:=bnd e;refine ⟨c,ec,?_⟩
 cases c with
 | true=>rw [if_pos rfl] at e ⊢; cases e; exact q
 | false=>rw [if_neg Bool.false_ne_true] at e ⊢; exact ⟨d,e,q⟩
theorem JP{op}(ha:bS X a fa):bS X (.BoolOp op [a] pos) fa:=aJd ha
theorem D5(ha:bS X a fa)(hb:bS X (.BoolOp .And (b::rest) pos) fb):bS X (.BoolOp .And (a::b::rest) pos) (kE fa fb):=cE (aJe ha hb) λZ Q aL3=>by
 obtain ⟨d,e,q⟩:=aL3;obtain ⟨x,ex,e1⟩:=bnd e;obtain ⟨c,ec,e⟩:=bnd e1
 clear e1
 refine ⟨x,ex,?_⟩;cases x<;>first | cases ec; done | skip
 cases ec
 cases c with
 | true=>rw [if_pos rfl] at e; exact ⟨d,e,q⟩
 | false=>rw [if_neg Bool.false_ne_true] at e; cases e; exact q
theorem or4(ha:bS X a fa)(hb:bS X (.BoolOp .Or (b::rest) pos) fb):bS X (.BoolOp .Or (a::b::rest) pos) (eOr fa fb):=cE (or3 ha hb) λZ Q aL4=>by
 obtain ⟨d,e,q⟩:=aL4;obtain ⟨x,ex,e1⟩:=bnd e;obtain ⟨c,ec,e⟩:=bnd e1
 clear e1
 refine ⟨x,ex,?_⟩;cases x<;>first | cases ec; done | skip
 cases ec
 cases c with
 | true=>rw [if_pos rfl] at e; cases e; exact q
 | false=>rw [if_neg Bool.false_ne_true] at e; exact ⟨d,e,q⟩
theorem if4(hc:vH X c tc)(ha:bS X a fa)(hb:bS X b fb):bS X (.IfExp c a b pos) (eIf tc fa fb):=cE (if3 hc ha hb) λZ Q aL5=>by
 obtain ⟨d,e,q⟩:=aL5;obtain ⟨c,ec,e⟩:=bnd e;refine ⟨c,ec,?_⟩
 cases c with
 | true=>rw [if_pos rfl] at e ⊢; exact ⟨d,e,q⟩
 | false=>rw [if_neg Bool.false_ne_true] at e ⊢; exact ⟨d,e,q⟩
theorem JQ(ha:bS X a fa):bS X (.UnaryOp .USub a pos) (mW fa):=cE (aJj ha) λZ Q aL6=>by
 obtain ⟨d,e,q⟩:=aL6;obtain ⟨x,ex,e⟩:=bnd e;refine ⟨x,ex,?_⟩;cases x<;>first | cases e; done | skip
 cases e;exact q
theorem x9{e:Expr}{f:EF}(h:bS X e f)(he:∀ whole,isTrue e X.env whole=(do let v <- whole; standAt e.pos; holding [v] (truthy v)):=by intro _; rfl):vH X e (tV f) :=
 JH (TZ h he) λU H Q aL7=>by
  obtain ⟨S,Z,Q3,fc,sl,⟨b,hb,q3⟩,k⟩:=aL7;obtain ⟨d0,ed,et⟩:=bnd hb;refine ⟨S,Z,λd=>d=d0,fc,sl,⟨d0,ed,rfl⟩,λv H1 d s1 d1 q1=>?_⟩;subst q1
  cases d with
  | bl c=>cases et; simp only [Dn] at d1; subst d1; exact ⟨_,rfl,k _ H1 s1 q3⟩
  | lst ds =>
   cases et;simp only [Dn] at d1;obtain ⟨a,xs,rfl,ha,sa,da⟩:=d1;exact ⟨_,.inl ⟨xs,gH.of ha,by rw [<- da.empty]⟩,k _ H1 s1 q3⟩
  | tup ds =>
   cases et;simp only [Dn] at d1;obtain ⟨a,xs,rfl,ha,da⟩:=d1;exact ⟨_,.inr (.inl ⟨xs,(gA.of ha),by rw [<- da.empty]⟩),k _ H1 s1 q3⟩
  | _=>cases et
end
end
section
variable{X:Cx}
theorem aL:zZ X [] aE:=cA aJR λ_ _ aL8=>by obtain ⟨_,e,q⟩:=aL8; cases e; exact q
theorem aF{e:Expr}{es:List Expr}{fe:EF}{t:AF}(ha:bS X e fe)(hr:zZ X es t)(hs:starEach (e::es) X.env=(false,eval e X.env)::starEach es X.env:=by rfl):zZ X (e::es) (aA fe t):=cA (aEq ha hr hs) λZ Q aL9=>by obtain ⟨ds,e,q⟩:=aL9;obtain ⟨d,ed,e⟩:=bnd e;obtain ⟨r,er,e⟩:=bnd e;cases e;exact ⟨d,ed,r,er,q⟩
theorem qT{es:List Expr}{t:AF}{x1}{pos:Pos}(h:zZ X es t):bS X (.Tuple es x1 pos) (dG t):=cE (aJU h) λZ Q aLa=>by obtain ⟨d,e,q⟩:=aLa;obtain ⟨ds,ed,e⟩:=bnd e;exact ⟨ds,ed,szl (x:=D.tup ds) e q⟩
theorem pV{es:List Expr}{t:AF}{pos:Pos}(h:zZ X es t):pL X (.List es pos) (dL t):=cF (aJW h) λZ Q aLb=>by obtain ⟨d,e,q⟩:=aLb;obtain ⟨ds,ed,e⟩:=bnd e;exact ⟨ds,ed,szl (x:=D.lst ds) e q⟩
theorem VG:Tells ixF aY:=λx y d Q e q=>by
 cases x<;>first | (cases e; done) | skip
 all_goals (cases y<;>first | (cases e; done) | skip)
 .have e:vE _ _=some d:=e;show (match vE _ _ with | some d=>Q d | none=>False);rw [e]; exact q
 .have e:vE _ _=some d:=e;show (match vE _ _ with | some d=>Q d | none=>False);rw [e]; exact q
 .obtain ⟨n,e1,rfl⟩:=tK e;have e1:vE _ _=some n:=e1;show (match vE _ _ with | some n=>Q (.int n) | none=>False);rw [e1]; exact q
theorem fG{a b:Expr}{pos:Pos}{fa fb:EF}(ha:bS X a fa)(hb:bS X b fb)(hs:DQ b:=by intro _ _; rfl):bS X (.Subscript a b pos) (aC aY fa fb):=cE (ix3 ha hb hs) (iH VG)
theorem PB:Tells aCh wB:=λx y d Q e q=>by
 cases x<;>first | cases e; done | skip
 rename_i ks ds;obtain ⟨k,ek,e⟩:=bnd e;have ek:GK y=some k:=by cases y<;>first | exact ek | cases ek
 have e:lH ks ds k=some d:=e
 show (match D.lB ks ds,GK y with
  | .lB ks ds,some k=>(match lH ks ds k with | some d=>Q d | none=>False)
  | _,_=>False)
 rw [ek];dsimp only;rw [e]; exact q
theorem aFb{o i:Expr}{pos:Pos}{fo fi:EF}(hu:X.A.units+1<cLine)(ho:bS X o fo)(hi:bS X i fi)(hs:OO i:=by intro _ _; rfl):bS X (.Subscript o i pos) (aC wB fo fi):=cE (aKn hu ho hi hs) (iH PB)
def qU(f:F1)(g:List D->Option D):Prop:=∀ (ds:List D) (d:D) (Q:D->Prop),g ds=some d->Q d->f ds Q
theorem JR{f:F1}{g:List D->Option D}(h:qU f g){t:AF}(Z:bR)(Q:D->Prop)(w:wE (bF g t) Z Q):OT f (wA t) Z Q:=by obtain ⟨d,e,q⟩:=w;obtain ⟨ds,ed,e⟩:=bnd e;exact ⟨ds,ed,h ds d Q e q⟩
theorem PD:qU GA aV:=λds d Q e q=>by
 cases ds with
 | nil=>cases e
 | cons a ds =>
  cases a<;>first | (cases e; done) | skip
  all_goals (cases ds<;>first | (cases e; exact q) | (cases e; done))
theorem GN:qU JI bW:=λds d Q e q=>by
 cases ds with
 | nil=>cases e
 | cons a ds =>
  cases a<;>first | (cases e; done) | skip
  all_goals (cases ds<;>first | (cases e; exact q) | (cases e; done))
theorem JS:qU UW rM:=λds d Q e q=>by
 cases ds with
 | nil=>cases e
 | cons a ds =>
  cases a<;>first | (cases e; done) | skip
  all_goals (cases ds<;>first | (cases e; exact q) | (cases e; done))
theorem eU{p pos:Pos}{e:Expr}{t:AF}(hm:X.mg "len" = none)(ha:zZ X [e] t)(hg:Gl X "len" := by rfl)(he:starEach [e] X.env=(false,eval e X.env)::starEach [] X.env:=by rfl):bS X (.Call (.Name "len" p) [e] [] pos) (bF aV t):=cE (aJm hm ha hg he) (JR PD)
theorem oM{p pos:Pos}{e:Expr}{t:AF}(hm:X.mg "tuple" = none)(ha:zZ X [e] t)(hg:Gl X "tuple" := by rfl)(he:starEach [e] X.env=(false,eval e X.env)::starEach [] X.env:=by rfl):bS X (.Call (.Name "tuple" p) [e] [] pos) (bF bW t):=cE (aCZ hm PyProof.Rows.boot_tuple ha hg he) (JR GN)
theorem aAr{p pos:Pos}{e:Expr}{t:AF}(hm:X.mg "list" = none)(ha:zZ X [e] t)(hg:Gl X "list" := by rfl)(he:starEach [e] X.env=(false,eval e X.env)::starEach [] X.env:=by rfl):pL X (.Call (.Name "list" p) [e] [] pos) (bF rM t):=cF (aEz hm PyProof.Rows.boot_list ha hg he) (JR JS)
theorem BY:∀ ds:List D,L3.intsOf ds=L4.intsOf ds
 | []=>rfl
 | d::ds=>by
  cases d<;>first | rfl | skip
  show (L3.intsOf ds).map _=(L4.intsOf ds).map _;rw [BY ds]
theorem qV(a:Int):∀ l:List Int,(insI a l).Perm (a::l)
 | []=>.refl _
 | b::l=>by
  unfold insI;split
  .exact .refl _
  .exact ((qV a l).cons b).trans (.swap a b l)
theorem oN:∀ l:List Int,(sortI l).Perm l
 | []=>.refl _
 | a::l=>(qV a (sortI l)).trans ((oN l).cons a)
theorem sQ(a:Int):∀ l:List Int,l.Pairwise (· <= ·)->(insI a l).Pairwise (· <= ·)
 | [],_=>by simp [insI]
 | b::l,h=>by
  unfold insI;split
  .rename_i hab;refine List.pairwise_cons.mpr ⟨λc hc=>?_,h⟩;rcases List.mem_cons.mp hc with e | e
   .subst e; exact hab
   .exact Int.le_trans hab ((List.pairwise_cons.mp h).1 c e)
  .rename_i hab;refine List.pairwise_cons.mpr ⟨λc hc=>?_,sQ a l (List.pairwise_cons.mp h).2⟩;rcases List.mem_cons.mp ((qV a l).mem_iff.mp hc) with e | e
   .subst e; omega
   .exact (List.pairwise_cons.mp h).1 c e
theorem lU:∀ l:List Int,(sortI l).Pairwise (· <= ·)
 | []=>List.Pairwise.nil
 | a::l=>sQ a _ (lU l)
theorem qW:∀ {l m:List Int},l.Perm m->l.Pairwise (· <= ·)->m.Pairwise (· <= ·)->l=m
 | [],m,p,_,_=>by rw [p.nil_eq]
 | a::l,[],p,_,_=>by have:=p.length_eq; simp at this
 | a::l,b::m,p,h1,h2=>by
  have e:a=b:=by
   have m1:=p.mem_iff.mp (mem_cons_self (a:=a) (l:=l));have m2:=p.mem_iff.mpr (mem_cons_self (a:=b) (l:=m));rcases List.mem_cons.mp m1 with e | e
   .exact e
   .rcases List.mem_cons.mp m2 with e2 | e2
    .exact e2.symm
    .have:=(List.pairwise_cons.mp h2).1 a e;have:=(List.pairwise_cons.mp h1).1 b e2;omega
  subst e;rw [qW p.cons_inv (List.pairwise_cons.mp h1).2 (List.pairwise_cons.mp h2).2]
theorem D6:qU U5 gE:=λds d Q e q=>by
 unfold gE at e;split at e
 .rename_i a;obtain ⟨ns,e1,e⟩:=bnd e;by_cases hl:ns.length<64
  .rw [if_pos hl] at e;cases e;show (match L3.intsOf a with | some ns=>ns.length<64 /\ ∀ ns':List Int,ns'.Perm ns->ns'.Pairwise (· <= ·)->Q (.lst (ns'.map D.int)) | none=>False);rw [BY,e1];refine ⟨hl,λns' p s=>?_⟩;rw [qW (p.trans (oN ns).symm) s (lU ns)];exact q
  .rw [if_neg hl] at e; cases e
 .cases e
theorem MX{p pos:Pos}{e:Expr}{t:AF}(hm:X.mg "sorted" = none)(ha:zZ X [e] t)(hg:Gl X "sorted" := by rfl)(he:starEach [e] X.env=(false,eval e X.env)::starEach [] X.env:=by rfl):pL X (.Call (.Name "sorted" p) [e] [] pos) (bF gE t):=cF (ZZ hm ha hg he) (JR D6)
theorem PF:qU sumF u7:=λds d Q e q=>by
 unfold u7 at e;split at e
 .rename_i a;obtain ⟨ns,e1,rfl⟩:=tK e;have:=ints_of e1;subst this;rw [O6]; exact q
 .cases e
theorem aFc{p pos:Pos}{e:Expr}{t:AF}(hc:X.calm=true)(hm:X.mg "sum" = none)(ha:zZ X [e] t)(hg:Gl X "sum" := by rfl)(he:starEach [e] X.env=(false,eval e X.env)::starEach [] X.env:=by rfl):bS X (.Call (.Name "sum" p) [e] [] pos) (bF u7 t):=cE (aLA hc hm ha hg he) (JR PF)
theorem aCs(T:String)(d:D):aBE T d=isT T d:=by cases d<;>rfl
theorem aLc{T:String}{x:Str}{e:Expr}{f:EF}{p p2 pos:Pos}(hT:Ty4 T)(hm:X.mg "isinstance" = none)(hmT:X.mg x=none)(hv:bootBuiltins x=some (.type T))(he:bS X e f)(hg:Gl X "isinstance" := by rfl)(hgT:Gl X x:=by rfl)(hn:x ≠ "__name__" := by decide)(hdb:(x == ("__debug__" : Str))=false:=by decide)
  (hs:starEach [e,.Name x p2] X.env=(false,eval e X.env)::starEach [.Name x p2] X.env:=by rfl) (hs2:starEach [.Name x p2] X.env=(false,eval (.Name x p2) X.env)::starEach [] X.env:=by rfl) (hpl:(backTo pos (starEach [.Name x p2] X.env)).any (·.1)=false:=by rfl) :
  bS X (.Call (.Name "isinstance" p) [e,.Name x p2] [] pos) (nP T f):=cE (aKi hT hm hmT hv he hg hgT hn hdb hs hs2 hpl) λZ Q aLd=>by
 obtain ⟨d,e,q⟩:=aLd;obtain ⟨x,ex,e⟩:=bnd e;by_cases hx:aBF x=true
 .rw [if_pos hx] at e;cases e;exact ⟨x,ex,(by cases x<;>first | trivial | cases hx),by show Q (.bl (isT T x)); rw [<- aCs]; exact q⟩
 .rw [if_neg hx] at e; cases e
def eF(K:W.Frag)(R:eT):Sp:=sp3 K λds Q=>∃ d,R ds=.ok d/\Q d
theorem cD{k:Nat}{f:Addr}{fd:FuncData}{ps:List Str}{R:eT}{x:Str}{p pos:Pos}{e:Expr}{es:List Expr}{t:AF}(F:aW X.prog X.w X.K X.mg X.base dO k f fd ps (eF X.K R))(hr:lA k X.A)(hm:X.mg x=some (.ref f))(hk:W.keepIn X.K (.ref f)=true)(hb:Binds X.K fd ps [])
  (ha:zZ X (e::es) t) (hg:Gl X x:=by rfl) (hdb:(x == ("__debug__" : Str))=false:=by decide) (he:starEach (e::es) X.env=(false,eval e X.env)::starEach es X.env:=by rfl) (hpl:(backTo pos (starEach es X.env)).any (·.1)=false:=by rfl) :
  bS X (.Call (.Name x p) (e::es) [] pos) (aG R t):=cE (aFA F hr hm hk hb ha hg hdb he hpl) λZ Q aLe=>by
 obtain ⟨d,e,q⟩:=aLe;obtain ⟨ds,ed,e⟩:=bnd e;refine ⟨ds,ed,d,?_,q⟩
 cases h:R ds with
 | ok d'=>rw [h] at e; cases e; rfl
 | no=>rw [h] at e; cases e
 | ex c=>rw [h] at e; cases e
theorem JT{a:Expr}{t:AF}{p pos p2 pos2:Pos}(hc:X.calm=true)(hm:X.mg "list" = none)(hmr:X.mg "range" = none)(ha:zZ X [a] t)(hg:Gl X "list" := by rfl)(hgr:Gl X "range" := by rfl)(hs:starEach [a] X.env=[(false,eval a X.env)]:=by rfl)
  (he:starEach [.Call (.Name "range" p2) [a] [] pos2] X.env=(false,eval (.Call (.Name "range" p2) [a] [] pos2) X.env)::starEach [] X.env:=by rfl) :
  pL X (.Call (.Name "list" p) [.Call (.Name "range" p2) [a] [] pos2] [] pos) (HR t):=cF (JK hc hm hmr ha hg hgr hs he) λZ Q aLf=>by
 obtain ⟨d,e,q⟩:=aLf;obtain ⟨ds,ed,e⟩:=bnd e;refine ⟨ds,ed,?_⟩;split at e
 .rename_i j;by_cases h:j.natAbs<=16777216
  .rw [if_pos h] at e; cases e; exact ⟨⟨by omega,by omega⟩,q⟩
  .rw [if_neg h] at e; cases e
 .cases e
section
variable{tg:Expr}
theorem sR{l:Expr}{f:EF}(h:bS X l f):Z6 X tg l (dD f):=cI (aFJ h) λZ Q aLg=>by
 obtain ⟨ds,e,q⟩:=aLg;obtain ⟨d,ed,e⟩:=bnd e;refine ⟨d,ed,?_⟩;cases d<;>first | cases e; done | skip
 all_goals (cases e; exact q)
theorem VH{fa:EF}{Z:bR}{as:List D}(h:aA fa aE Z=some as):∃ a,fa Z=some a/\as=[a]:=by obtain ⟨a,ea,e⟩:=bnd h;cases e;exact ⟨a,ea,rfl⟩
theorem aCt{fa fb:EF}{Z:bR}{as:List D}(h:aA fa (aA fb aE) Z=some as):∃ a b,fa Z=some a/\fb Z=some b/\as=[a,b]:=by obtain ⟨a,ea,e⟩:=bnd h;obtain ⟨r,er,e⟩:=bnd e;obtain ⟨b,eb,rfl⟩:=VH er;cases e;exact ⟨a,b,ea,eb,rfl⟩
theorem fY{a:Expr}{fa:EF}{p pos:Pos}(hm:X.mg "range" = none)(ha:bS X a fa)(hg:Gl X "range" := by rfl)(hs:starEach [a] X.env=[(false,eval a X.env)]:=by rfl):Z6 X tg (.Call (.Name "range" p) [a] [] pos) (aR (aA fa aE)):=cI (aCb hm (aF ha aL hs) hg hs) λZ Q aLh=>by
 obtain ⟨ds,e,q⟩:=aLh;obtain ⟨as,ea,e⟩:=bnd e;refine ⟨as,ea,?_⟩;obtain ⟨a,ha',rfl⟩:=VH ea
 clear ea ha'
 cases a<;>first | cases e; done | skip
 rename_i j;by_cases h:j.natAbs<4611686018427387904
 .have e:(if j.natAbs<4611686018427387904 then some ((bG 0 j.toNat).map D.int) else none)=some ds:=e;rw [if_pos h] at e; cases e; exact ⟨⟨by omega,by omega⟩,q⟩
 .have e:(if j.natAbs<4611686018427387904 then some ((bG 0 j.toNat).map D.int) else none)=some ds:=e;rw [if_neg h] at e; cases e
theorem MY{a b:Expr}{fa fb:EF}{p pos:Pos}(hm:X.mg "range" = none)(ha:bS X a fa)(hb:bS X b fb)(hg:Gl X "range" := by rfl)(hs:starEach [a,b] X.env=[(false,eval a X.env),(false,eval b X.env)]:=by rfl)(hs2:starEach [b] X.env=[(false,eval b X.env)]:=by rfl) :
  Z6 X tg (.Call (.Name "range" p) [a,b] [] pos) (aR (aA fa (aA fb aE))):=cI (ZS hm (aF ha (aF hb aL hs2) (by rw [hs,hs2])) hg hs hs2) λZ Q aLi=>by
 obtain ⟨ds,e,q⟩:=aLi;obtain ⟨as,ea,e⟩:=bnd e;refine ⟨as,ea,?_⟩;obtain ⟨a,b,ha',hb',rfl⟩:=aCt ea
 clear ea ha' hb'
 cases a<;>first | (cases e; done) | skip
 all_goals (cases b<;>first | (cases e; done) | skip)
 rename_i i j;by_cases h:i.natAbs<4611686018427387904/\j.natAbs<4611686018427387904
 .have e:(if i.natAbs<4611686018427387904/\j.natAbs<4611686018427387904 then some ((bG i (j - i).toNat).map D.int) else none)=some ds:=e;rw [if_pos h] at e; cases e; exact ⟨⟨by omega,by omega,by omega,by omega⟩,q⟩
 .have e:(if i.natAbs<4611686018427387904/\j.natAbs<4611686018427387904 then some ((bG i (j - i).toNat).map D.int) else none)=some ds:=e;rw [if_neg h] at e; cases e
end
theorem qX{a:Expr}{t:AF}{es:List Expr}{tp p pos:Pos}(hm:X.mg "enumerate" = none)(ha:zZ X [a] t)(hg:Gl X "enumerate" := by rfl)(hs:starEach [a] X.env=[(false,eval a X.env)]:=by rfl):Z6 X (.Tuple es kk tp) (.Call (.Name "enumerate" p) [a] [] pos) (nV t):=cI (JO hm ha hg hs) λZ Q aLj=>by obtain ⟨ds,e,q⟩:=aLj;obtain ⟨as,ea,e⟩:=bnd e;refine ⟨as,ea,?_⟩;unfold KY at e;split at e<;>first | (cases e; exact q) | cases e
theorem yA{g:HU}{t:TF}{e:EF}{Z:bR}:∀ (ds acc ys:List D) (Q:D->Prop),kG g t e Z ds=some ys->acc.length+ds.length<=sizeLine->Q (.lst (acc++ys))->sN (wGE g) (wT t) (wE e) Z ds acc Q
 | [],acc,ys,Q,h,_,q=>by cases h;rw [sN];simpa using q
 | d::ds,acc,ys,Q,h,hl,q=>by
  rw [sN];obtain ⟨ρ1,e1,h⟩:=bnd h;obtain ⟨b,e2,h⟩:=bnd h;simp only [length_cons] at hl;refine ⟨ρ1,e1,b,e2,?_⟩
  cases b with
  | true =>
   rw [if_pos rfl] at h ⊢;obtain ⟨y,e3,h⟩:=bnd h;obtain ⟨zs,e4,rfl⟩:=tK h;exact ⟨y,e3,by omega,yA ds (acc++[y]) zs Q e4 (by simp; omega) (by simpa using q)⟩
  | false =>
   rw [if_neg Bool.false_ne_true] at h ⊢;exact yA ds acc ys Q h (by omega) q
theorem JU{nl:Nat}{fr:List Nat}{it:AF}{g:HU}{t:TF}{e:EF}(Z:bR)(Q:D->Prop)(w:wE (bJ nl fr it g t e) Z Q):GJ nl fr (wI it) (wGE g) (wT t) (wE e) Z Q:=by
 obtain ⟨d,h,q⟩:=w;obtain ⟨ds,e1,h⟩:=bnd h;refine ⟨ds,e1,?_⟩;by_cases hl:ds.length<=uK
 .rw [if_pos hl] at h;obtain ⟨ys,e2,rfl⟩:=tK h;exact yA ds [] ys Q e2 (by rw [sizeLine_eq,length_nil,Nat.zero_add]; exact hl) (by simpa using q)
 .rw [if_neg hl] at h; cases h
abbrev VI(X:Cx)(nl:Nat)(tg:Expr)(g:HU):Prop:=PG4 X nl tg (wGE g)
abbrev VJ(X:Cx)(ifs:List Expr)(t:TF):Prop:=OX X ifs (wT t)
theorem cG{nl:Nat}{tg:Expr}{g g':GE}(h:PG4 X nl tg g)(c:∀ d Z Q,g' d Z Q->g d Z Q):PG4 X nl tg g':=OV h λ_ _ _ _ aLk=>by obtain ⟨S,Z,d,Q3,hl,fc,sl,dn,hg,k⟩:=aLk; exact ⟨S,Z,d,Q3,hl,fc,sl,dn,c d Z Q3 hg,k⟩
theorem jR{nl i:Nat}{x:Str}{pos:Pos}(nd:X.N.Nodup)(hil:i<nl)(hi:X.N[i]? = some x:=by rfl)(hx:Loc X.env.scope x:=by first | exact .inl rfl | exact .inr rfl)(hfx:X.fn x=true\/X.env.scope.names.lookup x=some .local:=by first | exact .inr rfl | exact .inl rfl):VI X nl (.Name x pos) (g1 i):=cG (aFQ nd hil hi hx hfx) λd Z Q aLl=>by obtain ⟨ρ',e,q⟩:=aLl; cases e; exact q
theorem MZ{d:D}{p:D×D}(h:KZ d=some p):d=.tup [p.1,p.2]:=by
 cases d<;>first | (cases h; done) | skip
 rename_i l
 cases l with
 | nil=>cases h
 | cons a l =>
  cases l with
  | nil=>cases h
  | cons b l =>
   cases l with
   | nil=>cases h; rfl
   | cons c l=>cases h
theorem aCu{nl i j:Nat}{x y:Str}{pos px py:Pos}(hc:X.calm=true)(nd:X.N.Nodup)(hil:i<nl)(hjl:j<nl)(hi:X.N[i]? = some x:=by rfl)(hj:X.N[j]? = some y:=by rfl)(hx:Loc X.env.scope x:=by first | exact .inl rfl | exact .inr rfl)(hfx:X.fn x=true\/X.env.scope.names.lookup x=some .local:=by first | exact .inr rfl | exact .inl rfl)(hy:Loc X.env.scope y:=by first | exact .inl rfl | exact .inr rfl)(hfy:X.fn y=true\/X.env.scope.names.lookup y=some .local:=by first | exact .inr rfl | exact .inl rfl)
  (hn:(assignEach [.Name x px,.Name y py] X.env).length=2:=by rfl) (hst:(assignEach [.Name x px,.Name y py] X.env).findIdx? (·.1)=none:=by rfl)
  (hs1:(assignEach [.Name x px,.Name y py] X.env).map (·.2)=assign (.Name x px) X.env::(assignEach [.Name y py] X.env).map (·.2):=by rfl) (hs2:(assignEach [.Name y py] X.env).map (·.2)=assign (.Name y py) X.env::(assignEach [] X.env).map (·.2):=by rfl) :
  VI X nl (.Tuple [.Name x px,.Name y py] kk pos) (g2 i j):=cG (aFR hc nd hil hjl hi hj hx hfx hy hfy hn hst hs1 hs2) λd Z Q aLm=>by
 obtain ⟨ρ',e,q⟩:=aLm;obtain ⟨p,ep,rfl⟩:=tK e;rw [MZ ep];exact q
theorem uW:VJ X [] cH:=λpins s U H Q I aLn=>by obtain ⟨S,Z,Q3,fc,sl,⟨_,e,q⟩,k⟩:=aLn; cases e; exact aKc pins s U H Q I ⟨S,Z,Q3,fc,sl,q,k⟩
theorem yB{c:Expr}{t:TF}(h:vH X c t):VJ X [c] t:=aFT h
section
variable{ls fs:List Str}{fr:List Nat}{sc:Scope}{tg iter elt:Expr}{ifs:List Expr}{pos:Pos}{it:AF}{g:HU}{t:TF}{e:EF}
theorem oO(hc:X.calm=true)(hi:Z6 X tg iter it)
  (hg:∀ cl C pn ex s H,(blk X (ls++fs) sc cl C pn ex s H).N.Nodup->VI (blk X (ls++fs) sc cl C pn ex s H) ls.length tg g) (hf:∀ cl C pn ex s H,VJ (blk X (ls++fs) sc cl C pn ex s H) ifs t) (he:∀ cl C pn ex s H,bS (blk X (ls++fs) sc cl C pn ex s H) elt e)
  (B:chk X.env.scope.names sc X.N ls fs fr=true:=by rfl) (hs:∀ x,foldedSetIterable iter X.env x=pure x:=by intro _; rfl):pL X (.ListComp elt [⟨tg,iter,ifs,0⟩] sc pos) (bJ ls.length fr it g t e):=cF (aFU hc hi hg hf he B hs) JU
variable{i:Nat}{x:Str}{spos pos':Pos}
theorem VL(nd:X.N.Nodup)(hc:X.calm=true)(hi:Z6 X tg iter it)
  (hg:∀ cl C pn ex s H,(blk X (ls++fs) sc cl C pn ex s H).N.Nodup->VI (blk X (ls++fs) sc cl C pn ex s H) ls.length tg g) (hf:∀ cl C pn ex s H,VJ (blk X (ls++fs) sc cl C pn ex s H) ifs t) (he:∀ cl C pn ex s H,bS (blk X (ls++fs) sc cl C pn ex s H) elt e)
  (hx0:X.N[i]? = some x:=by rfl) (hx:X.env.scope.names.lookup x=some .local:=by rfl) (hsw:swapsWith (.ListComp elt [⟨tg,iter,ifs,0⟩] sc pos) (some (.Name x pos')) spos.line X.env=pure true:=by rfl)
  (B:chk X.env.scope.names sc X.N ls fs fr=true:=by rfl) (hs:∀ x,foldedSetIterable iter X.env x=pure x:=by intro _; rfl):tJ X (.Assign [.Name x pos'] (.ListComp elt [⟨tg,iter,ifs,0⟩] sc pos) spos) (iA i (bJ ls.length fr it g t e)) :=
 cS (U3 nd hc hi hg hf he hx0 hx hsw B hs) λE Z w=>by
  unfold wS iA at w;unfold aC2
  cases h:bJ ls.length fr it g t e (kD Z) with
  | none=>rw [h] at w; exact w.elim
  | some d=>rw [h] at w; exact JU _ _ ⟨d,h,w⟩
end
end
section
variable{X:Cx}
theorem cO{e:Option Expr}{t t':WO}(h:PO3 X e t)(c:∀ Z Q,t' Z Q->t Z Q):PO3 X e t':=λpins s U H Q I aLo=>by obtain ⟨S,Z,Q3,fc,sl,ht,k⟩:=aLo; exact h pins s U H Q I ⟨S,Z,Q3,fc,sl,c Z Q3 ht,k⟩
theorem no4:PO4 X none W3:=cO aLB λ_ _ aLq=>by obtain ⟨_,e,q⟩:=aLq; cases e; exact q
theorem po4{e:Expr}{f:EF}(h:bS X e f):PO4 X (some e) (oE f):=cO (po3 h) λZ Q aLr=>by
 obtain ⟨o,e,q⟩:=aLr;obtain ⟨d,ed,e⟩:=bnd e;obtain ⟨i,ei,rfl⟩:=tK e;refine ⟨d,ed,?_⟩;cases d<;>first | cases ei; done | skip
 cases ei; exact q
theorem sl4{e:Expr}{lo hi:Option Expr}{p2 pos:Pos}{f:EF}{fl fh:OF}(he:bS X e f)(hl:PO4 X lo fl)(hh:PO4 X hi fh):bS X (.Subscript e (.Slice lo hi none p2) pos) (K0 f fl fh):=cE (sl3 he hl hh) λZ Q aLs=>by
 obtain ⟨r,e,q⟩:=aLs;obtain ⟨d,ed,e⟩:=bnd e;obtain ⟨l,el,e⟩:=bnd e;obtain ⟨h,eh,e⟩:=bnd e;refine ⟨d,ed,l,el,h,eh,?_⟩;cases d<;>first | cases e; done | skip
 all_goals (cases e; exact q)
theorem px4{e:Expr}{f:EF}(h:bS X e f):MT X e (fZ f):=cX (px3 h) λZ Q aFe=>by
 obtain ⟨p,e,q⟩:=aFe;obtain ⟨d,ed,e⟩:=bnd e;refine ⟨d,ed,?_⟩;by_cases hi:d.vN=true
 .rw [if_pos hi] at e; cases e; exact ⟨hi,q⟩
 .rw [if_neg hi] at e; cases e
theorem uC{e:Expr}{f:EF}(h:bS X e f):MT X e (aZ f):=cX (aKF h) λZ Q aFf=>by obtain ⟨p,e,q⟩:=aFf;obtain ⟨d,ed,e⟩:=bnd e;cases e;exact ⟨d,ed,q⟩
theorem JV{o:Option Sv}{ds:List D}(h:nQ o=some ds):o=some (.ow (.lst ds)):=by
 unfold nQ at h;split at h
 .cases h; rfl
 .cases h
def D7(f:List D->D->(List D->D->Prop)->Prop)(m:List D->D->Option (List D×D)):Prop:=∀ ds d q (Q:List D->D->Prop),m ds d=some q->Q q.1 q.2->f ds d Q
theorem aCv{i:Nat}{f:List D->D->(List D->D->Prop)->Prop}{m:List D->D->Option (List D×D)}(h:D7 f m){x:XF}(Z:aP)(Q:aP->D->Prop)(w:wX (kU i m x) Z Q):wM1 i f (wX x) Z Q:=by obtain ⟨r,e,q⟩:=w;obtain ⟨ds0,e0,e⟩:=bnd e;obtain ⟨p,ep,e⟩:=bnd e;obtain ⟨ds,e1,e⟩:=bnd e;obtain ⟨z,ez,rfl⟩:=tK e;have o0:=JV e0;have o1:=JV e1;refine ⟨by rw [o0]; trivial,p,ep,?_⟩;show (match p.1[i]? with | some (.ow (.lst ds))=>f ds p.2 λds' r=>Q (p.1.set i (.ow (.lst ds'))) r | _=>False);rw [o1];exact h ds p.2 z _ ez q
theorem PH:D7 aC4 eX:=λds d q Q e k=>by
 unfold eX at e;by_cases h:ds.length<uK
 .rw [if_pos h] at e; cases e; exact ⟨by rw [sizeLine_eq]; exact h,k⟩
 .rw [if_neg h] at e; cases e
theorem PJ:D7 aC6 XD:=λds d q Q e k=>by
 cases d<;>first | cases e; done | skip
 rename_i i;have e:(if i.natAbs<9223372036854775808 then (XA ds.length i).bind λj=>(ds[j]?).map λd=>(ds.eraseIdx j,d) else none)=some q:=e;by_cases h:i.natAbs<9223372036854775808
 .rw [if_pos h] at e;obtain ⟨j,ej,e⟩:=bnd e;obtain ⟨d,ed,rfl⟩:=tK e;have ej:Y6 ds.length i=some j:=ej;refine ⟨⟨by omega,by omega⟩,?_⟩;show (match Y6 ds.length i with | some j=>(match ds[j]? with | some d=>Q (ds.eraseIdx j) d | none=>False) | none=>False);rw [ej];dsimp only;rw [ed];exact k
 .rw [if_neg h] at e; cases e
theorem PK:D7 aCk NC:=λds d q Q e k=>by
 cases d<;>first | cases e; done | skip
 rename_i es;have e:(if ds.length+es.length<=uK then some (ds++es,D.non) else none)=some q:=e;by_cases h:ds.length+es.length<=uK
 .rw [if_pos h] at e; cases e; exact ⟨by rw [sizeLine_eq]; exact h,k⟩
 .rw [if_neg h] at e; cases e
section
variable{i:Nat}{x:Str}{e:Expr}{p apos cpos:Pos}{f:XF}
theorem yC(he:MT X e f)(hN:X.N[i]? = some x:=by rfl)(hv:EL X.env.scope x:=by first | exact Or.inl rfl | exact Or.inr (Or.inl rfl) | exact Or.inr (Or.inr rfl))(hd:(x == ("__debug__" : Str))=false:=by decide)(hcd:(x == ("__classdict__" : Str))=false:=by decide)
  (hbase:attributeBase (.Name x p) "append" X.env (eval (.Name x p) X.env)=eval (.Name x p) X.env:=by rfl)
  (hfew:((backTo cpos (starEach [e] X.env)).all (λx=>!x.1)&&(backToKw cpos (keywordEach [] X.env)).all (λx=>x.1.isSome)
   && decide ([e].length+([]:List Keyword).length+(if ([]:List Keyword).isEmpty then 0 else 1)<30))=true:=by rfl)
  (hline:(apos.endLine == cpos.line)=true:=by rfl) (hs:starEach [e] X.env=(false,eval e X.env)::starEach [] X.env:=by rfl) :
  MT X (.Call (.Attribute (.Name x p) "append" apos) [e] [] cpos) (kU i eX f):=cX (aKK he hN hv hd hcd hbase hfew hline hs) (aCv PH)
theorem aLt(he:MT X e f)(hN:X.N[i]? = some x:=by rfl)(hv:EL X.env.scope x:=by first | exact Or.inl rfl | exact Or.inr (Or.inl rfl) | exact Or.inr (Or.inr rfl))(hd:(x == ("__debug__" : Str))=false:=by decide)(hcd:(x == ("__classdict__" : Str))=false:=by decide)
  (hbase:attributeBase (.Name x p) "pop" X.env (eval (.Name x p) X.env)=eval (.Name x p) X.env:=by rfl)
  (hfew:((backTo cpos (starEach [e] X.env)).all (λx=>!x.1)&&(backToKw cpos (keywordEach [] X.env)).all (λx=>x.1.isSome)
   && decide ([e].length+([]:List Keyword).length+(if ([]:List Keyword).isEmpty then 0 else 1)<30))=true:=by rfl)
  (hline:(apos.endLine == cpos.line)=true:=by rfl) (hs:starEach [e] X.env=(false,eval e X.env)::starEach [] X.env:=by rfl) :
  MT X (.Call (.Attribute (.Name x p) "pop" apos) [e] [] cpos) (kU i XD f):=cX (aKL he hN hv hd hcd hbase hfew hline hs) (aCv PJ)
theorem Z8(he:MT X e f)(hN:X.N[i]? = some x:=by rfl)(hv:EL X.env.scope x:=by first | exact Or.inl rfl | exact Or.inr (Or.inl rfl) | exact Or.inr (Or.inr rfl))(hd:(x == ("__debug__" : Str))=false:=by decide)(hcd:(x == ("__classdict__" : Str))=false:=by decide)
  (hbase:attributeBase (.Name x p) "extend" X.env (eval (.Name x p) X.env)=eval (.Name x p) X.env:=by rfl)
  (hfew:((backTo cpos (starEach [e] X.env)).all (λx=>!x.1)&&(backToKw cpos (keywordEach [] X.env)).all (λx=>x.1.isSome)
   && decide ([e].length+([]:List Keyword).length+(if ([]:List Keyword).isEmpty then 0 else 1)<30))=true:=by rfl)
  (hline:(apos.endLine == cpos.line)=true:=by rfl) (hs:starEach [e] X.env=(false,eval e X.env)::starEach [] X.env:=by rfl) :
  MT X (.Call (.Attribute (.Name x p) "extend" apos) [e] [] cpos) (kU i NC f):=cX (Z0 he hN hv hd hcd hbase hfew hline hs) (aCv PK)
theorem aFg(hN:X.N[i]? = some x:=by rfl)(hv:EL X.env.scope x:=by first | exact Or.inl rfl | exact Or.inr (Or.inl rfl) | exact Or.inr (Or.inr rfl))(hd:(x == ("__debug__" : Str))=false:=by decide)(hcd:(x == ("__classdict__" : Str))=false:=by decide)
  (hbase:attributeBase (.Name x p) "pop" X.env (eval (.Name x p) X.env)=eval (.Name x p) X.env:=by rfl) (hline:(apos.endLine == cpos.line)=true:=by rfl) :
  MT X (.Call (.Attribute (.Name x p) "pop" apos) [] [] cpos) (AN i):=cX (aF0 hN hv hd hcd hbase hline) λZ Q aFh=>by
 obtain ⟨r,e,q⟩:=aFh;obtain ⟨ds,ed,e⟩:=bnd e;obtain ⟨d,e1,rfl⟩:=tK e;have o:=JV ed;show (match Z[i]? with | some (.ow (.lst ds))=>(match ds[ds.length - 1]? with | some d=>Q (Z.set i (.ow (.lst ds.dropLast))) d | none=>False) | _=>False);rw [o];dsimp only;rw [e1];exact q
end
theorem jS:z0 X [] bY:=cSs aJo λ_ _ w=>w
theorem aFi{f g:SF}(E:DE)(Z:aP)(w:wS (aH f g) E Z):aC1 (wS f) (wS g) E Z:=by
 unfold wS aH at w;unfold aC1 wS
 cases h:f Z with
 | nx ρ'=>rw [h] at w; exact w
 | rt d=>rw [h] at w; exact w
 | no=>rw [h] at w; exact w
 | ex c=>rw [h] at w; exact w
theorem bI{st:Stmt}{rest:List Stmt}{f g:SF}(h1:tJ X st f)(h2:z0 X rest g):z0 X (st::rest) (aH f g):=cSs (aJq h1 h2) aFi
theorem aS{st:Stmt}{f:SF}(h1:tJ X st f):z0 X [st] f:=aFC h1
theorem fP{e:Expr}{f:EF}{pos:Pos}(h:bS X e f):tJ X (.Return (some e) pos) (aU f):=cS (aJt h) λE Z w=>by
 unfold wS aU at w
 cases h:f (bT Z) with
 | none=>rw [h] at w; exact w.elim
 | some d=>rw [h] at w; exact ⟨d,h,w⟩
theorem iI{c:Expr}{a b:List Stmt}{pos:Pos}{t:TF}{f g:SF}(hc:vH X c t)(ha:z0 X a f)(hb:z0 X b g):tJ X (.If c a b pos) (eV t f g):=cS (aJw hc ha hb) λE Z w=>by
 unfold wS eV at w
 cases h:t (bT Z) with
 | none=>rw [h] at w; exact w.elim
 | some c =>
  rw [h] at w;refine ⟨c,h,?_⟩
  cases c with
  | true=>rw [if_pos rfl]; exact w
  | false=>rw [if_neg Bool.false_ne_true]; exact w
section
variable{i:Nat}{x:Str}{e:Expr}{f:EF}{pos pos':Pos}
theorem fC(hN:X.N.Nodup)(he:bS X e f)(hi:X.N[i]? = some x:=by rfl)(hx:Loc X.env.scope x:=by first | exact .inl rfl | exact .inr rfl)(hs:swapsWith e (some (.Name x pos')) pos.line X.env=pure false:=by rfl)(hf:X.fn x=true\/X.env.scope.names.lookup x=some .local:=by first | exact .inl rfl | exact .inr rfl) :
  tJ X (.Assign [.Name x pos'] e pos) (aN i f):=cS (aJz hN he hi hx hs hf) λE Z w=>by
 unfold wS aN at w
 cases h:f (kD Z) with
 | none=>rw [h] at w; exact w.elim
 | some d=>rw [h] at w; exact ⟨d,h,w⟩
theorem AB(hN:X.N.Nodup)(he:pL X e f)(hi:X.N[i]? = some x:=by rfl)(hx:Loc X.env.scope x:=by first | exact .inl rfl | exact .inr rfl)(hs:swapsWith e (some (.Name x pos')) pos.line X.env=pure false:=by rfl)(hf:X.fn x=true\/X.env.scope.names.lookup x=some .local:=by first | exact .inl rfl | exact .inr rfl) :
  tJ X (.Assign [.Name x pos'] e pos) (iA i f):=cS (aKB hN he hi hx hs hf) λE Z w=>by
 unfold wS iA at w
 cases h:f (kD Z) with
 | none=>rw [h] at w; exact w.elim
 | some d=>rw [h] at w; exact ⟨d,h,w⟩
theorem aAs(hN:X.N.Nodup)(he:pL X e f)(hi:X.N[i]? = some x:=by rfl)(hx:Loc X.env.scope x:=by first | exact .inl rfl | exact .inr rfl)(hs:swapsWith e (some (.Name x pos')) pos.line X.env=pure false:=by rfl)(hf:X.fn x=true\/X.env.scope.names.lookup x=some .local:=by first | exact .inl rfl | exact .inr rfl) :
  tJ X (.Assign [.Name x pos'] e pos) (lZ i f):=cS (aFZ hN he hi hx hs hf) λE Z w=>by
 unfold wS lZ at w
 cases h:f (bT Z) with
 | none=>rw [h] at w; exact w.elim
 | some d =>
  rw [h] at w;dsimp only at w;by_cases hl:qD d=true
  .rw [if_pos hl] at w;refine ⟨d,h,?_,w⟩;cases d<;>first | exact hl | cases hl
  .rw [if_neg hl] at w; exact w.elim
theorem aFj{f:XF}(hN:X.N.Nodup)(he:MT X e f)(hi:X.N[i]? = some x:=by rfl)(hx:Loc X.env.scope x:=by first | exact .inl rfl | exact .inr rfl)(hs:swapsWith e (some (.Name x pos')) pos.line X.env=pure false:=by rfl)(hf:X.fn x=true\/X.env.scope.names.lookup x=some .local:=by first | exact .inl rfl | exact .inr rfl) :
  tJ X (.Assign [.Name x pos'] e pos) (uL i f):=cS (aFF hN he hi hx hs hf) λE Z w=>by
 unfold wS uL at w
 cases h:f Z with
 | none=>rw [h] at w; exact w.elim
 | some d=>rw [h] at w; exact ⟨d,h,w⟩
theorem VM{p:Pos}(hN:X.N.Nodup)(hi:X.N[i]? = some x:=by rfl)(hx:Loc X.env.scope x:=by first | exact .inl rfl | exact .inr rfl)(hs:swapsWith (.Dict [] [] p) (some (.Name x pos')) pos.line X.env=pure false:=by rfl)(hf:X.fn x=true\/X.env.scope.names.lookup x=some .local:=by first | exact .inl rfl | exact .inr rfl) :
  tJ X (.Assign [.Name x pos'] (.Dict [] [] p) pos) (Q6 i):=cS (U7 hN hi hx hs hf) λE Z w=>w
end
theorem mL{e:Expr}{f:XF}{pos:Pos}(he:MT X e f)(hs:swapsWith e none pos.line X.env=pure false:=by rfl):tJ X (.Expr e pos) (sX f):=cS (aFH he hs) λE Z w=>by
 unfold wS sX at w
 cases h:f Z with
 | none=>rw [h] at w; exact w.elim
 | some d=>rw [h] at w; exact ⟨d,h,w⟩
theorem PM{o:Option Sv}{p:List (Sum Int Str)×List D}(h:wF o=some p):o=some (.ow (.lB p.1 p.2)):=by
 unfold wF at h;split at h
 .cases h; rfl
 .cases h
theorem aFk{i:Nat}{x:Str}{e k:Expr}{f:XF}{fk:EF}{pos pos' p:Pos}(hu:X.A.units+1<cLine)(he:MT X e f)(hk:bS X k fk)
  (hN:X.N[i]? = some x:=by rfl) (hv:EL X.env.scope x:=by first | exact Or.inl rfl | exact Or.inr (Or.inl rfl) | exact Or.inr (Or.inr rfl)) (hd:(x == ("__debug__" : Str))=false:=by decide) (hcd:(x == ("__classdict__" : Str))=false:=by decide)
  (hs:swapsWith e (some (.Subscript (.Name x p) k pos')) pos.line X.env=pure false:=by rfl) :
  tJ X (.Assign [.Subscript (.Name x p) k pos'] e pos) (K1 i f fk):=cS (aFY hu he hk hN hv hd hcd hs) λE Z w=>by
 unfold wS K1 at w;cases h:((f Z).bind λp=>(wF p.1[i]?).bind λkd=>(fk (bT p.1)).bind λkv=>(v0 kv).bind λkk =>
  if (lD kd.1 kd.2 kk).isNone=true/\kd.2.length<uK then some (p.1.set i (.ow (.lB (kd.1++[kk]) (kd.2++[p.2])))) else none) with
 | none=>rw [h] at w; exact w.elim
 | some ρ' =>
  rw [h] at w;obtain ⟨q,eq,h⟩:=bnd h;obtain ⟨kd,ed,h⟩:=bnd h;obtain ⟨kv,ek,h⟩:=bnd h;obtain ⟨kk,e2,h⟩:=bnd h;have o:=PM ed;by_cases hc:(lD kd.1 kd.2 kk).isNone=true/\kd.2.length<uK
  .rw [if_pos hc] at h;cases h;refine ⟨q,eq,by rw [o]; trivial,kv,ek,?_⟩;have e3:GK kv=some kk:=by cases kv<;>first | exact e2 | cases e2
   show (match q.1[i]?,GK kv with
    | some (.ow (.lB ks ds)),some k=>(lH ks ds k=none/\ds.length<sizeLine)/\E.nx (q.1.set i (.ow (.lB (ks++[k]) (ds++[q.2]))))
    | _,_=>False)
   rw [o,e3];refine ⟨⟨?_,by rw [sizeLine_eq]; exact hc.2⟩,w⟩;have:=hc.1
   cases hl:lD kd.1 kd.2 kk with
   | none=>exact hl
   | some d=>rw [hl] at this; cases this
  .rw [if_neg hc] at h; cases h
theorem cGS{tg:Expr}{g g':WG}(h:ZT X tg g)(c:∀ d Z Q,g' d Z Q->g d Z Q):ZT X tg g':=OV h λ_ _ _ _ aFl=>by obtain ⟨H₀,S,w,Z,G,d,Q3,hl,st,dn,hg,k⟩:=aFl; exact ⟨H₀,S,w,Z,G,d,Q3,hl,st,dn,c d Z Q3 hg,k⟩
theorem nN{i:Nat}{x:Str}{pos:Pos}(hN:X.N.Nodup)(hi:X.N[i]? = some x:=by rfl)(hx:Loc X.env.scope x:=by first | exact .inl rfl | exact .inr rfl)(hf:X.fn x=true\/X.env.scope.names.lookup x=some .local:=by first | exact .inl rfl | exact .inr rfl):ZT X (.Name x pos) (wG (lE i)) :=
 cGS (aFL hN hi hx hf) λd Z Q aFm=>by obtain ⟨ρ',e,q⟩:=aFm; cases e; exact q
theorem GO{i j:Nat}{x y:Str}{k:Nat}{pos px py:Pos}(hc:X.calm=true)(hN:X.N.Nodup)(hi:X.N[i]? = some x:=by rfl)(hj:X.N[j]? = some y:=by rfl)(hx:Loc X.env.scope x:=by first | exact .inl rfl | exact .inr rfl)(hy:Loc X.env.scope y:=by first | exact .inl rfl | exact .inr rfl)
  (hf:X.fn x=true\/X.env.scope.names.lookup x=some .local:=by first | exact .inl rfl | exact .inr rfl) (hf2:X.fn y=true\/X.env.scope.names.lookup y=some .local:=by first | exact .inl rfl | exact .inr rfl)
  (hn:(assignEach [.Name x px,.Name y py] X.env).length=2:=by rfl) (hst:(assignEach [.Name x px,.Name y py] X.env).findIdx? (·.1)=none:=by rfl)
  (hs1:(assignEach [.Name x px,.Name y py] X.env).map (·.2)=assign (.Name x px) X.env::(assignEach [.Name y py] X.env).map (·.2):=by rfl) (hs2:(assignEach [.Name y py] X.env).map (·.2)=assign (.Name y py) X.env::(assignEach [] X.env).map (·.2):=by rfl) :
  ZT X (.Tuple [.Name x px,.Name y py] k pos) (wG (HK i j)):=cGS (aFM hc hN hi hj hx hy hf hf2 hn hst hs1 hs2) λd Z Q aFo=>by
 obtain ⟨ρ',e,q⟩:=aFo;obtain ⟨p,ep,rfl⟩:=tK e;rw [MZ ep];exact q
theorem qY{tg iter:Expr}{body:List Stmt}{it:AF}{g:K2}{b:SF}{pos:Pos}(hc:X.calm=true)(hp:PassesOwn (model X.prog X.w) X.A X.env X.xe)(hi:Z6 X tg iter it)(hg:ZT X tg (wG g))(hb:z0 X body b)
  (hs:∀ x,foldedSetIterable iter X.env x=pure x:=by intro _; rfl):tJ X (.For tg iter body [] pos) (dE it g b):=cS (aKT hc hp hi hg hb hs) λE Z w=>by
 unfold wS dE at w
 cases h:it (kD Z) with
 | none=>rw [h] at w; exact w.elim
 | some ds =>
  rw [h] at w;refine ⟨ds,h,λi ρ'=>wS (gU g b (ds.drop i)) E ρ',(by show wS (gU g b (ds.drop 0)) E Z; rw [drop_zero]; exact w),λi d ρ' hd iv=>?_,λρ' iv=>?_⟩
  .have hi:i<ds.length:=(List.getElem?_eq_some_iff.mp hd).1;have e1:ds[i]=d:=(List.getElem?_eq_some_iff.mp hd).2;have iv:wS (gU g b (ds.drop i)) E ρ':=iv;rw [List.drop_eq_getElem_cons hi,e1] at iv;unfold wS gU at iv
   cases hg:g d ρ' with
   | none=>rw [hg] at iv; exact iv.elim
   | some ρ1 =>
    rw [hg] at iv;dsimp only at iv;refine ⟨ρ1,hg,?_⟩;unfold wS
    cases hb:b ρ1 with
    | nx ρ2=>rw [hb] at iv; dsimp only; rw [hb]; exact iv
    | rt d=>rw [hb] at iv; dsimp only; rw [hb]; exact iv
    | no=>rw [hb] at iv; dsimp only; rw [hb]; exact iv
    | ex c=>rw [hb] at iv; dsimp only; rw [hb]; exact iv
  .have iv:wS (gU g b (ds.drop ds.length)) E ρ':=iv;rw [List.drop_length] at iv;exact iv
theorem aCw{c:Expr}{body:List Stmt}{t:TF}{b:SF}{pos:Pos}{n:Nat}(hp:PassesOwn (model X.prog X.w) X.A X.env X.xe)(hc:vH X c t)(hb:z0 X body b):tJ X (.While c body [] pos) (CJ n t b):=cS (aCj hp hc hb) λE Z w=>by
 have least:∀ {p:Nat->Prop},(∃ n,p n) -> ∃ n,p n /\ ∀ m,p m->n<=m:=λ{p} ⟨n,hn⟩=>by
  induction n using Nat.strongRecOn with
  | ind n ih =>
   by_cases h:∃ m,m<n/\p m
   .obtain ⟨m,hm,pm⟩:=h; exact ih m hm pm
   .exact ⟨n,hn,λm pm=>by apply Classical.byContradiction;intro z;exact h ⟨m,by omega,pm⟩⟩
 refine ⟨λρ'=>∃ m,wS (eZ t b m) E ρ',λρ'=>(Classical.epsilon λm=>wS (eZ t b m) E ρ' /\ ∀ k,wS (eZ t b k) E ρ'->m<=k),⟨n,w⟩,λρ' iv=>?_⟩;obtain ⟨m0,hm0⟩:=least iv;have hm:=Classical.epsilon_spec (p:=λm=>wS (eZ t b m) E ρ' /\ ∀ k,wS (eZ t b k) E ρ'->m<=k) ⟨m0,hm0⟩;dsimp only;generalize (Classical.epsilon λm=>wS (eZ t b m) E ρ' /\ ∀ k,wS (eZ t b k) E ρ'->m<=k)=m at hm ⊢
 cases m with
 | zero=>exact hm.1.elim
 | succ m =>
  have h1:=hm.1;unfold wS eZ at h1
  cases ht:t (bT ρ') with
  | none=>rw [ht] at h1; exact h1.elim
  | some c =>
   rw [ht] at h1;refine ⟨c,ht,?_⟩
   cases c with
   | false=>rw [if_neg Bool.false_ne_true]; exact h1
   | true =>
    rw [if_pos rfl];dsimp only at h1;unfold wS
    cases hb:b ρ' with
    | nx ρ2 =>
     rw [hb] at h1;have h2:wS (eZ t b m) E ρ2:=h1;refine ⟨⟨m,h2⟩,?_⟩;obtain ⟨k0,hk0⟩:=least (p:=λm=>wS (eZ t b m) E ρ2) ⟨m,h2⟩;have hk:=Classical.epsilon_spec (p:=λm=>wS (eZ t b m) E ρ2 /\ ∀ k,wS (eZ t b k) E ρ2->m<=k) ⟨k0,hk0⟩;exact Nat.lt_succ_of_le (hk.2 m h2)
    | rt d=>rw [hb] at h1; exact h1
    | no=>rw [hb] at h1; exact h1
    | ex c=>rw [hb] at h1; exact h1
end
theorem jJ{P:Program}{w:World}{K:W.Frag}{mg:Q0Z}{base:Heap}{x qual:Str}{st:Stmt}{f:Addr}{fd:FuncData}{N ps:List Str}{k n np:Nat}{b:SF}(F:nU K x qual st f fd)(S:bH N ps (aI st))(hn:N.length=n)(hp:ps.length=np)
  (hbody:∀ (cdv:Value) (A:Around) (outer:List Env) (s:Shared) (H:Hp) (E:XK),lA k (A.deeper (envOfC qual (aI st) s.heap.objs.size f cdv)) ->
   z0 (t6 dO P w K mg base N qual (aI st) f cdv A outer s H E).nox (bE st) b):aW P w K mg base dO (k+1) f fd ps (eF K (bK n np b)):=by
 subst hn hp;refine aKD F S (λds Q ⟨d,e,q⟩=>?_) λcdv A outer s H E hr=>⟨_,hbody cdv A outer s H E hr,λds Q ⟨d,e,q⟩=>?_⟩
 .unfold bK at e;by_cases h:ds.length=ps.length
  .exact h
  .rw [if_neg h] at e; cases e
 .unfold bK at e;by_cases h:ds.length=ps.length
  .rw [if_pos h] at e;have e2:lO N ds=fA N.length ds:=rfl;unfold wS;rw [e2]
   cases hb:b (fA N.length ds) with
   | rt d'=>rw [hb] at e; cases e; exact q
   | nx Z=>rw [hb] at e; cases e; exact q
   | no=>rw [hb] at e; cases e
   | ex c=>rw [hb] at e; cases e
  .rw [if_neg h] at e; cases e
section
variable{X:Cx}{pins:List (Addr×Obj)}{U:L2.St}{H:Hp}
theorem GP{s:Shared}{x:V}{v:Value}{k:Bool}{A:Around}{E:Q0Q}{Q:Bool->Shared->Prop}(I:Inv X pins U H s)(rx:RelV x v)(e:x=.bl k\/(∃ p xs,x=.ref p/\(gH X.K H p xs\/gA X.K H p xs)/\k=!xs.isEmpty))
  (q:∀ tk,Q k { s with toks:=tk }):wpAny (model X.prog X.w) A (truthy v) Q E s:=by
 have hs:sizeLine=16777216:=sizeLine_eq;rcases e with rfl | ⟨p,xs,rfl,hx,rfl⟩
 .cases rx;exact wpAny_truthy_bool (q s.toks)
 .cases rx;rcases hx with hx | hx
  .obtain ⟨its,r,pl,hz⟩:=I.list hx;have hlen:=r.length;exact wpAny_truthy_list pl.isList (by simp only [size_toArray]; omega) (by rw [nD r]; exact q _)
  .obtain ⟨its,r,pl,hz⟩:=I.tuple hx;have hlen:=r.length;exact truthy_tuple pl (by simp only [size_toArray]; omega) (by rw [nD r]; exact q _)
def TrV(K:W.Frag)(H:Hp)(x:V)(k:Bool):Prop:=x=.bl k\/(∃ p xs,x=.ref p/\(gH K H p xs\/gA K H p xs)/\k=!xs.isEmpty)
theorem PN{n j:Nat}(h:j<n):(List.range n).drop j=j::(List.range n).drop (j+1):=by
 have hl:j<(List.range n).length:=by rw [length_range]; exact h
 rw [List.drop_eq_getElem_cons hl,List.getElem_range]
section
variable{it:Addr}{fp wr:List Addr}{n:Nat}{P:Nat->Value->Prop}{St:Nat->Heap->Prop}{R:Result->Shared->Prop}{tr:Nat->Bool}
theorem BZ(W:Walks X.prog X.w X.A.in1 it fp wr n P St)(hf:∀ b∈wr,qQ X pins H b)(ht:∀ j v,P j v -> ∃ x,RelV x v/\TrV X.K H x (tr j)) :
  ∀ (m j:Nat) (st:Shared),m+j=n->Inv X pins U H st->St j st.heap->(∀ st',Inv X pins U H st'->R (.ok (.ret (.bool (((List.range n).drop j).all tr)))) st')->codeAny (model X.prog X.w) X.A (.builtin "all.loop" ⟨[.ref it],[]⟩) R st
 | 0,j,st,hj,I,hS,k=>by
  obtain rfl:j=n:=by omega
  refine codeAny_builtin (F.entry_all_loop) ?_;rw [Around.under_plainId F.plain_all_loop];refine wpAny_bind (W.done st _ _ hS λh2 t2 kp=>wpAny_bind (wpAny_rule (wpAny_pure ?_)));have:=k _ (U9 (t':=t2) I kp hf)
  rwa [List.drop_eq_nil_of_le (by simp)] at this
 | m+1,j,st,hj,I,hS,k=>by
  have hjn:j<n:=by omega
  refine codeAny_builtin (F.entry_all_loop) ?_;rw [Around.under_plainId F.plain_all_loop];refine wpAny_bind (W.item j st _ _ hjn hS λv h2 t2 pv hS2 kp=>?_);have I2:Inv X pins U H { st with heap:=h2,toks:=t2 }:=U9 (t':=t2) I kp hf;obtain ⟨x,rx,hx⟩:=ht j v pv;rw [PN hjn,all_cons] at k;refine wpAny_bind (wpAny_holding (GP I2 rx hx λt3=>wpAny_bind (wpAny_letGo ?_)));have I3:Inv X pins U H { st with heap:=h2,toks:=t3 }:=I2.tok t3
  cases hb:tr j with
  | true =>
   rw [hb,Bool.true_and] at k;rw [if_pos rfl];exact wpAny_pure ⟨plainId_quiet F.plain_all_loop _,BZ W hf ht m (j+1) _ (by omega) I3 hS2 k⟩
  | false =>
   rw [hb,Bool.false_and] at k;rw [if_neg Bool.false_ne_true];exact wpAny_bind (wpAny_rule (wpAny_pure (k _ I3)))
end
def aFp(f:List Bool->Bool)(K:W.Frag):List V->Hp->VK->Prop:=λxs H Q=>∃ a ys bs,xs=[.ref a]/\H a=some (.lst ys)/\bs.length=ys.length/\(∀ (j:Nat) (y:V) (b:Bool),ys[j]? = some y->bs[j]? = some b->TrV K H y b)/\Q (.bl (f bs)) H
theorem PP(hc:X.calm=true):jI X (.builtin "all") (aFp (λbs=>bs.all id) X.K):=by
 intro pins s U H xs us Q I r h;obtain ⟨a,ys,bs,rfl,ha,hl,ht,q⟩:=h;obtain ⟨u,rfl,ru⟩:=vals1 r;cases ru;obtain ⟨its,rv,p,hz⟩:=I.list (gH.of ha);have hlt:a<s.heap.objs.size:=by obtain ⟨o,n,e,_⟩:=p; exact lt_size e
 have hn:its.length=ys.length:=rv.length.symm;have ht2:∀ j v,its.toArray[j]? = some v -> ∃ x,RelV x v/\TrV X.K H x (bs.getD j true):=λj v e=>by
  have e1:its[j]? = some v:=by simpa using e
  have hj:j<ys.length:=by have:=(List.getElem?_eq_some_iff.mp e1).1; omega
  obtain ⟨u,e2,ru⟩:=rv.get (getElem?_eq_getElem hj);rw [e1] at e2;cases e2;refine ⟨_,ru,ht j _ _ (getElem?_eq_getElem hj) ?_⟩;rw [getD_eq_getElem?_getD,getElem?_eq_getElem (by omega)];rfl
 refine call_function_tree (F.kind_all) F.plain_all F.entry_all (F.args_all1 _) ?_;unfold Builtin.«all»;refine wpAny_bind (m:=oneArg "all" _) (wpAny_pure (wpAny_bind (wpAny_pyIter_list p.isList (wpAny_pure ⟨plainId_quiet F.plain_all_loop _,?_⟩))));have hfr:H s.heap.objs.size=none:=I.hok.fresh (le_refl _);have I1:Inv X pins U H { s with heap:=s.heap.push { cls:=.type "list_iterator",data:=.fields #[.ref a,rawInt 0] } }:=I.kept (t':=s.toks) λb o e=>get?_push_of_some _ e;refine BZ (X:=X) (pins:=pins) (U:=U) (H:=H) (tr:=λj=>bs.getD j true) (Walks.list (A:=X.A.in1) (show X.A.in1.handled=none from I.ok.hd hc) s.heap.objs.size a (ne_of_lt hlt) its.toArray) (λb hb=>?_) ht2 its.toArray.size 0 _ rfl I1
  ⟨⟨_,get?_push_size _ rfl,rfl,rfl⟩,p.isList.at λo e=>get?_push_of_some _ e⟩ λst' I'=>?_
 .cases List.mem_singleton.mp hb;exact I.IV (le_refl _) hfr
 .refine ⟨.bl _,H,I',rfl,?_⟩;rw [drop_zero,show its.toArray.size=bs.length by simp [hn,hl],range_all];exact q
theorem aAt{K:W.Frag}{S:Addr->Prop}{H:Hp}:∀ {es:List D} {ys:List V} {bs:List Bool},bC K S H es ys->qC es=some bs->bs.length=ys.length /\ ∀ (j:Nat) (y:V) (b:Bool),ys[j]? = some y->bs[j]? = some b->TrV K H y b
 | [],ys,bs,dn,h=>by simp only [bC] at dn;subst dn;cases h;exact ⟨rfl,λj y b e=>by simp at e⟩
 | d::es,ys,bs,dn,h=>by
  obtain ⟨v,r,rfl,h1,h2⟩:=dn.bV;obtain ⟨b,eb,h⟩:=bnd h;obtain ⟨bs',e2,rfl⟩:=tK h;obtain ⟨hl,ih⟩:=aAt h2 e2;refine ⟨by simp [hl],λj y c ey ec=>?_⟩
  cases j with
  | zero =>
   simp at ey ec;subst ey ec;cases d<;>first | cases eb; done | skip
   .cases eb; simp only [Dn] at h1; exact .inl h1
   .cases eb; simp only [Dn] at h1; obtain ⟨a,xs,rfl,ha,da⟩:=h1; exact .inr ⟨a,xs,rfl,.inr (gA.of ha),by rw [<- da.empty]⟩
   .cases eb; simp only [Dn] at h1; obtain ⟨a,xs,rfl,ha,_,da⟩:=h1; exact .inr ⟨a,xs,rfl,.inl (gH.of ha),by rw [<- da.empty]⟩
  | succ j=>exact ih j y c (by simpa using ey) (by simpa using ec)
def trF(f:List Bool->Bool):F1
 | [.lst es],Q=>∃ bs,qC es=some bs/\Q (.bl (f bs))
 | _,_=>False
theorem aCx{f:List Bool->Bool}:C3 K (aFp f K) (trF f):=by
 intro S H xs ds Q3 Q fc hd hf k
 match ds,hf with
 | [.lst es],⟨bs,eb,q⟩ =>
  obtain ⟨v,r,rfl,h1,h2⟩:=hd.bV;simp only [bC] at h2;subst h2;simp only [Dn] at h1;obtain ⟨a,ys,rfl,ha,sa,da⟩:=h1;obtain ⟨hl,ht⟩:=aAt da eb;exact ⟨a,ys,bs,rfl,ha,hl,ht,k _ H _ (Same.refl H) (by simp only [Dn]) q⟩
theorem aCy{p pos:Pos}{e:Expr}{t:AF}(hc:X.calm=true)(hm:X.mg "all" = none)(ha:zZ X [e] t)(hg:Gl X "all" := by rfl)(he:starEach [e] X.env=(false,eval e X.env)::starEach [] X.env:=by rfl):bS X (.Call (.Name "all" p) [e] [] pos) (bF allM t) :=
 cE (D0 (PP hc) aCx PyProof.Rows.boot_all hg hm ha (by decide) (by decide) he (by rfl)) (JR λds d Q e q=>by
  unfold allM at e;split at e
  .obtain ⟨bs,eb,rfl⟩:=tK e; exact ⟨bs,eb,q⟩
  .cases e)
end
end L4
end
section
namespace L3
open PySem PySem.Spec PyProof.Rows L2
namespace Rv
end Rv
section
variable{prog:Program}{w:World}{A:Around}{E:Q0Q}{s:Shared}
end
section
variable{X:Cx}{tg:Expr}
end
section
variable{prog:Program}{w:World}{A:Around}{E:Q0Q}{s:Shared}
end
section
variable{X:Cx}
end
end L3
namespace L4
open PySem PySem.Spec PyProof.Rows L2 L3
section
variable{X:Cx}{tg:Expr}
end
end L4
end
section
namespace L4
open PySem PySem.Spec PyProof.Rows L2 L3 PySem.W
section
variable{lt:Nat->Nat->Bool}
def Up(lt:Nat->Nat->Bool)(p:Array Nat)(k:Nat):Prop:=∀ i j,i<j->j<k->lt (p.getD j 0) (p.getD i 0)=false
structure aFq (lt:Nat->Nat->Bool):Prop where
 as:∀ a b,lt a b=true->lt b a=false
 tr:∀ a b c,lt b a=false->lt c b=false->lt c a=false
theorem aFq.W4(O:aFq lt)(x:Nat):lt x x=false:=by
 cases hb:lt x x with
 | false=>rfl
 | true=>have:=O.as _ _ hb; rw [hb] at this; exact this
end
end L4
end
section
namespace L4
open PySem PySem.Spec PyProof.Rows L2 L3 PySem.W Att
section
variable{prog:Program}{w:World}{A:Around}{s:Shared}{Q:Bool->Shared->Prop}
end
section
variable{n:Nat}
end
section
variable{X:Cx}
end
end L4
end
section
namespace L4
open PySem PySem.Spec PyProof.Rows L2 L3
section
variable{X:Cx}
end
end L4
end
section
namespace L4
open PySem PySem.Spec PyProof.Rows L2 L3 PySem.SeqAt
section
variable{X:Cx}{pins:List (Addr×Obj)}{U:L2.St}{H:Hp}{s:Shared}{S:Addr->Prop}
def EqI(n:Nat)(d e:D)(b:Bool):Prop:=(∃ i j,d=.int i/\e=.int j/\b=decide (i=j))\/(∃ i,d=.bl i/\e=.bl i/\b=true)\/(∃ i,d=.str i/\e=.str i/\b=true) \/ ∃ m a c r,n=m+1/\d=.tup a/\e=.tup c/\u9 (eqP m) a c=some r/\b=(r&&decide (a.length=c.length))
theorem vZ:∀ {n:Nat} {d e:D} {b:Bool},eqP n d e=some b->EqI n d e b:=by
 intro n d e b h;have one:∀ {p:Prop} [Decidable p],(if p then some true else none)=some b->p/\b=true:=λ{p} _ h=>by
  by_cases hp:p
  .rw [if_pos hp] at h; cases h; exact ⟨hp,rfl⟩
  .rw [if_neg hp] at h; exact nomatch h
 cases n with
 | zero =>
  cases d<;>first | (cases h; done) | skip
  all_goals (cases e<;>first | (cases h; done) | skip)
  .obtain ⟨rfl,hb⟩:=one h;exact .inr (.inl ⟨_,rfl,rfl,hb⟩)
  .cases h;exact .inl ⟨_,_,rfl,rfl,rfl⟩
  .obtain ⟨rfl,hb⟩:=one h;exact .inr (.inr (.inl ⟨_,rfl,rfl,hb⟩))
 | succ m =>
  cases d<;>first | (cases h; done) | skip
  all_goals (cases e<;>first | (cases h; done) | skip)
  .obtain ⟨rfl,hb⟩:=one h;exact .inr (.inl ⟨_,rfl,rfl,hb⟩)
  .cases h;exact .inl ⟨_,_,rfl,rfl,rfl⟩
  .obtain ⟨rfl,hb⟩:=one h;exact .inr (.inr (.inl ⟨_,rfl,rfl,hb⟩))
  .obtain ⟨r,e1,rfl⟩:=tK (show (u9 (eqP m) _ _).map _=some b from h);exact .inr (.inr (.inr ⟨m,_,_,r,rfl,rfl,rfl,e1,rfl⟩))
theorem VN(I:L2.Inv X pins U H s):∀ (n:Nat) (d e:D) (x:V) (b:Bool),eqP n d e=some b->Dn X.K S H d x->Dn X.K S H e x->b=true:=by
 intro n
 induction n using Nat.strongRecOn with
 | ind n ih =>
  intro d e x b h hd he;rcases vZ h with ⟨i,j,rfl,rfl,rfl⟩ | ⟨i,rfl,rfl,hb⟩ | ⟨i,rfl,rfl,hb⟩ | ⟨m,a,c,r,rfl,rfl,rfl,e1,rfl⟩
  .simp only [Dn] at hd he;rw [hd] at he;cases he;exact decide_eq_true rfl
  .exact hb
  .exact hb
  .simp only [Dn] at hd he;obtain ⟨p,xs,rfl,hp,da⟩:=hd;obtain ⟨q,ys,eq,hq,dc⟩:=he;cases eq;have:=I.mJ (gA.of hp) (gA.of hq);subst this;obtain ⟨f,h1,h2⟩:=mB e1;have hl:a.length=c.length:=by rw [da.len,dc.len]
   rw [decide_eq_true hl,Bool.and_true,h2,all_eq_true];intro j hj;have hj:j<min a.length c.length:=by simpa using hj
   have ja:j<a.length:=lt_of_lt_of_le hj (Nat.min_le_left ..);have jc:j<c.length:=lt_of_lt_of_le hj (Nat.min_le_right ..);obtain ⟨v,hv,dv⟩:=da.get (getElem?_eq_getElem ja);obtain ⟨v2,hv2,dv2⟩:=dc.get (getElem?_eq_getElem jc);rw [hv] at hv2;cases hv2;exact ih m (Nat.lt_succ_self m) _ _ v _ (h1 j _ _ (getElem?_eq_getElem ja) (getElem?_eq_getElem jc)) dv dv2
theorem VO(I:L2.Inv X pins U H s):∀ (n:Nat) (A:Around) (d e:D) (x y:V) (u v:Value) (b:Bool),A.units+n<cLine->eqP n d e=some b->Dn X.K S H d x->Dn X.K S H e y->L2.RelV x u->L2.RelV y v->EqAt A s u v b:=by
 have onI:∀ (A:Around) (i j:Int) (x y:V) (u v:Value),Dn X.K S H (.int i) x->Dn X.K S H (.int j) y->L2.RelV x u->L2.RelV y v->EqAt A s u v (decide (i=j)):=by
  intro A i j x y u v hd he ru rv;simp only [Dn] at hd he;subst hd he;obtain ⟨t,rfl⟩:=ru;obtain ⟨t2,rfl⟩:=rv;have:=(MeetsSeq.EqGives.int i j t t2).at A s
  rwa [show (i == j)=decide (i=j) from by simp [BEq.beq]] at this
 have onB:∀ (A:Around) (i j b:Bool) (x y:V) (u v:Value),(if i=j then some true else none)=some b->Dn X.K S H (.bl i) x->Dn X.K S H (.bl j) y->L2.RelV x u->L2.RelV y v->EqAt A s u v b:=by
  intro A i j b x y u v h hd he ru rv;simp only [Dn] at hd he;subst hd he;split at h
  .rename_i e;cases h;subst e;cases ru;cases rv;exact EqAt.same _
  .cases h
 have onS:∀ (A:Around) (i j:Str) (b:Bool) (x y:V) (u v:Value),(if i=j then some true else none)=some b->Dn X.K S H (.str i) x->Dn X.K S H (.str j) y->L2.RelV x u->L2.RelV y v->EqAt A s u v b:=by
  intro A i j b x y u v h hd he ru rv;simp only [Dn] at hd he;subst hd he;split at h
  .rename_i e;cases h;subst e;obtain ⟨t,rfl⟩:=ru;obtain ⟨t2,rfl⟩:=rv;have:=(PySem.SeqRoads2.EqGives.str i i t t2).at A s
   rwa [show (i.cps.toList == i.cps.toList)=true from by simp] at this
  .cases h
 intro n
 induction n using Nat.strongRecOn with
 | ind n ih =>
  intro A d e x y u v b hu h hd he ru rv;rcases vZ h with ⟨i,j,rfl,rfl,rfl⟩ | ⟨i,rfl,rfl,rfl⟩ | ⟨i,rfl,rfl,rfl⟩ | ⟨m,a,c,r,rfl,rfl,rfl,e1,rfl⟩
  .exact onI A _ _ x y u v hd he ru rv
  .exact onB A i i true x y u v (if_pos rfl) hd he ru rv
  .exact onS A i i true x y u v (if_pos rfl) hd he ru rv
  .have hd0:=hd;have he0:=he;simp only [Dn] at hd he;obtain ⟨p,xs,rfl,hp,da⟩:=hd;obtain ⟨q,ys,rfl,hq,dc⟩:=he;cases ru;cases rv;by_cases epq:p=q
   .subst epq;rw [VN I (m+1) _ _ _ _ h hd0 he0];exact EqAt.same _
   .obtain ⟨f,h1,h2⟩:=mB e1;obtain ⟨its,rx,pt,_⟩:=I.tuple (gA.of hp);obtain ⟨its2,ry,N8,_⟩:=I.tuple (gA.of hq);have l1:its.length=a.length:=by rw [<- rx.length,da.len]
    have l2:its2.length=c.length:=by rw [<- ry.length,dc.len]
    have key:=RcAt.tuples (A:=A) (s:=s) (e:=f) (show s.heap.IsTuple p its.toArray from pt) (show s.heap.IsTuple q its2.toArray from N8) (by omega) λj j1 j2=>by
     have j1:j<a.length:=by simpa [l1] using j1
     have j2:j<c.length:=by simpa [l2] using j2
     obtain ⟨w,hw,dw⟩:=da.get (getElem?_eq_getElem j1);obtain ⟨w2,hw2,dw2⟩:=dc.get (getElem?_eq_getElem j2);obtain ⟨g,hg,rg⟩:=rx.get hw;obtain ⟨g2,hg2,rg2⟩:=ry.get hw2;have e3:its.toArray[j]'(by simp; omega)=g:=by have:=(List.getElem?_eq_some_iff.mp hg).2;simpa using this
     have e4:its2.toArray[j]'(by simp; omega)=g2:=by have:=(List.getElem?_eq_some_iff.mp hg2).2;simpa using this
     rw [e3,e4];exact ih m (Nat.lt_succ_self m) A.in1 _ _ w w2 g g2 _ (by show A.units+1+m<cLine; omega) (h1 j _ _ (getElem?_eq_getElem j1) (getElem?_eq_getElem j2)) dw dw2 rg rg2
    refine EqAt.of_refs epq ?_;rw [h2];simpa [l1,l2,BEq.beq] using key
def B0(K:W.Frag)(g:Bool->Bool):R2:=λx y H Q=>∃ (S:Addr->Prop) (a c:List D) (b:Bool),Dn K S H (.tup a) x/\Dn K S H (.tup c) y/\eqP 8 (.tup a) (.tup c)=some b/\Q (.bl (g b)) H
theorem PQ(hu:X.A.units+8<cLine):i6 X (compareOp .Eq) (B0 X.K id):=by
 intro pins s U H x y v u Q I rx ry h;obtain ⟨S,a,c,b,hd,he,hb,q⟩:=h;have hd0:=hd;have he0:=he;simp only [Dn] at hd he;obtain ⟨p,xs,rfl,hp,da⟩:=hd;obtain ⟨p2,ys,rfl,hq,dc⟩:=he;cases rx;cases ry;obtain ⟨r,e1,rfl⟩:=tK (show (u9 (eqP 7) a c).map _=some b from hb);obtain ⟨f,h1,h2⟩:=mB e1;obtain ⟨its,rx,pt,_⟩:=I.tuple (gA.of hp);obtain ⟨its2,ry,N8,_⟩:=I.tuple (gA.of hq);have l1:its.length=a.length:=by rw [<- rx.length,da.len]
 have l2:its2.length=c.length:=by rw [<- ry.length,dc.len]
 refine eq_tupleAt (e:=f) (show s.heap.IsTuple p its.toArray from pt) (show s.heap.IsTuple p2 its2.toArray from N8) (by omega) (λj j1 j2=>?_) ⟨_,H,I,?_,q⟩
 .have j1:j<a.length:=by simpa [l1] using j1
  have j2:j<c.length:=by simpa [l2] using j2
  obtain ⟨w,hw,dw⟩:=da.get (getElem?_eq_getElem j1);obtain ⟨w2,hw2,dw2⟩:=dc.get (getElem?_eq_getElem j2);obtain ⟨g,hg,rg⟩:=rx.get hw;obtain ⟨g2,hg2,rg2⟩:=ry.get hw2;have e3:its.toArray[j]'(by simp; omega)=g:=by simpa using (List.getElem?_eq_some_iff.mp hg).2
  have e4:its2.toArray[j]'(by simp; omega)=g2:=by simpa using (List.getElem?_eq_some_iff.mp hg2).2
  rw [e3,e4];exact VO I 7 X.A.in1 _ _ w w2 g g2 _ (by show X.A.units+1+7<cLine; omega) (h1 j _ _ (getElem?_eq_getElem j1) (getElem?_eq_getElem j2)) dw dw2 rg rg2
 .show L2.RelV (.bl _) (.bool _);simp only [L2.RelV,size_toArray,l1,l2,h2,id];congr 1
theorem VP(hu:X.A.units+8<cLine):i6 X (compareOp .Eq) (λx y H Q=>rEq x y H Q\/B0 X.K id x y H Q):=by
 intro pins s U H x y v u Q I rx ry h;rcases h with h | h
 .exact TU pins s U H x y v u Q I rx ry h
 .exact PQ hu pins s U H x y v u Q I rx ry h
def aFt:F2:=λx y Q=>∃ b,eqP 8 x y=some b/\Q (.bl b)
theorem VQ:O3 K (λx y H Q=>rEq x y H Q\/B0 K id x y H Q) aFt:=by
 intro S H x y dx dy Q3 Q fc hx hy hf k;obtain ⟨b,e,q⟩:=hf;rcases vZ e with ⟨i,j,rfl,rfl,rfl⟩ | ⟨i,rfl,rfl,rfl⟩ | ⟨i,rfl,rfl,rfl⟩ | ⟨m,a,c,r,_,rfl,rfl,e1,rfl⟩
 .exact .inl (xQ S H x y (.int i) (.int j) Q3 Q fc hx hy ⟨rfl,q⟩ k)
 .exact .inl (xQ S H x y (.bl i) (.bl i) Q3 Q fc hx hy ⟨rfl,by rw [show eqS (.bl i) (.bl i)=true from decide_eq_true rfl]; exact q⟩ k)
 .exact .inl (xQ S H x y (.str i) (.str i) Q3 Q fc hx hy ⟨rfl,by rw [show eqS (.str i) (.str i)=true from decide_eq_true rfl]; exact q⟩ k)
 .exact .inr ⟨S,_,_,_,hx,hy,e,k _ H _ (Same.refl H) (by simp only [Dn]; rfl) q⟩
theorem B1:Tells aFt qE:=λx y d Q e q=>by unfold qE at e;obtain ⟨b,e1,rfl⟩:=tK e;exact ⟨b,e1,q⟩
theorem aFu{a b:Expr}{fa fb:EF}{pos:Pos}(hu:X.A.units+9<cLine)(ha:bS X a fa)(hb:bS X b fb):bS X (.Compare a [.Eq] [b] pos) (aC qE fa fb):=cE (OS (VP (Nat.lt_of_succ_lt hu)) VQ ha hb (jQ _)) (iH B1)
theorem PU(hu:X.A.units+8<cLine):i6 X (compareOp .NotEq) (B0 X.K not):=by
 intro pins s U H x y v u Q I rx ry h;obtain ⟨S,a,c,b,hd,he,hb,q⟩:=h;have hd0:=hd;have he0:=he;simp only [Dn] at hd he;obtain ⟨p,xs,rfl,hp,da⟩:=hd;obtain ⟨p2,ys,rfl,hq,dc⟩:=he;cases rx;cases ry;obtain ⟨r,e1,rfl⟩:=tK (show (u9 (eqP 7) a c).map _=some b from hb);obtain ⟨f,h1,h2⟩:=mB e1;obtain ⟨its,rx,pt,_⟩:=I.tuple (gA.of hp);obtain ⟨its2,ry,N8,_⟩:=I.tuple (gA.of hq);have l1:its.length=a.length:=by rw [<- rx.length,da.len]
 have l2:its2.length=c.length:=by rw [<- ry.length,dc.len]
 refine RcNeAt.tuples (e:=f) (show s.heap.IsTuple p its.toArray from pt) (show s.heap.IsTuple p2 its2.toArray from N8) (by omega) (λj j1 j2=>?_) X.prog X.w _ _ ⟨_,H,I,?_,q⟩
 .have j1:j<a.length:=by simpa [l1] using j1
  have j2:j<c.length:=by simpa [l2] using j2
  obtain ⟨w,hw,dw⟩:=da.get (getElem?_eq_getElem j1);obtain ⟨w2,hw2,dw2⟩:=dc.get (getElem?_eq_getElem j2);obtain ⟨g,hg,rg⟩:=rx.get hw;obtain ⟨g2,hg2,rg2⟩:=ry.get hw2;have e3:its.toArray[j]'(by simp; omega)=g:=by simpa using (List.getElem?_eq_some_iff.mp hg).2
  have e4:its2.toArray[j]'(by simp; omega)=g2:=by simpa using (List.getElem?_eq_some_iff.mp hg2).2
  rw [e3,e4];exact VO I 7 X.A.in1 _ _ w w2 g g2 _ (by show X.A.units+1+7<cLine; omega) (h1 j _ _ (getElem?_eq_getElem j1) (getElem?_eq_getElem j2)) dw dw2 rg rg2
 .show L2.RelV (.bl _) (.bool _);simp only [L2.RelV,size_toArray,l1,l2,h2];congr 1
theorem aCz(hu:X.A.units+8<cLine):i6 X (compareOp .NotEq) (λx y H Q=>rNe x y H Q\/B0 X.K not x y H Q):=by
 intro pins s U H x y v u Q I rx ry h;rcases h with h | h
 .exact TV pins s U H x y v u Q I rx ry h
 .exact PU hu pins s U H x y v u Q I rx ry h
def aFv:F2:=λx y Q=>∃ b,eqP 8 x y=some b/\Q (.bl (!b))
theorem aDA:O3 K (λx y H Q=>rNe x y H Q\/B0 K not x y H Q) aFv:=by
 intro S H x y dx dy Q3 Q fc hx hy hf k;obtain ⟨b,e,q⟩:=hf;rcases vZ e with ⟨i,j,rfl,rfl,rfl⟩ | ⟨i,rfl,rfl,rfl⟩ | ⟨i,rfl,rfl,rfl⟩ | ⟨m,a,c,r,_,rfl,rfl,e1,rfl⟩
 .exact .inl (xR S H x y (.int i) (.int j) Q3 Q fc hx hy ⟨rfl,q⟩ k)
 .exact .inl (xR S H x y (.bl i) (.bl i) Q3 Q fc hx hy ⟨rfl,by rw [show eqS (.bl i) (.bl i)=true from decide_eq_true rfl]; exact q⟩ k)
 .exact .inl (xR S H x y (.str i) (.str i) Q3 Q fc hx hy ⟨rfl,by rw [show eqS (.str i) (.str i)=true from decide_eq_true rfl]; exact q⟩ k)
 .exact .inr ⟨S,_,_,_,hx,hy,e,k _ H _ (Same.refl H) (by simp only [Dn]) q⟩
theorem PV:Tells aFv EV:=λx y d Q e q=>by unfold EV at e;obtain ⟨b,e1,rfl⟩:=tK e;exact ⟨b,e1,q⟩
open Classical in
theorem aDB(x y d:D)(e:qE x y=some d):∃ b,d=.bl b:=by
 unfold qE at e
 cases q:eqP 8 x y with
 | none=>rw [q] at e; cases e
 | some b=>rw [q] at e; cases e; exact ⟨_,rfl⟩
theorem aDC(x y d:D)(e:EV x y=some d):∃ b,d=.bl b:=by
 unfold EV at e
 cases q:eqP 8 x y with
 | none=>rw [q] at e; cases e
 | some b=>rw [q] at e; cases e; exact ⟨_,rfl⟩
theorem aFw{a b:Expr}{fa fb:EF}{pos:Pos}(hu:X.A.units+9<cLine)(ha:bS X a fa)(hb:bS X b fb):vH X (.Compare a [.Eq] [b] pos) (tV (aC qE fa fb)):=cT (p7 (VP (Nat.lt_of_succ_lt hu)) VQ ha hb (jQ _)) (p8 B1 aDB)
theorem aFx{a b:Expr}{fa fb:EF}{pos:Pos}(hu:X.A.units+9<cLine)(ha:bS X a fa)(hb:bS X b fb):vH X (.Compare a [.NotEq] [b] pos) (tV (aC EV fa fb)):=cT (p7 (aCz (Nat.lt_of_succ_lt hu)) aDA ha hb (jQ _)) (p8 PV aDC)
end
end L4
end
section
namespace L4
open PySem PySem.Spec PyProof.Rows L2 L3
section
variable{X:Cx}
theorem aFy(i:Nat){st:Stmt}{f:SF}(h:tJ X st f):tJ X st (XE i f) :=
 j3 h λB U H aFz=>by obtain ⟨H₀,S,w,Z,G,E,hl,st,ht,ok⟩:=aFz; exact ⟨H₀,S,w,freeze Z i,G,E,hl,st.frozen,ht,ok⟩
end
end L4
end
section
namespace L5
open PySem PySem.Spec PyProof.Rows L2 L3 L4
theorem B2{P:Program}{H:Hp}{h:Heap}{a:Addr}{o:HO}(x:eA P w H h a o):∃ u,h.get? a=some u:=by
 cases o with
 | lst xs=>obtain ⟨_,_,_,_,e⟩:=x; exact ⟨_,e⟩
 | tup xs=>obtain ⟨_,_,_,u,e,_⟩:=x; exact ⟨_,e⟩
 | dK kvs=>obtain ⟨_,_,_,_,o,_,_,e,_⟩:=x; exact ⟨_,e⟩
 | dT kvs=>obtain ⟨_,_,_,_,o,_,_,e,_⟩:=x; exact ⟨_,e⟩
 | dX ob kvs=>obtain ⟨_,_,e,_⟩:=x; exact ⟨_,e⟩
 | set S n=>obtain ⟨o,_,_,_,e,_⟩:=x; exact ⟨_,e⟩
 | ins C dx fs=>obtain ⟨_,_,_,e,_⟩:=x; exact ⟨_,e⟩
 | own y=>obtain ⟨_,e⟩:=x; exact ⟨_,e⟩
 | xd fs=>obtain ⟨_,⟨_,_,_,e,_⟩,_⟩:=x; exact ⟨_,e⟩
 | rng lo hi=>obtain ⟨_,_,_,e⟩:=x; exact ⟨_,e⟩
 | HL ob u=>obtain ⟨e,_⟩:=x; exact ⟨_,e⟩
 | tbl ps=>exact ⟨_,(show h.get? a=some _ from x)⟩
 | met f y=>exact ⟨_,(show h.get? a=some _ from x)⟩
 | ext φ=>obtain ⟨_,⟨_,e⟩,_⟩:=x; exact ⟨_,e⟩
section
variable{X:Cx}{pins:List (Addr×Obj)}{U:L2.St}{H:Hp}{s:Shared}{h':Heap}{e:Addr}{cls a0:Value}{P:List Addr}
theorem flown(I:Inv X pins U H s)(T:D1 X pins H s e cls a0 P)(kp:∀ b o,b∉P->b∉frs X.stack->s.heap.get? b=some o->h'.get? b=some o)(us:s.heap.UpToSlots h'):Inv X pins U H { s with heap:=h' }:=by
 have frame:∀ b∈frs X.stack,∃ o,s.heap.get? b=some o /\ ∀ vs,o.data≠.fields vs:=λb hb=>(I.stack.mem hb).2;have old:∀ b o,X.s₀.heap.get? b=some o->b∉P:=λb o q hb=>by rw [T.new b hb] at q; cases q
 have aLv:∀ b o,X.s₀.heap.get? b=some o->b≠X.env.locals:=λb o q=>ne_of_lt (lt_of_lt_of_le (lt_size q) I.ok.above);have cellK:∀ c v,s.heap.IsCell c v->h'.IsCell c v:=λc v aGA=>by
  obtain ⟨o,ho,hd⟩:=aGA;obtain ⟨sl,q⟩:=us c o ho λvs z=>by rw [hd] at z; cases z
  exact ⟨_,q,hd⟩
 obtain ⟨m,hn,hl⟩:=id I.loc;refine ⟨I.ok,I.os,I.bare,⟨λb o eb n hb hx=>?_,λb o eb n hb hx=>?_,I.base.free,λb o eb hx=>?_,I.base.tups,I.base.sB,I.base.t4⟩,⟨m,us.ns hn,λi x v h1 h2 h3=>?_⟩,λx c ec=>?_,I.free,I.mI,λp hp=>?_,λb ob eb=>?_,I.len⟩
 .exact kp b o (old b o eb) (λz=>(List.mem_cons.mp (I.qO b z)).elim (aLv b o eb) hb) (I.base.keep b o eb n hb hx)
 .obtain ⟨sl,q⟩:=I.base.slot b o eb n hb hx;obtain ⟨_,o2,e2,nf⟩:=I.ok.vD.mem hb;rw [eb] at e2;obtain rfl:=Option.some.inj e2;obtain ⟨sl2,q2⟩:=us b { o with slots:=sl } q nf;exact ⟨sl2,q2⟩
 .obtain ⟨o',q⟩:=I.base.there b o eb hx;by_cases hf:b∈frs X.stack
  .obtain ⟨o2,e2,nf⟩:=frame b hf;obtain ⟨sl,q2⟩:=us b o2 e2 nf;exact ⟨_,q2⟩
  .exact ⟨o',kp b o' (old b o eb) hf q⟩
 .obtain ⟨u,r,l⟩:=hl i x v h1 h2 h3;exact ⟨u,r,l.imp id λ⟨k,c,ec,ic⟩=>⟨k,c,ec,cellK _ _ ic⟩⟩
 .obtain ⟨v,ic⟩:=I.cell x c ec;exact ⟨v,cellK _ _ ic⟩
 .obtain ⟨q,n,ne,nf,d⟩:=I.pin p hp;exact ⟨kp _ _ (λz=>T.pin _ z p hp rfl) (λz=>(List.mem_cons.mp (I.qO _ z)).elim ne nf) q,n,ne,nf,d⟩
 .refine (I.hok b ob eb).stay (λc u hc q=>kp c u (λz=>?_) (λz=>?_) q) (λ_ q=>q) λ_ _ q=>q
  .have fr:=T.free c z;rcases hc with rfl | hc
   .rw [fr] at eb; cases eb
   .rw [fr] at hc; cases hc
  .have fr:=I.DJ c z;rcases hc with rfl | hc
   .rw [fr] at eb; cases eb
   .rw [fr] at hc; cases hc
end
def zK(P:Program)(w:World):OH:=λouter H s E e s'=>∃ (ea T:Addr) (cls a0:Value) (H':Hp) (oe oT:Obj) (vs ts:Array Value),e=.ref ea/\s'.os=s.os/\AllBare s'.gens/\Un (frs outer) [] H H' s.heap s'.heap/\pU P w H' s'.heap /\
 H' ea=none/\H' T=none/\s.heap.get? ea=none/\s.heap.get? T=none/\T≠ea/\s'.heap.get? ea=some oe/\(oe.cls=cls/\vs[0]? = some a0)/\oe.data=.fields vs/\vs[1]? = some (.ref T)/\s'.heap.get? T=some oT/\oT.data=.fields ts/\ts[3]? = some .none/\E cls none H'
section
variable{P:Program}{w:World}{K:W.Frag}{mg:Q0Z}{base:Heap}{N:List Str}{qual:Str}{scope:Scope}{f:Addr}{cd:Value}{A:Around}{outer:List Env}{s0:Shared}{H0:Hp}{E:XK}
theorem VR{pins:List (Addr×Obj)}{U:L2.St}{H:Hp}{s:Shared}{e:Addr}{cls a0:Value}{Q:List Addr}(I:Inv (t6 (zK P w) P w K mg base N qual scope f cd A outer s0 H0 E) pins U H s)
  (T:D1 (t6 (zK P w) P w K mg base N qual scope f cd A outer s0 H0 E) pins H s e cls a0 Q) (hE:E cls none H):(t6 (zK P w) P w K mg base N qual scope f cd A outer s0 H0 E).xe (.ref e) s:=by
 generalize hX:t6 (zK P w) P w K mg base N qual scope f cd A outer s0 H0 E=X at I T;have st:X.stack=X.env::outer:=by rw [<- hX]; rfl
 have hin:∀ env∈X.stack,∀ b,env.frame=some b->b∈Q++frs X.stack:=λenv he b hb=>mem_append_right _ (List.mem_filterMap.mpr ⟨env,he,hb⟩);have stay:(W.hideAll s.heap (Q++frs X.stack)).StaysIn s.heap:=λb o q=>W.of_hideAll _ q;have fns:s.heap.FunFrames (W.hideAll s.heap (Q++frs X.stack)) X.stack:=W.funFrames_hide I.stack hin;have hen:(W.hideAll s.heap (Q++frs X.stack)).get? e=none:=W.hideAll_none _ (mem_append_left _ T.mem);have fin:∀ h',Heap.LeftW (W.hideAll s.heap (Q++frs X.stack)) X.stack e cls a0 s.heap h'->zK P w outer H0 s0 E (.ref e) { s with heap:=h' }:=λh' aGB=>by
  obtain ⟨k1,k2,k3,k4⟩:=aGB;have J:=flown I T (λb o n1 n2 q=>k1 b o (W.hideAll_get _ q λz=>(List.mem_append.mp z).elim n1 n2)) k4;obtain ⟨oe,vs,T2,oT,ts,he,hc,hd,h1,hnT,hTe,hT,hdT,h3⟩:=k3;have hfr:T2∉frs X.stack:=λz=>by obtain ⟨_,o,ho,nf⟩:=I.stack.mem z;obtain ⟨sl,q⟩:=k4 T2 o ho nf;rw [hT] at q;cases q;exact nf ts hdT
  have hT2:T2∈Q\/s.heap.get? T2=none:=by
   by_cases hq:T2∈Q
   .exact .inl hq
   .right
    cases q:s.heap.get? T2 with
    | none=>rfl
    | some o =>
     have:=W.hideAll_get (Q++frs X.stack) q λz=>(List.mem_append.mp z).elim hq hfr;rw [hnT] at this;cases this
  have e1:X.fs=frs outer:=by rw [<- hX]; rfl
  have e2:X.ex=[]:=by rw [<- hX]; rfl
  have e3:X.H₀=H0:=by rw [<- hX]; rfl
  have e4:X.s₀=s0:=by rw [<- hX]; rfl
  have e5:X.prog=P:=by rw [<- hX]; rfl
  have e6:X.w=w:=by rw [<- hX]; rfl
  have b0:=J.base;have b1:=J.hok;have b2:=J.os;rw [e1,e2,e3,e4] at b0;rw [e5,e6] at b1;rw [e4] at b2;refine ⟨e,T2,cls,a0,H,oe,oT,vs,ts,rfl,b2,J.bare,b0,b1,T.free e T.mem,?_,?_,?_,hTe,he,hc,hd,h1,hT,hdT,h3,hE⟩
  .rcases hT2 with z | z
   .exact T.free _ z
   .cases q:H T2 with
    | none=>rfl
    | some o =>
     obtain ⟨u,eu⟩:=B2 (I.hok _ _ q);rw [z] at eu; cases eu
  .rw [<- e4]; exact T.new e T.mem
  .rcases hT2 with z | z
   .rw [<- e4]; exact T.new _ z
   .cases q:s0.heap.get? T2 with
    | none=>rfl
    | some o =>
     have tb:=I.base.there T2 o (by rw [e4]; exact q) (by rw [e2]; simp);obtain ⟨o',eo⟩:=tb;rw [z] at eo; cases eo
 have go:wpAny (model P w) X.A (leaving X.env (.ref e)) (λ_ s''=>zK P w outer H0 s0 E (.ref e) s'') (λe' s''=>zK P w outer H0 s0 E e' s'') s:=by
  have hfr:=I.ok.frames;have hf:X.env.frame=some X.env.locals:=by rw [<- hX]; rfl
  rw [st] at hfr;rw [st] at fns fin hen stay;rcases T.tr with ⟨oe,vs,he,hc,hd,h1,h0⟩ | ⟨oe,vs,T2,oT,ts,he,hc,hd,h1,hm,hTe,hT,hdT,h3⟩
  .subst hc;exact wpAny_leaving_firstW hfr fns hf he stay hen hd h1 h0 λh' L=>fin h' L
  .refine wpAny_leaving_nextW hfr fns hf ⟨oe,vs,T2,oT,ts,he,hc,hd,h1,W.hideAll_none _ (mem_append_left _ hm),hTe,hT,hdT,h3⟩ stay hen λh' L=>fin h' L
 rw [<- hX] at go ⊢;exact go
end
theorem GQ{X:Cx}{pins:List (Addr×Obj)}{U:L2.St}{H:Hp}{s s':Shared}{E:XK}{e:Value}(hx:X.ex=[])(I:Inv X pins U H s)(c:zK X.prog X.w X.stack H s E e s') :
  ∃ ea cls a0 H' Q,e=.ref ea/\Inv X pins U H' s'/\D1 X pins H' s' ea cls a0 Q/\E cls none H':=by
 obtain ⟨ea,T,cls,a0,H',oe,oT,vs,ts,rfl,os,bare,un,hok,n1,n2,g1,g2,hTe,he,hc,hd,h1,hT,hdT,h3,hE⟩:=c;have J:Inv X pins U H' s':=I.call' (ch:=[]) os un hok bare λb z=>absurd z (by simp);have no:∀ q,q∈[ea,T]->s.heap.get? q=none:=λq hq=>by
  rcases List.mem_cons.1 hq with rfl | hq
  .exact g1
  .rw [List.mem_singleton.mp hq]; exact g2
 refine ⟨ea,cls,a0,H',[ea,T],rfl,J,⟨mem_cons_self,λq hq=>?_,λq hq=>?_,λq hq=>?_,λq hq p hp z=>?_,.inr ⟨oe,vs,T,oT,ts,he,hc,hd,h1,by simp,hTe,hT,hdT,h3⟩⟩,hE⟩
 .rcases List.mem_cons.1 hq with rfl | hq
  .exact n1
  .rw [List.mem_singleton.mp hq]; exact n2
 .cases k:X.s₀.heap.get? q with
  | none=>rfl
  | some o =>
   obtain ⟨o',eo⟩:=I.base.there q o k (by rw [hx]; simp);rw [no q hq] at eo; cases eo
 .rcases List.mem_cons.1 hq with rfl | hq
  .exact ⟨oe,vs,he,hd⟩
  .rw [List.mem_singleton.mp hq]; exact ⟨oT,ts,hT,hdT⟩
 .have:=(I.pin p hp).1;rw [z,no q hq] at this; cases this
def M0(K:W.Frag)(mg:Q0Z)(R:eT):Sp:=λvs H Q E=>∃ (S:Addr->Prop) (ds:List D),(∀ a,H a=none->S a)/\bC K S H ds vs/\match R ds with
 | .ok d=>∀ v H',Same H H'->Dn K S H' d v->Q v H'
 | .ex c=>∃ C:Addr,mg c=some (.ref C) /\ ∀ H',Same H H'->E (.ref C) none H'
 | .no=>False
theorem aDD{P:Program}{w:World}{K:W.Frag}{mg:Q0Z}{base:Heap}{x qual:Str}{st:Stmt}{f:Addr}{fd:FuncData}{N ps:List Str}{k n np:Nat}{b:SF}(F:nU K x qual st f fd)(S:bH N ps (aI st))(hn:N.length=n)(hp:ps.length=np)
  (hbody:∀ (cdv:Value) (A:Around) (outer:List Env) (s:Shared) (H:Hp) (E:XK),lA k (A.deeper (envOfC qual (aI st) s.heap.objs.size f cdv)) ->
   z0 (t6 (zK P w) P w K mg base N qual (aI st) f cdv A outer s H E) (bE st) b):aW P w K mg base (zK P w) (k+1) f fd ps (M0 K mg (bK n np b)):=by
 subst hn hp;obtain ⟨oc,od,kV,doc,pm,an,cdv,ct,osl,rfl,lk,hcd⟩:=F.ex;have hlen:∀ ds:List D,bK N.length ps.length b ds≠.no->ds.length=ps.length:=λds h=>by
  by_cases e:ds.length=ps.length
  .exact e
  .exact absurd (show bK N.length ps.length b ds=.no by unfold bK; rw [if_neg e]) h
 refine aA9 lk hcd S (λvs H Q E h=>?_) λA outer s H vs Q E hr h=>?_
 .obtain ⟨S',ds,_,dn,hR⟩:=h;rw [<- dn.len];exact hlen ds λz=>by rw [z] at hR; exact hR
 .obtain ⟨S',ds,fc,dn,hR⟩:=h;have hl:ds.length=ps.length:=hlen ds λz=>by rw [z] at hR; exact hR
  have hdn:=dn.len;refine ⟨_,hbody cdv A outer s H E hr,H,S',λ_=>0,lO N ds,[],{ nx:=λ_=>bK N.length ps.length b ds=.ok .non,rt:=λd=>bK N.length ps.length b ds=.ok d,ex:=λc=>bK N.length ps.length b ds=.ex c },?_,GB fc dn,?_,⟨λw' σ' H' ρ' _ st' q=>?_,λv H' d s' d' q=>?_,λ_ _ _ _ _ _ q=>q,λ_ _ _ _ _ _ q=>q,λc H' sm q=>?_⟩⟩
  .have hp:ps.length<=N.length:=by have:=congrArg List.length S.pre; rw [length_take] at this; omega
   unfold L2.start;show _=N.length;rw [List.length_append,length_map,length_replicate];omega
  .have e2:lO N ds=fA N.length ds:=rfl;have e3:bK N.length ps.length b ds=(match b (fA N.length ds) with | .rt d=>.ok d | .nx _=>.ok .non | .ex c=>.ex c | .no=>.no):=by unfold bK; rw [if_pos hl]<;>cases b (fA N.length ds)<;>rfl
   rw [e3] at hR;unfold wS;rw [e2]
   cases hb:b (fA N.length ds) with
   | rt d'=>rw [hb] at e3; exact e3
   | nx Z=>rw [hb] at e3; exact e3
   | ex c=>rw [hb] at e3; exact e3
   | no=>rw [hb] at hR; exact hR
  .rw [q] at hR;exact hR .non H' st'.sm (by simp only [Dn])
  .rw [q] at hR;exact hR v H' s' d'
  .rw [q] at hR;obtain ⟨C,hm,hE⟩:=hR;exact ⟨C,hm,λpins U s' e a0 P I T=>VR I T (hE H' sm)⟩
section
variable{X:Cx}{k:Nat}{f:Addr}{fd:FuncData}{ps:List Str}{R:eT}{x:Str}{p pos:Pos}{e:Expr}{es:List Expr}{t:AF}
theorem B3(F:aW X.prog X.w X.K X.mg X.base (zK X.prog X.w) k f fd ps (M0 X.K X.mg R))(hr:lA k X.A)(hm:X.mg x=some (.ref f))(hk:W.keepIn X.K (.ref f)=true)(hb:Binds X.K fd ps [])
  (ha:zZ X (e::es) t) (hg:Gl X x:=by rfl) (hdb:(x == ("__debug__" : Str))=false:=by decide) (he:starEach (e::es) X.env=(false,eval e X.env)::starEach es X.env:=by rfl) (hpl:(backTo pos (starEach es X.env)).any (·.1)=false:=by rfl) :
  bS X (.Call (.Name x p) (e::es) [] pos) (aG R t):=imp (DO (E:=E0) F hr hg hm hk hb .nil (λpins U H s e s' _ c=>by obtain ⟨_,_,_,_,_,_,_,_,_,_,_,_,_,_,_,_,_,_,_,_,_,_,_,_,_,_,hE⟩:=c; exact hE.elim) ha hdb he hpl) λU H Q aGC=>by
 obtain ⟨S,Z,Q3,fc,sl,⟨d,ed,q3⟩,k⟩:=aGC;obtain ⟨ds,et,ed⟩:=bnd ed;refine ⟨S,Z,λz=>z=ds,fc,sl,⟨ds,et,rfl⟩,λvs H1 ds' s1 d1 q1=>?_⟩;subst q1;show M0 X.K X.mg R (vs++[]) H1 Q E0;rw [append_nil];refine ⟨S,ds',bP fc s1,d1,?_⟩
 cases h:R ds' with
 | ok d'=>rw [h] at ed; cases ed; exact λv H' s' d'=>k v H' _ (s1.trans s') d' q3
 | no=>rw [h] at ed; cases ed
 | ex c=>rw [h] at ed; cases ed
def tR(X:Cx)(r:RF):TE:=λU H _=>∃ (S:Addr->Prop) (Z:bR) (c:Str),(∀ a,H a=none->S a)/\Sl X.K S H Z U/\r Z=some c /\ ∀ H',Same H H'->XC X c H'
def PR(X:Cx)(e:Expr)(r:RF):Prop:=PE X e (tR X r)
theorem JW(hx:X.ex=[])(F:aW X.prog X.w X.K X.mg X.base (zK X.prog X.w) k f fd ps (M0 X.K X.mg R))(hr:lA k X.A)(hm:X.mg x=some (.ref f))(hk:W.keepIn X.K (.ref f)=true)(hb:Binds X.K fd ps [])
  (ha:zZ X (e::es) t) (hg:Gl X x:=by rfl) (hdb:(x == ("__debug__" : Str))=false:=by decide) (he:starEach (e::es) X.env=(false,eval e X.env)::starEach es X.env:=by rfl) (hpl:(backTo pos (starEach es X.env)).any (·.1)=false:=by rfl) :
  PR X (.Call (.Name x p) (e::es) [] pos) (wH R t):=imp (DO (E:=λcls _ H'=>∃ c C,cls=.ref C/\X.mg c=some (.ref C)/\XC X c H') F hr hg hm hk hb .nil (λpins U H s e s' I c=>by
   obtain ⟨ea,cls,a0,H',Q,rfl,J,T,c,C,rfl,hmc,C2,hm2,xc⟩:=GQ hx I c;rw [hmc] at hm2;cases hm2;exact xc pins U s' ea a0 Q J T) ha hdb he hpl) λU H Q aGD=>by
 obtain ⟨S,Z,c,fc,sl,ec,k⟩:=aGD;obtain ⟨ds,et,ed⟩:=bnd ec;refine ⟨S,Z,λz=>z=ds,fc,sl,⟨ds,et,rfl⟩,λvs H1 ds' s1 d1 q1=>?_⟩;subst q1;rw [append_nil];refine ⟨S,ds',bP fc s1,d1,?_⟩
 cases h:R ds' with
 | ex c' =>
  rw [h] at ed;cases ed;obtain ⟨C,hmC,_⟩:=k H1 s1;exact ⟨C,hmC,λH' sm=>⟨c,C,rfl,hmC,k H' (s1.trans sm)⟩⟩
 | ok d=>rw [h] at ed; cases ed
 | no=>rw [h] at ed; cases ed
theorem VS{e:Expr}{t u:TE}(h1:PE X e t)(h2:PE X e u):PE X e (λU H Q=>t U H Q\/u U H Q):=λpins s U H Q I h=>h.elim (h1 pins s U H Q I) (h2 pins s U H Q I)
theorem aGE{e:Expr}{f:EF}{r:RF}{pos:Pos}(h:bS X e f)(hr:PR X e r):tJ X (.Return (some e) pos) (wJ r (aU f)):=j3 (TL (VS hr h)) λB U H aGF=>by
 obtain ⟨H₀,S,w,Z,G,E,hl,st,ht,ok⟩:=aGF;unfold wS wJ at ht
 cases hc:r (bT Z) with
 | some c =>
  rw [hc] at ht;exact .inl ⟨S,bT Z,c,st.OQ,st.all,hc,λH' sm=>ok.ex c H' (st.sm.trans sm) ht⟩
 | none =>
  rw [hc] at ht;dsimp only at ht;unfold aU at ht
  cases hf:f (bT Z) with
  | none=>rw [hf] at ht; exact ht.elim
  | some d =>
   rw [hf] at ht;exact .inr ⟨S,bT Z,_,st.OQ,st.all,⟨d,hf,ht⟩,λv H' d s' d' q'=>ok.rt v H' d (st.sm.trans s') d' q'⟩
theorem VT{e:Expr}{f:EF}{r:RF}{pos:Pos}(h:bS X e f)(hr:PR X e r)(hs:swapsWith e none pos.line X.env=pure false:=by rfl):tJ X (.Expr e pos) (wJ r (sX (aZ f))):=j3 (L1 (VS hr h) hs) λB U H aGG=>by
 obtain ⟨H₀,S,w,Z,G,E,hl,st,ht,ok⟩:=aGG;unfold wS wJ at ht
 cases hc:r (bT Z) with
 | some c =>
  rw [hc] at ht;exact .inl ⟨S,bT Z,c,st.OQ,st.all,hc,λH' sm=>ok.ex c H' (st.sm.trans sm) ht⟩
 | none =>
  rw [hc] at ht;dsimp only at ht;unfold sX aZ at ht
  cases hf:f (kD Z) with
  | none=>rw [hf] at ht; exact ht.elim
  | some d =>
   rw [hf] at ht;exact .inr ⟨_,kD Z,_,st.UM,st.rd,⟨d,hf,ht⟩,λv H' d s' d' q'=>ok.nx w U H' Z hl (st.same s') q'⟩
end
abbrev bmV:List Value:=[.type "ValueError",.type "Exception",.type "BaseException",.type "object"]
structure VU (K:W.Frag) (C:Addr):Prop where
 ex:∃ nm q N bs bm hdct sn sub ab col dd k0 k1 k2 k3 k5,K.lookup C=some (excClassObj nm q C N bs bm hdct sn sub ab col dd k0 k1 k2 k3 k5 "ValueError.__new__")/\W.tailIn K bmV bm=true/\W.nsOkIn K N=true/\W.nsIn K N "__init__" = some none
section
variable{X:Cx}
theorem JX{c:Str}{C:Addr}{e:Expr}{es:List Expr}{t:AF}{np cpos pos:Pos}(hx:X.ex=[])(hcalm:X.calm=true)(hm:X.mg c=some (.ref C))(hC:VU X.K C)(ha:zZ X (e::es) t)(hg:Gl X c:=by rfl)(hd:(c == ("__debug__" : Str))=false:=by decide)
  (he:starEach (e::es) X.env=(false,eval e X.env)::starEach es X.env:=by rfl) (hpl:(backTo cpos (starEach es X.env)).any (·.1)=false:=by rfl) :
  tJ X (.Raise (some (.Call (.Name c np) (e::es) [] cpos)) none pos) (rN t c):=by
 intro pins s U H B I ⟨H₀,S,w,Z,G,E,hl,st,ht,ok⟩;unfold wS rN at ht
 cases et:t (bT Z) with
 | none=>rw [et] at ht; exact ht.elim
 | some ds =>
  rw [et] at ht;dsimp only at ht;by_cases h10:ds.length<=10
  .rw [if_pos h10] at ht;obtain ⟨nm,q,N,bs,bm,hdct,sn,sub,ab,col,dd,k0,k1,k2,k3,k5,lk,tl,no,ni⟩:=hC.ex;refine wpAny_Raise_call_subT (C:=C) (nm:=nm) (q:=q) (N:=N) (bs:=bs) (bm:=bm) (hdct:=hdct) (sn:=sn) (sub:=sub) (ab:=ab) (col:=col) (dd:=dd) (k0:=k0) (k1:=k1) (k2:=k2) (k3:=k3) (k5:=k5) (mN:=X.base.nsMap N)
    PySem.F.excBase_ValueError ((W.tail_of_in I.zH tl).hasType rfl) (I.ok.hd hcalm) (by rw [he]; show (false||(backTo cpos (starEach es X.env)).any (·.1))=false; rw [hpl]; rfl) (W.nsMap_none_of_in I.ok.mod.kin no ni) (DK I hg hm ⟨rfl,?_⟩ hd)
   have hN:X.base.Ns N (X.base.nsMap N):=.of_isNs (W.isNs_of_in I.ok.mod.kin no);have args:=ha cpos pins s U H (λvs H1=>vs.length=ds.length/\Same H H1) I ⟨S,bT Z,λz=>z=ds,st.OQ,st.all,⟨ds,et,rfl⟩,λvs H1 ds' s1 d1 q1=>⟨by rw [<- d1.len,q1],s1⟩⟩;rw [he] at args ⊢;refine Calls.evalArgs_plain (wpAny_mono args (λus s1 ⟨vs,H1,I1,r,hlen,sm⟩=>?_) λ_ _ z=>z);refine ⟨rfl,?_,I1.zH _ _ lk,hN.keeps I1.bk,W.tail_of_in I1.zH tl,λh' ea mk=>?_⟩
   .show us.length<=sizeLine;rw [<- r.length,hlen];exact le_trans h10 (by decide)
   .obtain ⟨C',hm',xc⟩:=ok.ex c H1 (st.sm.trans sm) ht;rw [hm] at hm';cases hm';obtain ⟨tt,oe,_,_⟩:=mk.there;have I2:Inv X pins U H1 { s1 with heap:=h' }:=I1.kept (t':=s1.toks) mk.keeps;refine xc pins U _ ea (.ref tt) [ea] I2 ⟨mem_cons_self,λq hq=>?_,λq hq=>?_,λq hq=>?_,λq hq p hp z=>?_,.inl ⟨_,_,oe,rfl,rfl,rfl,rfl⟩⟩
    .rw [List.mem_singleton.1 hq]
     cases k:H1 ea with
     | none=>rfl
     | some o =>
      obtain ⟨u,eu⟩:=B2 (I1.hok _ _ k);rw [mk.new] at eu; cases eu
    .rw [List.mem_singleton.1 hq]
     cases k:X.s₀.heap.get? ea with
     | none=>rfl
     | some o =>
      obtain ⟨o',eo⟩:=I1.base.there ea o k (by rw [hx]; simp);rw [mk.new] at eo; cases eo
    .rw [List.mem_singleton.1 hq];exact ⟨_,_,oe,rfl⟩
    .have:=(I1.pin p hp).1;rw [z,List.mem_singleton.mp hq,mk.new] at this; cases this
  .rw [if_neg h10] at ht; exact ht.elim
end
end L5
end
section
namespace L5
open PySem PySem.Spec PyProof.Rows L2 L3 L4 PySem.W Builtin.ObjectAttr Builtin.Getset_descriptor
structure aR5 (K:W.Frag) (C:Addr):Prop where
 hc:isClsIn K C=true
 hm:mroIn K C (.type "object")=some true
 hs:subIn K (.ref C) (.type "BaseException")=some true
 hga:findIn K (.ref C) "__getattribute__" = some (some (.builtin "BaseException.__getattribute__"))
 hgg:findIn K (.ref C) "__getattr__" = some none
 ha:findIn K (.ref C) "__class__" = some (some (.builtin "object.__class__"))
 hn:specialIn K (.builtin "object.__class__") "__get__" = some (some (.builtin "getset_descriptor.__get__"))
 ht:takesIn K (.builtin "object.__class__")=some true
section
variable{prog:Program}{w:World}{A:Around}{E:Q0Q}{s:Shared}{K:W.Frag}{a C:Addr}
end
end L5
end
section
namespace L5
open PySem PySem.Spec PyProof.Rows L2 L3 L4
section
variable{X:Cx}
end
section
variable{X:Cx}{pins:List (Addr×Obj)}{U:L2.St}{H:Hp}{s:Shared}
end
section
variable{X:Cx}
end
section
variable{X:Cx}
theorem oP{p:Prop}(h:false=true):p:=nomatch h
def ExI(mro:List Value)(sl:List (Option Value))(P:Addr->List Value->String->Bool):Prop:=∃ C1 bm y0 y1 y2 y3 n y5,mro=.ref C1::bm/\sl=[y0,y1,y2,y3,some (.builtin n),y5]/\P C1 bm n=true
theorem PX{mro:List Value}{sl:List (Option Value)}{P:Addr->List Value->String->Bool}(h:W.excIn.match_1 (λ_ _=>Bool) mro sl (λC1 bm _ _ _ _ n _=>P C1 bm n) (λ_ _=>false)=true) :
  ExI mro sl P:=by
 cases mro with
 | nil=>exact oP h
 | cons v bm =>
 cases v with
 | ref C1 =>
  cases sl with
  | nil=>exact oP h
  | cons y0 sl =>
  cases sl with
  | nil=>exact oP h
  | cons y1 sl =>
  cases sl with
  | nil=>exact oP h
  | cons y2 sl =>
  cases sl with
  | nil=>exact oP h
  | cons y3 sl =>
  cases sl with
  | nil=>exact oP h
  | cons y4 sl =>
  cases y4 with
  | none=>exact oP h
  | some w =>
  cases w with
  | builtin n =>
   cases sl with
   | nil=>exact oP h
   | cons y5 sl =>
   cases sl with
   | cons z sl=>exact oP h
   | nil=>exact ⟨C1,bm,y0,y1,y2,y3,n,y5,rfl,rfl,h⟩
  | _=>exact oP h
 | _=>exact oP h
theorem D8{C:Addr}(h:W.excIn K C bmV "ValueError.__new__" = true):VU K C:=by
 unfold W.excIn at h;split at h
 .rename_i dd cd sl lk;obtain ⟨C1,bm,y0,y1,y2,y3,n,y5,e1,e2,h⟩:=PX h;obtain ⟨a1,a2,a3,a4,a5,a6,a7,a8,a9,a10,a11⟩:=cd;obtain ⟨sl⟩:=sl;dsimp only at e1 e2 h;subst e1 e2;simp only [Bool.and_eq_true,beq_iff_eq,Bool.not_eq_true'] at h;obtain ⟨⟨⟨⟨⟨g1,g2⟩,g3⟩,g4⟩,g5⟩,g6⟩:=h;subst g1 g2 g3;exact ⟨⟨a1,a5,a4,a2,bm,a6,a7,a8,a9,a10,dd,y0,y1,y2,y3,y5,lk,g4,g5,g6⟩⟩
 .cases h
end
end L5
end
section
namespace L5
open PySem PySem.Spec PyProof.Rows L2 L3 L4 PySem.W
variable{K:W.Frag}{C D:Addr}
structure VW (K:W.Frag) (C D:Addr):Prop where
 ne:(Value.ref C == Value.ref D)=false
 c:isClsIn K D=true
 t:typeIn K (.ref D)=some (.type "type")
 s:subIn K (.ref C) (.ref D)=some false
theorem PY{t:Value}{b:Bool}(c:isClsIn K D=true)(ht:typeIn K (.ref D)=some (.type "type"))(s:subIn K t (.ref D)=some b):kitCls K t (.ref D)=some b:=by have c:(clsIn K D).isSome=true:=c;unfold kitCls;dsimp only;rw [c,ht,if_pos (by decide)];exact s
theorem VW.one(n:VW K C D):kitOne K (.ref C) (.ref D)=some false:=by unfold kitOne;rw [n.ne,if_neg Bool.false_ne_true];exact PY n.c n.t n.s
end L5
end
section
namespace L5
open PySem PySem.Spec PyProof.Rows L2 L3 L4
section
variable{X:Cx}
def PRs(X:Cx)(es:List Expr)(r:RF):Prop:=PA X es (λU H _=>tR X r U H λ_ _=>True)
theorem UP{es:List Expr}{t t':TA}(h:PA X es t)(f:∀ U H Q,t' U H Q->t U H Q):PA X es t':=λpos pins s U H Q I q=>h pos pins s U H Q I (f U H Q q)
theorem aDE{e:Expr}{es:List Expr}{r:RF}{t:AF}(he:PR X e r)(ha:zZ X es t)(hs:starEach (e::es) X.env=(false,eval e X.env)::starEach es X.env:=by rfl):PRs X (e::es) r :=
 UP (nE he ha hs) λU H Q h=>h
theorem aGI{es:List Expr}{r:RF}{x1}{pos:Pos}(h:PRs X es r):PR X (.Tuple es x1 pos) r:=imp (T4 h) λU H Q h=>h
end
end L5
end
section
namespace L5
open PySem PySem.Spec PyProof.Rows L2 L3 L4 Att
section
variable{X:Cx}{pins:List (Addr×Obj)}{U:L2.St}{H:Hp}{s:Shared}
end
end L5
end
section
namespace L5
open PySem PySem.Spec PyProof.Rows L2 L3 L4
section
variable{X:Cx}
theorem aAu{tg e:Expr}{f:XF}{g:K2}{pos:Pos}(he:MT X e f)(hg:ZT X tg (wG g))(hs:swapsWithSole [tg] e pos.line X.env=pure false:=by rfl)(hw:swappedStores [tg] e X.env=pure none:=by rfl)
  (h1:(assignEach [tg] X.env).map (·.2)=[assign tg X.env]:=by rfl):tJ X (.Assign [tg] e pos) (HV f g) :=
 j3 (aBr he hg hs hw h1) λB U H aGJ=>by
  obtain ⟨H₀,S,w,Z,G,E,hl,st,ht,ok⟩:=aGJ;unfold wS HV at ht
  cases e1:(f Z).bind λp=>g p.2 p.1 with
  | none=>rw [e1] at ht; exact ht.elim
  | some ρ' =>
   rw [e1] at ht;obtain ⟨p,ef,eg⟩:=bnd e1;refine ⟨H₀,S,w,Z,G,λρ2 d2=>ρ2=p.1/\d2=p.2,hl,st,⟨p,ef,rfl,rfl⟩,λw' v H' ρ2 d2 st' d' q'=>?_⟩;obtain ⟨rfl,rfl⟩:=q';exact ⟨H₀,S,w',p.1,G,p.2,_,hl,st',d',⟨ρ',eg,ht⟩,λσ' H2 ρ3 hl' st2 q3=>ok.nx w' σ' H2 ρ3 hl' st2 q3⟩
end
section
variable{X:Cx}
section
variable{ls fs:List Str}{fr:List Nat}{sc:Scope}{tg iter elt:Expr}{ifs:List Expr}{pos:Pos}{i:Nat}{x:Str}{spos pos':Pos}
theorem JY{ti:WI}{g:GE}{tf:WT}{te:WE}(nd:X.N.Nodup)(hc:X.calm=true)(hi:UY X tg iter ti)
  (hg:∀ cl C pn ex s H,(blk X (ls++fs) sc cl C pn ex s H).N.Nodup->PG4 (blk X (ls++fs) sc cl C pn ex s H) ls.length tg g) (hf:∀ cl C pn ex s H,OX (blk X (ls++fs) sc cl C pn ex s H) ifs tf) (he:∀ cl C pn ex s H,cU (blk X (ls++fs) sc cl C pn ex s H) elt te)
  (hx0:X.N[i]? = some x:=by rfl) (hx:X.env.scope.names.lookup x=some .local:=by rfl) (hsw:swapsWith (.ListComp elt [⟨tg,iter,ifs,0⟩] sc pos) (some (.Name x pos')) spos.line X.env=pure true:=by rfl)
  (B:chk X.env.scope.names sc X.N ls fs fr=true:=by rfl) (hs:∀ x,foldedSetIterable iter X.env x=pure x:=by intro _; rfl):EM X (.Assign [.Name x pos'] (.ListComp elt [⟨tg,iter,ifs,0⟩] sc pos) spos) (aAn i (GJ ls.length fr ti g tf te)) :=
 j3 (xV (g:=xW X.K ls.length (ls++fs).length g) (tf:=liftT X.K tf) (te:=lift X.K te) nd hx0 hx hc (nG B) hi (λcl C pn ex s H=>hg cl C pn ex s H (nG B).nd) hf he hsw hs) λBd U H aGK=>by
 obtain ⟨H₀,S,w,Z,G,E,hl,st,ht,ok⟩:=aGK;exact t9 (n:=(ls++fs).length) (by rw [List.length_append,(nG B).GA]) ⟨_,bT Z,_,st.OQ,st.all,ht,λp xs H' ds hp hp' s' d' q'=>ok.nx w _ H' _ (by rw [length_set]; exact hl) ((st.same s').nF (d:=.lst ds) (by rw [hl]; exact iO hx0) (by simp only [Dn]; exact ⟨p,xs,rfl,hp',st.UM p hp,bC.vN q'.1 d'⟩)) q'.2⟩
variable{it:AF}{g:HU}{t:TF}{e:EF}
theorem aGL{f:EF}{Z:bR}{Q:D->Prop}{o:Out}{d:D}(h:f Z=some d)(hl:qD d=true)(q:Q d):wE f Z λd=>(match d with | .lst ds=>kW ds=true | _=>False)/\Q d:=by refine ⟨d,h,?_,q⟩;cases d<;>first | exact hl | cases hl
theorem JZ(nd:X.N.Nodup)(hc:X.calm=true)(hi:Z6 X tg iter it)
  (hg:∀ cl C pn ex s H,(blk X (ls++fs) sc cl C pn ex s H).N.Nodup->VI (blk X (ls++fs) sc cl C pn ex s H) ls.length tg g) (hf:∀ cl C pn ex s H,VJ (blk X (ls++fs) sc cl C pn ex s H) ifs t) (he:∀ cl C pn ex s H,bS (blk X (ls++fs) sc cl C pn ex s H) elt e)
  (hx0:X.N[i]? = some x:=by rfl) (hx:X.env.scope.names.lookup x=some .local:=by rfl) (hsw:swapsWith (.ListComp elt [⟨tg,iter,ifs,0⟩] sc pos) (some (.Name x pos')) spos.line X.env=pure true:=by rfl)
  (B:chk X.env.scope.names sc X.N ls fs fr=true:=by rfl) (hs:∀ x,foldedSetIterable iter X.env x=pure x:=by intro _; rfl):tJ X (.Assign [.Name x pos'] (.ListComp elt [⟨tg,iter,ifs,0⟩] sc pos) spos) (lZ i (bJ ls.length fr it g t e)) :=
 cS (JY nd hc hi hg hf he hx0 hx hsw B hs) λE Z w=>by
  unfold wS lZ at w
  cases h:bJ ls.length fr it g t e (bT Z) with
  | none=>rw [h] at w; exact w.elim
  | some d =>
   rw [h] at w;dsimp only at w;by_cases hl:qD d=true
   .rw [if_pos hl] at w;exact JU _ _ (aGL (o:=.no) (Q:=λd=>E.nx (Z.set i (.ro d))) h hl w)
   .rw [if_neg hl] at w; exact w.elim
end
theorem D9:∀ (l:List Int) (a M:Int),(M=a\/M∈l)->a<=M->(∀ b∈l,b<=M)->l.foldl (λm b=>if m<b then b else m) a=M
 | [],a,M,h,_,_=>by
  rcases h with h | h
  .exact h.symm
  .cases h
 | b::l,a,M,h,ha,hb=>by
  have hbM:=hb b (by simp);rw [foldl_cons];by_cases hab:a<b
  .rw [if_pos hab];refine D9 l b M ?_ hbM λc hc=>hb c (by simp [hc]);rcases h with h | h
   .omega
   .rcases List.mem_cons.mp h with h | h
    .exact .inl h
    .exact .inr h
  .rw [if_neg hab];refine D9 l a M ?_ ha λc hc=>hb c (by simp [hc]);rcases h with h | h
   .exact .inl h
   .rcases List.mem_cons.mp h with h | h
    .exact .inl (by omega)
    .exact .inr h
end
section
variable{X:Cx}
theorem aDF{st:Stmt}{t:TS}(h:PS X.nox st t):PS X st t:=λpins s U H D I hw=>wpAny_mono (h pins s U H D (I.wish λ_ _=>False) hw) (λ_ _ q=>SP.nB q) λ_ _ z=>z.elim
theorem aGM{st:Stmt}{f:SF}(h:tJ X.nox st f):tJ X st (XG f):=j3 (aDF h) λB U H hq=>by
 obtain ⟨H₀,S,w,Z,G,E,hl,sT,ht,ok⟩:=hq;refine ⟨H₀,S,w,Z,G,{ E with ex:=λ_=>False },hl,sT,?_,⟨ok.nx,ok.rt,ok.bk,ok.ct,λ_ _ _ q=>q.elim⟩⟩;unfold wS XG at ht;unfold wS
 cases hf:f Z with
 | nx ρ1=>rw [hf] at ht; exact ht
 | rt d=>rw [hf] at ht; exact ht
 | no=>rw [hf] at ht; exact ht
 | ex c=>rw [hf] at ht; exact ht.elim
end
end L5
end
section
namespace L6
open PySem PySem.Spec PyProof.Rows
def Up(l:List Nat):Prop:=l.Pairwise (·<·)
theorem VX(xs:Array Nat)(j:Nat)(up:Up xs.toList):∀ f lo hi,hi - lo<=f->lo<=hi->hi<=xs.size->(∀ i,i<lo->xs.getD i j<j)->(∀ i,hi<=i->i<xs.size->j<=xs.getD i j) ->
  SetTable.below.go xs j f lo hi<=xs.size/\(∀ i,i<SetTable.below.go xs j f lo hi->xs.getD i j<j) /\ ∀ i,SetTable.below.go xs j f lo hi<=i->i<xs.size->j<=xs.getD i j:=by
 have mono:∀ i k,i<=k->k<xs.size->xs.getD i j<=xs.getD k j:=λi k hik hk=>by
  by_cases e:i=k
  .subst e; exact le_refl _
  .have h1:i<xs.size:=by omega
   have:=List.pairwise_iff_getElem.mp up i k (by simpa using h1) (by simpa using hk) (by omega);simp only [Array.getD,h1,hk,dif_pos];simpa using Nat.le_of_lt this
 intro f
 induction f with
 | zero =>
  intro lo hi h1 h2 h3 h4 h5;have:lo=hi:=by omega
  subst this;exact ⟨h3,h4,h5⟩
 | succ f ih =>
  intro lo hi h1 h2 h3 h4 h5;unfold SetTable.below.go;by_cases hl:lo<hi
  .rw [if_pos hl];dsimp only;by_cases hm:xs.getD ((lo+hi) / 2) j<j
   .rw [if_pos hm];refine ih _ _ (by omega) (by omega) h3 (λi hi'=>?_) h5;exact Nat.lt_of_le_of_lt (mono i ((lo+hi) / 2) (by omega) (by omega)) hm
   .rw [if_neg hm];refine ih _ _ (by omega) (by omega) (by omega) h4 λi hi' hs=>?_;exact le_trans (Nat.not_lt.mp hm) (mono _ i hi' hs)
  .rw [if_neg hl];have:lo=hi:=by omega
   subst this;exact ⟨h3,h4,h5⟩
theorem below_at{xs:Array Nat}(up:Up xs.toList)(j:Nat):SetTable.below xs j<=xs.size/\(∀ i,i<SetTable.below xs j->xs.getD i j<j) /\ ∀ i,SetTable.below xs j<=i->i<xs.size->j<=xs.getD i j :=
 VX xs j up _ _ _ (by omega) (by omega) (le_refl _) (λi h=>by omega) λi h1 h2=>by omega
theorem J0{xs:Array Nat}(up:Up xs.toList){k p:Nat}(hk:xs[k]? = some p):SetTable.below xs (p+1)=k+1:=by
 obtain ⟨h1,h2,h3⟩:=below_at up (p+1);have hs:k<xs.size:=(Array.getElem?_eq_some_iff.mp hk).1;have ek:xs.getD k (p+1)=p:=by rw [Array.getD_eq_getD_getElem?,hk]; rfl
 have a:¬ SetTable.below xs (p+1)<=k:=λh=>by have:=h3 k h hs;omega
 by_cases hn:k+1<SetTable.below xs (p+1)
 .have h4:=h2 (k+1) hn;have hs2:k+1<xs.size:=by omega
  have:=List.pairwise_iff_getElem.mp up k (k+1) (by simpa using hs) (by simpa using hs2) (by omega);have e2:xs.getD (k+1) (p+1)=xs[k+1]:=by simp [Array.getD,hs2]
  have e3:xs[k]=p:=by have:=Array.getElem?_eq_some_iff.mp hk; exact this.2
  simp only [Array.getElem_toList] at this;omega
 .omega
theorem GR{xs:Array Nat}(up:Up xs.toList):SetTable.below xs 0=0:=by
 obtain ⟨h1,h2,h3⟩:=below_at up 0;by_cases h:SetTable.below xs 0=0
 .exact h
 .have:=h2 0 (by omega);omega
theorem AC{α:Type}(xs:Array α)(p:Nat)(x:α):(SetTable.insertAt xs p x).toList=xs.toList.take p++x::xs.toList.drop p:=by unfold SetTable.insertAt;simp [Array.toList_extract,List.extract_eq_take_drop];refine take_of_length_le ?_; simp
theorem aDG{xs:Array Nat}(up:Up xs.toList){j:Nat}(hj:xs[SetTable.below xs j]?≠some j):Up (SetTable.insertAt xs (SetTable.below xs j) j).toList:=by
 obtain ⟨h1,h2,h3⟩:=below_at up j;rw [AC];unfold Up at *;rw [List.pairwise_append];refine ⟨up.sublist (List.take_sublist ..),?_,λa ha b hb=>?_⟩
 .rw [List.pairwise_cons];refine ⟨λb hb=>?_,up.sublist (List.drop_sublist ..)⟩;obtain ⟨i,hi,e'⟩:=getElem_of_mem hb; have e:=e';rw [List.getElem_drop] at e;have hs:SetTable.below xs j+i<xs.size:=by simp at hi; omega
  have h4:=h3 (SetTable.below xs j+i) (by omega) hs;have e2:xs.getD (SetTable.below xs j+i) j=b:=by simp only [Array.getD,hs,dif_pos]; simpa using e
  rw [e2] at h4;by_cases e3:b=j
  .exfalso;subst e3;by_cases hi0:i=0
   .subst hi0;apply hj;rw [Array.getElem?_eq_getElem (by simpa using hs)];simpa using e
   .have hs0:SetTable.below xs b<xs.size:=by omega
    have q:=List.pairwise_iff_getElem.mp up (SetTable.below xs b) (SetTable.below xs b+i) (by simpa using hs0) (by simpa using hs) (by omega);have h5:=h3 (SetTable.below xs b) (le_refl _) hs0;have e4:xs.getD (SetTable.below xs b) b=xs[SetTable.below xs b]:=by simp [Array.getD,hs0]
    rw [e] at q;simp only [Array.getElem_toList] at q;omega
  .omega
 .obtain ⟨i,hi,e⟩:=getElem_of_mem ha;have hi2:i<SetTable.below xs j:=by simp at hi; omega
  have hs:i<xs.size:=by omega
  have h4:=h2 i hi2;have e2:xs.getD i j=a:=by simp only [Array.getD,hs,dif_pos]; rw [<- e]; simp
  rw [e2] at h4;rcases List.mem_cons.1 hb with hb | hb
  .omega
  .obtain ⟨k,hk,e5⟩:=getElem_of_mem hb;rw [List.getElem_drop] at e5;have hs2:SetTable.below xs j+k<xs.size:=by simp at hk; omega
   have q:=List.pairwise_iff_getElem.mp up i (SetTable.below xs j+k) (by simpa using hs) (by simpa using hs2) (by omega);rw [e5] at q;have e6:xs.toList[i]=a:=by rw [<- e]; simp
   rw [e6] at q;exact q
theorem VY(n:Nat):Up (Array.range n).toList:=by unfold Up;rw [Array.toList_range];exact List.pairwise_lt_range
structure Q4 (led:Bool) (t:SetTable) (n:Nat):Prop where
 fit:t.fits n=true
 led:t.led=led
 no:t.dummies=#[]
 up:Up t.place.toList
theorem nH{led:Bool}{t:SetTable}(n:Nat)(h:t.led=led):Q4 led (t.standIn n) n:=by refine ⟨?_,h,rfl,VY n⟩;unfold SetTable.fits SetTable.standIn SetTable.fill;simp;omega
theorem GS{t:SetTable}{h:Int}(hn:t.dummies=#[]){f:Nat->Int}:∀ (k:Nat) (p:SetTable.Probe) {j:Nat} {d:Option Nat},p.dummy=none->SetTable.probe.go t f h k p=some (.empty j d)->d=none/\t.place[SetTable.below t.place j]?≠some j:=by
 intro k
 induction k with
 | zero=>intro p j d _ e; unfold SetTable.probe.go at e; cases e
 | succ k ih =>
  intro p j d hd e;unfold SetTable.probe.go at e;have adv:(t.advance p).dummy=none:=by unfold SetTable.advance; split<;>exact hd
  cases q:t.slot p.j with
  | empty =>
   rw [q] at e;injection e with e;injection e with e1 e2;subst e1;refine ⟨by rw [<- e2]; exact hd,λz=>?_⟩;unfold SetTable.slot at q;dsimp only at q;rw [z] at q;simp at q
  | dummy =>
   exfalso;unfold SetTable.slot at q;dsimp only at q;split at q
   .cases q
   .have:SetTable.has t.dummies p.j=false:=by rw [hn]; unfold SetTable.has; simp
    rw [this] at q;cases q
  | live i =>
   rw [q] at e;dsimp only at e;split at e
   .cases e
   .exact ih _ adv e
theorem Q4.layNew{led:Bool}{t:SetTable}{es:Array (Int×Value)}(h:Q4 led t es.size)(k:Int)(x:Value):Q4 led (layNew t es k x).2.1 (layNew t es k x).1.size:=by
 unfold PySem.layNew
 cases q:t.freeSlot k with
 | none =>
  dsimp only;rw [Array.size_push];exact nH _ h.led
 | some r =>
  obtain ⟨slot,wd⟩:=r;dsimp only;unfold SetTable.freeSlot at q;have hp:t.place[SetTable.below t.place slot]?≠some slot:=by
   unfold SetTable.probe at q;split at q
   .rename_i j d e;obtain ⟨e1,e2⟩:=GS h.no _ _ rfl e;subst e1;cases q;exact e2
   .cases q
  have hd:SetTable.has t.dummies slot=false:=by rw [h.no]; simp [SetTable.has]
  have ep:t.put slot=({ t with place:=SetTable.insertAt t.place (SetTable.below t.place slot) slot },SetTable.below t.place slot):=by unfold SetTable.put;rw [hd];rfl
  rw [ep];dsimp only;unfold SetTable.orStandIn;split
  .rename_i hf;exact ⟨hf,h.led,h.no,aDG h.up hp⟩
  .exact nH _ h.led
theorem sS{β:Type}(f:Nat->Option β):∀ l:List Nat,Up l->Up ((l.filterMap λj=>(f j).map (j,·)).map (·.1))
 | [],_=>by simp [Up]
 | a::l,h=>by
  have h':=List.pairwise_cons.1 h;have ih:=sS f l h'.2;rw [filterMap_cons]
  cases q:f a with
  | none=>exact ih
  | some b =>
   dsimp only [map_some];rw [map_cons];refine List.pairwise_cons.mpr ⟨λc hc=>?_,ih⟩;obtain ⟨p,hp,e⟩:=List.mem_map.mp hc;obtain ⟨j,hj,e2⟩:=List.mem_filterMap.mp hp
   cases q2:f j with
   | none=>rw [q2] at e2; cases e2
   | some b2 =>
    rw [q2] at e2;cases e2;rw [<- e];exact h'.1 j hj
theorem Q4.aGN{led:Bool}{t:SetTable}{es:Array (Int×Value)}(h:Q4 led t es.size)(wanted:Nat):Q4 led (relayAll t es wanted).2.1 (relayAll t es wanted).1.size:=by
 unfold relayAll
 cases q:t.relaid (es.map (·.1)) wanted with
 | none=>exact nH _ h.led
 | some r =>
  obtain ⟨t',order⟩:=r;dsimp only;split
  .rename_i hc;rw [Bool.and_eq_true] at hc;unfold SetTable.relaid SetTable.laid at q
   cases q2:SetTable.layClean (SetTable.sizeAbove wanted - 1) (es.map (·.1)) with
   | none=>rw [q2] at q; cases q
   | some owner =>
    rw [q2] at q;cases q;refine ⟨hc.2,h.led,rfl,?_⟩;dsimp only;exact sS _ _ List.pairwise_lt_range
  .exact nH _ h.led
theorem VZ(led:Bool):Q4 led (SetTable.fresh 0 0 led) 0:=⟨by rfl,rfl,rfl,List.Pairwise.nil⟩
def qZ(e:Int×Value):Int:=match e.2 with
 | .int m _=>m
 | _=>0
def GU(e:Int×Value):Prop:=∃ m t,e=(hashInt m,Value.int m t)
def pW(led:Bool)(o:Obj)(ns:List Int):Prop:=∃ es ep t,o.ExactSet/\o.data=.set es ep t/\(∀ e∈es.toList,GU e)/\(es.toList.map qZ).Perm ns/\Q4 led t es.size/\es.size<scanBound
def J1(ns:List Int)(k:Int):List Int:=if k∈ns then ns else ns++[k]
theorem V0(prog:Program)(w:World){l:List (Int×Value)}(h:∀ e∈l,GU e):ElemsOf (intKind prog w) l:=λe he=>by obtain ⟨m,t,rfl⟩:=h e he;exact ⟨⟨m,intKind_is prog w m t,rfl⟩,rfl⟩
theorem V1(prog:Program)(w:World){e:Int×Value}(h:GU e)(k:Int):(intKind prog w).is k e.2=decide (k=qZ e):=by obtain ⟨m,t,rfl⟩:=h;exact KeyKind.is_eq_decide (intKind_is prog w m t) k
section
variable{prog:Program}{w:World}{A:Around}{E:Q0Q}{s:Shared}
theorem stored{a:Addr}{o:Obj}{es es':Array (Int×Value)}{ep:Nat}{t t':SetTable}(ho:s.heap.get? a=some o)(hd:o.data=.set es ep t) :
  (s.heap.update a (Obj.putSet es' t')).get? a=some { o with data:=.set es' (ep+1) t' }:=by
 have q:=Heap.get?_update_self (Obj.putSet es' t') ho (by rw [putSet_of es' t' hd]; rfl)
 rwa [putSet_of es' t' hd] at q
theorem add_int{a:Addr}{o:Obj}{ns:List Int}{k:Int}{tk:Tok}{led:Bool}{Q:Bool->Shared->Prop}(ho:s.heap.get? a=some o)(hi:pW led o ns)(hb:ns.length+1<scanBound)
  (h:∀ h' o' b,Heap.SameBut a s.heap h'->h'.get? a=some o'->pW led o' (J1 ns k)->Q b { s with heap:=h',toks:=s.toks+1 }):wpAny (model prog w) A (setAdd a (.int k tk)) Q E s:=by
 obtain ⟨es,ep,t,hx,hd,hE,hp,hT,hs⟩:=hi;have hel:=V0 prog w hE;have calm:∀ (b:Bool) (s1:Shared) (Q1:Unit->Shared->Prop),Q1 () s1->wpAny (model prog w) A (match b with | true=>rule "set.scan.the-table-gave-way" | false=>pure ()) Q1 E s1:=λb s1 Q1 q=>by
  cases b
  .exact wpAny_pure q
  .exact wpAny_rule q
 have hk:=intKind_is prog w k tk;unfold setAdd;refine wpAny_holding (wpAny_bind ((intKind prog w).pyHash hk ?_));unfold setAddHashed setAddHashedIn setAddByScan;refine wpAny_holding (wpAny_bind (wpAny_setState_of (s:={ s with toks:=s.toks+1 }) ho hd hT.fit ?_));dsimp only;rw [if_pos (byScan_of (x:=.int k tk) rfl hs hel)];refine wpAny_bind (wpAny_bind (wpAny_rule (wpAny_bind (wpAny_setScan_of (s:={ s with toks:=s.toks+1 }) hk ho hd hT.fit hel ?_))))
 cases hf:es.toList.findIdx? (λe=>(intKind prog w).is k e.2) with
 | some j =>
  obtain ⟨hj,e,_⟩:=List.findIdx?_eq_some_iff_getElem.1 hf;have hm:=getElem_mem hj;rw [V1 prog w (hE _ hm),decide_eq_true_eq] at e;have kn:k∈ns:=hp.mem_iff.1 (e▸List.mem_map_of_mem hm);apply wpAny_pure; apply wpAny_pure;refine h s.heap o false (Heap.SameBut.refl ..) ho ?_;rw [J1,if_pos kn];exact ⟨es,ep,t,hx,hd,hE,hp,hT,hs⟩
 | none =>
  have kn:k∉ns:=λz=>by obtain ⟨e,he,ee⟩:=List.mem_map.1 (hp.mem_iff.2 z);have q:=List.findIdx?_eq_none_iff.1 hf e he;rw [V1 prog w (hE e he),ee] at q;simp at q
  dsimp only;have p1:=layNew_perm t es (hashInt k) (.int k tk);have t1:=hT.layNew (hashInt k) (.int k tk);show wpAny _ _ _ _ _ _;have eh:(intKind prog w).hash k=hashInt k:=rfl;rw [eh];generalize layNew t es (hashInt k) (.int k tk)=L at p1 t1 ⊢;obtain ⟨es1,tb,wd,gv⟩:=L;rw [Array.toList_push] at p1;dsimp only at p1 t1 ⊢;have e1:∀ e∈es1.toList,GU e:=λe he=>by
   rcases List.mem_append.1 (p1.mem_iff.1 he) with z | z
   .exact hE e z
   .exact ⟨k,tk,List.mem_singleton.1 z⟩
  have n1:(es1.toList.map qZ).Perm (ns++[k]):=(p1.map qZ).trans (by rw [map_append]; exact hp.append_right _);have l1:es1.size=ns.length+1:=by have q:=n1.length_eq; simpa using q
  have z1:es1.size<scanBound:=by omega
  have fin:∀ h' o',Heap.SameBut a s.heap h'->h'.get? a=some o'->pW led o' (ns++[k])->Q true { s with heap:=h',toks:=s.toks+1 }:=λh' o' q1 q2 q3=>h h' o' true q1 q2 (by rw [J1,if_neg kn]; exact q3);have tail:∀ tb2:SetTable,Q4 led tb2 es1.size->wpAny (model prog w) A (do
    storeSet a es1 tb2
    if (!wd&&tb2.tooFull)=true then do
      (match (relayAll tb2 es1 (SetTable.grown es1.size)).2.2 with | true=>rule "set.scan.the-table-gave-way" | false=>pure ())
      storeSet a (relayAll tb2 es1 (SetTable.grown es1.size)).1 (relayAll tb2 es1 (SetTable.grown es1.size)).2.1
      pure (some true)
     else pure (some true)) (λr s'=>wpAny (model prog w) A (match r with | some added=>pure added | none=>setAddHashedIn a (.int k tk) (hashInt k) 99999) Q E s') E { s with toks:=s.toks+1 }:=λtb2 t2=>by
   refine wpAny_bind (wpAny_storeSet_of (s:={ s with toks:=s.toks+1 }) ho hd ?_ (fits_of_scanBound z1));have g1:=stored (es':=es1) (t':=tb2) ho hd;have i1:pW led { o with data:=.set es1 (ep+1) tb2 } (ns++[k]):=⟨es1,ep+1,tb2,hx,rfl,e1,n1,t2,z1⟩;split
   .have p2:=relayAll_perm tb2 es1 (SetTable.grown es1.size);have t3:=t2.aGN (SetTable.grown es1.size);generalize relayAll tb2 es1 (SetTable.grown es1.size)=L at p2 t3 ⊢;obtain ⟨es2,tc,gv2⟩:=L;dsimp only at p2 t3 ⊢;have l2:es2.size=es1.size:=by have q:=p2.length_eq; simpa using q
    refine wpAny_bind (calm gv2 _ _ (wpAny_bind (wpAny_storeSet_of (s:={ s with heap:=s.heap.update a (Obj.putSet es1 tb2),toks:=s.toks+1 }) g1 rfl (wpAny_pure (wpAny_pure ?_)) (fits_of_scanBound (by omega)))));exact fin _ _ ((Heap.SameBut.update ..).trans (Heap.SameBut.update ..)) (stored (s:={ s with heap:=s.heap.update a (Obj.putSet es1 tb2) }) g1 rfl) ⟨es2,_,tc,hx,rfl,λe he=>e1 e (p2.mem_iff.1 he),(p2.map qZ).trans n1,t3,by omega⟩
   .exact wpAny_pure (wpAny_pure (fin _ _ (Heap.SameBut.update ..) g1 i1))
  refine wpAny_bind (calm gv _ _ ?_);split
  .apply wpAny_bind; apply wpAny_pure;exact tail _ t1
  .apply wpAny_bind; apply wpAny_pure;exact tail _ t1
end
def iJ:List Int->List Int->List Int
 | ns,[]=>ns
 | ns,k::r=>iJ (J1 ns k) r
def eL(w:World):Bool:=!(w.params.followText "set-order")
def kQ(led:Bool):Obj:={ cls:=.type "set",dict:=none,data:=.set #[] 0 (.fresh 0 0 led) }
theorem PZ(led:Bool):pW led (kQ led) []:=⟨#[],0,.fresh 0 0 led,⟨rfl,rfl,rfl⟩,rfl,λe he=>by simp at he,List.Perm.nil,VZ led,by decide⟩
theorem GV(ns:List Int)(k:Int):(J1 ns k).length<=ns.length+1:=by
 unfold J1;split
 .omega
 .simp
section
variable{prog:Program}{w:World}{A:Around}{E:Q0Q}{s:Shared}
theorem V2{I S t:Addr}{items:Array Value}{ns:List Int}{led:Bool}{R:Result->Shared->Prop}(hh:A.handled=none)(hi:IntsAre items.toList ns)(hI:t≠I)(hSI:S≠I)(hSt:S≠t)(hb:ns.length+1<scanBound) :
  ∀ (r:List Int) (i:Nat) (s:Shared) (ms:List Int) (o:Obj),r=ns.drop i->i<=ns.length->s.heap.IsTupleIter I t i->s.heap.IsTuple t items->s.heap.get? S=some o->pW led o ms->ms.length<=i ->
   (∀ h' tk o',(∀ b u,b≠S->b≠I->s.heap.get? b=some u->h'.get? b=some u)->h'.get? S=some o'->pW led o' (iJ ms r)->R (.ok (.ret .none)) { s with heap:=h',toks:=tk })->codeAny (model prog w) A (.builtin "set.update.loop" ⟨[.ref S,.ref I],[]⟩) R s:=by
 have W:=Walks.tuple (prog:=prog) (w:=w) (A:=A.in1) hh I t hI items;have hn:items.size=ns.length:=by have q:=IntsAre.length hi; simpa using q
 intro r
 induction r with
 | nil =>
  intro i s ms o er hil it tp ho hS _ fin;have e:i=items.size:=by have q:=congrArg List.length er;rw [length_drop,length_nil] at q;omega
  subst e;apply codeAny_builtin F.entry_set_update_loop;rw [Around.under_plainId F.plain_set_update_loop];unfold Builtin.«set.update.loop»;refine wpAny_bind (W.done s _ _ ⟨it,tp⟩ λh' tk keep=>wpAny_pure ?_);exact fin h' tk o (λb u h1 h2 e=>keep b u (by simpa using h2) e) (keep S o (by simpa using hSI) ho) hS
 | cons k r ih =>
  intro i s ms o er hil it tp ho hS hm fin;have hlt:i<ns.length:=by have q:=congrArg List.length er;rw [length_drop,length_cons] at q;omega
  have ek:ns[i]? = some k:=by
   have q:(ns.drop i)[0]? = some k:=by rw [<- er]; rfl
   rwa [List.getElem?_drop,Nat.add_zero] at q
  apply codeAny_builtin F.entry_set_update_loop;rw [Around.under_plainId F.plain_set_update_loop];unfold Builtin.«set.update.loop»;refine wpAny_bind (W.item i s _ _ (by omega) ⟨it,tp⟩ λv h1 tk hv st keep=>?_);obtain ⟨t1,rfl⟩:=IntsAre.int_at hi i v (by rw [Array.getElem?_toList]; exact hv);have e2:ns.getD i 0=k:=by rw [getD_eq_getElem?_getD,ek]; rfl
  rw [e2];refine wpAny_bind (wpAny_holding (add_int (s:={ s with heap:=h1,toks:=tk }) (keep S o (by simpa using hSI) ho) hS (by omega) λh2 o2 _ sb g2 i2=>wpAny_pure ⟨plainId_quiet F.plain_set_update_loop _,?_⟩));have it2:h2.IsTupleIter I t (i+1):=st.1.at λo e=>by rw [sb.2 I (Ne.symm hSI)]; exact e
  have tp2:h2.IsTuple t items:=st.2.at λo e=>by rw [sb.2 t (Ne.symm hSt)]; exact e
  refine ih (i+1) { s with heap:=h2,toks:=tk+1 } _ o2 ?_ (by omega) it2 tp2 g2 i2 (le_trans (GV ms k) (by omega)) λh3 tk3 o3 k3 g3 i3=>fin h3 tk3 o3 (λb u n1 n2 e=>k3 b u n1 n2 ?_) g3 i3
  .have q:=congrArg List.tail er;rw [List.tail_drop] at q;exact q
  .show h2.get? b=some u;rw [sb.2 b n1];exact keep b u (by simpa using n2) e
theorem Z9(x:Value):MeetsIn prog w (Builtin.«set.__new__» ⟨[.type "set",x],[]⟩) (λ_ R s=>R (.ok (.ret (.ref s.heap.objs.size))) { s with heap:=s.heap.push (kQ (eL w)) }):=by
 refine .of_wp λA R s h=>?_;have hs:=sub_set_self;unfold Builtin.«set.__new__» Builtin.Frozenset.newClass newSet setsByText
 wp_walk
 apply wpAny_askSetting; apply wpAny_pure;dsimp only;simp only [newObj];exact wpAny_bind (wpAny_alloc (wpAny_pure (wpAny_pure ⟨_,rfl,h⟩)))
theorem V3{S t:Addr}{items:Array Value}{ns:List Int}{led:Bool}(hi:IntsAre items.toList ns)(hSt:S≠t)(hb:ns.length+1<scanBound) :
  MeetsIn prog w (Builtin.«set.__init__» ⟨[.ref S,.ref t],[]⟩) (λA R s=>A.handled=none/\s.heap.IsTuple t items/\s.heap.get? S=some (kQ led) /\
   ∀ h' tk o',(∀ b u,b≠S->b<s.heap.objs.size->s.heap.get? b=some u->h'.get? b=some u)->h'.get? S=some o'->pW led o' (iJ [] ns)->R (.ok (.ret .none)) { s with heap:=h',toks:=tk }):=by
 refine .of_wp λA R s h=>?_;obtain ⟨hh,tp,hS,h⟩:=h;have T1:s.TypeIs (.ref S) "set" := ⟨_,hS,rfl⟩;have T2:=tp.typeIs;have s1:=F.sub_tuple_set;have s2:=F.sub_tuple_frozenset;obtain ⟨ot,hot,hct,nt,hdt⟩:=id tp;unfold Builtin.«set.__init__»;unfold noKeywords Builtin.Frozenset.updateFrom;generalize hP:pyIter=P
 wp_walk
 subst hP;have lS:S<s.heap.objs.size:=lt_size hS;have lt:t<s.heap.objs.size:=lt_size hot;refine wpAny_pyIter_tuple tp (wpAny_bind (wpAny_runValue ?_));refine V2 (A:=A.in1) (t:=t) (S:=S) hh hi (ne_of_lt lt) (ne_of_lt lS) hSt hb ns 0 _ [] (kQ led) rfl (Nat.zero_le _) ⟨_,get?_push_size _ rfl,rfl,rfl⟩ (tp.push _) (get?_push_of_some _ hS) (PZ led) (le_refl _) λh' tk o' keep g i=>?_;exact wpAny_pure (wpAny_pure ⟨_,rfl,h h' tk o' (λb u n1 l e=>keep b u n1 (ne_of_lt l) (get?_push_of_some _ e)) g i⟩)
theorem V4{t:Addr}{items:Array Value}{ns:List Int}{Q:Q0Q}(hh:A.handled=none)(hi:IntsAre items.toList ns)(tp:s.heap.IsTuple t items)(hb:ns.length+1<scanBound)
  (h:∀ h' tk o',(∀ b u,s.heap.get? b=some u->h'.get? b=some u)->h'.get? s.heap.objs.size=some o'->pW (eL w) o' (iJ [] ns)->Q (.ref s.heap.objs.size) { s with heap:=h',toks:=tk }) :
  wpAny (model prog w) A (call (.type "set") [.ref t]) Q E s:=by
 obtain ⟨c,tl,m1⟩:=F.called_set.mro;have m2:=F.called_set.made;have m3:=F.called_set.sub;have m4:=F.called_set.notType;have m5:=F.called_set.canCreate;have m6:=F.typeCall_set_1 (.ref t);obtain ⟨ot,hot,_⟩:=id tp;have lt:t<s.heap.objs.size:=lt_size hot;refine wpAny_call (codeAny_of_tree (wpAny_pure ⟨Code.quiet_builtin _ (by decide +kernel),codeAny_builtin F.entry_type_call ?_⟩));rw [Around.under_plain (weight_type_call_type ..) (units_type_call_type ..)]
 wp_walk
 have c1:codeAny (model prog w) A.in1 (.call (.builtin "set.__new__") ⟨[.type "set",.ref t],[]⟩) (λr s1=>r=.ok (.ret (.ref s.heap.objs.size))/\s1={ s with heap:=s.heap.push (kQ (eL w)) }) s :=
  codeAny_call_builtin F.plain_set_new F.entry_set_new (wpAny_of_eq (F.newCall_set_1 _) (Z9 (.ref t) A.in1 (λr s1=>r=.ok (.ret (.ref s.heap.objs.size))/\s1={ s with heap:=s.heap.push (kQ (eL w)) }) s ⟨rfl,rfl⟩))
 refine codeAny_mono c1 λr s1 hr=>?_;obtain ⟨rfl,rfl⟩:=hr;dsimp only;have g1:(s.heap.push (kQ (eL w))).get? s.heap.objs.size=some (kQ (eL w)):=get?_push_size _ rfl;have T1:Shared.TypeIs { s with heap:=s.heap.push (kQ (eL w)) } (.ref s.heap.objs.size) "set" := ⟨_,g1,rfl⟩;have m7:=F.called_set.init.lookup;have m8:=F.called_set.init.bind (.ref s.heap.objs.size)
 wp_walk
 have c2:codeAny (model prog w) A.in1 (.call (.builtin "set.__init__") ⟨[.ref s.heap.objs.size,.ref t],[]⟩) (λr s2=>∃ h' tk o',r=.ok (.ret .none)/\s2={ s with heap:=h',toks:=tk } /\
   (∀ b u,s.heap.get? b=some u->h'.get? b=some u)/\h'.get? s.heap.objs.size=some o'/\pW (eL w) o' (iJ [] ns)) { s with heap:=s.heap.push (kQ (eL w)) } :=
  codeAny_call_builtin F.called_set.init.plain F.entry_set_init (check_set_init_1 T1 (V3 (led:=eL w) hi (Nat.ne_of_gt lt) hb A.in1 (λr s2=>∃ h' tk o',r=.ok (.ret .none)/\s2={ s with heap:=h',toks:=tk } /\
   (∀ b u,s.heap.get? b=some u->h'.get? b=some u)/\h'.get? s.heap.objs.size=some o'/\pW (eL w) o' (iJ [] ns)) { s with heap:=s.heap.push (kQ (eL w)) } ⟨hh,tp.push _,g1,λh' tk o' keep g i =>
    ⟨h',tk,o',rfl,rfl,λb u e=>keep b u (ne_of_lt (lt_size e)) (by rw [Heap.size_push]; exact Nat.lt_succ_of_lt (lt_size e)) (get?_push_of_some _ e),g,i⟩⟩))
 refine codeAny_mono c2 λr s2 hr=>?_;obtain ⟨h',tk,o',rfl,rfl,keep,g,i⟩:=hr;refine wpAny_pure ?_;dsimp only;rw [if_neg (by decide)];exact wpAny_pure (h h' tk o' keep g i)
end
namespace Si
theorem slot_next:Slot "set_iterator" "__next__" "set_iterator.__next__" := Slot.of (owner := "set_iterator") (n := "__next__") (by rw [typeLookup_type,builtinLookup_eq_fast]; kernel_rfl) (by decide +kernel) (by decide +kernel) (by decide +kernel) (Or.inl (by decide +kernel)) (by rw [isSubtype_type]; kernel_rfl)
theorem B4:Slot "set_iterator" "__iter__" "set_iterator.__iter__" := Slot.of (owner := "set_iterator") (n := "__iter__") (by rw [typeLookup_type,builtinLookup_eq_fast]; kernel_rfl) (by decide +kernel) (by decide +kernel) (by decide +kernel) (Or.inl (by decide +kernel)) (by rw [isSubtype_type]; kernel_rfl)
theorem entry_next:entryFor table "set_iterator.__next__" = some Builtin.«set_iterator.__next__»:=entryFor_of_tree (by kernel_rfl)
theorem args_next(a:Value):argsOk "set_iterator.__next__" ⟨[a],[]⟩:=by unfold argsOk; kernel_rfl
theorem P0(a:Value):argsOk "set_iterator.__iter__" ⟨[a],[]⟩:=by unfold argsOk; kernel_rfl
theorem J2:entryFor table "set_iterator.__iter__" = some Builtin.«dict_keyiterator.__iter__» :=
 entryFor_alias (id' := "dict_keyiterator.__iter__") (by kernel_rfl) (by decide +kernel) (by decide +kernel) (by kernel_rfl)
theorem yD:entryFor table "set.__iter__" = some Builtin.«frozenset.__iter__» :=
 entryFor_alias (id' := "frozenset.__iter__") (by kernel_rfl) (by decide +kernel) (by decide +kernel) (by kernel_rfl)
end Si
def rA(h:Heap)(I S:Addr)(f:Value)(i n ep:Nat):Prop:=∃ o,h.get? I=some o/\o.cls=.type "set_iterator" /\ o.data=.fields #[f,rawInt i,.ref S,rawInt n,rawInt ep]
section
variable{prog:Program}{w:World}{A:Around}{E:Q0Q}{s:Shared}
theorem rA.typeIs{I S:Addr}{f:Value}{i n ep:Nat}(x:rA s.heap I S f i n ep):s.TypeIs (.ref I) "set_iterator" := let ⟨o,ho,hc,_⟩:=x; ⟨o,ho,hc⟩
theorem pM{b:Bool}{Q:Bool->Shared->Prop}(hb:w.params.followText "set-order" = b)(h:Q b s):wpAny (model prog w) A setsByText Q E s:=by unfold setsByText;refine wpAny_bind (wpAny_askSetting (wpAny_pure ?_));rw [<- hb] at h;exact h
theorem p9{S:Addr}{o:Obj}{es:Array (Int×Value)}{ep i q:Nat}{t:SetTable}{Q:Option (Value×Nat)->Shared->Prop}(hw:eL w=true)(ho:s.heap.get? S=some o)(hd:o.data=.set es ep t)(hT:Q4 true t es.size)
  (hp:¬ (!t.plain&&es.size>1)=true) (hq:SetTable.below t.place q=i) (h:Q (match es[i]?,t.place[i]? with | some (_,x),some j=>some (x,j+1) | _,_=>none) s) (k:Nat):wpAny (model prog w) A (setNext S q k ep) Q E s:=by
 have hb:w.params.followText "set-order" = false:=by unfold eL at hw; simpa using hw
 unfold setNext;refine wpAny_bind (wpAny_setState_of ho hd hT.fit ?_);dsimp only;refine wpAny_bind (pM hb ?_);rw [if_neg (by decide)];split
 .rename_i z;exact absurd z hp
 refine wpAny_bind ?_;show wpAny _ _ (if (!t.led && !es.isEmpty)=true then unsupported "set:maker-not-led" else pure ()) _ _ _;rw [hT.led,if_neg (by simp)];refine wpAny_pure ?_;rw [hq];exact wpAny_pure h
theorem GW{I S:Addr}{o:Obj}{es:Array (Int×Value)}{ep i q:Nat}{t:SetTable}{v:Value}{p:Nat}{Q:Option Value->Shared->Prop}(ho:s.heap.get? S=some o)(hd:o.data=.set es ep t)(hf:t.fits es.size=true)(it:rA s.heap I S (rawInt q) i es.size ep)
  (hN:∀ (Q1:Option (Value×Nat)->Shared->Prop) (E1:Q0Q),Q1 (some (v,p)) s->wpAny (model prog w) A.in1 (setNext S q i ep) Q1 E1 s)
  (hQ:∀ h',rA h' I S (rawInt p) (i+1) es.size ep->Heap.SameBut I s.heap h'->Q (some v) { s with heap:=h' }):wpAny (model prog w) A (pyNext (.ref I)) Q E s:=by
 have tn:=it.typeIs;obtain ⟨oi,hoi,hci,hdi⟩:=it;unfold pyNext;refine wpAny_bind (wpAny_attempt (wpAny_callSpecial?_slot (name:=Str.ofString "__next__") tn Si.slot_next (wpAny_call_entry Si.slot_next tn Si.entry_next ?_ (Si.args_next _))));unfold Builtin.«set_iterator.__next__»
 wp_walk
 rw [hdi];refine wpAny_pure ?_;dsimp only [rawInt];refine wpAny_bind (wpAny_setEntries_of ho hd hf ?_);rw [if_neg (by simp)];refine wpAny_bind (hN _ _ ?_);dsimp only;refine wpAny_bind (wpAny_setField hoi hdi (by simp) ?_);have g1:=Heap.get?_update_self (Obj.mapFields (·.setIfInBounds 0 (Value.int (p:Int) 0))) hoi (Obj.isFreed_of_fields (Obj.data_mapFields hdi _));refine wpAny_bind (wpAny_setField (s:={ s with heap:=s.heap.update I (Obj.mapFields (·.setIfInBounds 0 (Value.int (p:Int) 0))) }) g1 (Obj.data_mapFields hdi _) (by simp) (wpAny_pure ⟨_,rfl,wpAny_pure (hQ _ ⟨_,Heap.get?_update_self _ g1 (Obj.isFreed_of_fields (Obj.data_mapFields (Obj.data_mapFields hdi _) _)),?_,?_⟩ ((Heap.SameBut.update ..).trans (Heap.SameBut.update ..)))⟩))
 .exact (Obj.cls_mapFields ..).trans ((Obj.cls_mapFields ..).trans hci)
 .rw [Obj.data_mapFields (Obj.data_mapFields hdi _)];simp [rawInt]
theorem B5{I S:Addr}{o:Obj}{es:Array (Int×Value)}{ep i q:Nat}{t:SetTable}{Q:Option Value->Shared->Prop}(hh:A.handled=none)(ho:s.heap.get? S=some o)(hd:o.data=.set es ep t)(hf:t.fits es.size=true)(it:rA s.heap I S (rawInt q) i es.size ep)
  (hN:∀ (Q1:Option (Value×Nat)->Shared->Prop) (E1:Q0Q),Q1 none s->wpAny (model prog w) A.in1 (setNext S q i ep) Q1 E1 s)
  (hQ:∀ h',Heap.ExtBut I s.heap h'->Q none { s with heap:=h' }):wpAny (model prog w) A (pyNext (.ref I)) Q E s:=by
 have tn:=it.typeIs;have hA:A.in1.handled=none:=hh;obtain ⟨oi,hoi,hci,hdi⟩:=it;unfold pyNext;refine wpAny_bind (wpAny_attempt (wpAny_callSpecial?_slot (name:=Str.ofString "__next__") tn Si.slot_next (wpAny_call_entry Si.slot_next tn Si.entry_next ?_ (Si.args_next _))));unfold Builtin.«set_iterator.__next__»
 wp_walk
 rw [hdi];refine wpAny_pure ?_;dsimp only [rawInt];refine wpAny_bind (wpAny_setEntries_of ho hd hf ?_);rw [if_neg (by simp)];refine wpAny_bind (hN _ _ ?_);dsimp only
 wp_walk using wpAny_setField hoi hdi (by simp)
 unfold raiseNew;apply wpAny_bind;apply wpAny_handled;rw [hA];refine wpAny_bind (wpAny_pure (wpAny_throw (wpAny_bind ?_)));refine wpAny_isInstance (b:=true) (T := "StopIteration") ?_ isSubtype_stop ?_
 .exact ⟨_,get?_push_size _ rfl,rfl⟩
 apply wpAny_pure;apply hQ;exact ((Heap.SameBut.update ..).extBut.push _).push _
theorem V5{I S T:Addr}{o:Obj}{es:Array (Int×Value)}{ep i j:Nat}{t:SetTable}{v:Value}{hv:Int}{ps:Array Value}{Q:Option Value->Shared->Prop}(ho:s.heap.get? S=some o)(hd:o.data=.set es ep t)(hf:t.fits es.size=true)(it:rA s.heap I S (.ref T) i es.size ep)
  (ht:s.heap.IsTuple T ps) (hp:ps[i]? = some (rawInt j)) (he:es[j]? = some (hv,v))
  (hQ:∀ h',rA h' I S (.ref T) (i+1) es.size ep->Heap.SameBut I s.heap h'->Q (some v) { s with heap:=h' }):wpAny (model prog w) A (pyNext (.ref I)) Q E s:=by
 have tn:=it.typeIs;obtain ⟨oi,hoi,hci,hdi⟩:=it;obtain ⟨oT,hoT,_,nT,hdT⟩:=ht;unfold pyNext;refine wpAny_bind (wpAny_attempt (wpAny_callSpecial?_slot (name:=Str.ofString "__next__") tn Si.slot_next (wpAny_call_entry Si.slot_next tn Si.entry_next ?_ (Si.args_next _))));unfold Builtin.«set_iterator.__next__»
 wp_walk
 rw [hdi];refine wpAny_pure ?_;dsimp only [rawInt];refine wpAny_bind (wpAny_setEntries_of ho hd hf ?_);rw [if_neg (by simp)];unfold seqItems?;refine wpAny_bind (wpAny_bind (wpAny_load hoT ?_));rw [hdT];refine wpAny_pure ?_;have e1:ps[((i:Nat):Int).toNat]? = some (.int (j:Int) 0):=hp;dsimp only;rw [e1];dsimp only;unfold setNextDrawn;refine wpAny_bind (wpAny_bind (wpAny_setState_of ho hd hf ?_));dsimp only;rw [if_neg (by simp)];have e2:es[((j:Nat):Int).toNat]? = some (hv,v):=he;rw [e2];refine wpAny_pure ?_;refine wpAny_bind (wpAny_setField hoi hdi (by simp) (wpAny_pure ⟨_,rfl,wpAny_pure (hQ _ ⟨_,Heap.get?_update_self _ hoi (Obj.isFreed_of_fields (Obj.data_mapFields hdi _)),?_,?_⟩ (Heap.SameBut.update ..))⟩))
 .exact (Obj.cls_mapFields ..).trans hci
 .rw [Obj.data_mapFields hdi];simp [rawInt]
theorem P1{I S T:Addr}{o:Obj}{es:Array (Int×Value)}{ep i:Nat}{t:SetTable}{ps:Array Value}{Q:Option Value->Shared->Prop}(hh:A.handled=none)(ho:s.heap.get? S=some o)(hd:o.data=.set es ep t)(hf:t.fits es.size=true)(it:rA s.heap I S (.ref T) i es.size ep)
  (ht:s.heap.IsTuple T ps) (hp:ps[i]? = none) (hQ:∀ h',Heap.ExtBut I s.heap h'->Q none { s with heap:=h' }):wpAny (model prog w) A (pyNext (.ref I)) Q E s:=by
 have tn:=it.typeIs;have hA:A.in1.handled=none:=hh;obtain ⟨oi,hoi,hci,hdi⟩:=it;obtain ⟨oT,hoT,_,nT,hdT⟩:=ht;unfold pyNext;refine wpAny_bind (wpAny_attempt (wpAny_callSpecial?_slot (name:=Str.ofString "__next__") tn Si.slot_next (wpAny_call_entry Si.slot_next tn Si.entry_next ?_ (Si.args_next _))));unfold Builtin.«set_iterator.__next__»
 wp_walk
 rw [hdi];refine wpAny_pure ?_;dsimp only [rawInt];refine wpAny_bind (wpAny_setEntries_of ho hd hf ?_);rw [if_neg (by simp)];unfold seqItems?;refine wpAny_bind (wpAny_bind (wpAny_load hoT ?_));rw [hdT];refine wpAny_pure ?_;have e1:ps[((i:Nat):Int).toNat]? = none:=hp;dsimp only;rw [e1];dsimp only
 wp_walk using wpAny_setField hoi hdi (by simp),wpAny_setField (Heap.get?_update_self _ hoi (Obj.isFreed_of_fields (Obj.data_mapFields hdi _))) (Obj.data_mapFields hdi _) (by simp)
 unfold raiseNew;apply wpAny_bind;apply wpAny_handled;rw [hA];refine wpAny_bind (wpAny_pure (wpAny_throw (wpAny_bind ?_)));refine wpAny_isInstance (b:=true) (T := "StopIteration") ?_ isSubtype_stop ?_
 .exact ⟨_,get?_push_size _ rfl,rfl⟩
 apply wpAny_pure;apply hQ;exact (((Heap.SameBut.update ..).trans (Heap.SameBut.update ..)).extBut.push _).push _
end
end L6
end
section
namespace L6
open PySem PySem.Spec PyProof.Rows
theorem P2{M:Model}{A:Around}{E:Q0Q}{s:Shared}{src:Source}{n:Nat}{Q:Nat->Shared->Prop}(hn:n≠0)(h:∀ i d,i<n->Q i { s with drawn:=d }):wpAny M A (choose src n) Q E s:=λΓ p hΓ=>by unfold choose;exact ⟨hn,h _ _ (Nat.mod_lt _ (Nat.pos_of_ne_zero hn))⟩
theorem rB{α:Type}:∀ (l:List α) (i:Nat) (x:α),l[i]? = some x->l.Perm (x::l.eraseIdx i)
 | [],i,x,h=>by simp at h
 | a::l,0,x,h=>by simp at h;subst h;exact List.Perm.refl _
 | a::l,i+1,x,h=>by have q:=rB l i x (by simpa using h);rw [List.eraseIdx_cons_succ];exact (q.cons a).trans (List.Perm.swap ..)
theorem M4{M:Model}{A:Around}{E:Q0Q}{α:Type}:∀ (n:Nat) (l:List α) (s:Shared) {Q:List α->Shared->Prop},l.length=n->(∀ l' d,l'.Perm l->Q l' { s with drawn:=d })->wpAny M A (drawOrder n l) Q E s
 | 0,l,s,Q,hl,h=>by have:l=[]:=List.length_eq_zero_iff.mp hl;subst this;unfold drawOrder;exact wpAny_pure (h [] s.drawn (List.Perm.refl _))
 | n+1,[],s,Q,hl,h=>by simp at hl
 | n+1,a::l,s,Q,hl,h=>by unfold drawOrder;refine wpAny_bind (P2 (by simp) λi d hi=>?_);have e:(a::l)[i]? = some ((a::l)[i]):=getElem?_eq_getElem hi;rw [e];refine wpAny_bind (M4 n _ _ (by rw [List.length_eraseIdx_of_lt hi]; simp at hl ⊢; omega) λl' d' hp=>wpAny_pure ?_);exact h _ d' ((hp.cons _).trans (rB _ _ _ e).symm)
theorem M5{α:Type}(f:Nat->Nat):∀ (n k:Nat) (l:List α) (out:Array α),l.length<=n->(pickOrder.go f n k l out).toList.Perm (out.toList++l)
 | 0,k,l,out,h=>by have:l=[]:=List.length_eq_zero_iff.mp (Nat.le_zero.mp h);subst this;unfold pickOrder.go;rw [append_nil]
 | n+1,k,l,out,h=>by
  unfold pickOrder.go
  cases l with
  | nil=>simp
  | cons a l =>
   have hi:f k % (a::l).length<(a::l).length:=Nat.mod_lt _ (by simp);have e:(a::l)[f k % (a::l).length]? = some ((a::l)[f k % (a::l).length]):=getElem?_eq_getElem hi;rw [e];refine (M5 f n (k+1) _ _ (by rw [List.length_eraseIdx_of_lt hi]; simp at h ⊢; omega)).trans ?_;rw [Array.toList_push,List.append_assoc];exact List.Perm.append_left _ (rB _ _ _ e).symm
theorem uD{α:Type}(f:Nat->Nat)(xs:Array α):(pickOrder f xs).toList.Perm xs.toList:=by have q:=M5 f xs.size 0 xs.toList #[] (by simp);simpa [pickOrder] using q
section
variable{prog:Program}{w:World}{A:Around}{E:Q0Q}{s:Shared}
theorem sU{S:Addr}{o:Obj}{es:Array (Int×Value)}{ep:Nat}{t:SetTable}{Q:Option (Value×Nat)->Shared->Prop}(hw:eL w=false)(ho:s.heap.get? S=some o)(hd:o.data=.set es ep t)(hf:t.fits es.size=true)(q i:Nat)
  (h:Q (((pickOrder (w.params.setOrder S ep) es)[i]?).map λe=>(e.2,q)) s):wpAny (model prog w) A (setNext S q i ep) Q E s:=by
 have hb:w.params.followText "set-order" = true:=by unfold eL at hw; simpa using hw
 unfold setNext;apply wpAny_bind; refine wpAny_setState_of ho hd hf ?_;dsimp only;refine wpAny_bind (pM hb ?_);rw [if_pos rfl,if_neg (by simp)];refine wpAny_bind ?_;unfold setWalk;apply wpAny_bind; refine wpAny_setState_of ho hd hf ?_;dsimp only;refine wpAny_bind (pM hb ?_);rw [if_pos rfl];exact wpAny_bind (wpAny_askSetting (wpAny_pure (wpAny_pure h)))
theorem yE{h h':Heap}{I S:Addr}{f:Value}{i n ep:Nat}(x:rA h I S f i n ep)(k:∀ o,h.get? I=some o->h'.get? I=some o):rA h' I S f i n ep:=let ⟨o,a,b⟩:=x; ⟨o,k o a,b⟩
theorem EA{I S:Addr}{f:Value}{i n ep:Nat}{Q:Q0Q}(it:rA s.heap I S f i n ep)(h:Q (.ref I) s):wpAny (model prog w) A (pyIter (.ref I)) Q E s :=
 wpAny_pyIter_slot it.typeIs Si.B4 (wpAny_call_entry Si.B4 it.typeIs Si.J2 (wpAny_pure ⟨_,rfl,_,_,it.typeIs,Si.slot_next.lookup,h⟩) (Si.P0 _))
def slotAt(t:SetTable):Nat->Nat
 | 0=>0
 | i+1=>t.place.getD i 0+1
theorem yF{t:SetTable}(up:Up t.place.toList){i:Nat}(hi:i<=t.place.size):SetTable.below t.place (slotAt t i)=i:=by
 cases i with
 | zero=>exact GR up
 | succ i =>
  have e:t.place[i]? = some (t.place.getD i 0):=by rw [Array.getD_eq_getD_getElem?,Array.getElem?_eq_getElem (by omega)];rfl
  exact J0 up e
theorem yG{t:SetTable}{n:Nat}(h:t.fits n=true):t.place.size=n:=by unfold SetTable.fits at h;simp at h;exact h.1
theorem GX{I S:Addr}{o:Obj}{es:Array (Int×Value)}{ep:Nat}{t:SetTable}(hh:A.handled=none)(hw:eL w=true)(hIS:S≠I)(hd:o.data=.set es ep t)(hT:Q4 true t es.size)(hp:¬ (!t.plain&&es.size>1)=true) :
  Walks prog w A I [I,S] [I] es.size (λi v=>(es.toList.map (·.2))[i]? = some v) (λi h=>h.get? S=some o/\i<=es.size/\rA h I S (rawInt (slotAt t i)) i es.size ep) where
 sub:=λc hc=>by simp at hc; simp [hc]
 frame:=λi h h' st k=>⟨k S (by simp) o st.1,st.2.1,yE st.2.2 λo e=>k I (by simp) o e⟩
 item:=λi s R E hi st hQ=>by
  obtain ⟨ho,hle,it⟩:=st;have e1:es[i]? = some (es[i].1,es[i].2):=Array.getElem?_eq_getElem hi;have sz:=yG hT.fit;have e2:t.place[i]? = some (t.place.getD i 0):=by rw [Array.getD_eq_getD_getElem?,Array.getElem?_eq_getElem (by omega)];rfl
  refine GW (v:=es[i].2) (p:=slotAt t (i+1)) ho hd hT.fit it (λQ1 E1 q=>p9 hw ho hd hT hp (yF hT.up (by omega)) (by rw [e1,e2]; exact q) i) λh' it' sb=>?_;exact hQ _ h' s.toks (by simp [hi]) ⟨by rw [sb.2 S hIS]; exact ho,hi,it'⟩ λb u hb e=>by rw [sb.2 b (by simpa using hb)]; exact e
 done:=λs Q E st hQ=>by obtain ⟨ho,hle,it⟩:=st;have sz:=yG hT.fit;refine B5 hh ho hd hT.fit it (λQ1 E1 q=>p9 hw ho hd hT hp (yF hT.up (by omega)) (by rw [Array.getElem?_eq_none (by omega)]; exact q) es.size) λh' ex=>?_;exact hQ h' s.toks λb u hb e=>ex b u (by simpa using hb) e
 self:=λi s Q E st hQ=>EA st.2.2 hQ
theorem J3{I S:Addr}{o:Obj}{es:Array (Int×Value)}{ep:Nat}{t:SetTable}(hh:A.handled=none)(hw:eL w=false)(hIS:S≠I)(hd:o.data=.set es ep t)(hf:t.fits es.size=true) :
  Walks prog w A I [I,S] [I] es.size (λi v=>((pickOrder (w.params.setOrder S ep) es).toList.map (·.2))[i]? = some v) (λi h=>h.get? S=some o/\i<=es.size/\rA h I S (rawInt (0:Nat)) i es.size ep) where
 sub:=λc hc=>by simp at hc; simp [hc]
 frame:=λi h h' st k=>⟨k S (by simp) o st.1,st.2.1,yE st.2.2 λo e=>k I (by simp) o e⟩
 item:=λi s R E hi st hQ=>by
  obtain ⟨ho,hle,it⟩:=st;have sz:(pickOrder (w.params.setOrder S ep) es).size=es.size:=by have q:=(uD (w.params.setOrder S ep) es).length_eq; simpa using q
  generalize hP:pickOrder (w.params.setOrder S ep) es=P at sz hQ;have e1:P[i]? = some P[i]:=Array.getElem?_eq_getElem (by omega);refine GW (v:=P[i].2) (p:=0) ho hd hf it (λQ1 E1 q=>sU hw ho hd hf 0 i (by rw [hP,e1]; exact q)) λh' it' sb=>?_;have hi2:i<P.size:=by omega
  exact hQ _ h' s.toks (by simp [hi2]) ⟨by rw [sb.2 S hIS]; exact ho,hi,it'⟩ λb u hb e=>by rw [sb.2 b (by simpa using hb)]; exact e
 done:=λs Q E st hQ=>by
  obtain ⟨ho,hle,it⟩:=st;have sz:(pickOrder (w.params.setOrder S ep) es).size=es.size:=by have q:=(uD (w.params.setOrder S ep) es).length_eq; simpa using q
  refine B5 hh ho hd hf it (λQ1 E1 q=>sU hw ho hd hf 0 es.size (by rw [Array.getElem?_eq_none (by omega)]; exact q)) λh' ex=>?_;exact hQ h' s.toks λb u hb e=>ex b u (by simpa using hb) e
 self:=λi s Q E st hQ=>EA st.2.2 hQ
theorem GY{I S T:Addr}{o:Obj}{es:Array (Int×Value)}{ep:Nat}{t:SetTable}{js:List Nat}(hh:A.handled=none)(hIS:S≠I)(hTI:T≠I)(hd:o.data=.set es ep t)(hf:t.fits es.size=true)(hj:js.Perm (List.range es.size)) :
  Walks prog w A I [I,S,T] [I] es.size (λi v=>((js.map λj=>(es.toList.map (·.2)).getD j .none))[i]? = some v)
   (λi h=>h.get? S=some o/\h.IsTuple T ((js.map λj:Nat=>rawInt (j:Int)).toArray)/\rA h I S (.ref T) i es.size ep) where
 sub:=λc hc=>by simp at hc; simp [hc]
 frame:=λi h h' st k=>⟨k S (by simp) o st.1,st.2.1.at λo e=>k T (by simp) o e,yE st.2.2 λo e=>k I (by simp) o e⟩
 item:=λi s R E hi st hQ=>by
  obtain ⟨ho,ht,it⟩:=st;have hl:js.length=es.size:=by have q:=hj.length_eq; simpa using q
  have hi2:i<js.length:=by omega
  have hlt:js[i]<es.size:=by have q:=hj.mem_iff.1 (getElem_mem hi2); simpa using q
  have e1:es[js[i]]? = some (es[js[i]].1,es[js[i]].2):=Array.getElem?_eq_getElem hlt;refine V5 (j:=js[i]) (v:=es[js[i]].2) ho hd hf it ht (by simp [hi2]) e1 λh' it' sb=>?_;exact hQ _ h' s.toks (by simp [hi2,hlt]) ⟨by rw [sb.2 S hIS]; exact ho,ht.at λo e=>by rw [sb.2 T hTI]; exact e,it'⟩ λb u hb e=>by rw [sb.2 b (by simpa using hb)]; exact e
 done:=λs Q E st hQ=>by
  obtain ⟨ho,ht,it⟩:=st;have hl:js.length=es.size:=by have q:=hj.length_eq; simpa using q
  refine P1 hh ho hd hf it ht (by simp [hl]) λh' ex=>?_;exact hQ h' s.toks λb u hb e=>ex b u (by simpa using hb) e
 self:=λi s Q E st hQ=>EA st.2.2 hQ
end
section
variable{prog:Program}{w:World}{A:Around}{E:Q0Q}{s:Shared}
def Gives(prog:Program)(w:World)(I:Addr)(fp:List Addr)(vs:List Value)(h:Heap):Prop :=
 ∃ (n:Nat) (P:Nat->Value->Prop) (St:Nat->Heap->Prop),n=vs.length/\(∀ i v,P i v->vs[i]? = some v)/\St 0 h /\ ∀ A:Around,A.handled=none->Walks prog w A I fp [I] n P St
theorem V6{S:Addr}{o:Obj}{es:Array (Int×Value)}{ep:Nat}{t:SetTable}{Q:Bool->Shared->Prop}(ho:s.heap.get? S=some o)(hd:o.data=.set es ep t)(hf:t.fits es.size=true)
  (h:Q (eL w&&(!t.plain&&es.size>1)) s):wpAny (model prog w) A (setDrawn S) Q E s:=by
 unfold setDrawn;apply wpAny_bind; refine wpAny_setState_of ho hd hf ?_;dsimp only;refine wpAny_bind (pM (b:=!eL w) (by unfold eL; simp) (wpAny_pure ?_));rw [Bool.not_not];exact h
theorem V7{S:Addr}{o:Obj}{ns:List Int}{Q:Q0Q}(ho:s.heap.get? S=some o)(hi:pW (eL w) o ns)
  (h:∀ h' d I fp vs ms,(∀ b u,s.heap.get? b=some u->h'.get? b=some u)->(∀ b∈fp,b=S\/s.heap.objs.size<=b)->s.heap.objs.size<=I->IntsAre vs ms->ms.Perm ns->Gives prog w I fp vs h'->Q (.ref I) { s with heap:=h',drawn:=d }) :
  wpAny (model prog w) A (pyIter (.ref S)) Q E s:=by
 obtain ⟨es,ep,t,hx,hd,hE,hp,hT,hs⟩:=hi;have tS:s.TypeIs (.ref S) "set" := ⟨o,ho,hx.1⟩;have lS:=lt_size ho;have aAw:∀ l:List (Int×Value),(∀ e∈l,GU e)->IntsAre (l.map (·.2)) (l.map qZ):=by
  intro l
  induction l with
  | nil=>intro _; exact .nil
  | cons e l ih =>
   intro he;obtain ⟨m,tk,rfl⟩:=he e mem_cons_self;exact .cons m tk (ih λx hx=>he x (mem_cons_of_mem _ hx))
 refine wpAny_pyIter_slot tS F.slot_set_iter (wpAny_call_entry F.slot_set_iter tS Si.yD ?_ (F.args_set_iter_1 _));unfold Builtin.«frozenset.__iter__» Builtin.Frozenset.slot0 Builtin.Frozenset.sizeOf;have step:∀ (f:Value) (h1:Heap) (d:Drawn),(∀ b u,s.heap.get? b=some u->h1.get? b=some u)->(∀ I:Addr,I=h1.objs.size->Q (.ref I) { s with heap:=h1.push { cls:=.type "set_iterator",data:=.fields #[f,rawInt (0:Nat),.ref S,rawInt es.size,rawInt ep] },drawn:=d }) ->
   wpAny (model prog w) A.in1 (do ret (<- newFields "set_iterator" [f,rawInt 0,.ref S,rawInt es.size,rawInt (<- setEpoch S)])) (λfin s'=>∃ v,fin=.done (.ret v) /\ ∃ T' r,s'.TypeIs v T'/\typeLookup (.type T') "__next__" = pure (some r)/\Q v s') E { s with heap:=h1,drawn:=d }:=λf h1 d keep q=>by
  refine wpAny_bind (wpAny_setEpoch_of (s:={ s with heap:=h1,drawn:=d }) (keep S o ho) hd hT.fit ?_);refine wpAny_bind (wpAny_newObj_type (wpAny_pure ⟨_,rfl,_,_,⟨_,get?_push_size _ rfl,rfl⟩,Si.slot_next.lookup,q _ rfl⟩))
 wp_walk using wpAny_setEntries_of ho hd hT.fit,V6 ho hd hT.fit
 by_cases hdr:(eL w&&(!t.plain&&decide (es.size>1)))=true
 .rw [if_pos hdr];rw [Bool.and_eq_true] at hdr;refine wpAny_bind (M4 es.size (List.range es.size) s (by simp) λjs d hj=>?_);have lj:js.length=es.size:=by have q:=hj.length_eq; simpa using q
  refine wpAny_bind (wpAny_newTuple ?_ (by rw [length_map,lj]; exact fits_of_scanBound hs));refine step (.ref s.heap.objs.size) _ d (λb u e=>get?_push_of_some _ e) λI eI=>?_;have zI:@Eq Nat I (s.heap.objs.size+1):=by rw [eI,Heap.size_push]
  have nSI:S≠I:=λz=>by rw [z,zI] at lS; exact absurd (Nat.lt_of_succ_lt lS) (lt_irrefl _)
  have nTI:s.heap.objs.size≠I:=λz=>by rw [zI] at z; exact Nat.succ_ne_self _ z.symm
  have gI:s.heap.objs.size<=I:=by rw [zI]; exact Nat.le_succ _
  refine h _ d I [I,S,s.heap.objs.size] (js.map λj=>(es.toList.map (·.2)).getD j .none) (js.map λj=>(es.toList.map qZ).getD j 0) (λb u e=>get?_push_of_some _ (get?_push_of_some _ e)) (λb hb=>?_) gI ?_ ?_ ⟨es.size,_,_,by simp [lj],λi v q=>q,?_,λA' hA=>GY hA (t:=t) nSI nTI hd hT.fit hj⟩
  .simp only [List.not_mem_nil,mem_cons,or_false] at hb;rcases hb with z | z | z
   .exact .inr (z▸gI)
   .exact .inl z
   .exact .inr (Nat.le_of_eq z.symm)
  .have all:∀ l:List Nat,(∀ j∈l,j<es.size)->IntsAre (l.map λj=>(es.toList.map (·.2)).getD j .none) (l.map λj=>(es.toList.map qZ).getD j 0):=by
    intro l
    induction l with
    | nil=>intro _; exact .nil
    | cons j l ih =>
     intro hl;have hj1:=hl j mem_cons_self;obtain ⟨m,tk,e⟩:=hE es[j] (by simp [Array.getElem_mem]);have e1:(es.toList.map (·.2)).getD j .none=.int m tk:=by simp [hj1,e]
     have e2:(es.toList.map qZ).getD j 0=m:=by simp [hj1,e,qZ]
     rw [map_cons,map_cons,e1,e2];exact .cons m tk (ih λx hx=>hl x (mem_cons_of_mem _ hx))
   exact all js λj hm=>by have q:=hj.mem_iff.1 hm; simpa using q
  .refine ((hj.map _).trans ?_).trans hp;have e:(List.range es.size).map (λj=>(es.toList.map qZ).getD j 0)=es.toList.map qZ:=by
    refine List.ext_getElem? λi=>?_;by_cases hi:i<es.size
    .simp [hi]
    .simp [hi]
   rw [e]
  .refine ⟨get?_push_of_some _ (get?_push_of_some _ ho),⟨_,get?_push_of_some _ (get?_push_size _ rfl),rfl,_,rfl⟩,⟨_,by rw [eI]; exact get?_push_size _ rfl,rfl,rfl⟩⟩
 .rw [if_neg hdr];refine wpAny_bind (wpAny_pure (step (rawInt 0) s.heap s.drawn (λb u e=>e) λI eI=>?_));have gI:s.heap.objs.size<=I:=Nat.le_of_eq eI.symm;have nSI:S≠I:=λz=>by rw [z,eI] at lS; exact absurd lS (lt_irrefl _)
  have at0:∀ f,rA (s.heap.push { cls:=.type "set_iterator",data:=.fields #[f,rawInt (0:Nat),.ref S,rawInt es.size,rawInt ep] }) I S f 0 es.size ep:=λf=>⟨_,by rw [eI]; exact get?_push_size _ rfl,rfl,rfl⟩;have fpo:∀ b∈[I,S],b=S\/s.heap.objs.size<=b:=λb hb=>by
   simp only [List.not_mem_nil,mem_cons,or_false] at hb;rcases hb with z | z
   .exact .inr (z▸gI)
   .exact .inl z
  cases hw:eL w with
  | true =>
   have hpl:¬ (!t.plain&&es.size>1)=true:=λz=>hdr (by rw [hw,z]; rfl);exact h _ s.drawn I [I,S] (es.toList.map (·.2)) (es.toList.map qZ) (λb u e=>get?_push_of_some _ e) fpo gI (aAw _ hE) hp
    ⟨es.size,_,_,by simp,λi v q=>q,⟨get?_push_of_some _ ho,Nat.zero_le _,at0 _⟩,λA' hA=>GX hA hw nSI hd (hw▸hT) hpl⟩
  | false =>
   have pp:=uD (w.params.setOrder S ep) es;exact h _ s.drawn I [I,S] ((pickOrder (w.params.setOrder S ep) es).toList.map (·.2)) ((pickOrder (w.params.setOrder S ep) es).toList.map qZ) (λb u e=>get?_push_of_some _ e) fpo gI (aAw _ λe he=>hE e (pp.mem_iff.1 he)) ((pp.map qZ).trans hp)
    ⟨es.size,_,_,by have q:=pp.length_eq; simp at q ⊢; omega,λi v q=>q,⟨get?_push_of_some _ ho,Nat.zero_le _,at0 _⟩,λA' hA=>J3 hA hw nSI hd hT.fit⟩
theorem V8{S:Addr}{o:Obj}{Q:Bool->Shared->Prop}(ho:s.heap.get? S=some o)(hc:o.cls=.type "set")(h:Q false s):wpAny (model prog w) A (Builtin.List.listLengthHint (.ref S)) Q E s:=by
 have tS:s.TypeIs (.ref S) "set" := ⟨o,ho,hc⟩;have e:splitId "set.__len__" = some ("set", "__len__"):=by kernel_rfl
 show wpAny _ _ (Builtin.List.listLengthHint _) _ _ _; unfold Builtin.List.listLengthHint;refine wpAny_bind (wpAny_specialOf tS F.slot_set_len.lookup ?_);dsimp only;rw [e];dsimp only;refine wpAny_bind (wpAny_isInstance tS sub_set_self ?_);rw [if_neg (by decide),if_pos (by kernel_rfl)];exact wpAny_bind (wpAny_typeOf tS (wpAny_pure h))
theorem J4{L S:Addr}{o:Obj}{ns:List Int}{c0:Nat}{res:Value}{R:Result->Shared->Prop}(hh:A.handled=none)(ho:s.heap.get? S=some o)(hi:pW (eL w) o ns)(hL:s.heap.get? L=some { cls:=.type "list",data:=.seq #[] c0 })
  (hR:∀ h' d tk acc c' ms,(∀ b u,b≠L->s.heap.get? b=some u->h'.get? b=some u)->h'.get? L=some { cls:=.type "list",data:=.seq acc c' }->IntsAre acc.toList ms->ms.Perm ns->R (.ok (.ret res)) { s with heap:=h',drawn:=d,toks:=tk }) :
  wpAny (model prog w) A.in1 (Builtin.List.listExtendWith (.ref L) (.ref S) res) (λfin s'=>match fin with | .done f=>R (.ok f) s' | .again c'=>c'.quiet=true/\codeAny (model prog w) A c' R s') (λe s'=>R (.error e) s') s:=by
 have hx:o.ExactSet:=by obtain ⟨_,_,_,hx,_⟩:=hi; exact hx
 have hns:ns.length<scanBound:=by obtain ⟨es,_,_,_,_,_,hp,_,hs⟩:=hi; rw [<- hp.length_eq]; simpa using hs
 have nLS:L≠S:=λz=>by rw [z,ho] at hL; cases hL; have q:=hx.1; simp at q
 have lL:=lt_size hL;show wpAny _ _ (Builtin.List.listExtendWith _ _ _) _ _ _; unfold Builtin.List.listExtendWith;refine wpAny_bind (wpAny_typeOf (T := "set") ⟨o,ho,hx.1⟩ ?_);have e1:Builtin.List.listSameRef (.ref L) (.ref S)=false:=by simp [Builtin.List.listSameRef,nLS]
 rw [if_neg (by rw [e1]; decide)];refine wpAny_bind (V7 (A:=A.in1) ho hi λh1 d I fp vs ms keep hfp gI hv hm gv=>?_);refine wpAny_bind (wpAny_holding (V8 (s:={ s with heap:=h1,drawn:=d }) (keep S o ho) hx.1 ?_));rw [if_pos (by kernel_rfl)];unfold Builtin.List.listTouch;have g1:=keep L _ hL;have gb:∀ (f:Array Value->Array Value) (g:Heap) (c:Nat) (xs:Array Value),g.get? L=some { cls:=.type "list",data:=.seq xs c } -> ∃ c',(g.update L (Obj.mapSeq f)).get? L=some { cls:=.type "list",data:=.seq (f xs) c' }:=λf g c xs e=>⟨_,get?_update_seq e f⟩;refine wpAny_bind (wpAny_rule (wpAny_bind (wpAny_bind (listUpdate_at (s:={ s with heap:=h1,drawn:=d }) g1 rfl ?_ (Nat.zero_le _) (by simp)))));obtain ⟨c2,g2⟩:=gb (·.push .none) h1 _ _ g1;refine listUpdate_at (s:={ s with heap:=h1.update L (Obj.mapSeq (·.push .none)),drawn:=d }) g2 rfl ?_ (by simp; rw [sizeLine_eq]; omega) (by simp);obtain ⟨c3,g3⟩:=gb (·.pop) _ _ _ g2;obtain ⟨n,P,St,en,hP,st0,W⟩:=gv;have nLI:L≠I:=λz=>by rw [z] at lL; exact absurd (lt_of_lt_of_le lL gI) (lt_irrefl _)
 have nLf:L∉fp:=λz=>by
  rcases hfp L z with q | q
  .exact nLS q
  .exact absurd (lt_of_lt_of_le lL q) (lt_irrefl _)
 have W1:=(W A.in1 hh).toS;have nn:n<=sizeLine:=by rw [en,IntsAre.length hv,hm.length_eq]; exact fits_of_scanBound hns
 refine wpAny_pure ⟨plainId_quiet F.plain_extend_loop _,codeAny_extend_loopS W1 nn L nLf res n 0 _ #[] _ rfl (Nat.zero_le _) (W1.frame 0 { s with heap:=h1,drawn:=d } _ s.toks st0 (le_refl _) λb hb u e=>?_) g3 (ItemsOf.nil _) λs' acc c' mv hL' it=>?_⟩
 .have nb:L≠b:=λz=>nLf (z▸hb);exact (Heap.get?_update_other _ _ nb).trans ((Heap.get?_update_other _ _ nb).trans e)
 .have es':s' = { s with heap:=s'.heap,drawn:=d,toks:=s'.toks }:=by obtain ⟨h',g',d',t',o'⟩:=s';have q1:=mv.gens;have q2:=mv.drawn;have q3:=mv.os;dsimp only at q1 q2 q3;subst q1;subst q2;subst q3;rfl
  have ev:acc.toList=vs:=by
   refine List.ext_getElem? λj=>?_;by_cases hj:j<n
   .have e1:acc[j]? = some (acc[j]'(by rw [it.1]; exact hj)):=Array.getElem?_eq_getElem _;rw [Array.getElem?_toList,e1];exact (hP j _ (it.2 j _ e1)).symm
   .rw [getElem?_eq_none (by simp [it.1]; omega),getElem?_eq_none (by omega)]
  rw [es'];refine hR _ d _ acc c' ms (λb u nb e=>mv.heap b u (λz=>?_) ?_) hL' (ev▸hv) hm
  .rcases List.mem_cons.1 z with q | q
   .exact nb q
   .rw [mem_singleton] at q;rw [q] at e;exact absurd (lt_of_lt_of_le (lt_size e) gI) (lt_irrefl _)
  .exact (Heap.get?_update_other _ _ (Ne.symm nb)).trans ((Heap.get?_update_other _ _ (Ne.symm nb)).trans (keep b u e))
end
section
variable{prog:Program}{w:World}{A:Around}{E:Q0Q}{s:Shared}
theorem GZ{S:Addr}{o:Obj}{ns:List Int}{Q:List Value->Shared->Prop}(hh:A.handled=none)(ho:s.heap.get? S=some o)(hi:pW (eL w) o ns)
  (h:∀ h' d tk vs ms,s.heap.objs.size<=h'.objs.size->(∀ b u,s.heap.get? b=some u->h'.get? b=some u)->IntsAre vs ms->ms.Perm ns->Q vs { s with heap:=h',drawn:=d,toks:=tk }):wpAny (model prog w) A (collect (.ref S)) Q E s:=by
 unfold collect;apply wpAny_bind;apply wpAny_runValue;refine codeAny_builtin F.entry_proto_collect ?_;rw [Around.under_plainId F.plain_proto_collect]
 wp_walk
 refine ⟨plainId_quiet F.plain_list_iadd _,codeAny_builtin F.entry_list_iadd ?_⟩;rw [Around.under_plainId F.plain_list_iadd];refine J4 (R:=wants _ _) (s:={ s with heap:=s.heap.push { cls:=.type "list",data:=.seq #[] } }) hh (get?_push_of_some _ ho) hi (get?_push_size _ rfl) λh' d tk acc c' ms keep gL hv hm=>?_;apply wpAny_bind;apply wpAny_load gL;exact wpAny_pure (h h' d tk acc.toList ms (Nat.le_of_lt (lt_size gL)) (λb u e=>keep b u (ne_of_lt (lt_size e)) (get?_push_of_some _ e)) hv hm)
theorem J5{S:Addr}{o:Obj}{ns:List Int}{Q:Q0Q}(hh:A.handled=none)(ho:s.heap.get? S=some o)(hi:pW (eL w) o ns)(h64:ns.length<64)
  (h:∀ h' d tk l out ns' e,(∀ b u,s.heap.get? b=some u->h'.get? b=some u)->s.heap.objs.size<=l->IntsAre out ns'->ns'.Perm ns->ns'.Pairwise (· <= ·)->h'.get? l=some (seqObj "list" out.toArray e)->Q (.ref l) { s with heap:=h',drawn:=d,toks:=tk }) :
  wpAny (model prog w) A (call (.builtin "sorted") [.ref S]) Q E s:=by
 apply Calls.call_function_entry kind_sorted plain_sorted entry_sorted (args_sorted1 _);unfold Builtin.«sorted»;refine wpAny_bind (m:=checkCount "sorted" 1 1 _) (wpAny_pure (wpAny_bind (GZ (A:=A.in1) hh ho hi λh1 d tk vs ms l1 keep hv hm=>?_)));have lv:vs.length<64:=by rw [IntsAre.length hv,hm.length_eq]; exact h64
 apply wpAny_bind; refine wpAny_newList ?_ (by rw [sizeLine_eq]; omega);have g1:(h1.push (seqObj "list" vs.toArray 0)).get? h1.objs.size=some (seqObj "list" vs.toArray 0):=get?_push_size _ rfl;refine wpAny_bind (wpAny_holding (wpAny_call_entry slot_list_sort ⟨_,g1,rfl⟩ entry_list_sort (list_sort_tree g1 hv lv λout ns' a1 a2 a3=>⟨_,rfl,?_⟩) (args_list_sort _)));obtain ⟨e,g2⟩:=sortedHeap_at (out:=out) g1;refine wpAny_pure ⟨_,rfl,h _ d tk _ out.toList ns' e (λb u q=>?_) l1 a1 (a2.trans hm) a3 (by simpa using g2)⟩;have lb:=lt_size (keep b u q);rw [sortedHeap_old (ne_of_lt lb) (by rw [Heap.size_push]; exact Nat.lt_succ_of_lt lb)];exact get?_push_of_some _ (keep b u q)
end
end L6
end
section
namespace L6
open PySem PySem.Spec PyProof.Rows L2 L3 L4
theorem uX:∀ (ks ns:List Int),iJ ns ks=ks.foldl putN ns
 | [],ns=>rfl
 | k::ks,ns=>by rw [iJ,uX ks,foldl_cons];rfl
theorem yH:∀ (ks ns:List Int),(iJ ns ks).length<=ns.length+ks.length
 | [],ns=>le_refl _
 | k::ks,ns=>by have a:=yH ks (J1 ns k);have b:=GV ns k;rw [iJ,length_cons];omega
def aDH(w:World)(a:Addr)(ns:List Int):HO:=.ext λh=>∃ o,h.get? a=some o/\pW (eL w) o ns
section
variable{X:Cx}
theorem P3{pins:List (Addr×Obj)}{U:L2.St}{H:Hp}{s:Shared}{d:Drawn}(I:Inv X pins U H s):Inv X pins U H { s with drawn:=d }:=⟨I.ok,I.os,I.bare,I.base,I.loc,I.cell,I.free,I.mI,I.pin,I.hok,I.len⟩
def aLw(w:World)(K:W.Frag):List V->Hp->VK->Prop:=λxs H Q=>∃ (a:Addr) (ns:List Int),xs=[.ref a]/\gA K H a (ns.map V.int)/\ns.length<64 /\ ∀ p,H p=none->Q (.ref p) (upd H p (aDH w p (iJ [] ns)))
theorem P4(hc:X.calm=true):jI X (.type "set") (aLw X.w X.K):=by intro pins s U H xs us Q I r h;obtain ⟨a,ns,rfl,ha,h64,q⟩:=h;obtain ⟨u,rfl,ru⟩:=vals1 r;cases ru;obtain ⟨its,rv,pl,hz⟩:=I.tuple ha;have hi:=intsAre_of rv;obtain ⟨ot,hot,hct,nt,hdt⟩:=id pl;refine V4 (items:=its.toArray) (ns:=ns) (I.ok.hd hc) (by simpa using hi) pl (by unfold scanBound; omega) λh' tk o' keep g i=>?_;refine ⟨.ref s.heap.objs.size,_,I.laid (t':=tk) (o:=aDH X.w s.heap.objs.size (iJ [] ns)) keep (le_refl _) ⟨⟨o',g,i⟩,⟨o',g⟩,λh1 h2 z k=>?_⟩,rfl,q _ (I.hok.fresh (le_refl _))⟩;obtain ⟨o2,e2,i2⟩:=z;exact ⟨o2,k o2 e2,i2⟩
def aDI(w:World):List V->Hp->VK->Prop:=λxs H Q=>∃ (a:Addr) (ns:List Int),xs=[.ref a]/\H a=some (aDH w a ns)/\ns.length<64 /\ ∀ ns':List Int,ns'.Perm ns->ns'.Pairwise (· <= ·) -> ∀ p,H p=none->Q (.ref p) (upd H p (.lst (ns'.map V.int)))
theorem J6(hc:X.calm=true):jI X (.builtin "sorted") (aDI X.w):=by
 intro pins s U H xs us Q I r h;obtain ⟨a,ns,rfl,ha,h64,q⟩:=h;obtain ⟨u,rfl,ru⟩:=vals1 r;cases ru;obtain ⟨⟨o,ho,hi⟩,_⟩:=I.hok a _ ha;refine J5 (I.ok.hd hc) ho hi h64 λh' d tk l out ns' e keep hl a1 a2 a3 g=>?_;have hz2:ns'.length<=sizeLine:=by rw [a2.length_eq,sizeLine_eq]; omega
 have I1:=I.laid (t':=tk) (a:=l) (o:=.lst (ns'.map V.int)) keep hl ⟨by rw [length_map]; exact hz2,out,e,pI a1,by simpa [seqObj] using g⟩;exact ⟨.ref l,_,P3 (d:=d) I1,rfl,q ns' a2 a3 l (I.hok.fresh hl)⟩
theorem J7{p pos p2 pos2:Pos}{e:Expr}{t:AF}(hc:X.calm=true)(hm:X.mg "sorted" = none)(hms:X.mg "set" = none)(ha:zZ X [e] t)(hg:Gl X "sorted" := by rfl)(hgs:Gl X "set" := by rfl)
  (hs:starEach [e] X.env=(false,eval e X.env)::starEach [] X.env:=by rfl) (he:starEach [.Call (.Name "set" p2) [e] [] pos2] X.env=(false,eval (.Call (.Name "set" p2) [e] [] pos2) X.env)::starEach [] X.env:=by rfl) :
  pL X (.Call (.Name "sorted" p) [.Call (.Name "set" p2) [e] [] pos2] [] pos) (bF gF t) :=
 imp (sH (J6 hc) hg hm PyProof.Rows.boot_sorted (nE (pH (P4 hc) hgs hms PySem.Pv.boot_set ha (by decide) (by decide) hs (by rfl)) xM he) (by decide) (by decide) he (by rfl)) λU H Q aGO=>by
  obtain ⟨S,Z,Q3,fc,sl,⟨d,ed,q3⟩,k⟩:=aGO;obtain ⟨ds,eds,ed⟩:=bnd ed;refine ⟨S,Z,λes=>es=ds,fc,sl,⟨_,eds,rfl⟩,λvs H1 es s1 d1 q1=>?_⟩;subst q1;unfold gF at ed;split at ed
  .rename_i a;obtain ⟨ns,e1,ed⟩:=bnd ed;by_cases hl:ns.length<64
   .rw [if_pos hl] at ed;cases ed;rw [ints_of e1] at d1;obtain ⟨v,r,rfl,h1,h2⟩:=d1.bV;simp only [bC] at h2;subst h2;simp only [Dn] at h1;obtain ⟨t1,xs,rfl,ht,dt⟩:=h1;rw [bC.ints.mp dt] at ht;refine ⟨t1,ns,rfl,(gA.of ht),hl,λp hp=>⟨p,iJ [] ns,rfl,bD,Nat.lt_of_le_of_lt (yH ns []) (by simpa using hl),λns' pm so l hl2=>?_⟩⟩;have e3:ns' = sortI (CM ns):=by have e4:iJ [] ns=CM ns:=uX ns [];rw [e4] at pm;exact qW (pm.trans (oN _).symm) so (lU _)
    subst e3;have l1:H1 l=none:=(aX hp).free hl2;exact k l _ _ _ (s1.free l1) bD ((s1.trans (aX hp)).trans (aX hl2)) (bC.ints.mpr rfl) q3
   .rw [if_neg hl] at ed; cases ed
  .cases ed
end
section
variable{X:Cx}
theorem aLx{i j:Nat}{x y:Str}{a b:Expr}{t:AF}{px py pt:Pos}{kt k2 N8}{pos:Pos}(hc:X.calm=true)(hN:X.N.Nodup)(ha:zZ X [a,b] t)(hi:X.N[i]? = some x:=by rfl)(hj:X.N[j]? = some y:=by rfl)(hij:i≠j:=by decide)
  (hx:X.env.scope.names.lookup x=some .local:=by rfl) (hy:X.env.scope.names.lookup y=some .local:=by rfl)
  (hw:swappedStores [.Tuple [.Name x px,.Name y py] kt pt] (.Tuple [a,b] k2 N8) X.env=pure (some [x,y]):=by rfl)
  (hs:swapsWithSole [.Tuple [.Name x px,.Name y py] kt pt] (.Tuple [a,b] k2 N8) pos.line X.env=pure false:=by rfl) :
  tJ X (.Assign [.Tuple [.Name x px,.Name y py] kt pt] (.Tuple [a,b] k2 N8) pos) (ND i j t) :=
 j3 (aBs hc hN hi hj hij hx hy ha hw hs) λB U H aGP=>by
  obtain ⟨H₀,S,w,Z,G,E,hl,st,ht,ok⟩:=aGP;unfold wS ND at ht
  cases et:t (kD Z) with
  | none=>rw [et] at ht; exact ht.elim
  | some ds =>
   rw [et] at ht
   match ds,et,ht with
   | [d1,d2],et,ht =>
    refine ⟨_,kD Z,λes=>es=[d1,d2],st.UM,st.rd,⟨_,et,rfl⟩,λvs H1 es s1 q1 e=>?_⟩;subst e;obtain ⟨v1,r,rfl,q2,q3⟩:=q1.bV;obtain ⟨v2,r2,rfl,q4,q5⟩:=q3.bV;simp only [bC] at q5;subst q5;refine ⟨v1,v2,rfl,?_⟩;have st1:=(st.same s1).nF (by rw [hl]; exact iO hi) q2;have m:∀ a,SO S w Z a->SO S w (Z.set i (.ro d1)) a:=SO.mono λk e he=>by
     rcases get_set he with ⟨_,z,_⟩ | z
     .cases z
     .exact ⟨e,z.2⟩
    have st2:=st1.nF (i:=j) (by rw [length_set,hl]; exact iO hj) (Dn.fits (.mono m) _ _ q4);exact ok.nx w _ H1 _ (by rw [length_set,length_set]; exact hl) st2 ht
   | [],et,ht=>exact ht.elim
   | [_],et,ht=>exact ht.elim
   | _::_::_::_,et,ht=>exact ht.elim
end
section
variable{prog:Program}{w:World}{A:Around}{E:Q0Q}{s:Shared}
end
section
variable{X:Cx}
end
section
variable{X:Cx}
end
end L6
end
section
namespace L7
open PySem PySem.Spec PyProof.Rows L2 L3 L4 LL
def kI(ns:List Int):List Key:=ns.map Sum.inl
theorem aGQ(ns:List Int):(kI ns).map kV=ns.map V.int:=by unfold kI;rw [map_map];rfl
theorem V9:∀ {a b:List Int},kI a=kI b->a=b
 | [],[],_=>rfl
 | [],_::_,h=>by cases h
 | _::_,[],h=>by cases h
 | x::a,y::b,h=>by unfold kI at h;rw [map_cons,map_cons] at h;injection h with h1 h2;injection h1 with h1;rw [h1,V9 h2]
section
variable(rd:List Int->List (List Int))
def Memo(n:Nat)(kvs:List (List Key×V)):Prop:=∀ k v,iB kvs k=some v -> ∃ ns:List Int,k=kI ns/\v=.int (Wf rd (n - ns.length) ns)
theorem Memo.put{rd:List Int->List (List Int)}{n:Nat}{kvs:List (List Key×V)}(h:Memo rd n kvs)(a:List Int):Memo rd n (putK kvs (kI a) (.int (Wf rd (n - a.length) a))):=λk v e=>by
 rw [UE] at e;split at e
 .rename_i z;cases e;exact ⟨a,z,rfl⟩
 .exact h k v e
theorem Memo.at{rd:List Int->List (List Int)}{n:Nat}{kvs:List (List Key×V)}(h:Memo rd n kvs){a:List Int}{v:V}(e:iB kvs (kI a)=some v):v=.int (Wf rd (n - a.length) a):=by obtain ⟨ns,e1,e2⟩:=h _ _ e;rw [V9 e1];exact e2
def But(p:Addr)(H H':Hp):Prop:=∀ b o,b≠p->H b=some o->H' b=some o
theorem But.trans{p:Addr}{H H1 H2:Hp}(a:But p H H1)(b:But p H1 H2):But p H H2:=λc o n h=>b c o n (a c o n h)
theorem But.upd{p:Addr}{H:Hp}{o:HO}:But p H (upd H p o):=λc q n h=>by rw [bQ n]; exact h
abbrev All:Addr->Prop:=λ_=>True
end
def At(K:W.Frag)(x:List (List Int))(a:List Int)(p:Addr)(U:L2.St)(H:Hp):Prop :=
 ∃ vo va,U[0]? = some (some vo)/\Dn K All H (aJ x) vo/\U[1]? = some (some va)/\Dn K All H (tupI a) va/\U[2]? = some (some (.ref p))
theorem At.key{x:List (List Int)}{a:List Int}{p:Addr}{U:L2.St}{H:Hp}(h:At K x a p U H):∃ b,U[1]? = some (some (.ref b))/\H b=some (.tup ((kI a).map kV)):=by obtain ⟨vo,va,h1,h2,h3,h4,h5⟩:=h;unfold tupI at h4;simp only [Dn] at h4;obtain ⟨b,ys,rfl,hb,db⟩:=h4;rw [bC.ints.mp db] at hb;exact ⟨b,h3,by rw [aGQ]; exact hb⟩
theorem At.slot{x:List (List Int)}{a:List Int}{p:Addr}{U:L2.St}{H:Hp}(h:At K x a p U H):U[2]? = some (some (.ref p)):=by obtain ⟨vo,va,h1,h2,h3,h4,h5⟩:=h;exact h5
section
variable{K:W.Frag}{rd:List Int->List (List Int)}{x:List (List Int)}{Ok:List Int->Prop}{a:List Int}{p:Addr}{U:L2.St}{H:Hp}{kvs:List (List Key×V)}
structure Parts (K:W.Frag) (rd:List Int->List (List Int)) (x:List (List Int)) (a:List Int) (C1:TT) (T1:TE) (T3:TS):Prop where
 c1:∀ p U H Q,At K x a p U H->(∀ H',Same H H'->Q (decide (a.length=x.length)) H')->C1 U H Q
 t1:∀ U H (Q:VK),(∀ H',Same H H'->Q (.int 1) H')->T1 U H Q
 t3:∀ p (D:Ends) U H,U.length=4->At K x a p U H->a.length<x.length->(∀ (σ':L2.St) (H':Hp) (l:Addr) (ps:List Addr),Same H H'->At K x a p σ' H'->σ'[3]? = some (some (.ref l))->H' l=some (.lst (ps.map V.ref))->ps.length=(rd a).length ->
  (∀ (i:Nat) (q:Addr) (b:List Int),ps[i]? = some q->(rd a)[i]? = some b->H' q=some (.tup (b.map V.int)))->D.nx σ' H')->T3 D U H
end
section
variable{K:W.Frag}{rd:List Int->List (List Int)}{x:List (List Int)}{Ok:List Int->Prop}{a:List Int}{p:Addr}{U:L2.St}{H:Hp}{kvs:List (List Key×V)}
def wst(x:List (List Int))(a:List Int)(p:Addr):aP:=[.ro (aJ x),.ro (tupI a),.ro (.exc "" p),.no]
theorem At.st(h:At K x a p U H):ST K H All (λ_=>0) U H (wst x a p) []:=by
 have no:∀ (i:Nat) (d:D),(wst x a p)[i]?≠some (Sv.ow d):=λi d e=>by
  match i,e with
  | 0,e=>cases e
  | 1,e=>cases e
  | 2,e=>cases e
  | 3,e=>cases e
  | n+4,e=>simp [wst] at e
 obtain ⟨vo,va,h1,h2,h3,h4,h5⟩:=h;refine ⟨λ_ _=>trivial,Same.refl H,λi d e=>absurd e (no i d),λi j d e h=>absurd h (no i d),λi d e=>?_,λg hg=>by cases hg⟩;have m:∀ b,All b->SO All (λ_=>0) (wst x a p) b:=λb _=>⟨trivial,λi d e=>absurd e (no i d)⟩
 match i,e with
 | 0,e=>cases e; exact ⟨vo,h1,Dn.fits (.mono m) _ _ h2⟩
 | 1,e=>cases e; exact ⟨va,h3,Dn.fits (.mono m) _ _ h4⟩
 | 2,e=>cases e; exact ⟨_,h5,by simp only [Dn]⟩
 | 3,e=>cases e
 | n+4,e=>simp [wst] at e
end
end L7
end
section
namespace L7
open PySem PySem.Spec PyProof.Rows
section
variable{prog:Program}{w:World}{A:Around}{E:Q0Q}{s:Shared}{d it:Addr}{o:Obj}{es:Array DictEntry}{ep i:Nat}
theorem P5{Q:Q0Q}(hs:(d == sysModules)=false)(ho:s.heap.get? d=some o)(hx:o.ExactDict)(hd:o.data=.dict es ep)
  (h:Q (.ref s.heap.objs.size) { s with heap:=s.heap.push { cls:=.type "dict_keyiterator",data:=.fields #[.ref d,.int 0 0,.int es.size 0,.int ep 0] } }):wpAny (model prog w) A (pyIter (.ref d)) Q E s:=by
 have tD:s.TypeIs (.ref d) "dict" := ⟨o,ho,hx.1⟩;refine wpAny_pyIter_slot tD F.slot_dict_iter (wpAny_call_entry F.slot_dict_iter tD F.entry_dict_iter ?_ (F.args_dict_iter_1 _))
 (unfold Builtin.«dict.__iter__»; wp_walk)
 rw [hx.1,if_neg (by decide)]
 wp_walk
 rw [hd];refine wpAny_pure ?_
 wp_walk
 rw [hd];refine wpAny_pure ?_
 wp_walk
 exact ⟨.ref s.heap.objs.size,rfl, "dict_keyiterator",_,⟨_,get?_push_size _ rfl,rfl⟩,F.slot_dict_keyiterator_next.lookup,h⟩
theorem P6{Q:Option Value->Shared->Prop}(hi:s.heap.IsKeyIter it d i es.size ep)(ho:s.heap.get? d=some o)(hd:o.data=.dict es ep)(hl:i<es.size)
  (h:∀ h',h'.IsKeyIter it d (i+1) es.size ep->Heap.SameBut it s.heap h'->Q (some es[i].key) { s with heap:=h' }):wpAny (model prog w) A (pyNext (.ref it)) Q E s:=by
 have tI:=hi.typeIs;obtain ⟨oi,hoi,hci,hdi⟩:=id hi;unfold pyNext;refine wpAny_bind (wpAny_attempt (wpAny_callSpecial?_slot (name:=Str.ofString "__next__") tI F.slot_dict_keyiterator_next (wpAny_call_entry F.slot_dict_keyiterator_next tI F.entry_dict_keyiterator_next ?_ (F.args_dict_keyiterator_next_1 _))));unfold Builtin.«dict_keyiterator.__next__»
 wp_walk
 rw [hdi,show ((Manifest.find? "dict_keyiterator").elim "dict_keyiterator" λx=>x.tpName) = "dict_keyiterator" by rw [find?_eq_fast]; kernel_rfl,if_neg (by decide)]
 wp_walk
 rw [hd];refine wpAny_pure ?_;rw [if_neg (by simp)]
 wp_walk
 rw [hd];refine wpAny_pure ?_;rw [if_neg (by simp)];refine wpAny_pure ?_;dsimp only;rw [if_neg (by omega),Int.toNat_natCast,Array.getElem?_eq_getElem hl];dsimp only
 wp_walk
 rw [hdi];dsimp only;simp only [show ((Manifest.find? "dict_keyiterator").elim "dict_keyiterator" λx=>x.tpName) = "dict_keyiterator" by rw [find?_eq_fast]; kernel_rfl,show Builtin.Dict_items.ownsTuple "dict_keyiterator" = false from by decide,Bool.false_eq_true,if_false];generalize hb:List.any _ _=bw;have eb:bw=false:=by rw [<- hb]; decide
 subst eb;rw [if_pos (by simp),if_neg (by decide)];have g1:=Heap.get?_update_self (Obj.mapFields λx=>x.setIfInBounds (0+1) (rawInt ((i:Int)+1))) hoi (Obj.isFreed_of_fields (Obj.data_mapFields hdi _));have hi1:(s.heap.update it (Obj.mapFields λx=>x.setIfInBounds (0+1) (rawInt ((i:Int)+1)))).IsKeyIter it d (i+1) es.size ep:=⟨_,g1,(Obj.cls_mapFields ..).trans hci,by rw [Obj.data_mapFields hdi]; simp [rawInt]⟩;have fin:=h _ hi1 (Heap.SameBut.update ..);refine wpAny_update hoi ?_;have t1:Shared.TypeIs { s with heap:=s.heap.update it (Obj.mapFields λx=>x.setIfInBounds (0+1) (rawInt ((i:Int)+1))) } (.ref it) "dict_keyiterator" := hi1.typeIs;refine wpAny_bind (wpAny_holding (wpAny_bind (wpAny_isOneOf_keyiter t1 ?_)));rw [if_pos (by decide)];exact wpAny_pure (wpAny_pure ⟨_,rfl,wpAny_pure fin⟩)
theorem WB{Q:Option Value->Shared->Prop}(hh:A.handled=none)(hi:s.heap.IsKeyIter it d i es.size ep)(ho:s.heap.get? d=some o)(hd:o.data=.dict es ep)(hl:es.size<=i)
  (h:∀ h',Heap.ExtBut it s.heap h'->Q none { s with heap:=h' }):wpAny (model prog w) A (pyNext (.ref it)) Q E s:=by
 have tI:=hi.typeIs;obtain ⟨oi,hoi,hci,hdi⟩:=id hi;unfold pyNext;refine wpAny_bind (wpAny_attempt (wpAny_callSpecial?_slot (name:=Str.ofString "__next__") tI F.slot_dict_keyiterator_next (wpAny_call_entry F.slot_dict_keyiterator_next tI F.entry_dict_keyiterator_next ?_ (F.args_dict_keyiterator_next_1 _))));unfold Builtin.«dict_keyiterator.__next__»
 wp_walk
 rw [hdi,show ((Manifest.find? "dict_keyiterator").elim "dict_keyiterator" λx=>x.tpName) = "dict_keyiterator" by rw [find?_eq_fast]; kernel_rfl,if_neg (by decide)]
 wp_walk
 rw [hd];refine wpAny_pure ?_;rw [if_neg (by simp)]
 wp_walk
 rw [hd];refine wpAny_pure ?_;rw [if_neg (by simp)];refine wpAny_pure ?_;dsimp only;rw [if_neg (by omega),Int.toNat_natCast,Array.getElem?_eq_none hl];dsimp only
 wp_walk
 rw [hdi];dsimp only;simp only [show ((Manifest.find? "dict_keyiterator").elim "dict_keyiterator" λx=>x.tpName) = "dict_keyiterator" by rw [find?_eq_fast]; kernel_rfl,show Builtin.Dict_items.ownsTuple "dict_keyiterator" = false from by decide,Bool.false_eq_true,if_false];rw [if_pos (by simp)]
 wp_walk
 have hA:A.in1.handled=none:=hh;unfold raiseNew;apply wpAny_bind;apply wpAny_handled;rw [hA];refine wpAny_bind (wpAny_pure (wpAny_throw (wpAny_bind ?_)));refine wpAny_isInstance (b:=true) (T := "StopIteration") ?_ isSubtype_stop ?_
 .exact ⟨_,get?_push_size _ rfl,rfl⟩
 apply wpAny_pure;apply h;exact ((Heap.SameBut.update ..).extBut.push _).push _
end
end L7
end
section
namespace L8
open PySem PySem.Spec PyProof.Rows L2
def gJ(kvs:List (KX×V×V))(k:KX):Option V:=(kvs.find? λp=>decide (p.1=k)).map (·.2.2)
def fO(kvs:List (KX×V×V))(k:KX)(y v:V):List (KX×V×V):=if kvs.any (λp=>decide (p.1=k))=true then kvs.map (λp=>if p.1=k then (p.1,p.2.1,v) else p) else kvs++[(k,y,v)]
def EN(H:Hp):KX->V->Prop
 | .inl k,y=>y=kV k
 | .inr ks,y=>∃ b,y=.ref b/\oF H ks b
def oQ(kvs:List (KX×V×V))(k:KX):Prop:=∀ p∈kvs,p.1.isLeft=k.isLeft
theorem G0(kvs:List (KX×V×V))(k:KX)(y v:V):(fO kvs k y v).length<=kvs.length+1:=by
 unfold fO;split
 .rw [length_map]; omega
 .simp
abbrev PL:List (KX×V×V)->List (Key×Value)->Prop:=Paired λp q=>p.1=.inl q.1/\p.2.1=kV q.1/\RelV p.2.2 q.2
abbrev PT(H:Hp):List (KX×V×V)->List (N1×Addr×Value)->Prop:=Paired λp q=>p.1=.inr q.1/\p.2.1=.ref q.2.1/\oF H q.1 q.2.1/\RelV p.2.2 q.2.2
theorem PL.val{kvs:List (KX×V×V)}{vs:List (Key×Value)}(r:PL kvs vs)(k:Key):oD (gJ kvs (.inl k)) (valueAt vs k):=by
 induction r with
 | nil=>exact True.intro
 | @cons p q ps qs h t ih =>
  by_cases e:q.1=k
  .have e1:p.1=.inl k:=by rw [h.1,e]
   have a:gJ (p::ps) (.inl k)=some p.2.2:=by unfold gJ; rw [find?_cons,decide_eq_true e1]; rfl
   have b:valueAt (q::qs) k=some q.2:=by unfold valueAt; rw [find?_cons]; simp [e]
   rw [a,b];exact h.2.2
  .have e1:¬ p.1=.inl k:=λz=>e (by rw [h.1] at z; exact Sum.inl.inj z);have a:gJ (p::ps) (.inl k)=gJ ps (.inl k):=by unfold gJ; rw [find?_cons,decide_eq_false e1]
   have b:valueAt (q::qs) k=valueAt qs k:=by unfold valueAt; rw [find?_cons]; simp [e]
   rw [a,b];exact ih
theorem PT.val{H:Hp}{kvs:List (KX×V×V)}{xs:List (N1×Addr×Value)}(r:PT H kvs xs)(k:N1):oD (gJ kvs (.inr k)) ((atKey xs k).map (·.2)):=by
 induction r with
 | nil=>exact True.intro
 | @cons p q ps qs h t ih =>
  by_cases e:q.1=k
  .have e1:p.1=.inr k:=by rw [h.1,e]
   have a:gJ (p::ps) (.inr k)=some p.2.2:=by unfold gJ; rw [find?_cons,decide_eq_true e1]; rfl
   have b:atKey (q::qs) k=some q.2:=by unfold atKey; rw [find?_cons]; simp [e]
   rw [a,b];exact h.2.2.2
  .have e1:¬ p.1=.inr k:=λz=>e (by rw [h.1] at z; exact Sum.inr.inj z);have a:gJ (p::ps) (.inr k)=gJ ps (.inr k):=by unfold gJ; rw [find?_cons,decide_eq_false e1]
   have b:atKey (q::qs) k=atKey qs k:=by unfold atKey; rw [find?_cons]; simp [e]
   rw [a,b];exact ih
theorem WC(kvs:List (KX×V×V))(k:KX):kvs.any (λp=>decide (p.1=k))=(gJ kvs k).isSome:=by
 unfold gJ;rw [Option.isSome_map]
 induction kvs with
 | nil=>rfl
 | cons p ps ih =>
  rw [any_cons,find?_cons,ih];cases decide (p.1=k)<;>rfl
theorem PL.put{kvs:List (KX×V×V)}{vs:List (Key×Value)}(r:PL kvs vs)(k:Key){v:V}{u:Value}(rv:RelV v u):PL (fO kvs (.inl k) (kV k) v) (stored vs k u):=by
 have e:kvs.any (λp=>decide (p.1=.inl k))=vs.any (λkv=>kv.1=k):=by
  induction r with
  | nil=>rfl
  | @cons p q ps qs h t ih =>
   rw [any_cons,any_cons,ih,h.1];congr 1;exact decide_eq_decide.2 ⟨λz=>Sum.inl.inj z,λz=>by rw [z]⟩
 unfold fO stored;rw [e];split
 .rename_i hc
  clear hc e
  induction r with
  | nil=>exact .nil
  | @cons p q ps qs h t ih =>
   rw [map_cons,map_cons];refine .cons ?_ ih;by_cases z:q.1=k
   .rw [if_pos z,if_pos (by rw [h.1,z])]; exact ⟨h.1,h.2.1,rv⟩
   .rw [if_neg z,if_neg (λy=>z (by rw [h.1] at y; exact Sum.inl.inj y))]; exact h
 .exact Paired.snoc r ⟨rfl,rfl,rv⟩
theorem PT.put{H:Hp}{kvs:List (KX×V×V)}{xs:List (N1×Addr×Value)}(r:PT H kvs xs)(k:N1){b:Addr}{v:V}{u:Value}(hb:oF H k b)(rv:RelV v u):PT H (fO kvs (.inr k) (.ref b) v) (storedH xs k b u):=by
 have e:kvs.any (λp=>decide (p.1=.inr k))=(atKey xs k).isSome:=by rw [WC];have:=(PT.val r k).pJ;rw [Option.isSome_map] at this;exact this
 unfold fO storedH;rw [e];split
 .rename_i hc
  clear hc e
  induction r with
  | nil=>exact .nil
  | @cons p q ps qs h t ih =>
   rw [map_cons,map_cons];refine .cons ?_ ih;unfold putAt;by_cases z:q.1=k
   .rw [if_pos z,if_pos (by rw [h.1,z])]; exact ⟨h.1,h.2.1,h.2.2.1,rv⟩
   .rw [if_neg z,if_neg (λy=>z (by rw [h.1] at y; exact Sum.inr.inj y))]; exact h
 .exact Paired.snoc r ⟨rfl,rfl,hb,rv⟩
section
variable{P:Program}{w:World}{H:Hp}{h:Heap}{a:Addr}{o:Obj}{kvs:List (KX×V×V)}
theorem nI(ok:pU P w H h){ks:N1}{b:Addr}(n:oF H ks b):(iG P w).is h ks b:=by
 obtain ⟨vs,e,r⟩:=n;obtain ⟨_,its,rv,q,h1,h2,m,h3⟩:=(show eA P w H h b (.tup vs) from ok b _ e);have go:∀ {ks:N1} {vs:List V} {us:List Value},Paired (xK H) ks vs->Vals vs us->iF (bB P w) h ks us:=by
  intro ks vs us r
  induction r generalizing us with
  | nil=>intro rv; cases rv; exact .nil
  | @cons k v ks vs i _ ih =>
   intro rv
   cases rv with
   | @cons _ u _ us ru rt =>
    refine .cons ?_ (ih rt)
    cases k with
    | inl k =>
     have i:v=kV k:=i;subst i;exact p6 ru
    | inr k =>
     obtain ⟨c,rfl,hc⟩:=i;have ru:u=.ref c:=ru;exact ⟨c,ru,DU ok hc⟩
 exact ⟨q,its.toArray,m,h1,h2,h3,by simpa using go r rv⟩
theorem oR(x:zS P w H o kvs)(ho:h.get? a=some o)(hp:∀ p∈kvs,p.1.isLeft=true):∃ vs,PL kvs vs/\h.DictOf (bB P w) a vs:=by
 obtain ⟨ex,es,ep,ed,hx⟩:=x;rcases hx with ⟨vs,r,h1,h2,h3⟩ | ⟨xs,r,h1,h2⟩
 .exact ⟨vs,r,o,es,ep,ho,ex,ed,h1,h2,h3⟩
 .cases r with
  | nil =>
   have e0:es.toList=[]:=h1;have e1:es=#[]:=by simpa using e0
   subst e1;exact ⟨[],.nil,o,#[],ep,ho,ex,ed,(λ_ he=>by simp at he),.nil,nodup_nil⟩
  | @cons p q ps qs hq t =>
   have:=hp p mem_cons_self;rw [hq.1] at this;cases this
theorem sV(ok:pU P w H h)(x:zS P w H o kvs)(ho:h.get? a=some o)(hp:∀ p∈kvs,p.1.isLeft=false):∃ xs,PT H kvs xs/\h.DictOfH (iG P w) a xs:=by
 obtain ⟨ex,es,ep,ed,hx⟩:=x;rcases hx with ⟨vs,r,h1,h2,h3⟩ | ⟨xs,r,h1,h2⟩
 .cases r with
  | nil =>
   have e0:es.toList=[]:=List.eq_nil_of_length_eq_zero (by rw [h2.length]; rfl);exact ⟨[],.nil,o,es,ep,ho,ex,ed,e0,(λ_ he=>by simp at he),nodup_nil⟩
  | @cons p q ps qs hq t =>
   have:=hp p mem_cons_self;rw [hq.1] at this;cases this
 .refine ⟨xs,r,o,es,ep,ho,ex,ed,h1,?_,h2⟩;have go:∀ {kvs:List (KX×V×V)} {xs:List (N1×Addr×Value)},PT H kvs xs -> ∀ x∈xs,(iG P w).is h x.1 x.2.1:=by
   intro kvs xs r
   induction r with
   | nil=>intro x hx; cases hx
   | cons hq _ ih =>
    intro x hx;rcases List.mem_cons.1 hx with e | hx
    .subst e; exact nI ok hq.2.2.1
    .exact ih x hx
  exact go r
end
section
variable{X:Cx}{pins:List (Addr×Obj)}{U:L2.St}{H:Hp}{s:Shared}{a:Addr}{y v z:V}{u r:Value}{A:Around}{E:Q0Q}{o:Obj}{kvs:List (KX×V×V)}{k:KX}
theorem qA(I:Inv X pins U H s)(e:H a=some (.dX o kvs)):kvs.length<=sizeLine/\(a == sysModules)=false/\s.heap.get? a=some o/\zS X.prog X.w H o kvs:=I.hok a _ e
theorem aAA{k:Key}(kd:oQ kvs (.inl k)):∀ p∈kvs,p.1.isLeft=true:=kd
theorem aAB{k:N1}(kd:oQ kvs (.inr k)):∀ p∈kvs,p.1.isLeft=false:=kd
theorem P7{Q:Q0Q}(hu:A.units+2<cLine)(I:Inv X pins U H s)(e:H a=some (.dX o kvs))(hk:EN H k y)(kd:oQ kvs k)(hv:gJ kvs k=some v)(ry:RelV y u)(h:∀ w' s',Inv X pins U H s'->RelV v w'->Q w' s') :
  wpAny (model X.prog X.w) A (getItem (.ref a) u) Q E s:=by
 obtain ⟨z,hs,ho,hx⟩:=qA I e
 cases k with
 | inl k =>
  have hk:y=kV k:=hk;subst hk;obtain ⟨vs,rel,dd⟩:=oR hx ho (aAA kd);obtain ⟨w',hw,w8⟩:=oD.some_of (v:=v) (o:=valueAt vs k) (by rw [<- hv]; exact PL.val rel k);exact wpAny_getItem_of (p6 ry) dd.mapOf hw (h w' _ (I.tok _) w8)
 | inr k =>
  obtain ⟨b,rfl,hb⟩:=hk;obtain rfl:u=Value.ref b:=ry;obtain ⟨xs,rel,dd⟩:=sV I.hok hx ho (aAB kd);obtain ⟨w',hw,w8⟩:=oD.some_of (v:=v) (o:=(atKey xs k).map (·.2)) (by rw [<- hv]; exact PT.val rel k);obtain ⟨p,hp,hp2⟩:=Option.map_eq_some_iff.mp hw;refine wpAny_getItem_heap (nest_room hu) (nI I.hok hb) dd hp ?_;rw [hp2];exact h w' _ (I.tok _) w8
theorem aGS{Q:Q0Q}(neg:Bool)(hu:A.units+2<cLine)(I:Inv X pins U H s)(e:H a=some (.dX o kvs))(hk:EN H k y)(kd:oQ kvs k)(ry:RelV y u)(h:∀ s',Inv X pins U H s'->Q (.bool (if neg then !(gJ kvs k).isSome else (gJ kvs k).isSome)) s') :
  wpAny (model X.prog X.w) A (compareOp (if neg then .NotIn else .In) u (.ref a)) Q E s:=by
 obtain ⟨z,hs,ho,hx⟩:=qA I e
 cases k with
 | inl k =>
  have hk:y=kV k:=hk;subst hk;obtain ⟨vs,rel,dd⟩:=oR hx ho (aAA kd);have ev:(gJ kvs (.inl k)).isSome=(valueAt vs k).isSome:=(PL.val rel k).pJ;rw [ev] at h
  cases neg with
  | false=>exact wpAny_in_of (p6 ry) hs dd.mapOf (h _ (I.tok _))
  | true=>exact wpAny_notIn_of (p6 ry) hs dd.mapOf (h _ (I.tok _))
 | inr k =>
  obtain ⟨b,rfl,hb⟩:=hk;obtain rfl:u=Value.ref b:=ry;obtain ⟨xs,rel,dd⟩:=sV I.hok hx ho (aAB kd);have ev:=(PT.val rel k).pJ;rw [Option.isSome_map] at ev;rw [ev] at h
  cases neg with
  | false=>exact wpAny_in_heap (nest_room hu) (nI I.hok hb) hs dd (h _ (I.tok _))
  | true=>exact wpAny_notIn_heap (nest_room hu) (nI I.hok hb) hs dd (h _ (I.tok _))
theorem yI(I:Inv X pins U H s)(e:H a=some (.dX o kvs)):s.TypeIs (.ref a) "dict" := by obtain ⟨z,hs,ho,hx⟩:=qA I e;exact ⟨o,ho,hx.1.1⟩
theorem aDJ{Q:Q0Q}(hu:A.units+2<cLine)(I:Inv X pins U H s)(e:H a=some (.dX o kvs))(hk:EN H k y)(kd:oQ kvs k)(ry:RelV y u)(rz:RelV z r)(h:∀ w' s',Inv X pins U H s'->RelV ((gJ kvs k).getD z) w'->Q w' s') :
  wpAny (model X.prog X.w) A (call (.builtin "dict.get") [.ref a,u,r]) Q E s:=by
 obtain ⟨_,hs,ho,hx⟩:=qA I e;have tI:=yI I e
 cases k with
 | inl k =>
  have hk:y=kV k:=hk;subst hk;obtain ⟨vs,rel,dd⟩:=oR hx ho (aAA kd);exact call_meetsIn F.slot_dict_get tI F.entry_dict_get (F.args_dict_get_3 _ _ _) (meets_dict_get_default (bB X.prog X.w) a (p6 ry) hs r) ⟨_,dd.mapOf,h _ _ (I.tok _) ((PL.val rel k).getD rz)⟩
 | inr k =>
  obtain ⟨b,rfl,hb⟩:=hk;obtain rfl:u=Value.ref b:=ry;obtain ⟨xs,rel,dd⟩:=sV I.hok hx ho (aAB kd);exact call_meetsIn F.slot_dict_get tI F.entry_dict_get (F.args_dict_get_3 _ _ _) (meetsH_dict_get_default (iG X.prog X.w) a b hs r) ⟨nest_room hu,k,xs,nI I.hok hb,dd,h _ _ (I.tok _) ((PT.val rel k).getD rz)⟩
theorem G2{P:Program}{h':Heap}{H':Hp}{kvs:List (KX×V×V)}{vs:List (Key×Value)}(rel:PL kvs vs)(dd:h'.DictOf (bB P w) a vs):∃ o',h'.get? a=some o'/\zS P w H' o' kvs:=by obtain ⟨o',es,ep,h1,h2,h3,h4,h5,h6⟩:=dd;exact ⟨o',h1,h2,es,ep,h3,.inl ⟨vs,rel,h4,h5,h6⟩⟩
theorem M6{P:Program}{h':Heap}{H':Hp}{kvs:List (KX×V×V)}{xs:List (N1×Addr×Value)}(rel:PT H' kvs xs)(dd:h'.DictOfH (iG P w) a xs):∃ o',h'.get? a=some o'/\zS P w H' o' kvs:=by obtain ⟨o',es,ep,h1,h2,h3,h4,_,h6⟩:=dd;exact ⟨o',h1,h2,es,ep,h3,.inr ⟨xs,rel,h4,h6⟩⟩
theorem M7{H:Hp}{a:Addr}{o:Obj}{kvs:List (KX×V×V)}{u:HO}(e:H a=some (.dX o kvs)):∀ b ys,H b=some (.tup ys)->upd H a u b=some (.tup ys):=λb ys eb=>by rw [bQ (aA2 eb e (λz=>nomatch z))];exact eb
theorem P8{Q:Unit->Shared->Prop}(hu:A.units+2<cLine)(I:Inv X pins U H s)(e:H a=some (.dX o kvs))(hk:EN H k y)(kd:oQ kvs k)(hl:kvs.length<sizeLine)(ry:RelV y u)(rv:RelV v r)(h:∀ o' s',Inv X pins U (upd H a (.dX o' (fO kvs k y v))) s'->Q () s') :
  wpAny (model X.prog X.w) A (setItem (.ref a) u r) Q E s:=by
 obtain ⟨z,hs,ho,hx⟩:=qA I e;have hz:(fO kvs k y v).length<=sizeLine:=by have:=G0 kvs k y v; omega
 have mu:Mut (H a):=by rw [e]; exact True.intro
 cases k with
 | inl k =>
  have hk:y=kV k:=hk;subst hk;obtain ⟨vs,rel,dd⟩:=oR hx ho (aAA kd);have hv:vs.length<=sizeLine:=by rw [<- Paired.length rel]; exact z
  refine wpAny_setItem_pairs (hsz:=hv) (p6 ry) dd λh' QZ sb=>?_;obtain ⟨o',g1,g2⟩:=G2 (H':=upd H a (.dX o (fO kvs (.inl k) (kV k) v))) (PL.put rel k rv) QZ;exact h o' _ (pK I mu sb ⟨o',g1⟩ ⟨hz,hs,g1,g2.stay λb ys eb=>by
   by_cases hb:b=a
   .subst hb; rw [bD] at eb; cases eb
   .rw [bQ hb] at eb ⊢; exact eb⟩)
 | inr k =>
  obtain ⟨b,rfl,hb⟩:=hk;obtain rfl:u=Value.ref b:=ry;obtain ⟨xs,rel,dd⟩:=sV I.hok hx ho (aAB kd);have hv:xs.length<=sizeLine:=by rw [<- Paired.length rel]; exact z
  refine wpAny_setItem_heap (hsz:=hv) (nest_room hu) (nI I.hok hb) dd λh' QZ sb=>?_;obtain ⟨o',g1,g2⟩:=M6 (PT.put rel k hb rv) QZ;exact h o' _ (pK I mu sb ⟨o',g1⟩ ⟨hz,hs,g1,g2.stay (M7 e)⟩)
end
end L8
end
section
namespace L8
open PySem PySem.Spec PyProof.Rows L2 L7
def aGT(td ty:TE):TE:=λU H Q=>td U H λx H1=>ty U H1 λy H2=>∃ a o kvs k v,x=.ref a/\H2 a=some (.dX o kvs)/\EN H2 k y/\oQ kvs k/\gJ kvs k=some v/\Q v H2
def aAC(neg:Bool)(ty td:TE):TE:=λU H Q=>ty U H λy H1=>td U H1 λx H2=>∃ a o kvs k,x=.ref a/\H2 a=some (.dX o kvs)/\EN H2 k y/\oQ kvs k/\Q (.bl (if neg then !(gJ kvs k).isSome else (gJ kvs k).isSome)) H2
def aDK(td ty tz:TE):TE:=λU H Q=>td U H λx H1=>∃ a,x=.ref a/\(∃ o kvs,H1 a=some (.dX o kvs))/\ty U H1 λy H2=>tz U H2 λz H3=>∃ o kvs k,H3 a=some (.dX o kvs)/\EN H3 k y/\oQ kvs k/\Q ((gJ kvs k).getD z) H3
def aGU(td ty tv:TE):TS:=λD U H=>tv U H λv H1=>td U H1 λx H2=>ty U H2 λy H3=>∃ a o kvs k,x=.ref a/\H3 a=some (.dX o kvs)/\EN H3 k y/\oQ kvs k/\kvs.length<sizeLine /\ ∀ o',D.nx U (upd H3 a (.dX o' (fO kvs k y v)))
def aGV:TE:=λ_ H Q=>∀ p o,H p=none->Q (.ref p) (upd H p (.dX o []))
def aGW(tk tv:TE):TE:=λU H Q=>∀ p o,H p=none->tk U (upd H p (.dX o [])) λy H1=>tv U H1 λz H2=>∃ k,EN H2 k y/\H2 p=some (.dX o []) /\ ∀ o',Q (.ref p) (upd H2 p (.dX o' [(k,y,z)]))
section
variable{X:Cx}{o i e f value:Expr}{pos pos':Pos}{td ty tv tz:TE}
theorem aAD(hu:X.A.units+2<cLine)(ho:PE X o td)(hi:PE X i ty)(hs:OO i):PE X (.Subscript o i pos) (aGT td ty):=by intro pins s U H Q I h;refine MM F.slot_dict_getitem.lookup hs (dN (ho pins s U H _ I h) λu s1 ⟨x,H1,I1,rx,q1⟩=>?_);refine dN (hi pins s1 U H1 _ I1 q1) λiv s2 aGX=>?_;obtain ⟨y,H2,I2,ry,a,ob,kvs,k,v,ex,e,hk,kd,hv,q2⟩:=aGX;subst ex;obtain rfl:u=Value.ref a:=rx;exact ⟨yI I2 e,P7 hu I2 e hk kd hv ry λw' s3 I3 r3=>⟨v,H2,I3,r3,q2⟩⟩
theorem aDL(hu:X.A.units+2<cLine)(hi:PE X i ty)(ho:PE X o td):PC X .In i o (aAC false ty td):=by intro pins s U H Q I h;refine dN (hi pins s U H _ I h) λiv s1 aGY=>?_;obtain ⟨y,H1,I1,ry,q1⟩:=aGY;refine dN (ho pins s1 U H1 _ I1 q1) λu s2 aGZ=>?_;obtain ⟨x,H2,I2,rx,a,ob,kvs,k,ex,e,hk,kd,q2⟩:=aGZ;subst ex;obtain rfl:u=Value.ref a:=rx;exact aGS false hu I2 e hk kd ry λs3 I3=>⟨.bl _,H2,I3,rfl,q2⟩
theorem P9(hu:X.A.units+2<cLine)(hi:PE X i ty)(ho:PE X o td):PC X .NotIn i o (aAC true ty td):=by intro pins s U H Q I h;refine dN (hi pins s U H _ I h) λiv s1 aG0=>?_;obtain ⟨y,H1,I1,ry,q1⟩:=aG0;refine dN (ho pins s1 U H1 _ I1 q1) λu s2 aG1=>?_;obtain ⟨x,H2,I2,rx,a,ob,kvs,k,ex,e,hk,kd,q2⟩:=aG1;subst ex;obtain rfl:u=Value.ref a:=rx;exact aGS true hu I2 e hk kd ry λs3 I3=>⟨.bl _,H2,I3,rfl,q2⟩
theorem aAE(hu:X.A.units+2<cLine)(ho:PE X o td)(hi:PE X i ty)(hv:PE X value tv)(hs:swapsWith value (some (.Subscript o i pos')) pos.line X.env=pure false):PS X (.Assign [.Subscript o i pos'] value pos) (aGU td ty tv):=by intro pins s U H D I h;refine wpAny_Assign_Subscript (dN (hv pins s U H _ I h) λr s1 ⟨v,H1,I1,rv,q1⟩=>?_) hs;refine dN (ho pins s1 U H1 _ I1 q1) λu s2 aG2=>?_;obtain ⟨x,H2,I2,rx,q2⟩:=aG2;refine dN (hi pins s2 U H2 _ I2 q2) λiv s3 aG3=>?_;obtain ⟨y,H3,I3,ry,a,ob,kvs,k,ex,e,hk,kd,hl,q3⟩:=aG3;subst ex;obtain rfl:u=Value.ref a:=rx;exact P8 hu I3 e hk kd hl ry rv λo' s4 I4=>⟨U,_,I4,q3 o'⟩
theorem WD{apos cpos:Pos}(hu:X.A.units+2<cLine)(ho:PE X o td)(he:PE X e ty)(hf:PE X f tz)(m:M2 X o "get" apos e f cpos):PE X (.Call (.Attribute o "get" apos) [e,f] [] cpos) (aDK td ty tz):=by
 intro pins s U H Q I h;refine wpAny_Call_method m.base m.few m.line F.plainAttrs_dict F.slot_dict_get F.type_dict_get (dN (ho pins s U H _ I h) λu s1 ⟨x,H1,I1,rx,a,ex,⟨ob,kvs,e1⟩,q1⟩=>?_);subst ex;obtain rfl:u=Value.ref a:=rx;refine ⟨yI I1 e1,λb q=>?_,?_⟩
 .cases q;obtain ⟨_,_,h3,h4⟩:=qA I1 e1;exact ⟨ob,h3,h4.1.2.1⟩
 rw [m.trees];refine Calls.callWith_builtin rfl (Calls.evalArgs_plain (Calls.spliced_cons (dN (he pins s1 U H1 _ I1 q1) λiv s2 ⟨y,H2,I2,ry,q2⟩=>?_)));refine Calls.spliced_cons (dN (hf pins s2 U H2 _ I2 q2) λfv s3 ⟨z,H3,I3,rz,o3,aRe,k,e3,hk,kd,q3⟩=>Calls.spliced_nil ?_);exact aDJ hu I3 e3 hk kd ry rz λw' s4 I4 r4=>⟨_,H3,I4,r4,q3⟩
theorem G3{P:Program}{H:Hp}(h:Heap)(hb:sysModules<h.objs.size):eA P w H (h.push { cls:=.type "dict",data:=.dict #[] }) h.objs.size (.dX { cls:=.type "dict",data:=.dict #[] } []) :=
 ⟨Nat.zero_le _,beq_eq_false_iff_ne.mpr (Ne.symm (ne_of_lt hb)),get?_push_size _ rfl,⟨rfl,rfl,rfl⟩,#[],0,rfl,.inl ⟨[],.nil,(λ_ he=>by simp at he),.nil,nodup_nil⟩⟩
theorem aAF:PE X (.Dict [] [] pos) aGV:=λpins s U H Q I h =>
 wpAny_Dict_empty ⟨.ref s.heap.objs.size,_,I.laid (t':=s.toks) (λ_ _ q=>get?_push_of_some _ q) (le_refl _) (G3 s.heap I.big),rfl,h _ _ (I.hok.fresh (le_refl _))⟩
theorem QA{pins:List (Addr×Obj)}{U:L2.St}{H:Hp}{s:Shared}{a:Addr}{y v:V}{u r:Value}{A:Around}{E:Q0Q}{ob:Obj}{k:KX}{Q:Unit->Shared->Prop}(hu:A.units+1<cLine)(I:Inv X pins U H s)(e:H a=some (.dX ob []))(hk:EN H k y)(ry:RelV y u)(rv:RelV v r)(h:∀ o' s',Inv X pins U (upd H a (.dX o' [(k,y,v)])) s'->Q () s') :
  wpAny (model X.prog X.w) A (dictSet a u r) Q E s:=by
 obtain ⟨z,hs,ho,hx⟩:=qA I e;have mu:Mut (H a):=by rw [e]; exact True.intro
 cases k with
 | inl k =>
  have hk:y=kV k:=hk;subst hk;obtain ⟨vs,rel,dd⟩:=oR (a:=a) hx ho (λp hp=>by cases hp);cases rel;refine wpAny_dictSet_pairs (hsz:=by decide) (p6 ry) dd λh' QZ sb=>?_;obtain ⟨o',g1,g2⟩:=G2 (H':=upd H a (.dX ob [(.inl k,kV k,v)])) (PL.put .nil k rv) QZ;exact h o' _ (pK I mu sb ⟨o',g1⟩ ⟨by show 1<=sizeLine; decide,hs,g1,g2.stay λb ys eb=>by
   by_cases hb:b=a
   .subst hb; rw [bD] at eb; cases eb
   .rw [bQ hb] at eb ⊢; exact eb⟩)
 | inr k =>
  obtain ⟨b,rfl,hb⟩:=hk;obtain rfl:u=Value.ref b:=ry;obtain ⟨xs,rel,dd⟩:=sV (a:=a) I.hok hx ho (λp hp=>by cases hp);cases rel;refine wpAny_dictSet_heap (hsz:=by decide) (show (iG X.prog X.w).room A from hu) (nI I.hok hb) dd λh' QZ sb=>?_;obtain ⟨o',g1,g2⟩:=M6 (PT.put (H:=H) .nil k hb rv) QZ;exact h o' _ (pK I mu sb ⟨o',g1⟩ ⟨by show 1<=sizeLine; decide,hs,g1,g2.stay (M7 e)⟩)
def G4(Q:VK)(p:Addr)(o:Obj):List (V×V)->Hp->Prop
 | [(y,z)],H2=>∃ k,EN H2 k y/\H2 p=some (.dX o []) /\ ∀ o',Q (.ref p) (upd H2 p (.dX o' [(k,y,z)]))
 | _,_=>False
theorem G5{Q:VK}{p:Addr}{o:Obj}{ps:List (V×V)}{H2:Hp}(h:G4 Q p o ps H2):∃ y z k,ps=[(y,z)]/\EN H2 k y/\H2 p=some (.dX o []) /\ ∀ o',Q (.ref p) (upd H2 p (.dX o' [(k,y,z)])):=by
 match ps,h with
 | [(y,z)],⟨k,h1,h2,h3⟩=>exact ⟨y,z,k,rfl,h1,h2,h3⟩
theorem aAG(hu:X.A.units+1<cLine)(hk:PE X i ty)(hv:PE X value tv):PE X (.Dict [some i] [value] pos) (aGW ty tv):=by
 intro pins s U H Q I q;have hn:=I.hok.fresh (le_refl s.heap.objs.size);have I1:=I.laid (t':=s.toks) (λ_ _ z=>get?_push_of_some _ z) (le_refl _) (G3 (P:=X.prog) (w:=X.w) s.heap I.big);have np:pairTrees [some i] [value] X.env pos≠[]:=λz=>by have:=pairTrees_length [some i] [value] X.env pos rfl rfl;rw [z] at this;cases this
 rw [arm_eval_Dict,zip_pairTrees [some i] [value] X.env pos rfl rfl,dictDisplay_pairs _ np (by rw [pairTrees_length _ _ _ _ rfl rfl]; show 1<17; decide)];apply wpAny_bind;refine wpAny_standAt (wpAny_bind ?_);unfold subDict;refine wpAny_bind (wpAny_alloc (wpAny_bind (wpAny_holding ?_)));rw [if_pos (by rw [pairTrees_length _ _ _ _ rfl rfl]; show 1<=15; decide)];refine wpAny_bind (dN (UL hk hv ZE pins _ U _ (G4 Q s.heap.objs.size _) I1 (q _ _ hn)) λws s2 ⟨ps,H2,I2,rel,q2⟩=>?_);obtain ⟨y,z,k,rfl,hk2,hp,q3⟩:=G5 q2;obtain ⟨u,r,rfl,hy,hz⟩:∃ u r,ws=[(u,r)]/\RelV y u/\RelV z r:=by
  cases rel with
  | cons h1 t=>cases t; exact ⟨_,_,rfl,h1.1,h1.2⟩
 refine wpAny_holding ?_;rw [forIn_cons];refine wpAny_bind (wpAny_bind (wpAny_bind (QA hu I2 hp hk2 hy hz λo' s3 I3=>wpAny_pure ?_)));show wpAny _ _ (pure PUnit.unit) _ _ _;exact wpAny_pure (wpAny_pure (wpAny_pure (wpAny_pure ⟨.ref s.heap.objs.size,_,I3,rfl,q3 o'⟩)))
end
def Itx(a:Addr)(o:Obj)(vs:List V):It :=
 ⟨λi H=>(∃ kvs,H a=some (.dX o kvs))/\i<vs.length,λi H x H'=>H' = H/\vs[i]? = some x,λi H=>(∃ kvs,H a=some (.dX o kvs))/\vs.length<=i⟩
theorem aDM{P:Program}{tg:Expr}{a it:Addr}{o:Obj}{vs:List V}{es:Array DictEntry}{ep:Nat}(hd:o.data=.dict es ep)(hs:Vals vs (es.toList.map (·.key))):Turn P w K tg (Itx a o vs) [it] it (λi h=>h.IsKeyIter it a i es.size ep):=by
 have hz:es.size=vs.length:=by have:=hs.length;simp at this;omega
 refine ⟨List.mem_singleton.mpr rfl,λi h st b hb=>?_,λi h h' st k=>st.at λob e=>k it (List.mem_singleton.mpr rfl) ob e,?_,?_,λA i s Q E st h=>wpAny_pyIter_keyiter st h⟩
 .cases List.mem_singleton.1 hb;obtain ⟨ob,e,_,d⟩:=st;exact ⟨ob,e,λv z=>by rw [d] at z; cases z⟩
 .intro X hP hw hK hc i pins s U H E I hf st hg;cases hP;cases hw;obtain ⟨f0,f1,_,f3,f4,f5⟩:=hf it (List.mem_singleton.mpr rfl);obtain ⟨⟨kvs,ha⟩,hi⟩:=hg;obtain ⟨_,_,ho,_⟩:=qA I ha;have hl:i<es.size:=by rw [hz]; exact hi
  refine P6 st ho hd hl λh' st' sb=>⟨_,rfl,?_⟩;have I1:Inv X pins U H { s with heap:=h' }:=I.turned (t':=s.toks) (λb ob nb e=>(sb.2 b nb).trans e) f0 f1 f3 f4 f5;obtain ⟨u,hu,ru⟩:=hs.get (i:=i) (x:=vs[i]) (getElem?_eq_getElem hi);have hk:u=es[i].key:=by rw [getElem?_map,Array.getElem?_toList,Array.getElem?_eq_getElem hl] at hu;exact (Option.some.inj hu).symm
  subst hk;obtain ⟨ob,e,c,d⟩:=id st';exact MB (s:={ s with heap:=h' }) e c d (by decide) ⟨vs[i],H,I1,ru,⟨rfl,getElem?_eq_getElem hi⟩,st',λb hb=>(hf b hb).1⟩
 .intro X hP hw hK hc i pins s U H E I hf st hg;cases hP;cases hw;obtain ⟨f0,f1,_,f3,f4,f5⟩:=hf it (List.mem_singleton.mpr rfl);obtain ⟨⟨kvs,ha⟩,hi⟩:=hg;obtain ⟨_,_,ho,_⟩:=qA I ha;exact WB (I.ok.hd hc) st ho hd (by rw [hz]; exact hi) λh' eb=>⟨rfl,I.turned (t':=s.toks) (λb ob nb e=>eb b ob nb e) f0 f1 f3 f4 f5⟩
def aDN(tl:TE):TI:=λU H R=>tl U H λx H1=>∃ a o kvs,x=.ref a/\H1 a=some (.dX o kvs)/\((∀ p∈kvs,EN H1 p.1 p.2.1)->R (Itx a o (kvs.map (·.2.1))) H1)
theorem aG4{P:Program}{k:Key}{u:Value}(h:(bB P w).is k u=true):RelV (kV k) u:=by
 rcases cR h with ⟨i,t,rfl,rfl⟩ | ⟨i,t,rfl,rfl⟩
 .exact ⟨t,rfl⟩
 .exact ⟨t,rfl⟩
theorem WF{P:Program}{H:Hp}{o:Obj}{kvs:List (KX×V×V)}(x:zS P w H o kvs):∃ es ep,o.data=.dict es ep/\Vals (kvs.map (·.2.1)) (es.toList.map (·.key)) /\ ∀ p∈kvs,EN H p.1 p.2.1:=by
 obtain ⟨_,es,ep,ed,hx⟩:=x;refine ⟨es,ep,ed,?_⟩;rcases hx with ⟨vs,r,_,h2,_⟩ | ⟨xs,r,h1,_⟩
 .have go:∀ {kvs:List (KX×V×V)} {vs:List (Key×Value)} {l:List DictEntry},PL kvs vs->Pairs (bB P w) l vs->Vals (kvs.map (·.2.1)) (l.map (·.key)) /\ ∀ p∈kvs,EN H p.1 p.2.1:=by
   intro kvs vs l r
   induction r generalizing l with
   | nil=>intro h2; cases h2; exact ⟨.nil,λp hp=>by cases hp⟩
   | @cons p q ps qs hq t ih =>
    intro h2
    cases h2 with
    | cons k1 k2 k3 =>
     obtain ⟨i1,i2⟩:=ih k3;refine ⟨.cons ?_ i1,λp' hp'=>?_⟩
     .dsimp only;rw [hq.2.1];exact aG4 k1
     .rcases List.mem_cons.1 hp' with e | hp'
      .subst e; rw [hq.1,hq.2.1]; rfl
      .exact i2 p' hp'
  exact go r h2
 .have go:∀ {kvs:List (KX×V×V)} {xs:List (N1×Addr×Value)},PT H kvs xs->Vals (kvs.map (·.2.1)) ((xs.map (entryOfKey (iG P w))).map (·.key)) /\ ∀ p∈kvs,EN H p.1 p.2.1:=by
   intro kvs xs r
   induction r with
   | nil=>exact ⟨.nil,λp hp=>by cases hp⟩
   | @cons p q ps qs hq t ih =>
    obtain ⟨i1,i2⟩:=ih;refine ⟨.cons ?_ i1,λp' hp'=>?_⟩
    .dsimp only; rw [hq.2.1]; rfl
    .rcases List.mem_cons.1 hp' with e | hp'
     .subst e; rw [hq.1,hq.2.1]; exact ⟨_,rfl,hq.2.2.1⟩
     .exact i2 p' hp'
  rw [h1];exact go r
theorem WH{X:Cx}{tg l:Expr}{tl:TE}(hl:PE X l tl):PI X tg l (aDN tl):=by intro pins s U H R I h;refine dN (hl pins s U H _ I h) λv s1 aG5=>?_;obtain ⟨x,H1,I1,r1,a,o,kvs,ex,ha,q⟩:=aG5;subst ex;obtain rfl:v=Value.ref a:=r1;obtain ⟨_,hs,ho,hx⟩:=qA I1 ha;obtain ⟨es,ep,ed,ks,hk⟩:=WF hx;refine P5 hs ho hx.1 ed ⟨s1.heap.objs.size,[s1.heap.objs.size],_,_,_,rfl,I1.kept (t':=s1.toks) λb ob e=>get?_push_of_some _ e,aDM ed ks,⟨_,get?_push_size _ rfl,rfl,by simp⟩,λb hb=>?_,q hk⟩;rw [List.mem_singleton.1 hb];exact I1.IV (le_refl _) (I1.hok.fresh (le_refl _))
end L8
end
section
namespace L8
open PySem PySem.Spec PyProof.Rows L2 L3 L4
section
variable{K:W.Frag}{S:Addr->Prop}{H:Hp}
theorem aAH{d:D}{v:V}{k:Key}(h:Dn K S H d v)(e:v0 d=some k):v=kV k:=by cases d<;>simp only [v0] at e<;>cases e<;>simp only [Dn] at h<;>exact h
theorem G6:∀ {ds:List D} {xs:List V} {ks:List Key},bC K S H ds xs->AO ds=some ks->xs=ks.map kV
 | [],xs,ks,h,e=>by simp only [bC] at h; cases e; exact h
 | d::ds,xs,ks,h,e=>by obtain ⟨v,r,rfl,h1,h2⟩:=h.bV;obtain ⟨k,ek,e⟩:=bnd e;obtain ⟨ks',e2,rfl⟩:=tK e;rw [aAH h1 ek,G6 h2 e2];rfl
theorem WJ{d:D}{v:V}{k:Sum Key (List Key)}(h:Dn K S H d v)(e:aAQ d=some k):xK H k v:=by
 cases d with
 | tup ds =>
  obtain ⟨ks,e2,rfl⟩:=tK e;simp only [Dn] at h;obtain ⟨a,xs,rfl,ha,dn⟩:=h;rw [G6 dn e2] at ha;exact ⟨a,rfl,ha⟩
 | int i=>cases e; simp only [Dn] at h; exact h
 | str i=>cases e; simp only [Dn] at h; exact h
 | _=>cases e
theorem B6:∀ {ds:List D} {xs:List V} {ks:N1},bC K S H ds xs->tM ds=some ks->Paired (xK H) ks xs
 | [],xs,ks,h,e=>by simp only [bC] at h; cases e; subst h; exact .nil
 | d::ds,xs,ks,h,e=>by obtain ⟨v,r,rfl,h1,h2⟩:=h.bV;obtain ⟨k,ek,e⟩:=bnd e;obtain ⟨ks',e2,rfl⟩:=tK e;exact .cons (WJ h1 ek) (B6 h2 e2)
theorem sW{d:D}{v:V}{k:KX}(h:Dn K S H d v)(e:nW d=some k):EN H k v:=by
 cases d with
 | tup ds =>
  obtain ⟨ks,e2,rfl⟩:=tK e;simp only [Dn] at h;obtain ⟨a,xs,rfl,ha,dn⟩:=h;exact ⟨a,rfl,xs,ha,B6 dn e2⟩
 | int i=>cases e; simp only [Dn] at h; exact h
 | str i=>cases e; simp only [Dn] at h; exact h
 | _=>cases e
theorem WK(k:Key):Dn K S H (dK k) (kV k):=by cases k<;>simp only [dK,Dn]<;>rfl
theorem WL:∀ ks:List Key,bC K S H (ks.map dK) (ks.map kV)
 | []=>bC.nil
 | k::ks=>bC.cons (WK k) (WL ks)
theorem B7:∀ {ks:N1} {vs:List V},Paired (xK H) ks vs->bC K S H (ks.map RB) vs
 | _,_,.nil=>bC.nil
 | k::ks,v::vs,.cons h t=>by
  refine bC.cons ?_ (B7 t)
  cases k with
  | inl k =>
   have h:v=kV k:=h;subst h;exact WK k
  | inr k =>
   obtain ⟨b,rfl,hb⟩:=h;simp only [RB,Dn];exact ⟨b,_,rfl,hb,WL k⟩
theorem aDO{k:KX}{v:V}(h:EN H k v):Dn K S H (dKX k) v:=by
 cases k with
 | inl k =>
  have h:v=kV k:=h;subst h;exact WK k
 | inr k =>
  obtain ⟨b,rfl,vs,hb,r⟩:=h;simp only [dKX,Dn];exact ⟨b,vs,rfl,hb,B7 r⟩
theorem uE{k:KX}:∀ {kvs:List (KX×V×V)} {ds:List D},bC K S H ds (kvs.map (·.2.2))->(∀ d,cP (kvs.map (·.1)) ds k=some d -> ∃ v,gJ kvs k=some v/\Dn K S H d v)/\(cP (kvs.map (·.1)) ds k=none->gJ kvs k=none)
 | [],ds,h=>⟨λd e=>by simp [cP] at e,λ_=>rfl⟩
 | p::kvs,ds,h=>by
  cases ds with
  | nil=>exact absurd h.len (by simp)
  | cons d0 ds =>
   obtain ⟨v,r,e1,h1,h2⟩:=h.bV;rw [map_cons] at e1;cases e1;have ih:=uE (k:=k) (kvs:=kvs) (ds:=ds) h2;by_cases e:p.1=k
   .have a:cP ((p::kvs).map (·.1)) (d0::ds) k=some d0:=by simp [cP,e]
    have b:gJ (p::kvs) k=some p.2.2:=by simp [gJ,e]
    rw [a,b];exact ⟨λd ed=>by cases ed; exact ⟨_,rfl,h1⟩,λz=>nomatch z⟩
   .have a:cP ((p::kvs).map (·.1)) (d0::ds) k=cP (kvs.map (·.1)) ds k:=by simp [cP,e]
    have b:gJ (p::kvs) k=gJ kvs k:=by simp [gJ,e]
    rw [a,b];exact ih
theorem EB{k:KX}{kvs:List (KX×V×V)}(h:kindB (kvs.map (·.1)) k=true):oQ kvs k:=λp hp=>by unfold kindB at h;rw [all_eq_true] at h;simpa using h p.1 (List.mem_map_of_mem hp)
theorem aG6{k:KX}{y v:V}{d:D}(dv:Dn K S H d v):∀ {kvs:List (KX×V×V)} {ds:List D},bC K S H ds (kvs.map (·.2.2)) ->
  (L8.fO kvs k y v).map (·.1)=(L4.fO (kvs.map (·.1)) ds k d).1/\bC K S H (L4.fO (kvs.map (·.1)) ds k d).2 ((L8.fO kvs k y v).map (·.2.2)):=by
 intro kvs ds h;have e:(kvs.map (·.1)).any (λq=>decide (q=k))=kvs.any (λp=>decide (p.1=k)):=by rw [List.any_map]; rfl
 unfold L8.fO L4.fO;rw [e];split
 .refine ⟨?_,?_⟩
  .simp only [map_map];refine map_congr_left λp _=>?_;show (if p.1=k then (p.1,p.2.1,v) else p).1=p.1;split<;>rfl
  .dsimp only;have go:∀ {kvs:List (KX×V×V)} {ds:List D},bC K S H ds (kvs.map (·.2.2))->bC K S H (((kvs.map (·.1)).zip ds).map λp=>if p.1=k then d else p.2) ((kvs.map λp=>if p.1=k then (p.1,p.2.1,v) else p).map (·.2.2)):=by
    intro kvs
    induction kvs with
    | nil=>intro ds h; cases ds with
     | nil=>exact bC.nil
     | cons d0 ds=>exact absurd h.len (by simp)
    | cons p kvs ih =>
     intro ds h
     cases ds with
     | nil=>exact absurd h.len (by simp)
     | cons d0 ds =>
      obtain ⟨u,r,e1,h1,h2⟩:=h.bV;rw [map_cons] at e1;cases e1;refine bC.cons ?_ (ih h2);by_cases z:p.1=k
      .simpa [z] using dv
      .simpa [z] using h1
   exact go h
 .refine ⟨by simp,?_⟩;rw [map_append];exact h.append (bC.one dv)
end
section
variable{X:Cx}
theorem aAI{o i:Expr}{pos:Pos}{fo fi:EF}(hu:X.A.units+2<cLine)(ho:bS X o fo)(hi:bS X i fi)(hs:OO i:=by intro _ _; rfl):bS X (.Subscript o i pos) (aC pS fo fi):=imp (aAD hu ho hi hs) λU H Q aG7=>by
 obtain ⟨S,Z,Q3,fc,sl,⟨d,e,q⟩,k⟩:=aG7;obtain ⟨x,ex,e⟩:=bnd e;obtain ⟨y,ey,e⟩:=bnd e;refine ⟨S,Z,λd=>d=x,fc,sl,⟨x,ex,rfl⟩,λv H1 d1 s1 EO e1=>?_⟩;subst e1;refine ⟨S,Z,λd=>d=y,bP fc s1,Sl.fits (.same s1) sl,⟨y,ey,rfl⟩,λu H2 d2 s2 Q2 e2=>?_⟩;subst e2;have EO:=Dn.fits (.same s2) _ _ EO
 cases d1 with
 | dF q0 ks ds =>
  obtain ⟨kk,ek,e⟩:=bnd e;simp only [Dn] at EO;obtain ⟨a,o,kvs,rfl,ha,sa,⟨rfl,_⟩,da⟩:=EO;by_cases hk:kindB (kvs.map (·.1)) kk=true
  .rw [if_pos hk] at e;obtain ⟨v3,ev,dv⟩:=(uE da).1 d e;exact ⟨a,o,kvs,kk,v3,rfl,ha,sW Q2 ek,EB hk,ev,k v3 H2 d (s1.trans s2) dv q⟩
  .rw [if_neg hk] at e; cases e
 | _=>cases e
theorem WM{neg:Bool}{fo fi:EF}{U:L2.St}{H:Hp}{Q:VK}(h:lift X.K (wE (aC (zM neg) fi fo)) U H Q):aAC neg (lift X.K (wE fi)) (lift X.K (wE fo)) U H Q:=by
 obtain ⟨S,Z,Q3,fc,sl,⟨d,e,q⟩,k⟩:=h;obtain ⟨x,ex,e⟩:=bnd e;obtain ⟨y,ey,e⟩:=bnd e;refine ⟨S,Z,λd=>d=x,fc,sl,⟨x,ex,rfl⟩,λv H1 d1 s1 EO e1=>?_⟩;subst e1;refine ⟨S,Z,λd=>d=y,bP fc s1,Sl.fits (.same s1) sl,⟨y,ey,rfl⟩,λu H2 d2 s2 Q2 e2=>?_⟩;subst e2;have EO:=Dn.fits (.same s2) _ _ EO
 cases d2 with
 | dF q0 ks ds =>
  obtain ⟨kk,ek,e⟩:=bnd (o:=nW d1) e;simp only [Dn] at Q2;obtain ⟨a,o,kvs,rfl,ha,sa,⟨rfl,_⟩,da⟩:=Q2;by_cases hk:kindB (kvs.map (·.1)) kk=true
  .rw [if_pos hk] at e;cases e;have ev:(gJ kvs kk).isSome=(cP (kvs.map (·.1)) ds kk).isSome:=by
    cases hl:cP (kvs.map (·.1)) ds kk with
    | none=>rw [(uE da).2 hl]; rfl
    | some d3=>obtain ⟨v3,e3,_⟩:=(uE da).1 d3 hl; rw [e3]; rfl
   refine ⟨a,o,kvs,kk,rfl,ha,sW EO ek,EB hk,?_⟩;rw [ev];exact k _ H2 _ (s1.trans s2) (by simp only [Dn]) q
  .rw [if_neg hk] at e; cases e
 | _=>cases e
section
variable{o i:Expr}{pos:Pos}{fo fi:EF}
theorem B8{neg:Bool}{U:L2.St}{H:Hp}{Q:Bool->Hp->Prop}(h:liftT X.K (wT (tV (aC (zM neg) fi fo))) U H Q):tB (aAC neg (lift X.K (wE fi)) (lift X.K (wE fo))) U H Q:=by
 obtain ⟨S,Z,Q3,fc,sl,⟨b,e,q⟩,k⟩:=h;obtain ⟨d,e1,e2⟩:=bnd e;have eb:d=.bl b:=by
  obtain ⟨x,ex,e⟩:=bnd e1;obtain ⟨y,ey,e⟩:=bnd e
  cases y with
  | dF q0 ks ds =>
   obtain ⟨kk,ek,e⟩:=bnd (o:=nW x) e;by_cases hk:kindB ks kk=true
   .rw [if_pos hk] at e;cases e;cases e2;rfl
   .rw [if_neg hk] at e; cases e
  | _=>cases e
 subst eb;refine WM ⟨S,Z,λd=>d=.bl b,fc,sl,⟨_,e1,rfl⟩,λv H1 d s1 dn e3=>?_⟩;subst e3;simp only [Dn] at dn;exact ⟨b,dn,k b H1 s1 q⟩
theorem aG8(hu:X.A.units+2<cLine)(hi:bS X i fi)(ho:bS X o fo)(hm:behindInMarks .In o=false:=by with_unfolding_all rfl):vH X (.Compare i [.In] [o] pos) (tV (aC (zM false) fi fo)):=JH (TH (aDL hu hi ho) hm) λ_ _ _=>B8
theorem aDP(hu:X.A.units+2<cLine)(hi:bS X i fi)(ho:bS X o fo)(hm:behindInMarks .NotIn o=false:=by with_unfolding_all rfl):vH X (.Compare i [.NotIn] [o] pos) (tV (aC (zM true) fi fo)):=JH (TH (P9 hu hi ho) hm) λ_ _ _=>B8
end
theorem aG9{o e f:Expr}{apos cpos:Pos}{fo fe ff:EF}(hu:X.A.units+2<cLine)(ho:bS X o fo)(he:bS X e fe)(hf:bS X f ff)(m:M2 X o "get" apos e f cpos):bS X (.Call (.Attribute o "get" apos) [e,f] [] cpos) (K3 fo fe ff):=imp (WD hu ho he hf m) λU H Q aGa=>by
 obtain ⟨S,Z,Q3,fc,sl,⟨d,e,q⟩,k⟩:=aGa;obtain ⟨x,ex,e⟩:=bnd e;obtain ⟨y,ey,e⟩:=bnd e;obtain ⟨z,ez,e⟩:=bnd e
 cases x with
 | dF q0 ks ds =>
  obtain ⟨kk,ek,e'⟩:=bnd e
  clear e
  refine ⟨S,Z,λd=>d=.dF q0 ks ds,fc,sl,⟨_,ex,rfl⟩,λv H1 d1 s1 EO e1=>?_⟩;subst e1;have aLz:=EO;simp only [Dn] at EO;obtain ⟨a,o,kvs,rfl,ha,sa,_,da⟩:=EO;refine ⟨a,rfl,⟨o,kvs,ha⟩,S,Z,λd=>d=y,bP fc s1,Sl.fits (.same s1) sl,⟨y,ey,rfl⟩,λu H2 d2 s2 Q2 e2=>?_⟩;subst e2;refine ⟨S,Z,λd=>d=z,bP fc (s1.trans s2),Sl.fits (.same (s1.trans s2)) sl,⟨z,ez,rfl⟩,λt H3 d3 s3 dn3 e3=>?_⟩;subst e3;have EO:=Dn.fits (.same (s2.trans s3)) _ _ aLz;have Q2:=Dn.fits (.same s3) _ _ Q2;simp only [Dn] at EO;obtain ⟨a',o,kvs,ea,ha,sa,⟨rfl,_⟩,da⟩:=EO;cases ea;by_cases hk:kindB (kvs.map (·.1)) kk=true
  .rw [if_pos hk] at e';cases e';refine ⟨o,kvs,kk,ha,sW Q2 ek,EB hk,?_⟩
   cases hl:cP (kvs.map (·.1)) ds kk with
   | none =>
    rw [hl] at q;rw [(uE da).2 hl];exact k _ H3 _ ((s1.trans s2).trans s3) dn3 q
   | some d4 =>
    rw [hl] at q;obtain ⟨v4,e4,dv⟩:=(uE da).1 d4 hl;rw [e4];exact k _ H3 _ ((s1.trans s2).trans s3) dv q
  .rw [if_neg hk] at e'; cases e'
 | _=>cases e
theorem aGb{K:W.Frag}{a:Addr}{o:Obj}{kvs:List (KX×V×V)}{ds:List D}:Wlk K (Itx a o (kvs.map (·.2.1))) ((kvs.map (·.1)).map dKX) ((.dF (λ_ u=>u=o) (kvs.map (·.1)) ds,.ref a)::kvs.map λp=>(dKX p.1,p.2.1)) where
 go:=λS H fc hg i d e=>by have h:=hg _ mem_cons_self;simp only [Dn] at h;obtain ⟨b,o',kvs',eb,hb,sb,⟨_,eo⟩,dn⟩:=h;cases eb;have eo:o' = o:=eo;subst eo;rw [map_map,getElem?_map] at e;obtain ⟨p,ep,ed⟩:=Option.map_eq_some_iff.1 e;have hi:i<kvs.length:=(List.getElem?_eq_some_iff.1 ep).1;refine ⟨⟨⟨kvs',hb⟩,by simpa using hi⟩,λx H' y=>?_⟩;obtain ⟨e1,y⟩:=y;subst e1;rw [getElem?_map,ep] at y;cases y;cases ed;exact ⟨Same.refl _,hg (dKX p.1,p.2.1) (mem_cons_of_mem _ (List.mem_map_of_mem (mem_of_getElem? ep)))⟩
 stop:=λS H hg i hi=>by have h:=hg _ mem_cons_self;simp only [Dn] at h;obtain ⟨b,o',kvs',eb,hb,sb,⟨_,eo⟩,dn⟩:=h;cases eb;have eo:o' = o:=eo;subst eo;exact ⟨⟨kvs',hb⟩,by simp at hi ⊢; omega⟩
theorem aDQ{tg l:Expr}{f:EF}(h:bS X l f):Z6 X tg l (HW f):=OU (WH h) λU H R aGc=>by
 obtain ⟨S,Z,Q3,fc,sl,⟨es,e,q⟩,k⟩:=aGc;obtain ⟨x,ex,e⟩:=bnd e;refine ⟨S,Z,λd=>d=x,fc,sl,⟨x,ex,rfl⟩,λv H1 d1 s1 EO e1=>?_⟩;subst e1
 cases d1 with
 | dF q0 ks ds =>
  cases e;simp only [Dn] at EO;obtain ⟨a,o,kvs,rfl,ha,sa,⟨rfl,_⟩,da⟩:=EO;refine ⟨a,o,kvs,rfl,ha,λhk=>k _ H1 _ _ s1 (λg hg=>?_) (aGb (ds:=ds)) q⟩;rcases List.mem_cons.1 hg with e | hg
  .subst e;simp only [Dn];exact ⟨a,o,kvs,rfl,ha,sa,⟨rfl,rfl⟩,da⟩
  .obtain ⟨p,hp,rfl⟩:=List.mem_map.1 hg;exact aDO (hk p hp)
 | _=>cases e
end
section
variable{X:Cx}
theorem aAx{i:Nat}{x:Str}{pos pos' p:Pos}(hN:X.N.Nodup)(hi:X.N[i]? = some x:=by rfl)(hx:Loc X.env.scope x:=by first | exact .inl rfl | exact .inr rfl)(hs:swapsWith (.Dict [] [] p) (some (.Name x pos')) pos.line X.env=pure false:=by rfl)(hf:X.fn x=true\/X.env.scope.names.lookup x=some .local:=by first | exact .inl rfl | exact .inr rfl) :
  tJ X (.Assign [.Name x pos'] (.Dict [] [] p) pos) (EX i):=j3 (oG hN hi hx aAF hs hf) λB U H ⟨H₀,S,w,Z,G,E,hl,st,ht,ok⟩=>λp o hp =>
 ok.nx _ _ _ _ (by rw [length_set]; exact hl) (st.xO (d:=.dF vA [] []) (by rw [hl]; exact iO hi) (aX hp) hp ⟨o,[],bD,⟨rfl,trivial⟩,bC.nil⟩) ht
theorem aDR{i:Nat}{x:Str}{k v:Expr}{fk fv:EF}{pos pos' p:Pos}(hu:X.A.units+1<cLine)(hN:X.N.Nodup)(hk:bS X k fk)(hv:bS X v fv)(hi:X.N[i]? = some x:=by rfl)(hx:Loc X.env.scope x:=by first | exact .inl rfl | exact .inr rfl)(hs:swapsWith (.Dict [some k] [v] p) (some (.Name x pos')) pos.line X.env=pure false:=by rfl)(hf:X.fn x=true\/X.env.scope.names.lookup x=some .local:=by first | exact .inl rfl | exact .inr rfl) :
  tJ X (.Assign [.Name x pos'] (.Dict [some k] [v] p) pos) (CN i fk fv):=j3 (oG hN hi hx (aAG hu hk hv) hs hf) λB U H ⟨H₀,S,w,Z,G,E,hl,st,ht,ok⟩=>λp o hp=>by
 unfold wS CN at ht
 cases h:((fk (kD Z)).bind λkd=>(fv (kD Z)).bind λd=>(nW kd).map λkk=>(kk,d)) with
 | none=>rw [h] at ht; exact ht.elim
 | some q =>
  rw [h] at ht;obtain ⟨kd,ek,h⟩:=bnd h;obtain ⟨d,ed,h⟩:=bnd h;obtain ⟨kk,e2,rfl⟩:=tK h;have s0:Same H (upd H p (.dX o [])):=aX hp;have st0:=st.same s0
  -- p is not among what was there
  have fc0:∀ a,upd H p (.dX o []) a=none->(SO S w Z a/\a≠p):=λa ea=>⟨st0.UM a ea,λz=>by rw [z,bD] at ea; cases ea⟩;have F0:Fits X.K (SO S w Z) (λa=>SO S w Z a/\a≠p) H (upd H p (.dX o [])):=(Fits.fresh hp).trans (.same s0);have sl0:Sl X.K (λa=>SO S w Z a/\a≠p) (upd H p (.dX o [])) (kD Z) U:=Sl.fits F0 st.rd;refine ⟨_,kD Z,λy=>y=kd,fc0,sl0,⟨kd,ek,rfl⟩,λy H1 y' s1 dy ey=>?_⟩;subst ey;refine ⟨_,kD Z,λy=>y=d,bP fc0 s1,Sl.fits (.same s1) sl0,⟨d,ed,rfl⟩,λz H2 z' s2 dz ez=>?_⟩;subst ez;have dy:=Dn.fits (.same s2) _ _ dy;have e3:H2 p=some (.dX o []):=s2 _ _ (s1 _ _ bD);refine ⟨kk,sW dy e2,e3,λo'=>?_⟩;have s3:Same H (upd H2 p (.dX o' [(kk,y,z)])):=λb u hb=>by rw [bQ (bU hb hp)];exact s2 _ _ (s1 _ _ (s0 _ _ hb))
  have F3:Fits X.K (λa=>SO S w Z a/\a≠p) (λa=>SO S w Z a/\a≠p) H2 (upd H2 p (.dX o' [(kk,y,z)])):=.upd (.inr (.inr ⟨_,_,e3⟩)) (λh=>h.2 rfl);exact ok.nx _ _ _ _ (by rw [length_set]; exact hl) (st.xO (d:=.dF vA [kk] [z']) (by rw [hl]; exact iO hi) s3 hp ⟨o',_,bD,⟨rfl,trivial⟩,bC.one (Dn.fits F3 _ _ dz)⟩) ht
theorem aAJ{o:Option Sv}{p:(Nat->Obj->Prop)×List vO×List D}(h:EW o=some p):o=some (.ow (.dF p.1 p.2.1 p.2.2)):=by
 unfold EW at h;split at h
 .cases h; rfl
 .cases h
theorem WN{i:Nat}{x:Str}{e k:Expr}{f:XF}{fk:EF}{pos pos' p:Pos}(hu:X.A.units+2<cLine)(he:MT X e f)(hk:bS X k fk)
  (hN:X.N[i]? = some x:=by rfl) (hv:EL X.env.scope x:=by first | exact Or.inl rfl | exact Or.inr (Or.inl rfl) | exact Or.inr (Or.inr rfl)) (hd:(x == ("__debug__" : Str))=false:=by decide) (hcd:(x == ("__classdict__" : Str))=false:=by decide)
  (hs:swapsWith e (some (.Subscript (.Name x p) k pos')) pos.line X.env=pure false:=by rfl) :
  tJ X (.Assign [.Subscript (.Name x p) k pos'] e pos) (mC i f fk):=j3 (aAE hu (t5 hN hv hd hcd) hk he hs) λB U H aGd=>by
 obtain ⟨H₀,S,w,Z,G,E,hl,st,ht,ok⟩:=aGd;unfold wS mC at ht;cases h:((f Z).bind λp=>(EW p.1[i]?).bind λkd=>(fk (bT p.1)).bind λkv=>(nW kv).bind λkk =>
  if kindB kd.2.1 kk=true/\kd.2.2.length<uK then some (p.1.set i (.ow (.dF (adr kd.1) (L4.fO kd.2.1 kd.2.2 kk p.2).1 (L4.fO kd.2.1 kd.2.2 kk p.2).2))) else none) with
 | none=>rw [h] at ht; exact ht.elim
 | some ρ2 =>
  rw [h] at ht;obtain ⟨⟨ρ1,d1⟩,eq,h⟩:=bnd h;obtain ⟨⟨q0,ks,ds⟩,ed,h⟩:=bnd h;obtain ⟨kv,ek,h⟩:=bnd h;obtain ⟨kk,e2,h⟩:=bnd h;have o0:=aAJ ed;by_cases hc:kindB ks kk=true/\ds.length<uK
  .rw [if_pos hc] at h;cases h;refine ⟨H₀,S,w,Z,G,λρ' d=>ρ' = ρ1/\d=d1,hl,st,⟨_,eq,rfl,rfl⟩,λw' v H' ρ' d st' dv q'=>?_⟩;obtain ⟨rfl,rfl⟩:=q';obtain ⟨a0,_,_⟩:=st'.own i _ o0;refine ⟨_,a0,S,bT ρ',λy=>y=kv,st'.OQ,st'.all,⟨kv,ek,rfl⟩,λy H2 y' s2 dy ey=>?_⟩;subst ey;have st2:=st'.same s2;obtain ⟨a,b,c⟩:=st2.own i _ o0;obtain ⟨o,kvs,hp,⟨e5,hq⟩,dn⟩:=c;subst e5;have nS:¬ SO S w' ρ' (w' i):=λ⟨_,z⟩=>z i _ o0 rfl;refine ⟨w' i,o,kvs,kk,rfl,hp,sW dy e2,EB hc.1,?_,λo'=>?_⟩
   .have:=dn.len;rw [length_map] at this;rw [sizeLine_eq,<- this];exact hc.2
   .have F:Fits X.K (SO S w' ρ') (SO S w' ρ') H2 (upd H2 (w' i) (.dX o' (L8.fO kvs kk y v))):=.upd (.inr (.inr ⟨_,_,hp⟩)) nS;obtain ⟨p1,p2⟩:=aG6 (k:=kk) (y:=y) (Dn.fits (.same s2) _ _ dv) dn;exact ok.nx w' U _ _ hl (st2.write (d':=.dF (adr q0) _ _) o0 ⟨o',_,bD,⟨p1,o,hq⟩,bC.fits F _ _ p2⟩) ht
  .rw [if_neg hc] at h; cases h
theorem aAK{K:W.Frag}{H₀ H:Hp}{S:Addr->Prop}{w:Nat->Addr}{U:L2.St}{Z:aP}{G:List (D×V)}{i j:Nat}{d:D}(h:ST K H₀ S w U H Z G)(hij:i≠j)(hi:i<U.length)(ej:Z[j]? = some (.ow d)) :
  ST K H₀ S (λn=>if n=i then w j else w n) (U.set i (some (.ref (w j)))) H ((Z.set j .no).set i (.ow d)) G:=by
 obtain ⟨aj,bj,cj⟩:=h.own j d ej;have hw:∀ (n:Nat) (e:D),n≠i->((Z.set j .no).set i (.ow d))[n]? = some (Sv.ow e)->n≠j/\Z[n]? = some (Sv.ow e):=λn e hn he=>by
  rcases get_set he with ⟨z,_,_⟩ | ⟨_,z⟩
  .exact absurd z hn
  .rcases get_set z with ⟨_,z,_⟩ | z
   .cases z
   .exact z
 have so:∀ a,SO S w Z a->SO S (λn=>if n=i then w j else w n) ((Z.set j .no).set i (.ow d)) a:=λa ⟨s,n⟩=>⟨s,λm e he=>by
  show a≠(if m=i then w j else w m);by_cases hm:m=i
  .rw [if_pos hm]; exact n j d ej
  .rw [if_neg hm]; exact n m e (hw m e hm he).2⟩
 refine ⟨h.fc,h.sm,λn e he=>?_,λm n d1 e1 h1 h2 z=>?_,λn e he=>?_,λg hg=>Dn.fits (.mono so) _ _ (h.gh g hg)⟩
 .by_cases hn:n=i
  .subst hn;rcases get_set he with ⟨_,z,_⟩ | ⟨z,_⟩
   .cases z;rw [if_pos rfl];exact ⟨getElem?_set_self hi,bj,cj.fits (.mono so) λ_ z=>z⟩
   .exact absurd rfl z
  .rw [if_neg hn];obtain ⟨_,he2⟩:=hw n e hn he;obtain ⟨a,b,c⟩:=h.own n e he2;exact ⟨by rw [getElem?_set_ne (Ne.symm hn)]; exact a,b,c.fits (.mono so) λ_ z=>z⟩
 .have z:(if m=i then w j else w m)=(if n=i then w j else w n):=z;by_cases hm:m=i
  .by_cases hn:n=i
   .rw [hm,hn]
   .rw [if_pos hm,if_neg hn] at z;obtain ⟨q1,q2⟩:=hw n e1 hn h2;exact absurd (h.inj _ _ _ _ ej q2 z).symm q1
  .by_cases hn:n=i
   .rw [if_neg hm,if_pos hn] at z;obtain ⟨q1,q2⟩:=hw m d1 hm h1;exact absurd (h.inj _ _ _ _ q2 ej z) q1
   .rw [if_neg hm,if_neg hn] at z;exact h.inj m n d1 e1 (hw m d1 hm h1).2 (hw n e1 hn h2).2 z
 .rcases get_set he with ⟨_,z,_⟩ | ⟨hn,z⟩
  .cases z
  .rcases get_set z with ⟨_,z,_⟩ | ⟨_,z⟩
   .cases z
   .obtain ⟨v,a,b⟩:=h.ro n e z;exact ⟨v,by rw [getElem?_set_ne (Ne.symm hn)]; exact a,Dn.fits (.mono so) e v b⟩
theorem aGe{i j:Nat}{x y:Str}{pos pos' p:Pos}(hN:X.N.Nodup)(hi:X.N[i]? = some x:=by rfl)(hj:X.N[j]? = some y:=by rfl)(hx:Loc X.env.scope x:=by first | exact .inl rfl | exact .inr rfl)(hv:EL X.env.scope y:=by first | exact Or.inl rfl | exact Or.inr (Or.inl rfl) | exact Or.inr (Or.inr rfl))(hd:(y == ("__debug__" : Str))=false:=by decide)(hcd:(y == ("__classdict__" : Str))=false:=by decide)
  (hs:swapsWith (.Name y p) (some (.Name x pos')) pos.line X.env=pure false:=by rfl) (hf:X.fn x=true\/X.env.scope.names.lookup x=some .local:=by first | exact .inl rfl | exact .inr rfl) :
  tJ X (.Assign [.Name x pos'] (.Name y p) pos) (K4 i j):=j3 (oG hN hi hx (t5 hj hv hd hcd) hs hf) λB U H aGf=>by
 obtain ⟨H₀,S,w,Z,G,E,hl,st,ht,ok⟩:=aGf;unfold wS K4 at ht
 cases h:Z[j]? with
 | none=>rw [h] at ht; exact ht.elim
 | some sv =>
  rw [h] at ht
  cases sv with
  | no=>exact ht.elim
  | ro d=>exact ht.elim
  | ow d =>
   dsimp only at ht;by_cases hij:i=j
   .rw [if_pos hij] at ht; exact ht.elim
   .rw [if_neg hij] at ht;exact ⟨_,(st.own j d h).1,ok.nx _ _ H _ (by rw [length_set]; exact hl) (aAK st hij (by rw [hl]; exact iO hi) h) ht⟩
end
section
variable{X:Cx}
end
section
variable{X:Cx}
end
end L8
end
section
namespace L8
open PySem PySem.Spec PyProof.Rows L2 L3 L4 L5
section
variable{X:Cx}
end
end L8
end
section
namespace L8
open PySem PySem.Spec PyProof.Rows L2 L3 L4
theorem aGg{x y:Int}(hx:0<=x)(hy:0<=y):Builtin.bitOr x y=((x.toNat ||| y.toNat:Nat):Int):=by unfold Builtin.bitOr;rw [bitAnd_nn (by unfold Builtin.bitNot; omega) (by unfold Builtin.bitNot; omega)];unfold Builtin.bitNot;rw [show (-(-x - 1) - 1:Int)=x by omega,show (-(-y - 1) - 1:Int)=y by omega];omega
section
variable{X:Cx}
def CNN(i j:Int):Prop:=0<=i/\0<=j
theorem aAy{i j:Int}(h:nnC i j=true):CNN i j:=by unfold nnC at h;rw [Bool.and_eq_true] at h;exact ⟨of_decide_eq_true h.1,of_decide_eq_true h.2⟩
theorem aAL:i6 X (binaryOp .BitAnd) (rI CNN λi j=>.int ((i.toNat &&& j.toNat:Nat):Int)):=opI λi j _ _ _ _ _ hc q=>and_int (by rw [bitAnd_pp hc.1 hc.2]; exact q)
theorem aDS:i6 X (binaryOp .BitOr) (rI CNN λi j=>.int ((i.toNat ||| j.toNat:Nat):Int)):=opI λi j _ _ _ _ _ hc q=>or_int (by rw [aGg hc.1 hc.2]; exact q)
section
variable{a b:Expr}{fa fb:EF}{pos:Pos}
theorem aAz(ha:bS X a fa)(hb:bS X b fb):bS X (.BinOp a .BitAnd b pos) (aC nX fa fb):=cE (W7 aAL oJ ha hb) (iH (fS λi j h=>aAy h))
theorem aGh(ha:bS X a fa)(hb:bS X b fb):bS X (.BinOp a .BitOr b pos) (aC HY fa fb):=cE (W7 aDS oJ ha hb) (iH (fS λi j h=>aAy h))
theorem aMB(ha:bS X a fa)(hb:bS X b fb):bS X (.BinOp a .RShift b pos) (aC HX fa fb):=cE (W7 aCC oJ ha hb) (iH (fS λi j h=>by simpa using h))
theorem aAM(ha:bS X a fa)(hb:bS X b fb):bS X (.BinOp a .LShift b pos) (aC wK fa fb):=cE (W7 aCB oJ ha hb) (iH (fS λi j h=>by
 simp only [Bool.and_eq_true,decide_eq_true_eq] at h;refine ⟨h.1.1,by omega,?_⟩;have:(2:Nat) ^ 64=18446744073709551616:=by decide
 rw [this];exact h.2))
end
end
end L8
end
section
namespace L9
open PySem PySem.Spec PyProof.Rows L2 L3 L4 L5
section
variable{X:Cx}
def aBA(K:W.Frag):List V->Hp->VK->Prop:=λxs H Q=>∃ (a:Addr) (ns:List Int),xs=[.ref a]/\gH K H a (ns.map V.int)/\ns≠[]/\Q (.int (CL ns)) H
theorem QB(hc:X.calm=true):jI X (.builtin "max") (aBA X.K):=by
 intro pins s U H xs us Q I r h;obtain ⟨a,ns,rfl,ha,hne,q⟩:=h;obtain ⟨u,rfl,ru⟩:=vals1 r;cases ru;obtain ⟨its,rv,p,hz⟩:=I.list ha;have hi:=intsAre_of rv;obtain ⟨zs,ez⟩:=hi.allInts.items;have en:zs.toList.map (·.1)=ns:=by rw [<- nums_intItems,<- ez];exact hi.numsOf
 have sz:zs.size=ns.length:=by rw [<- en,length_map,Array.length_toList]
 have hpos:0<zs.size:=by rw [sz]; exact List.length_pos_iff.2 hne
 have pl:s.heap.IsList a its.toArray:=p.isList;have pt:s.heap.IsList a (intItems zs):=ez▸pl;have hlt:a<s.heap.objs.size:=by obtain ⟨_,_,e,_⟩:=p; exact lt_size e
 refine call_max_walk (wpAny_pyIter_list pt ?_);refine ⟨_,_,_,_,_,_,_,rfl,Walks.list (A:=X.A.in1) (I.ok.hd hc) _ a (ne_of_lt hlt) (intItems zs),⟨⟨_,get?_push_size _ rfl,rfl,rfl⟩,pt.push _⟩,?_,by simpa [intItems] using hpos,CmpOf.ints_gt (numAt zs) (λ_ _=>intItems_at),λv h' tk hP hk=>?_⟩
 .intro b hb;refine Nat.lt_of_lt_of_eq ?_ (Heap.size_push _ _).symm;have two:b=s.heap.objs.size\/b=a:=by simpa using hb
  rcases two with z | z
  .rw [z]; exact Nat.lt_succ_self _
  .rw [z]; exact Nat.lt_succ_of_lt hlt
 .have hP:(intItems zs)[argBest (λi j=>decide (numAt zs i>numAt zs j)) (zs.size - 1)]? = some v:=by simpa [intItems] using hP
  obtain ⟨t,rfl⟩:=intItems_at hP;obtain ⟨b1,b2⟩:=argBest_gt (numAt zs) (zs.size - 1);generalize argBest (λi j=>decide (numAt zs i>numAt zs j)) (zs.size - 1)=J at b1 b2;have atz:∀ j,j<ns.length->numAt zs j=ns.getD j 0:=λj hj=>by rw [numAt_eq,en]
  have mem:numAt zs J∈ns:=by rw [atz J (by omega),getD_eq_getElem?_getD,getElem?_eq_getElem (by omega)];exact getElem_mem _
  have top:∀ b∈ns,b<=numAt zs J:=λb hb=>by obtain ⟨j,hj,ej⟩:=getElem_of_mem hb;subst ej;have:=b2 j (by omega);rw [atz j hj,getD_eq_getElem?_getD,getElem?_eq_getElem hj] at this;exact this
  have key:CL ns=numAt zs J:=by
   cases ns with
   | nil=>exact absurd rfl hne
   | cons c l=>exact D9 l c _ (List.mem_cons.1 mem) (top c (by simp)) λb hb=>top b (by simp [hb])
  refine ⟨.int (CL ns),H,I.kept λb o e=>hk b o (λhb=>?_) (get?_push_of_some _ e),⟨t,by rw [key]⟩,q⟩;have:b=s.heap.objs.size:=by simpa using hb
  exact lt_irrefl _ (this▸lt_size e)
def aBB:F1
 | [.lst ds],Q=>∃ ns:List Int,ds=ns.map D.int/\ns≠[]/\Q (.int (CL ns))
 | _,_=>False
theorem aAN:C3 K (aBA K) aBB:=by
 intro S H xs ds Q3 Q fc hd hf k
 match ds,hf with
 | [.lst es],⟨ns,e,ne,q⟩ =>
  subst e;obtain ⟨v,r,rfl,h1,h2⟩:=hd.bV;simp only [bC] at h2;subst h2;simp only [Dn] at h1;obtain ⟨a,ys,rfl,ha,_,da⟩:=h1;have e2:=bC.ints.1 da;subst e2;exact ⟨a,ns,rfl,(gH.of ha),ne,k _ H _ (Same.refl H) (by simp only [Dn]) q⟩
theorem J8:qU aBB K5:=λds d Q e q=>by
 unfold K5 at e;split at e
 .obtain ⟨ns,e1,e⟩:=bnd e;by_cases ne:ns=[]
  .rw [if_pos ne] at e; cases e
  .rw [if_neg ne] at e;cases e;have:=ints_of e1;subst this;exact ⟨ns,rfl,ne,q⟩
 .cases e
theorem aGi{p pos:Pos}{e:Expr}{t:AF}(hc:X.calm=true)(hm:X.mg "max" = none)(ha:zZ X [e] t)(hg:Gl X "max" := by rfl)(he:starEach [e] X.env=(false,eval e X.env)::starEach [] X.env:=by rfl):bS X (.Call (.Name "max" p) [e] [] pos) (bF K5 t) :=
 cE (D0 (QB hc) aAN PyProof.Rows.boot_max hg hm ha (by decide) (by decide) he (by rfl)) (JR J8)
end
end L9
end
section
namespace K32
open PySem L2 L3 L4 L6 L7 L8 L9 L5
def top(i : Nat) : Stmt := PySem.Challenge.pw_risecount_k32_looker_right.main.body.getD i (.Pass ⟨0, 0, 0, 0⟩)
section
variable{P:Program}{w:World}{K:W.Frag}{mg:Q0Z}{base:Heap}{f:Addr}{fd:FuncData}
abbrev eQ:Stmt:=top 7
theorem nO:bH ["n"] ["n"] (aI eQ):=⟨rfl,rfl,rfl,by decide +kernel,rfl,by decide +kernel,by decide +kernel⟩
theorem vI(F:nU K "are_too_many" "are_too_many" eQ f fd){lV:Tok}(lW:mg "MOST_THINGS" = some (.int 9 lV)):aW P w K mg base dO (kk+1) f fd ["n"] (eF K LL.eP):=by refine jJ F nO rfl rfl (λcdv A outer s H E hr=>?_);have nd:=nO.nd;exact (aS (fP (gt4 (x4 0) (c4 lW))))
abbrev i8:Stmt:=top 10
theorem uY:bH ["number", "n"] ["number", "n"] (aI i8):=⟨rfl,rfl,rfl,by decide +kernel,rfl,by decide +kernel,by decide +kernel⟩
theorem G7(F:nU K "is_thing" "is_thing" i8 f fd):aW P w K mg base dO (kk+1) f fd ["number", "n"] (eF K LL.dA):=by refine jJ F uY rfl rfl (λcdv A outer s H E hr=>?_);have nd:=uY.nd;exact (aS (fP (aCr ME MD VD VC i4 (x4 0) (x4 1))))
abbrev gZ:Stmt:=top 11
theorem sY:bH ["things", "n", "place", "thing"] ["things", "n"] (aI gZ):=⟨rfl,rfl,rfl,by decide +kernel,rfl,by decide +kernel,by decide +kernel⟩
theorem EC{g1:Addr}{d1:FuncData}(F:nU K "is_rising" "is_rising" gZ f fd)(gK:aW P w K mg base dO kk g1 d1 ["number", "n"] (eF K LL.dA))(gM:mg "is_thing" = some (.ref g1))(gO:W.keepIn K (.ref g1)=true)(gR:Binds K d1 ["number", "n"] [])(eG:mg "enumerate" = none):aW P w K mg base dO (kk+1) f fd ["things", "n"] (eF K LL.gW):=by
 refine jJ F sY rfl rfl (λcdv A outer s H E hr=>?_);have nd:=sY.nd;exact (bI (qY rfl PassesOwn.never (qX eG (aF (x4 0) aL)) (GO (i:=2) (j:=3) rfl nd)
   (bI (iI (sP (x9 (cD gK hr gM gO gR (aF (x4 3) (aF (x4 1) aL)))))
    (aS (fP b4))
    jS)
   (aS (iI (BX.pt (x8 (D4 (x4 2) i4) (x6 (aF9 (fG (x4 0) (Z7 (x4 2) i4)) (x4 3)))))
    (aS (fP b4))
    jS))))
  (aS (fP b4)))
abbrev eD:Stmt:=top 12
theorem mM:bH ["rows", "row", "thing"] ["rows", "row"] (aI eD):=⟨rfl,rfl,rfl,by decide +kernel,rfl,by decide +kernel,by decide +kernel⟩
theorem uF(F:nU K "has_all_below" "has_all_below" eD f fd)(sZ:mg "all" = none):aW P w K mg base dO (kk+1) f fd ["rows", "row"] (eF K LL.eB):=by
 refine jJ F mM rfl rfl (λcdv A outer s H E hr=>?_);have nd:=mM.nd;exact (bI (qY rfl PassesOwn.never (sR (x4 1)) (nN (i:=2) nd)
   (aS (iI (sP (x9 (aCy rfl sZ (aF (pL.pe (oO (ls:=["lower"]) (fs:=["row"]) (fr:=[1]) rfl (sR (fG (x4 0) (x4 2))) (λ_ _ _ _ _ _ nd=>jR (i:=0) nd (by decide)) (λ_ _ _ _ _ _=>uW) (λ_ _ _ _ _ _=>(in4 (x4 0) (x4 1))))) aL))))
    (aS (fP b4))
    jS)))
  (aS (fP b4)))
abbrev mO:Stmt:=top 9
theorem B9:bH ["rows", "b", "row"] ["rows", "b"] (aI mO):=⟨rfl,rfl,rfl,by decide +kernel,rfl,by decide +kernel,by decide +kernel⟩
theorem QC{g1 g2:Addr}{d1 d2:FuncData}(F:nU K "is_row" "is_row" mO f fd)(vJ:aW P w K mg base dO kk g1 d1 ["rows", "row"] (eF K LL.eB))(vK:mg "has_all_below" = some (.ref g1))(vL:W.keepIn K (.ref g1)=true)(vM:Binds K d1 ["rows", "row"] [])(G8:aW P w K mg base dO kk g2 d2 ["things", "n"] (eF K LL.gW))(G9:mg "is_rising" = some (.ref g2))(HA:W.keepIn K (.ref g2)=true)(HB:Binds K d2 ["things", "n"] [])(aT:mg "len" = none):aW P w K mg base dO (kk+1) f fd ["rows", "b"] (eF K LL.mG):=by
 refine jJ F B9 rfl rfl (λcdv A outer s H E hr=>?_);have nd:=B9.nd;exact (bI (fC (i:=2) nd (fG (x4 0) (x4 1)))
  (aS (fP (D5 (cD G8 hr G9 HA HB (aF (x4 2) (aF (eU aT (aF (x4 0) aL)) aL))) (D5 (aCq (x4 1) (x4 2)) (JP (cD vJ hr vK vL vM (aF (x4 0) (aF (x4 2) aL)))))))))
abbrev i9:Stmt:=top 8
theorem uZ:bH ["rows"] ["rows"] (aI i9):=⟨rfl,rfl,rfl,by decide +kernel,rfl,by decide +kernel,by decide +kernel⟩
theorem HC{g1 g2:Addr}{d1 d2:FuncData}(F:nU K "is_order" "is_order" i9 f fd)(WP:aW P w K mg base dO kk g1 d1 ["rows", "b"] (eF K LL.mG))(WQ:mg "is_row" = some (.ref g1))(WR:W.keepIn K (.ref g1)=true)(WU:Binds K d1 ["rows", "b"] [])(yJ:aW P w K mg base dO kk g2 d2 ["n"] (eF K LL.eP))(yK:mg "are_too_many" = some (.ref g2))(yL:W.keepIn K (.ref g2)=true)(yM:Binds K d2 ["n"] [])(aT:mg "len" = none)(bN:mg "range" = none)(sZ:mg "all" = none):aW P w K mg base dO (kk+1) f fd ["rows"] (eF K LL.iW):=by
 refine jJ F uZ rfl rfl (λcdv A outer s H E hr=>?_);have nd:=uZ.nd;exact (bI (iI (x9 (cD yJ hr yK yL yM (aF (eU aT (aF (x4 0) aL)) aL)))
   (aS (fP b4))
   jS)
  (aS (fP (aCy rfl sZ (aF (pL.pe (oO (ls:=["thing"]) (fs:=["rows"]) (fr:=[0]) rfl (fY bN (eU aT (aF (x4 0) aL))) (λ_ _ _ _ _ _ nd=>jR (i:=0) nd (by decide)) (λ_ _ _ _ _ _=>uW) (λ_ _ _ _ _ _=>(cD WP hr WQ WR WU (aF (x4 1) (aF (x4 0) aL)))))) aL)))))
abbrev dB:Stmt:=top 14
theorem jU:bH ["n", "a", "b"] ["n", "a", "b"] (aI dB):=⟨rfl,rfl,rfl,by decide +kernel,rfl,by decide +kernel,by decide +kernel⟩
theorem pX{g1:Addr}{d1:FuncData}(F:nU K "refuse_strangers" "refuse_strangers" dB f fd)(gK:aW P w K mg base dO kk g1 d1 ["number", "n"] (eF K LL.dA))(gM:mg "is_thing" = some (.ref g1))(gO:W.keepIn K (.ref g1)=true)(gR:Binds K d1 ["number", "n"] []){mP:Addr}(uG:mg "NoThing" = some (.ref mP))(uH:VU K mP):aW P w K mg base (zK P w) (kk+1) f fd ["n", "a", "b"] (M0 K mg LL.bA):=by
 refine aDD F jU rfl rfl (λcdv A outer s H E hr=>?_);have nd:=jU.nd;exact (aS (iI (BX.pt (VF (sP (x9 (cD gK hr gM gO gR (aF (x4 1) (aF (x4 0) aL))))) (VE (sP (x9 (cD gK hr gM gO gR (aF (x4 2) (aF (x4 0) aL))))))))
   (aS (JX rfl rfl uG uH (aF s4 aL)))
   jS))
abbrev hJ:Stmt:=top 13
theorem tE:bH ["order", "a", "b", "lower", "rows", "thing", "row", "reached"] ["order", "a", "b"] (aI hJ):=⟨rfl,rfl,rfl,by decide +kernel,rfl,by decide +kernel,by decide +kernel⟩
theorem ED{g1:Addr}{d1:FuncData}(F:nU K "put_under" "put_under" hJ f fd)(dS:aW P w K mg base (zK P w) kk g1 d1 ["n", "a", "b"] (M0 K mg LL.bA))(dU:mg "refuse_strangers" = some (.ref g1))(dW:W.keepIn K (.ref g1)=true)(dY:Binds K d1 ["n", "a", "b"] []){oS:Addr}(yN:mg "Looped" = some (.ref oS))(yO:VU K oS)(d9:mg "tuple" = none)(eG:mg "enumerate" = none)(iK:mg "sorted" = none)(WV:mg "set" = none)(aT:mg "len" = none):aW P w K mg base (zK P w) (kk+1) f fd ["order", "a", "b"] (M0 K mg LL.eW):=by
 refine aDD F tE rfl rfl (λcdv A outer s H E hr=>?_);have nd:=tE.nd;exact (bI (VT (B3 dS hr dU dW dY (aF (eU aT (aF (x4 0) aL)) (aF (x4 1) (aF (x4 2) aL)))) (JW rfl dS hr dU dW dY (aF (eU aT (aF (x4 0) aL)) (aF (x4 1) (aF (x4 2) aL)))))
  (bI (iI (BX.pt (VF (x5 (x4 1) (x4 2)) (VE (aFa (x4 2) (fG (x4 0) (x4 1))))))
   (aS (JX rfl rfl yN yO (aF s4 aL)))
   jS)
  (bI (fC (i:=3) nd (iN (fG (x4 0) (x4 1)) (qT (aF (x4 1) aL))))
  (bI (AB (i:=4) nd (pV aL))
  (bI (aGM (qY rfl PassesOwn.never (qX eG (aF (x4 0) aL)) (GO (i:=5) (j:=6) rfl nd)
   (bI (fC (i:=7) nd (or4 (eq4 (x4 5) (x4 2)) (JP (in4 (x4 2) (x4 6)))))
   (aS (mL (yC (i:=4) (uC (if4 (x9 (x4 7)) (oM d9 (aF (pL.pe (J7 rfl iK WV (aF (iN (x4 6) (x4 3)) aL))) aL)) (x4 6)))))))))
  (aS (fP (oM d9 (aF (x4 4) aL)))))))))
abbrev hV:Stmt:=top 17
theorem tF:bH ["order", "a", "b"] ["order", "a", "b"] (aI hV):=⟨rfl,rfl,rfl,by decide +kernel,rfl,by decide +kernel,by decide +kernel⟩
theorem EE(F:nU K "are_loose" "are_loose" hV f fd):aW P w K mg base dO (kk+1) f fd ["order", "a", "b"] (eF K LL.cK):=by refine jJ F tF rfl rfl (λcdv A outer s H E hr=>?_);have nd:=tF.nd;exact (aS (fP (D5 (ne4 (x4 1) (x4 2)) (D5 (aCq (x4 1) (fG (x4 0) (x4 2))) (JP (aCq (x4 2) (fG (x4 0) (x4 1))))))))
abbrev fJ:Stmt:=top 16
theorem oU:bH ["order", "pairs", "a"] ["order"] (aI fJ):=⟨rfl,rfl,rfl,by decide +kernel,rfl,by decide +kernel,by decide +kernel⟩
theorem yP{g1:Addr}{d1:FuncData}(F:nU K "loose_pairs" "loose_pairs" fJ f fd)(jK:aW P w K mg base dO kk g1 d1 ["order", "a", "b"] (eF K LL.cK))(jL:mg "are_loose" = some (.ref g1))(jM:W.keepIn K (.ref g1)=true)(jN:Binds K d1 ["order", "a", "b"] [])(d9:mg "tuple" = none)(aT:mg "len" = none)(bN:mg "range" = none):aW P w K mg base dO (kk+1) f fd ["order"] (eF K LL.fH):=by
 refine jJ F oU rfl rfl (λcdv A outer s H E hr=>?_);have nd:=oU.nd;exact (bI (AB (i:=1) nd (pV aL))
  (bI (qY rfl PassesOwn.never (fY bN (eU aT (aF (x4 0) aL))) (nN (i:=2) nd)
   (aS (mL (Z8 (i:=1) (uC (pL.pe (oO (ls:=["b"]) (fs:=["a", "order"]) (fr:=[2,0]) rfl (MY bN (iN (x4 2) i4) (eU aT (aF (x4 0) aL))) (λ_ _ _ _ _ _ nd=>jR (i:=0) nd (by decide)) (λ_ _ _ _ _ _=>yB (x9 (cD jK hr jL jM jN (aF (x4 2) (aF (x4 1) (aF (x4 0) aL)))))) (λ_ _ _ _ _ _=>(qT (aF (x4 1) (aF (x4 0) aL)))))))))))
  (aS (fP (oM d9 (aF (x4 1) aL))))))
abbrev CA:Stmt:=top 18
theorem WW:bH ["order", "a", "b"] ["order", "a", "b"] (aI CA):=⟨rfl,rfl,rfl,by decide +kernel,rfl,by decide +kernel,by decide +kernel⟩
theorem aDT{g1 g2 g3:Addr}{d1 d2 d3:FuncData}(F:nU K "cut" "cut" CA f fd)(lI:aW P w K mg base (zK P w) kk g1 d1 ["order", "a", "b"] (M0 K mg LL.eW))(lJ:mg "put_under" = some (.ref g1))(lK:W.keepIn K (.ref g1)=true)(lM:Binds K d1 ["order", "a", "b"] [])(jK:aW P w K mg base dO kk g2 d2 ["order", "a", "b"] (eF K LL.cK))(jL:mg "are_loose" = some (.ref g2))(jM:W.keepIn K (.ref g2)=true)(jN:Binds K d2 ["order", "a", "b"] [])(dS:aW P w K mg base (zK P w) kk g3 d3 ["n", "a", "b"] (M0 K mg LL.bA))(dU:mg "refuse_strangers" = some (.ref g3))(dW:W.keepIn K (.ref g3)=true)(dY:Binds K d3 ["n", "a", "b"] []){kR:Addr}(rC:mg "NotLoose" = some (.ref kR))(rD:VU K kR)(aT:mg "len" = none):aW P w K mg base (zK P w) (kk+1) f fd ["order", "a", "b"] (M0 K mg LL.BB):=by
 refine aDD F WW rfl rfl (λcdv A outer s H E hr=>?_);have nd:=WW.nd;exact (bI (VT (B3 dS hr dU dW dY (aF (eU aT (aF (x4 0) aL)) (aF (x4 1) (aF (x4 2) aL)))) (JW rfl dS hr dU dW dY (aF (eU aT (aF (x4 0) aL)) (aF (x4 1) (aF (x4 2) aL)))))
  (bI (iI (sP (x9 (cD jK hr jL jM jN (aF (x4 0) (aF (x4 1) (aF (x4 2) aL))))))
   (aS (JX rfl rfl rC rD (aF s4 aL)))
   jS)
  (aS (aGE (qT (aF (B3 lI hr lJ lK lM (aF (x4 0) (aF (x4 1) (aF (x4 2) aL)))) (aF (B3 lI hr lJ lK lM (aF (x4 0) (aF (x4 2) (aF (x4 1) aL)))) aL))) (aGI (aDE (JW rfl lI hr lJ lK lM (aF (x4 0) (aF (x4 1) (aF (x4 2) aL)))) (aF (B3 lI hr lJ lK lM (aF (x4 0) (aF (x4 2) (aF (x4 1) aL)))) aL)))))))
abbrev fK:Stmt:=top 21
theorem oV:bH ["rows", "n"] ["rows", "n"] (aI fK):=⟨rfl,rfl,rfl,by decide +kernel,rfl,by decide +kernel,by decide +kernel⟩
theorem yQ{g1:Addr}{d1:FuncData}(F:nU K "is_order_of" "is_order_of" fK f fd)(J9:aW P w K mg base dO kk g1 d1 ["rows"] (eF K LL.iW))(KA:mg "is_order" = some (.ref g1))(KB:W.keepIn K (.ref g1)=true)(KC:Binds K d1 ["rows"] [])(aT:mg "len" = none):aW P w K mg base dO (kk+1) f fd ["rows", "n"] (eF K LL.gC):=by refine jJ F oV rfl rfl (λcdv A outer s H E hr=>?_);have nd:=oV.nd;exact (aS (fP (D5 (eq4 (eU aT (aF (x4 0) aL)) (x4 1)) (JP (cD J9 hr KA KB KC (aF (x4 0) aL))))))
abbrev dC:Stmt:=top 23
theorem jV:bH ["order", "a", "b"] ["order", "a", "b"] (aI dC):=⟨rfl,rfl,rfl,by decide +kernel,rfl,by decide +kernel,by decide +kernel⟩
theorem pZ{g1 g2:Addr}{d1 d2:FuncData}(F:nU K "are_loose_things" "are_loose_things" dC f fd)(jK:aW P w K mg base dO kk g1 d1 ["order", "a", "b"] (eF K LL.cK))(jL:mg "are_loose" = some (.ref g1))(jM:W.keepIn K (.ref g1)=true)(jN:Binds K d1 ["order", "a", "b"] [])(gK:aW P w K mg base dO kk g2 d2 ["number", "n"] (eF K LL.dA))(gM:mg "is_thing" = some (.ref g2))(gO:W.keepIn K (.ref g2)=true)(gR:Binds K d2 ["number", "n"] [])(aT:mg "len" = none):aW P w K mg base dO (kk+1) f fd ["order", "a", "b"] (eF K LL.dR):=by refine jJ F jV rfl rfl (λcdv A outer s H E hr=>?_);have nd:=jV.nd;exact (aS (fP (D5 (cD gK hr gM gO gR (aF (x4 1) (aF (eU aT (aF (x4 0) aL)) aL))) (D5 (cD gK hr gM gO gR (aF (x4 2) (aF (eU aT (aF (x4 0) aL)) aL))) (JP (cD jK hr jL jM jN (aF (x4 0) (aF (x4 1) (aF (x4 2) aL)))))))))
abbrev fT:Stmt:=top 22
theorem tG:bH ["rows", "number", "order", "why"] ["rows", "number"] (aI fT):=⟨rfl,rfl,rfl,by decide +kernel,rfl,by decide +kernel,by decide +kernel⟩
theorem EG{g1 g2 g3:Addr}{d1 d2 d3:FuncData}(F:nU K "row_holds" "row_holds" fT f fd)(aGj:aW P w K mg base (zK P w) kk g1 d1 ["order", "a", "b"] (M0 K mg LL.BB))(aGk:mg "cut" = some (.ref g1))(aGl:W.keepIn K (.ref g1)=true)(aGm:Binds K d1 ["order", "a", "b"] [])(rE:aW P w K mg base dO kk g2 d2 ["order", "a", "b"] (eF K LL.dR))(rF:mg "are_loose_things" = some (.ref g2))(rG:W.keepIn K (.ref g2)=true)(rH:Binds K d2 ["order", "a", "b"] [])(AD:aW P w K mg base dO kk g3 d3 ["order"] (eF K LL.fH))(AE:mg "loose_pairs" = some (.ref g3))(AG:W.keepIn K (.ref g3)=true)(AH:Binds K d3 ["order"] [])(aT:mg "len" = none):aW P w K mg base dO (kk+1) f fd ["rows", "number"] (eF K LL.gX):=by
 refine jJ F tG rfl rfl (λcdv A outer s H E hr=>?_);have nd:=tG.nd;have hu:(A.deeper (PyProof.Rows.envOfC "row_holds" (aI fT) s.heap.objs.size f cdv)).units+9<cLine:=by have:=hr.un; omega
 exact (bI (fC (i:=2) nd (fG (fG (x4 0) (x4 1)) i4))
  (bI (fC (i:=3) nd (fG (fG (x4 0) (x4 1)) i4))
  (bI (iI (sP (x9 (cD AD hr AE AG AH (aF (x4 2) aL))))
   (aS (fP (aFu hu (x4 3) (qT aL))))
   jS)
  (bI (iI (BX.pt (VF (aLZ (eU aT (aF (x4 3) aL)) i4) (VE (sP (x9 (cD rE hr rF rG rH (aF (x4 2) (aF (fG (x4 3) i4) (aF (fG (x4 3) i4) aL)))))))))
   (aS (fP b4))
   jS)
  (bI (iI (sP (BX.pt (x8 (MW ME MD VD VC i4 (fG (x4 3) i4) (x4 1)) (x6 (MW ME MD VD VC i4 (fG (x4 3) i4) (x4 1))))))
   (aS (fP b4))
   jS)
  (aS (fP (aFu hu (B3 aGj hr aGk aGl aGm (aF (x4 2) (aF (fG (x4 3) i4) (aF (fG (x4 3) i4) aL)))) (qT (aF (fG (fG (x4 0) (fG (x4 3) i4)) i4) (aF (fG (fG (x4 0) (fG (x4 3) i4)) i4) aL)))))))))))
abbrev fD:Stmt:=top 20
theorem qB:bH ["order", "rows"] ["order", "rows"] (aI fD):=⟨rfl,rfl,rfl,by decide +kernel,rfl,by decide +kernel,by decide +kernel⟩
theorem AI{g1 g2:Addr}{d1 d2:FuncData}(F:nU K "shows_cuts" "shows_cuts" fD f fd)(HD:aW P w K mg base dO kk g1 d1 ["rows", "number"] (eF K LL.gX))(HE:mg "row_holds" = some (.ref g1))(HF:W.keepIn K (.ref g1)=true)(HG:Binds K d1 ["rows", "number"] [])(AJ:aW P w K mg base dO kk g2 d2 ["rows", "n"] (eF K LL.gC))(AK:mg "is_order_of" = some (.ref g2))(AL:W.keepIn K (.ref g2)=true)(AM:Binds K d2 ["rows", "n"] [])(eG:mg "enumerate" = none)(aT:mg "len" = none)(sZ:mg "all" = none):aW P w K mg base dO (kk+1) f fd ["order", "rows"] (eF K LL.fW):=by
 refine jJ F qB rfl rfl (λcdv A outer s H E hr=>?_);have nd:=qB.nd;have hu:(A.deeper (PyProof.Rows.envOfC "shows_cuts" (aI fD) s.heap.objs.size f cdv)).units+9<cLine:=by have:=hr.un; omega
 exact (bI (iI (BX.pt (VF (sP (x9 (x4 1))) (VE (aFx hu (fG (fG (x4 1) (JQ i4)) i4) (x4 0)))))
   (aS (fP b4))
   jS)
  (aS (fP (aCy rfl sZ (aF (pL.pe (oO (ls:=["number", "row"]) (fs:=["rows", "order"]) (fr:=[1,0]) rfl (qX eG (aF (x4 1) aL)) (λ_ _ _ _ _ _ nd=>aCu (i:=0) (j:=1) rfl nd (by decide) (by decide)) (λ_ _ _ _ _ _=>uW) (λ_ _ _ _ _ _=>(D5 (cD AJ hr AK AL AM (aF (fG (x4 1) i4) (aF (eU aT (aF (x4 3) aL)) aL))) (JP (cD HD hr HE HF HG (aF (x4 2) (aF (x4 0) aL)))))))) aL)))))
abbrev mQ:Stmt:=top 25
theorem CB:bH ["_law_script", "_law_k"] ["_law_script", "_law_k"] (aI mQ):=⟨rfl,rfl,rfl,by decide +kernel,rfl,by decide +kernel,by decide +kernel⟩
theorem QD(F:nU K "_law_cell" "_law_cell" mQ f fd)(aT:mg "len" = none):aW P w K mg base dO (kk+1) f fd ["_law_script", "_law_k"] (eF K LL.cM):=by
 refine jJ F CB rfl rfl (λcdv A outer s H E hr=>?_);have nd:=CB.nd;exact (bI (iI (x5 (eU aT (aF (x4 0) aL)) i4)
   (aS (fP i4))
   jS)
  (aS (fP (fG (x4 0) (lT (x4 1) (eU aT (aF (x4 0) aL)))))))
abbrev j6:Stmt:=top 26
theorem yR:bH ["_law_cell_here", "_law_k", "_law_salt", "_law_one", "_law_two"] ["_law_cell_here", "_law_k", "_law_salt"] (aI j6):=⟨rfl,rfl,rfl,by decide +kernel,rfl,by decide +kernel,by decide +kernel⟩
theorem KF(F:nU K "_law_mixed" "_law_mixed" j6 f fd):aW P w K mg base dO (kk+1) f fd ["_law_cell_here", "_law_k", "_law_salt"] (eF K LL.fU):=by
 refine jJ F yR rfl rfl (λcdv A outer s H E hr=>?_);have nd:=yR.nd;exact (bI (fC (i:=3) nd (lT (AA (iN (iN (iN (x4 0) (AA (AA i4 (x4 1)) (x4 1))) (AA i4 (x4 1))) (x4 2)) i4) i4))
  (bI (fC (i:=4) nd (lT (iN (iN (AA (x4 3) (iN (O9 (x4 3) i4) i4)) (AA i4 (x4 1))) (x4 2)) i4))
  (aS (fP (lT (AA (x4 4) i4) i4)))))
abbrev j7:Stmt:=top 27
theorem yS:bH ["_law_cell_here", "_law_many_here", "_law_salt", "_law_found", "_law_left", "_law_k"] ["_law_cell_here", "_law_many_here", "_law_salt"] (aI j7):=⟨rfl,rfl,rfl,by decide +kernel,rfl,by decide +kernel,by decide +kernel⟩
theorem KG{g1:Addr}{d1:FuncData}(F:nU K "_law_draws" "_law_draws" j7 f fd)(QE:aW P w K mg base dO kk g1 d1 ["_law_cell_here", "_law_k", "_law_salt"] (eF K LL.fU))(QF:mg "_law_mixed" = some (.ref g1))(QG:W.keepIn K (.ref g1)=true)(QH:Binds K d1 ["_law_cell_here", "_law_k", "_law_salt"] [])(bN:mg "range" = none):aW P w K mg base dO (kk+1) f fd ["_law_cell_here", "_law_many_here", "_law_salt"] (eF K LL.bX):=by
 refine jJ F yS rfl rfl (λcdv A outer s H E hr=>?_);have nd:=yS.nd;exact (bI (AB (i:=3) nd (pV aL))
  (bI (fC (i:=4) nd i4)
  (bI (iI (aF9 (x4 0) (aLW i4 i4))
   (aS (fC (i:=4) nd (x4 0)))
   jS)
  (bI (qY rfl PassesOwn.never (fY bN (x4 1)) (nN (i:=5) nd)
   (aS (iI (D4 (x4 4) i4)
    (bI (mL (yC (i:=3) (uC (lT (x4 4) i4))))
    (aS (fC (i:=4) nd (O9 (x4 4) i4))))
    (aS (mL (yC (i:=3) (uC (cD QE hr QF QG QH (aF (x4 0) (aF (x4 5) (aF (x4 2) aL)))))))))))
  (aS (fP (x4 3)))))))
abbrev jA:Stmt:=top 28
theorem yT:bH ["_law_draws_here", "_law_n", "_law_thick", "_law_rest", "_law_word", "_law_k", "_law_low", "_law_at", "_law_j", "_law_under", "_law_i"] ["_law_draws_here", "_law_n", "_law_thick"] (aI jA):=⟨rfl,rfl,rfl,by decide +kernel,rfl,by decide +kernel,by decide +kernel⟩
theorem KH(F:nU K "_law_order" "_law_order" jA f fd)(bN:mg "range" = none)(iK:mg "sorted" = none)(d9:mg "tuple" = none)(aT:mg "len" = none)(rJ:mg "list" = none):aW P w K mg base dO (kk+1) f fd ["_law_draws_here", "_law_n", "_law_thick"] (eF K LL.dM):=by
 refine jJ F yT rfl rfl (λcdv A outer s H E hr=>?_);have nd:=yT.nd;have hu:(A.deeper (PyProof.Rows.envOfC "_law_order" (aI jA) s.heap.objs.size f cdv)).units+1<cLine:=by have:=hr.un; omega
 exact (bI (AB (i:=3) nd (JT rfl rJ bN (aF (x4 1) aL)))
  (bI (AB (i:=4) nd (pV aL))
  (bI (qY rfl PassesOwn.never (fY bN (x4 1)) (nN (i:=5) nd)
   (aS (mL (yC (i:=4) (aLt (i:=3) (px4 (lT (fG (x4 0) (x4 5)) (eU aT (aF (x4 3) aL)))))))))
  (bI (VM (i:=6) nd)
  (bI (fC (i:=7) nd (x4 1))
  (bI (qY rfl PassesOwn.never (fY bN (x4 1)) (nN (i:=8) nd)
   (bI (fC (i:=9) nd (pL.pe (pV aL)))
   (bI (qY rfl PassesOwn.never (fY bN (x4 8)) (nN (i:=10) nd)
    (bI (iI (aLX (lT (fG (x4 0) (x4 7)) i4) (x4 2))
     (aS (aAs (i:=9) nd (aAp (x4 9) (pL.pe (oO (ls:=["_law_a"]) (fs:=["_law_under"]) (fr:=[9]) rfl (sR (iN (aFb hu (x4 6) (fG (x4 4) (x4 10))) (pL.pe (pV (aF (fG (x4 4) (x4 10)) aL))))) (λ_ _ _ _ _ _ nd=>jR (i:=0) nd (by decide)) (λ_ _ _ _ _ _=>yB (MU (x4 0) (x4 1))) (λ_ _ _ _ _ _=>(x4 0)))))))
     jS)
    (aS (fC (i:=7) nd (iN (x4 7) i4)))))
   (aS (aFk (i:=6) hu (uC (x4 9)) (fG (x4 4) (x4 8)))))))
  (aS (fP (oM d9 (aF (pL.pe (oO (ls:=["_law_b"]) (fs:=["_law_low"]) (fr:=[6]) rfl (fY bN (x4 1)) (λ_ _ _ _ _ _ nd=>jR (i:=0) nd (by decide)) (λ_ _ _ _ _ _=>uW) (λ_ _ _ _ _ _=>(oM d9 (aF (pL.pe (MX iK (aF (aFb hu (x4 1) (x4 0)) aL))) aL))))) aL))))))))))
abbrev j8:Stmt:=top 29
theorem yU:bH ["_law_order_here", "_law_found", "_law_a", "_law_b"] ["_law_order_here"] (aI j8):=⟨rfl,rfl,rfl,by decide +kernel,rfl,by decide +kernel,by decide +kernel⟩
theorem KI(F:nU K "_law_loose" "_law_loose" j8 f fd)(aT:mg "len" = none)(bN:mg "range" = none):aW P w K mg base dO (kk+1) f fd ["_law_order_here"] (eF K LL.iX):=by
 refine jJ F yU rfl rfl (λcdv A outer s H E hr=>?_);have nd:=yU.nd;exact (bI (AB (i:=1) nd (pV aL))
  (bI (qY rfl PassesOwn.never (fY bN (eU aT (aF (x4 0) aL))) (nN (i:=2) nd)
   (aS (qY rfl PassesOwn.never (MY bN (iN (x4 2) i4) (eU aT (aF (x4 0) aL))) (nN (i:=3) nd)
    (aS (iI (BX.pt (x8 (MU (x4 2) (fG (x4 0) (x4 3))) (x6 (MU (x4 3) (fG (x4 0) (x4 2))))))
     (aS (mL (yC (i:=1) (uC (qT (aF (x4 2) (aF (x4 3) aL)))))))
     jS)))))
  (aS (fP (x4 1)))))
abbrev pN:Stmt:=top 30
theorem HH:bH ["_law_order_here", "_law_a", "_law_b", "_law_low", "_law_found", "_law_c", "_law_under"] ["_law_order_here", "_law_a", "_law_b"] (aI pN):=⟨rfl,rfl,rfl,by decide +kernel,rfl,by decide +kernel,by decide +kernel⟩
theorem WY(F:nU K "_law_put" "_law_put" pN f fd)(d9:mg "tuple" = none)(aT:mg "len" = none)(bN:mg "range" = none)(iK:mg "sorted" = none)(rJ:mg "list" = none):aW P w K mg base dO (kk+1) f fd ["_law_order_here", "_law_a", "_law_b"] (eF K LL.jZ):=by
 refine jJ F HH rfl rfl (λcdv A outer s H E hr=>?_);have nd:=HH.nd;exact (bI (fC (i:=3) nd (iN (pL.pe (aAr rJ (aF (fG (x4 0) (x4 1)) aL))) (pL.pe (pV (aF (x4 1) aL)))))
  (bI (AB (i:=4) nd (pV aL))
  (bI (qY rfl PassesOwn.never (fY bN (eU aT (aF (x4 0) aL))) (nN (i:=5) nd)
   (bI (fC (i:=6) nd (pL.pe (aAr rJ (aF (fG (x4 0) (x4 5)) aL))))
   (bI (iI (BX.pt (VF (x5 (x4 5) (x4 2)) (VE (aFa (x4 2) (fG (x4 0) (x4 5))))))
    (aS (fC (i:=6) nd (iN (x4 6) (pL.pe (oO (ls:=["_law_x"]) (fs:=["_law_under"]) (fr:=[6]) rfl (sR (x4 3)) (λ_ _ _ _ _ _ nd=>jR (i:=0) nd (by decide)) (λ_ _ _ _ _ _=>yB (MU (x4 0) (x4 1))) (λ_ _ _ _ _ _=>(x4 0)))))))
    jS)
   (aS (mL (yC (i:=4) (uC (oM d9 (aF (pL.pe (MX iK (aF (x4 6) aL))) aL)))))))))
  (aS (fP (oM d9 (aF (x4 4) aL)))))))
abbrev jB:Stmt:=top 31
theorem yV:bH ["_law_order_here", "_law_draws_here", "_law_rows", "_law_numbers", "_law_waiting", "_law_one", "_law_pairs", "_law_pick", "_law_a", "_law_b", "_law_parts", "_law_missing"] ["_law_order_here", "_law_draws_here"] (aI jB):=⟨rfl,rfl,rfl,by decide +kernel,rfl,by decide +kernel,by decide +kernel⟩
theorem KJ{g1 g2:Addr}{d1 d2:FuncData}(F:nU K "_law_paper" "_law_paper" jB f fd)(M8:aW P w K mg base dO kk g1 d1 ["_law_order_here", "_law_a", "_law_b"] (eF K LL.jZ))(M9:mg "_law_put" = some (.ref g1))(NA:W.keepIn K (.ref g1)=true)(NB:Binds K d1 ["_law_order_here", "_law_a", "_law_b"] [])(QI:aW P w K mg base dO kk g2 d2 ["_law_order_here"] (eF K LL.iX))(QJ:mg "_law_loose" = some (.ref g2))(QK:W.keepIn K (.ref g2)=true)(QL:Binds K d2 ["_law_order_here"] [])(aT:mg "len" = none)(CC:mg "sum" = none):aW P w K mg base dO (kk+1) f fd ["_law_order_here", "_law_draws_here"] (eF K LL.fX):=by
 refine jJ F yV rfl rfl (λcdv A outer s H E hr=>?_);have nd:=yV.nd;have hu2:(A.deeper (PyProof.Rows.envOfC "_law_paper" (aI jB) s.heap.objs.size f cdv)).units+2<cLine:=by have:=hr.un; omega
 exact (bI (AB (i:=2) nd (pV aL))
  (bI (aAx (i:=3) nd)
  (bI (AB (i:=4) nd (pV (aF (x4 0) aL)))
  (bI (aCw PassesOwn.never (D4 (eU aT (aF (x4 4) aL)) i4)
   (bI (aFj (i:=5) nd (px4 (fG (x4 4) (JQ i4))))
   (bI (fC (i:=6) nd (cD QI hr QJ QK QL (aF (x4 5) aL)))
   (aS (iI (aG8 hu2 (x4 5) (x4 3))
    (aS (mL (aFg (i:=4))))
    (aS (iI (x5 (eU aT (aF (x4 6) aL)) i4)
     (bI (WN (i:=3) hu2 (px4 (eU aT (aF (x4 2) aL))) (x4 5))
     (aS (mL (yC (i:=2) (uC (qT (aF (x4 5) (aF (qT aL) aL))))))))
     (bI (fC (i:=7) nd (fG (x4 1) (lT (aFc rfl CC (aF (pL.pe (oO (ls:=["_law_row"]) (fs:=[]) (fr:=[]) rfl (sR (x4 5)) (λ_ _ _ _ _ _ nd=>jR (i:=0) nd (by decide)) (λ_ _ _ _ _ _=>uW) (λ_ _ _ _ _ _=>(eU aT (aF (x4 0) aL))))) aL)) (eU aT (aF (x4 1) aL)))))
     (bI (aAu (uC (fG (x4 6) (lT (x4 7) (eU aT (aF (x4 6) aL))))) (GO (i:=8) (j:=9) rfl nd))
     (bI (iI (x5 (lT (O9 (x4 7) i4) i4) i4)
      (aS (aLx (i:=8) (j:=9) rfl nd (aF (x4 9) (aF (x4 8) aL))))
      jS)
     (bI (fC (i:=10) nd (pL.pe (pV (aF (cD M8 hr M9 NA NB (aF (x4 5) (aF (x4 8) (aF (x4 9) aL)))) (aF (cD M8 hr M9 NA NB (aF (x4 5) (aF (x4 9) (aF (x4 8) aL)))) aL)))))
     (bI (JZ (i:=11) (ls:=["_law_part"]) (fs:=["_law_numbers"]) (fr:=[3]) nd rfl (sR (x4 10)) (λ_ _ _ _ _ _ nd=>jR (i:=0) nd (by decide)) (λ_ _ _ _ _ _=>yB (aDP hu2 (x4 0) (x4 1))) (λ_ _ _ _ _ _=>(x4 0)))
     (aS (iI (D4 (eU aT (aF (x4 11) aL)) i4)
      (aS (mL (yC (i:=4) (uC (fG (x4 11) (lT (O9 (x4 7) i4) (eU aT (aF (x4 11) aL))))))))
      (bI (WN (i:=3) hu2 (px4 (eU aT (aF (x4 2) aL))) (x4 5))
      (aS (mL (yC (i:=2) (px4 (qT (aF (x4 5) (aF (qT (aF (x4 8) (aF (x4 9) (aF (aAI hu2 (x4 3) (fG (x4 10) i4)) (aF (aAI hu2 (x4 3) (fG (x4 10) i4)) aL))))) aL))))))))))))))))))))))
  (aS (fP (x4 2)))))))
abbrev j9:Stmt:=top 32
theorem yW:bH ["_law_order_here"] ["_law_order_here"] (aI j9):=⟨rfl,rfl,rfl,by decide +kernel,rfl,by decide +kernel,by decide +kernel⟩
theorem KL(F:nU K "_law_masks" "_law_masks" j9 f fd)(CC:mg "sum" = none):aW P w K mg base dO (kk+1) f fd ["_law_order_here"] (eF K LL.iU):=by refine jJ F yW rfl rfl (λcdv A outer s H E hr=>?_);have nd:=yW.nd;exact (aS (fP (pL.pe (oO (ls:=["_law_row"]) (fs:=[]) (fr:=[]) rfl (sR (x4 0)) (λ_ _ _ _ _ _ nd=>jR (i:=0) nd (by decide)) (λ_ _ _ _ _ _=>uW) (λ_ _ _ _ _ _=>(aFc rfl CC (aF (pL.pe (oO (ls:=["_law_a"]) (fs:=[]) (fr:=[]) rfl (sR (x4 0)) (λ_ _ _ _ _ _ nd=>jR (i:=0) nd (by decide)) (λ_ _ _ _ _ _=>uW) (λ_ _ _ _ _ _=>(aAM i4 (x4 0))))) aL)))))))
abbrev jO:Stmt:=top 33
theorem CD:bH ["_law_order_here", "_law_masks_here", "_law_ways", "_law_step", "_law_fresh", "_law_mask", "_law_b"] ["_law_order_here"] (aI jO):=⟨rfl,rfl,rfl,by decide +kernel,rfl,by decide +kernel,by decide +kernel⟩
theorem QM{g1:Addr}{d1:FuncData}(F:nU K "_law_many" "_law_many" jO f fd)(QN:aW P w K mg base dO kk g1 d1 ["_law_order_here"] (eF K LL.iU))(QO:mg "_law_masks" = some (.ref g1))(QP:W.keepIn K (.ref g1)=true)(QQ:Binds K d1 ["_law_order_here"] [])(aT:mg "len" = none)(bN:mg "range" = none):aW P w K mg base dO (kk+1) f fd ["_law_order_here"] (eF K LL.gB):=by
 refine jJ F CD rfl rfl (λcdv A outer s H E hr=>?_);have nd:=CD.nd;have hu1:(A.deeper (PyProof.Rows.envOfC "_law_many" (aI jO) s.heap.objs.size f cdv)).units+1<cLine:=by have:=hr.un; omega
 have hu2:(A.deeper (PyProof.Rows.envOfC "_law_many" (aI jO) s.heap.objs.size f cdv)).units+2<cLine:=by have:=hr.un; omega
 exact (bI (fC (i:=1) nd (cD QN hr QO QP QQ (aF (x4 0) aL)))
  (bI (aDR (i:=2) hu1 nd i4 i4)
  (bI (qY rfl PassesOwn.never (fY bN (eU aT (aF (x4 0) aL))) (nN (i:=3) nd)
   (bI (aAx (i:=4) nd)
   (bI (aFy 2 (qY rfl PassesOwn.never (aDQ (x4 2)) (nN (i:=5) nd)
    (aS (qY rfl PassesOwn.never (fY bN (eU aT (aF (x4 0) aL))) (nN (i:=6) nd)
     (aS (iI (BX.pt (x8 (x5 (aAz (aMB (x4 5) (x4 6)) i4) i4) (x6 (x5 (aAz (fG (x4 1) (x4 6)) (x4 5)) (fG (x4 1) (x4 6))))))
      (aS (WN (i:=4) hu2 (px4 (iN (aG9 hu2 (x4 4) (aGh (x4 5) (aAM i4 (x4 6))) i4 ⟨rfl,rfl,rfl,rfl⟩) (aAI hu2 (x4 2) (x4 5)))) (aGh (x4 5) (aAM i4 (x4 6)))))
      jS))))))
   (aS (aGe (i:=2) (j:=4) nd)))))
  (aS (fP (aAI hu2 (x4 2) (Z7 (aAM i4 (eU aT (aF (x4 0) aL))) i4)))))))
abbrev kB:Stmt:=top 34
theorem yX:bH ["_law_script", "_law_k", "_law_salt", "_law_head", "_law_n", "_law_thick", "_law_draws_here", "_law_order_here"] ["_law_script", "_law_k", "_law_salt"] (aI kB):=⟨rfl,rfl,rfl,by decide +kernel,rfl,by decide +kernel,by decide +kernel⟩
theorem KM{g1 g2 g3 g4:Addr}{d1 d2 d3 d4:FuncData}(F:nU K "_law_small" "_law_small" kB f fd)(yY:aW P w K mg base dO kk g1 d1 ["_law_order_here"] (eF K LL.gB))(yZ:mg "_law_many" = some (.ref g1))(y6:W.keepIn K (.ref g1)=true)(y7:Binds K d1 ["_law_order_here"] [])(pO:aW P w K mg base dO kk g2 d2 ["_law_draws_here", "_law_n", "_law_thick"] (eF K LL.dM))(pP:mg "_law_order" = some (.ref g2))(pQ:W.keepIn K (.ref g2)=true)(pR:Binds K d2 ["_law_draws_here", "_law_n", "_law_thick"] [])(mR:aW P w K mg base dO kk g3 d3 ["_law_cell_here", "_law_many_here", "_law_salt"] (eF K LL.bX))(mS:mg "_law_draws" = some (.ref g3))(mT:W.keepIn K (.ref g3)=true)(mU:Binds K d3 ["_law_cell_here", "_law_many_here", "_law_salt"] [])(oW:aW P w K mg base dO kk g4 d4 ["_law_script", "_law_k"] (eF K LL.cM))(oX:mg "_law_cell" = some (.ref g4))(oY:W.keepIn K (.ref g4)=true)(oZ:Binds K d4 ["_law_script", "_law_k"] []):aW P w K mg base dO (kk+1) f fd ["_law_script", "_law_k", "_law_salt"] (eF K LL.iY):=by
 refine jJ F yX rfl rfl (λcdv A outer s H E hr=>?_);have nd:=yX.nd;exact (bI (fC (i:=3) nd (cD mR hr mS mT mU (aF (cD oW hr oX oY oZ (aF (x4 0) (aF (x4 1) aL))) (aF i4 (aF (x4 2) aL)))))
  (bI (fC (i:=4) nd (fG (pL.pe (pV (aF i4 (aF i4 (aF i4 (aF i4 (aF i4 (aF i4 (aF i4 (aF i4 aL)))))))))) (lT (fG (x4 3) i4) i4)))
  (bI (fC (i:=5) nd (fG (pL.pe (pV (aF i4 (aF i4 (aF i4 (aF i4 (aF i4 (aF i4 (aF i4 (aF i4 aL)))))))))) (lT (fG (x4 3) i4) i4)))
  (bI (iI (x5 (lT (fG (x4 3) i4) i4) i4)
   (bI (fC (i:=4) nd (iN i4 (lT (fG (x4 3) i4) i4)))
   (aS (fC (i:=5) nd i4)))
   jS)
  (bI (fC (i:=6) nd (cD mR hr mS mT mU (aF (cD oW hr oX oY oZ (aF (x4 0) (aF (iN (x4 1) i4) aL))) (aF (iN (x4 4) (O9 (AA (x4 4) (Z7 (x4 4) i4)) i4)) (aF (iN (x4 2) i4) aL)))))
  (bI (fC (i:=7) nd (cD pO hr pP pQ pR (aF (x4 6) (aF (x4 4) (aF (x4 5) aL)))))
  (bI (iI (BX.pt (x8 (D4 (x4 4) i4) (x6 (D4 (cD yY hr yZ y6 y7 (aF (x4 7) aL)) i4))))
   (aS (fC (i:=7) nd (cD pO hr pP pQ pR (aF (x4 6) (aF (x4 4) (aF i4 aL))))))
   jS)
  (aS (fP (x4 7))))))))))
abbrev kC:Stmt:=top 35
theorem y9:bH ["_law_rows", "_law_more", "_law_found", "_law_order_here", "_law_why"] ["_law_rows", "_law_more"] (aI kC):=⟨rfl,rfl,rfl,by decide +kernel,rfl,by decide +kernel,by decide +kernel⟩
theorem KN(F:nU K "_law_moved" "_law_moved" kC f fd)(aT:mg "len" = none):aW P w K mg base dO (kk+1) f fd ["_law_rows", "_law_more"] (eF K LL.iZ):=by
 refine jJ F y9 rfl rfl (λcdv A outer s H E hr=>?_);have nd:=y9.nd;exact (bI (AB (i:=2) nd (pV aL))
  (bI (qY rfl PassesOwn.never (sR (x4 0)) (GO (i:=3) (j:=4) rfl nd)
   (bI (iI (D4 (eU aT (aF (x4 4) aL)) i4)
    (aS (fC (i:=4) nd (qT (aF (fG (x4 4) i4) (aF (fG (x4 4) i4) (aF (iN (fG (x4 4) i4) (x4 1)) (aF (iN (fG (x4 4) i4) (x4 1)) aL)))))))
    jS)
   (aS (mL (yC (i:=2) (uC (qT (aF (x4 3) (aF (x4 4) aL)))))))))
  (aS (fP (x4 2)))))
abbrev gS:Stmt:=top 36
theorem u0:bH ["_law_rows", "_law_number"] ["_law_rows", "_law_number"] (aI gS):=⟨rfl,rfl,rfl,by decide +kernel,rfl,by decide +kernel,by decide +kernel⟩
theorem HI(F:nU K "_law_latest" "_law_latest" gS f fd)(aT:mg "len" = none)(bN:mg "range" = none)(WZ:mg "max" = none):aW P w K mg base dO (kk+1) f fd ["_law_rows", "_law_number"] (eF K LL.cJ):=by
 refine jJ F u0 rfl rfl (λcdv A outer s H E hr=>?_);have nd:=u0.nd;have hu:(A.deeper (PyProof.Rows.envOfC "_law_latest" (aI gS) s.heap.objs.size f cdv)).units+9<cLine:=by have:=hr.un; omega
 exact (aS (fP (aGi rfl WZ (aF (pL.pe (oO (ls:=["_law_at"]) (fs:=["_law_rows", "_law_number"]) (fr:=[0,1]) rfl (fY bN (Z7 (eU aT (aF (x4 0) aL)) i4)) (λ_ _ _ _ _ _ nd=>jR (i:=0) nd (by decide)) (λ_ _ _ _ _ _=>yB (aFw hu (fG (fG (x4 1) (x4 0)) i4) (fG (fG (x4 1) (x4 2)) i4))) (λ_ _ _ _ _ _=>(x4 0)))) aL))))
abbrev jC:Stmt:=top 37
theorem u3:bH ["_law_script", "_law_order_here", "_law_draws_here", "_law_size", "_law_rows", "_law_other", "_law_ahead", "_law_twice", "_law_why"] ["_law_script"] (aI jC):=⟨rfl,rfl,rfl,by decide +kernel,rfl,by decide +kernel,by decide +kernel⟩
theorem HJ{g1 g2 g3 g4 g5 g6 g7 g8:Addr}{d1 d2 d3 d4 d5 d6 d7 d8:FuncData}(F:nU K "_law_papers" "_law_papers" jC f fd)(zA:aW P w K mg base dO kk g1 d1 ["_law_rows", "_law_number"] (eF K LL.cJ))(zB:mg "_law_latest" = some (.ref g1))(zC:W.keepIn K (.ref g1)=true)(zD:Binds K d1 ["_law_rows", "_law_number"] [])(yY:aW P w K mg base dO kk g2 d2 ["_law_order_here"] (eF K LL.gB))(yZ:mg "_law_many" = some (.ref g2))(y6:W.keepIn K (.ref g2)=true)(y7:Binds K d2 ["_law_order_here"] [])(QR:aW P w K mg base dO kk g3 d3 ["_law_rows", "_law_more"] (eF K LL.iZ))(QS:mg "_law_moved" = some (.ref g3))(QT:W.keepIn K (.ref g3)=true)(QU:Binds K d3 ["_law_rows", "_law_more"] [])(CF:aW P w K mg base dO kk g4 d4 ["_law_order_here", "_law_draws_here"] (eF K LL.fX))(CG:mg "_law_paper" = some (.ref g4))(CH:W.keepIn K (.ref g4)=true)(CI:Binds K d4 ["_law_order_here", "_law_draws_here"] [])(pO:aW P w K mg base dO kk g5 d5 ["_law_draws_here", "_law_n", "_law_thick"] (eF K LL.dM))(pP:mg "_law_order" = some (.ref g5))(pQ:W.keepIn K (.ref g5)=true)(pR:Binds K d5 ["_law_draws_here", "_law_n", "_law_thick"] [])(mR:aW P w K mg base dO kk g6 d6 ["_law_cell_here", "_law_many_here", "_law_salt"] (eF K LL.bX))(mS:mg "_law_draws" = some (.ref g6))(mT:W.keepIn K (.ref g6)=true)(mU:Binds K d6 ["_law_cell_here", "_law_many_here", "_law_salt"] [])(oW:aW P w K mg base dO kk g7 d7 ["_law_script", "_law_k"] (eF K LL.cM))(oX:mg "_law_cell" = some (.ref g7))(oY:W.keepIn K (.ref g7)=true)(oZ:Binds K d7 ["_law_script", "_law_k"] [])(QV:aW P w K mg base dO kk g8 d8 ["_law_script", "_law_k", "_law_salt"] (eF K LL.iY))(QW:mg "_law_small" = some (.ref g8))(QX:W.keepIn K (.ref g8)=true)(QY:Binds K d8 ["_law_script", "_law_k", "_law_salt"] [])(aT:mg "len" = none)(bN:mg "range" = none):aW P w K mg base dO (kk+1) f fd ["_law_script"] (eF K LL.i0):=by
 refine jJ F u3 rfl rfl (λcdv A outer s H E hr=>?_);have nd:=u3.nd;exact (bI (fC (i:=1) nd (cD QV hr QW QX QY (aF (x4 0) (aF i4 (aF i4 aL)))))
  (bI (fC (i:=2) nd (cD mR hr mS mT mU (aF (cD oW hr oX oY oZ (aF (x4 0) (aF i4 aL))) (aF i4 (aF i4 aL)))))
  (bI (fC (i:=3) nd (cD mR hr mS mT mU (aF (cD oW hr oX oY oZ (aF (x4 0) (aF i4 aL))) (aF i4 (aF i4 aL)))))
  (bI (fC (i:=4) nd (cD CF hr CG CH CI (aF (x4 1) (aF (x4 2) aL))))
  (bI (iI (x5 (lT (fG (x4 3) i4) i4) i4)
   (bI (fC (i:=5) nd (cD pO hr pP pQ pR (aF (iN (sl4 (x4 3) (po4 i4) (po4 i4)) (x4 2)) (aF (eU aT (aF (x4 1) aL)) (aF i4 aL)))))
   (aS (iI (aLY (iN (AA i4 (cD yY hr yZ y6 y7 (aF (x4 5) aL))) (eU aT (aF (x4 4) aL))) i4)
    (bI (fC (i:=6) nd (cD CF hr CG CH CI (aF (x4 5) (aF (x4 2) aL))))
    (aS (fC (i:=4) nd (iN (x4 6) (cD QR hr QS QT QU (aF (x4 4) (aF (eU aT (aF (x4 6) aL)) aL)))))))
    jS)))
   jS)
  (bI (VL (i:=7) (ls:=["_law_k"]) (fs:=["_law_rows", "_law_size"]) (fr:=[4,3]) nd rfl (fY bN (lT (fG (x4 3) i4) i4)) (λ_ _ _ _ _ _ nd=>jR (i:=0) nd (by decide)) (λ_ _ _ _ _ _=>uW) (λ_ _ _ _ _ _=>(fG (x4 1) (lT (iN (fG (x4 2) i4) (AA (x4 0) (fG (x4 2) i4))) (eU aT (aF (x4 1) aL))))))
  (bI (fC (i:=8) nd (fG (fG (x4 4) (JQ i4)) i4))
  (bI (iI (BX.pt (x8 (D4 (eU aT (aF (x4 8) aL)) i4) (x6 (x5 (lT (fG (x4 3) i4) i4) i4))))
   (aS (mL (yC (i:=7) (uC (fG (x4 4) (fG (x4 8) (iN i4 (lT (fG (x4 3) i4) i4))))))))
   jS)
  (bI (aAs (i:=4) nd (aAp (iN (sl4 (x4 4) no4 (po4 (JQ i4))) (x4 7)) (sl4 (x4 4) (po4 (JQ i4)) no4)))
  (bI (iI (BX.pt (x8 (D4 (eU aT (aF (x4 8) aL)) i4) (x6 (x5 (lT (O9 (fG (x4 3) i4) i4) i4) i4))))
   (aS (fC (i:=8) nd (qT (aF (fG (x4 8) i4) (aF (fG (x4 8) i4) (aF (cD zA hr zB zC zD (aF (x4 4) (aF (fG (x4 8) i4) aL))) (aF (cD zA hr zB zC zD (aF (x4 4) (aF (fG (x4 8) i4) aL))) aL)))))))
   jS)
  (aS (fP (qT (aF (x4 1) (aF (iN (sl4 (x4 4) no4 (po4 (JQ i4))) (pL.pe (pV (aF (qT (aF (fG (fG (x4 4) (JQ i4)) i4) (aF (x4 8) aL))) aL)))) aL)))))))))))))))
abbrev tH:Stmt:=top 38
theorem W0:bH ["_law_script", "_law_order_here", "_law_rows", "_law_found"] ["_law_script"] (aI tH):=⟨rfl,rfl,rfl,by decide +kernel,rfl,by decide +kernel,by decide +kernel⟩
theorem aDU{g1 g2:Addr}{d1 d2:FuncData}(F:nU K "law" "law" tH f fd)(EH:aW P w K mg base dO kk g1 d1 ["order", "rows"] (eF K LL.fW))(EI:mg "shows_cuts" = some (.ref g1))(EJ:W.keepIn K (.ref g1)=true)(EK:Binds K d1 ["order", "rows"] [])(KO:aW P w K mg base dO kk g2 d2 ["_law_script"] (eF K LL.i0))(KP:mg "_law_papers" = some (.ref g2))(KQ:W.keepIn K (.ref g2)=true)(KR:Binds K d2 ["_law_script"] [])(nJ:mg "isinstance" = none)(KS:mg "bool" = none)(d9:mg "tuple" = none):aW P w K mg base dO (kk+1) f fd ["_law_script"] (eF K rV):=by
 refine jJ F W0 rfl rfl (λcdv A outer s H E hr=>?_);have nd:=W0.nd;exact (bI (aAu (uC (cD KO hr KP KQ KR (aF (x4 0) aL))) (GO (i:=1) (j:=2) rfl nd))
  (bI (fC (i:=3) nd (cD EH hr EI EJ EK (aF (x4 1) (aF (oM d9 (aF (x4 2) aL)) aL))))
  (aS (fP (D5 (aLc Ty4.b nJ KS PyProof.Rows.boot_bool (x4 3)) (JP (x4 3)))))))
end
theorem nK:∀ (us:List Value),us.length=1 -> ∃ a0,us=[a0]
 | [a0],_=>⟨a0,rfl⟩
theorem iL:∀ (us:List Value),us.length=2 -> ∃ a0 a1,us=[a0,a1]
 | [a0,a1],_=>⟨a0,a1,rfl⟩
theorem jD:∀ (us:List Value),us.length=3 -> ∃ a0 a1 a2,us=[a0,a1,a2]
 | [a0,a1,a2],_=>⟨a0,a1,a2,rfl⟩
theorem all_mk{l:W.OpenLaw}{w:World}{K:W.Frag}{h:Heap}{mg:Q0Z}{fa f1 f2 f3 f4 f5 f6 f7 f8 f9 f10 f11 f12 f13 f14 f15 f16 f17 f18 f19 f20 f21 f22 f23 f24 f25 f26 f27 f28 f29:Addr}(X:K.In h)(G:h.Ns mainGlobals mg)(hfa:mg "law" = some (.ref fa))
  {od1 an1 od2 an2 od3 an3 od4 an4 od5 an5 od6 an6 od7 an7 od8 an8 od9 an9 aMD aME aMF aMG aMH aMI aMJ aMK aML aMM aMN aMO aMP aMQ aMR aMS aMT aMU aMV aMW aMX aMY aMZ aM0 aM1 aM2 aM3 aM4 aM5 aM6 aM7 aM8 aM9 aMa aMb aMc aMd aMe aMf aGn:Option Addr} {sl1 sl2 sl3 sl4 sl5 sl6 sl7 sl8 sl9 aMg aMh aMi aMj aMk aMl aMm aMn aMo aMp aMq aMr aMs aMt aMu aMv aMw aMx aMy aMz:Array (Option Value)}
  {oc1 kV1 dc1 pm1 cd1 ct1 oc2 kV2 dc2 pm2 cd2 ct2 oc3 kV3 dc3 pm3 cd3 ct3 oc4 kV4 dc4 pm4 cd4 ct4 oc5 kV5 dc5 pm5 cd5 ct5 oc6 kV6 dc6 pm6 cd6 ct6 oc7 kV7 dc7 pm7 cd7 ct7 oc8 kV8 dc8 pm8 cd8 ct8 oc9 kV9 dc9 pm9 cd9 ct9 aNA aNB aNC aND aGo aNE aNF aNG aNH aNI aGp aNJ aNK aNL aNM aNN aGq aNO aNP aNQ aNR aNS aGr aNT aNU aNV aNW aNX aGs aNY aNZ aN0 aN1 aN2 aGt aN3 aN4 aN5 aN6 aN7 aGu aN8 aN9 aNa aNb aNc aGv aNd aNe aNf aNg aNh aGw aNi aNj aNk aNl aNm aGx aNn aNo aNp aNq aNr aGy aNs aNt aNu aNv aNw aGz aNx aNy aNz aOA aOB aHA aOC aOD aOE aOF aOG aHB aOH aOI aOJ aOK aOL aHC aOM aON aOO aOP aOQ aHD aOR aOS aOT aOU aOV aHE aOW aOX aOY aOZ aO0 aHF aO1 aO2 aO3 aO4 aO5 aHG aO6 aO7 aHH aHI aHJ aDV aHK:Value}
  {lV:Tok}
  {oS mP kR:Addr}
  (a1:W.nsIn K mainGlobals "are_too_many" = some (some (.ref f1))) (l1:K.lookup f1=some ⟨oc1,od1,.func (W.fnOf "are_too_many" "are_too_many" (bM eQ) (bE eQ) (aI eQ) .none kV1 dc1 pm1 an1 cd1 ct1),sl1⟩) (c1:W.codeIn K cd1 "are_too_many" = true) (k1:W.keepIn K (.ref f1)=true)
  (a2:W.nsIn K mainGlobals "is_thing" = some (some (.ref f2))) (l2:K.lookup f2=some ⟨oc2,od2,.func (W.fnOf "is_thing" "is_thing" (bM i8) (bE i8) (aI i8) .none kV2 dc2 pm2 an2 cd2 ct2),sl2⟩) (c2:W.codeIn K cd2 "is_thing" = true) (k2:W.keepIn K (.ref f2)=true)
  (a3:W.nsIn K mainGlobals "is_rising" = some (some (.ref f3))) (l3:K.lookup f3=some ⟨oc3,od3,.func (W.fnOf "is_rising" "is_rising" (bM gZ) (bE gZ) (aI gZ) .none kV3 dc3 pm3 an3 cd3 ct3),sl3⟩) (c3:W.codeIn K cd3 "is_rising" = true) (k3:W.keepIn K (.ref f3)=true)
  (a4:W.nsIn K mainGlobals "has_all_below" = some (some (.ref f4))) (l4:K.lookup f4=some ⟨oc4,od4,.func (W.fnOf "has_all_below" "has_all_below" (bM eD) (bE eD) (aI eD) .none kV4 dc4 pm4 an4 cd4 ct4),sl4⟩) (c4:W.codeIn K cd4 "has_all_below" = true) (k4:W.keepIn K (.ref f4)=true)
  (a5:W.nsIn K mainGlobals "is_row" = some (some (.ref f5))) (l5:K.lookup f5=some ⟨oc5,od5,.func (W.fnOf "is_row" "is_row" (bM mO) (bE mO) (aI mO) .none kV5 dc5 pm5 an5 cd5 ct5),sl5⟩) (c5:W.codeIn K cd5 "is_row" = true) (k5:W.keepIn K (.ref f5)=true)
  (a6:W.nsIn K mainGlobals "is_order" = some (some (.ref f6))) (l6:K.lookup f6=some ⟨oc6,od6,.func (W.fnOf "is_order" "is_order" (bM i9) (bE i9) (aI i9) .none kV6 dc6 pm6 an6 cd6 ct6),sl6⟩) (c6:W.codeIn K cd6 "is_order" = true) (k6:W.keepIn K (.ref f6)=true)
  (a7:W.nsIn K mainGlobals "refuse_strangers" = some (some (.ref f7))) (l7:K.lookup f7=some ⟨oc7,od7,.func (W.fnOf "refuse_strangers" "refuse_strangers" (bM dB) (bE dB) (aI dB) .none kV7 dc7 pm7 an7 cd7 ct7),sl7⟩) (c7:W.codeIn K cd7 "refuse_strangers" = true) (k7:W.keepIn K (.ref f7)=true)
  (a8:W.nsIn K mainGlobals "put_under" = some (some (.ref f8))) (l8:K.lookup f8=some ⟨oc8,od8,.func (W.fnOf "put_under" "put_under" (bM hJ) (bE hJ) (aI hJ) .none kV8 dc8 pm8 an8 cd8 ct8),sl8⟩) (c8:W.codeIn K cd8 "put_under" = true) (k8:W.keepIn K (.ref f8)=true)
  (a9:W.nsIn K mainGlobals "are_loose" = some (some (.ref f9))) (l9:K.lookup f9=some ⟨oc9,od9,.func (W.fnOf "are_loose" "are_loose" (bM hV) (bE hV) (aI hV) .none kV9 dc9 pm9 an9 cd9 ct9),sl9⟩) (c9:W.codeIn K cd9 "are_loose" = true) (k9:W.keepIn K (.ref f9)=true)
  (a10:W.nsIn K mainGlobals "loose_pairs" = some (some (.ref f10))) (l10:K.lookup f10=some ⟨aNA,aMD,.func (W.fnOf "loose_pairs" "loose_pairs" (bM fJ) (bE fJ) (aI fJ) .none aNB aNC aND aME aGo aNE),aMg⟩) (c10:W.codeIn K aGo "loose_pairs" = true) (k10:W.keepIn K (.ref f10)=true)
  (a11:W.nsIn K mainGlobals "cut" = some (some (.ref f11))) (l11:K.lookup f11=some ⟨aNF,aMF,.func (W.fnOf "cut" "cut" (bM CA) (bE CA) (aI CA) .none aNG aNH aNI aMG aGp aNJ),aMh⟩) (c11:W.codeIn K aGp "cut" = true) (k11:W.keepIn K (.ref f11)=true)
  (a12:W.nsIn K mainGlobals "is_order_of" = some (some (.ref f12))) (l12:K.lookup f12=some ⟨aNK,aMH,.func (W.fnOf "is_order_of" "is_order_of" (bM fK) (bE fK) (aI fK) .none aNL aNM aNN aMI aGq aNO),aMi⟩) (c12:W.codeIn K aGq "is_order_of" = true) (k12:W.keepIn K (.ref f12)=true)
  (a13:W.nsIn K mainGlobals "are_loose_things" = some (some (.ref f13))) (l13:K.lookup f13=some ⟨aNP,aMJ,.func (W.fnOf "are_loose_things" "are_loose_things" (bM dC) (bE dC) (aI dC) .none aNQ aNR aNS aMK aGr aNT),aMj⟩) (c13:W.codeIn K aGr "are_loose_things" = true) (k13:W.keepIn K (.ref f13)=true)
  (a14:W.nsIn K mainGlobals "row_holds" = some (some (.ref f14))) (l14:K.lookup f14=some ⟨aNU,aML,.func (W.fnOf "row_holds" "row_holds" (bM fT) (bE fT) (aI fT) .none aNV aNW aNX aMM aGs aNY),aMk⟩) (c14:W.codeIn K aGs "row_holds" = true) (k14:W.keepIn K (.ref f14)=true)
  (a15:W.nsIn K mainGlobals "shows_cuts" = some (some (.ref f15))) (l15:K.lookup f15=some ⟨aNZ,aMN,.func (W.fnOf "shows_cuts" "shows_cuts" (bM fD) (bE fD) (aI fD) .none aN0 aN1 aN2 aMO aGt aN3),aMl⟩) (c15:W.codeIn K aGt "shows_cuts" = true) (k15:W.keepIn K (.ref f15)=true)
  (a16:W.nsIn K mainGlobals "_law_cell" = some (some (.ref f16))) (l16:K.lookup f16=some ⟨aN4,aMP,.func (W.fnOf "_law_cell" "_law_cell" (bM mQ) (bE mQ) (aI mQ) .none aN5 aN6 aN7 aMQ aGu aN8),aMm⟩) (c16:W.codeIn K aGu "_law_cell" = true) (k16:W.keepIn K (.ref f16)=true)
  (a17:W.nsIn K mainGlobals "_law_mixed" = some (some (.ref f17))) (l17:K.lookup f17=some ⟨aN9,aMR,.func (W.fnOf "_law_mixed" "_law_mixed" (bM j6) (bE j6) (aI j6) .none aNa aNb aNc aMS aGv aNd),aMn⟩) (c17:W.codeIn K aGv "_law_mixed" = true) (k17:W.keepIn K (.ref f17)=true)
  (a18:W.nsIn K mainGlobals "_law_draws" = some (some (.ref f18))) (l18:K.lookup f18=some ⟨aNe,aMT,.func (W.fnOf "_law_draws" "_law_draws" (bM j7) (bE j7) (aI j7) .none aNf aNg aNh aMU aGw aNi),aMo⟩) (c18:W.codeIn K aGw "_law_draws" = true) (k18:W.keepIn K (.ref f18)=true)
  (a19:W.nsIn K mainGlobals "_law_order" = some (some (.ref f19))) (l19:K.lookup f19=some ⟨aNj,aMV,.func (W.fnOf "_law_order" "_law_order" (bM jA) (bE jA) (aI jA) .none aNk aNl aNm aMW aGx aNn),aMp⟩) (c19:W.codeIn K aGx "_law_order" = true) (k19:W.keepIn K (.ref f19)=true)
  (a20:W.nsIn K mainGlobals "_law_loose" = some (some (.ref f20))) (l20:K.lookup f20=some ⟨aNo,aMX,.func (W.fnOf "_law_loose" "_law_loose" (bM j8) (bE j8) (aI j8) .none aNp aNq aNr aMY aGy aNs),aMq⟩) (c20:W.codeIn K aGy "_law_loose" = true) (k20:W.keepIn K (.ref f20)=true)
  (a21:W.nsIn K mainGlobals "_law_put" = some (some (.ref f21))) (l21:K.lookup f21=some ⟨aNt,aMZ,.func (W.fnOf "_law_put" "_law_put" (bM pN) (bE pN) (aI pN) .none aNu aNv aNw aM0 aGz aNx),aMr⟩) (c21:W.codeIn K aGz "_law_put" = true) (k21:W.keepIn K (.ref f21)=true)
  (a22:W.nsIn K mainGlobals "_law_paper" = some (some (.ref f22))) (l22:K.lookup f22=some ⟨aNy,aM1,.func (W.fnOf "_law_paper" "_law_paper" (bM jB) (bE jB) (aI jB) .none aNz aOA aOB aM2 aHA aOC),aMs⟩) (c22:W.codeIn K aHA "_law_paper" = true) (k22:W.keepIn K (.ref f22)=true)
  (a23:W.nsIn K mainGlobals "_law_masks" = some (some (.ref f23))) (l23:K.lookup f23=some ⟨aOD,aM3,.func (W.fnOf "_law_masks" "_law_masks" (bM j9) (bE j9) (aI j9) .none aOE aOF aOG aM4 aHB aOH),aMt⟩) (c23:W.codeIn K aHB "_law_masks" = true) (k23:W.keepIn K (.ref f23)=true)
  (a24:W.nsIn K mainGlobals "_law_many" = some (some (.ref f24))) (l24:K.lookup f24=some ⟨aOI,aM5,.func (W.fnOf "_law_many" "_law_many" (bM jO) (bE jO) (aI jO) .none aOJ aOK aOL aM6 aHC aOM),aMu⟩) (c24:W.codeIn K aHC "_law_many" = true) (k24:W.keepIn K (.ref f24)=true)
  (a25:W.nsIn K mainGlobals "_law_small" = some (some (.ref f25))) (l25:K.lookup f25=some ⟨aON,aM7,.func (W.fnOf "_law_small" "_law_small" (bM kB) (bE kB) (aI kB) .none aOO aOP aOQ aM8 aHD aOR),aMv⟩) (c25:W.codeIn K aHD "_law_small" = true) (k25:W.keepIn K (.ref f25)=true)
  (a26:W.nsIn K mainGlobals "_law_moved" = some (some (.ref f26))) (l26:K.lookup f26=some ⟨aOS,aM9,.func (W.fnOf "_law_moved" "_law_moved" (bM kC) (bE kC) (aI kC) .none aOT aOU aOV aMa aHE aOW),aMw⟩) (c26:W.codeIn K aHE "_law_moved" = true) (k26:W.keepIn K (.ref f26)=true)
  (a27:W.nsIn K mainGlobals "_law_latest" = some (some (.ref f27))) (l27:K.lookup f27=some ⟨aOX,aMb,.func (W.fnOf "_law_latest" "_law_latest" (bM gS) (bE gS) (aI gS) .none aOY aOZ aO0 aMc aHF aO1),aMx⟩) (c27:W.codeIn K aHF "_law_latest" = true) (k27:W.keepIn K (.ref f27)=true)
  (a28:W.nsIn K mainGlobals "_law_papers" = some (some (.ref f28))) (l28:K.lookup f28=some ⟨aO2,aMd,.func (W.fnOf "_law_papers" "_law_papers" (bM jC) (bE jC) (aI jC) .none aO3 aO4 aO5 aMe aHG aO6),aMy⟩) (c28:W.codeIn K aHG "_law_papers" = true) (k28:W.keepIn K (.ref f28)=true)
  (a29:W.nsIn K mainGlobals "law" = some (some (.ref f29))) (l29:K.lookup f29=some ⟨aO7,aMf,.func (W.fnOf "law" "law" (bM tH) (bE tH) (aI tH) .none aHH aHI aHJ aGn aDV aHK),aMz⟩) (c29:W.codeIn K aDV "law" = true) (k29:W.keepIn K (.ref f29)=true)
  (zE:W.nsIn K mainGlobals "Looped" = some (some (.ref oS)))
  (uI:W.nsIn K mainGlobals "NoThing" = some (some (.ref mP)))
  (rK:W.nsIn K mainGlobals "NotLoose" = some (some (.ref kR)))
  (zF:W.excIn K oS bmV "ValueError.__new__" = true)
  (uJ:W.excIn K mP bmV "ValueError.__new__" = true)
  (rL:W.excIn K kR bmV "ValueError.__new__" = true)
  (z1:W.nsIn K mainGlobals "enumerate" = some none) (z2:W.nsIn K mainGlobals "all" = some none) (z3:W.nsIn K mainGlobals "len" = some none) (z4:W.nsIn K mainGlobals "range" = some none) (z5:W.nsIn K mainGlobals "tuple" = some none) (z6:W.nsIn K mainGlobals "sorted" = some none) (z7:W.nsIn K mainGlobals "set" = some none) (z8:W.nsIn K mainGlobals "list" = some none) (z9:W.nsIn K mainGlobals "sum" = some none) (z10:W.nsIn K mainGlobals "max" = some none) (z11:W.nsIn K mainGlobals "isinstance" = some none) (z12:W.nsIn K mainGlobals "bool" = some none) (lX:W.nsIn K mainGlobals "MOST_THINGS" = some (some (.int 9 lV))) :
  ∃ fd:FuncData,(∀ (s:Shared) (v:Value),BindsTo s fd ⟨[v],[]⟩ [("_law_script",v)]) /\ ∀ base:Heap,K.In base->base.Ns mainGlobals mg->aW l.prog w K mg base dO 10 fa fd ["_law_script"] (eF K rV):=by
 have e:=hfa.symm.trans (W.mg_of X G a29);cases e;have F1:=cN (st:=eQ) l1 c1 k1;have F2:=cN (st:=i8) l2 c2 k2;have F3:=cN (st:=gZ) l3 c3 k3;have F4:=cN (st:=eD) l4 c4 k4;have F5:=cN (st:=mO) l5 c5 k5;have F6:=cN (st:=i9) l6 c6 k6;have F7:=cN (st:=dB) l7 c7 k7;have F8:=cN (st:=hJ) l8 c8 k8;have F9:=cN (st:=hV) l9 c9 k9;have F10:=cN (st:=fJ) l10 c10 k10;have F11:=cN (st:=CA) l11 c11 k11;have F12:=cN (st:=fK) l12 c12 k12;have F13:=cN (st:=dC) l13 c13 k13;have F14:=cN (st:=fT) l14 c14 k14;have F15:=cN (st:=fD) l15 c15 k15;have F16:=cN (st:=mQ) l16 c16 k16;have F17:=cN (st:=j6) l17 c17 k17;have F18:=cN (st:=j7) l18 c18 k18;have F19:=cN (st:=jA) l19 c19 k19;have F20:=cN (st:=j8) l20 c20 k20;have F21:=cN (st:=pN) l21 c21 k21;have F22:=cN (st:=jB) l22 c22 k22;have F23:=cN (st:=j9) l23 c23 k23;have F24:=cN (st:=jO) l24 c24 k24;have F25:=cN (st:=kB) l25 c25 k25;have F26:=cN (st:=kC) l26 c26 k26;have F27:=cN (st:=gS) l27 c27 k27;have F28:=cN (st:=jC) l28 c28 k28;have F29:=cN (st:=tH) l29 c29 k29;have b1:=F1.binds (ps:=["n"]) λ_ _ _ _ _ _ us hl=>by obtain ⟨_,rfl⟩:=nK us hl; rfl
 have g1:=W.mg_of X G a1;have b2:=F2.binds (ps:=["number", "n"]) λ_ _ _ _ _ _ us hl=>by obtain ⟨_,_,rfl⟩:=iL us hl; rfl
 have g2:=W.mg_of X G a2;have b3:=F3.binds (ps:=["things", "n"]) λ_ _ _ _ _ _ us hl=>by obtain ⟨_,_,rfl⟩:=iL us hl; rfl
 have g3:=W.mg_of X G a3;have b4:=F4.binds (ps:=["rows", "row"]) λ_ _ _ _ _ _ us hl=>by obtain ⟨_,_,rfl⟩:=iL us hl; rfl
 have g4:=W.mg_of X G a4;have b5:=F5.binds (ps:=["rows", "b"]) λ_ _ _ _ _ _ us hl=>by obtain ⟨_,_,rfl⟩:=iL us hl; rfl
 have g5:=W.mg_of X G a5;have b6:=F6.binds (ps:=["rows"]) λ_ _ _ _ _ _ us hl=>by obtain ⟨_,rfl⟩:=nK us hl; rfl
 have g6:=W.mg_of X G a6;have b7:=F7.binds (ps:=["n", "a", "b"]) λ_ _ _ _ _ _ us hl=>by obtain ⟨_,_,_,rfl⟩:=jD us hl; rfl
 have g7:=W.mg_of X G a7;have b8:=F8.binds (ps:=["order", "a", "b"]) λ_ _ _ _ _ _ us hl=>by obtain ⟨_,_,_,rfl⟩:=jD us hl; rfl
 have g8:=W.mg_of X G a8;have b9:=F9.binds (ps:=["order", "a", "b"]) λ_ _ _ _ _ _ us hl=>by obtain ⟨_,_,_,rfl⟩:=jD us hl; rfl
 have g9:=W.mg_of X G a9;have b10:=F10.binds (ps:=["order"]) λ_ _ _ _ _ _ us hl=>by obtain ⟨_,rfl⟩:=nK us hl; rfl
 have g10:=W.mg_of X G a10;have b11:=F11.binds (ps:=["order", "a", "b"]) λ_ _ _ _ _ _ us hl=>by obtain ⟨_,_,_,rfl⟩:=jD us hl; rfl
 have g11:=W.mg_of X G a11;have b12:=F12.binds (ps:=["rows", "n"]) λ_ _ _ _ _ _ us hl=>by obtain ⟨_,_,rfl⟩:=iL us hl; rfl
 have g12:=W.mg_of X G a12;have b13:=F13.binds (ps:=["order", "a", "b"]) λ_ _ _ _ _ _ us hl=>by obtain ⟨_,_,_,rfl⟩:=jD us hl; rfl
 have g13:=W.mg_of X G a13;have b14:=F14.binds (ps:=["rows", "number"]) λ_ _ _ _ _ _ us hl=>by obtain ⟨_,_,rfl⟩:=iL us hl; rfl
 have g14:=W.mg_of X G a14;have b15:=F15.binds (ps:=["order", "rows"]) λ_ _ _ _ _ _ us hl=>by obtain ⟨_,_,rfl⟩:=iL us hl; rfl
 have g15:=W.mg_of X G a15;have b16:=F16.binds (ps:=["_law_script", "_law_k"]) λ_ _ _ _ _ _ us hl=>by obtain ⟨_,_,rfl⟩:=iL us hl; rfl
 have g16:=W.mg_of X G a16;have b17:=F17.binds (ps:=["_law_cell_here", "_law_k", "_law_salt"]) λ_ _ _ _ _ _ us hl=>by obtain ⟨_,_,_,rfl⟩:=jD us hl; rfl
 have g17:=W.mg_of X G a17;have b18:=F18.binds (ps:=["_law_cell_here", "_law_many_here", "_law_salt"]) λ_ _ _ _ _ _ us hl=>by obtain ⟨_,_,_,rfl⟩:=jD us hl; rfl
 have g18:=W.mg_of X G a18;have b19:=F19.binds (ps:=["_law_draws_here", "_law_n", "_law_thick"]) λ_ _ _ _ _ _ us hl=>by obtain ⟨_,_,_,rfl⟩:=jD us hl; rfl
 have g19:=W.mg_of X G a19;have b20:=F20.binds (ps:=["_law_order_here"]) λ_ _ _ _ _ _ us hl=>by obtain ⟨_,rfl⟩:=nK us hl; rfl
 have g20:=W.mg_of X G a20;have b21:=F21.binds (ps:=["_law_order_here", "_law_a", "_law_b"]) λ_ _ _ _ _ _ us hl=>by obtain ⟨_,_,_,rfl⟩:=jD us hl; rfl
 have g21:=W.mg_of X G a21;have b22:=F22.binds (ps:=["_law_order_here", "_law_draws_here"]) λ_ _ _ _ _ _ us hl=>by obtain ⟨_,_,rfl⟩:=iL us hl; rfl
 have g22:=W.mg_of X G a22;have b23:=F23.binds (ps:=["_law_order_here"]) λ_ _ _ _ _ _ us hl=>by obtain ⟨_,rfl⟩:=nK us hl; rfl
 have g23:=W.mg_of X G a23;have b24:=F24.binds (ps:=["_law_order_here"]) λ_ _ _ _ _ _ us hl=>by obtain ⟨_,rfl⟩:=nK us hl; rfl
 have g24:=W.mg_of X G a24;have b25:=F25.binds (ps:=["_law_script", "_law_k", "_law_salt"]) λ_ _ _ _ _ _ us hl=>by obtain ⟨_,_,_,rfl⟩:=jD us hl; rfl
 have g25:=W.mg_of X G a25;have b26:=F26.binds (ps:=["_law_rows", "_law_more"]) λ_ _ _ _ _ _ us hl=>by obtain ⟨_,_,rfl⟩:=iL us hl; rfl
 have g26:=W.mg_of X G a26;have b27:=F27.binds (ps:=["_law_rows", "_law_number"]) λ_ _ _ _ _ _ us hl=>by obtain ⟨_,_,rfl⟩:=iL us hl; rfl
 have g27:=W.mg_of X G a27;have b28:=F28.binds (ps:=["_law_script"]) λ_ _ _ _ _ _ us hl=>by obtain ⟨_,rfl⟩:=nK us hl; rfl
 have g28:=W.mg_of X G a28;have eG:=W.mg_none_of X G z1;have sZ:=W.mg_none_of X G z2;have aT:=W.mg_none_of X G z3;have bN:=W.mg_none_of X G z4;have d9:=W.mg_none_of X G z5;have iK:=W.mg_none_of X G z6;have WV:=W.mg_none_of X G z7;have rJ:=W.mg_none_of X G z8;have CC:=W.mg_none_of X G z9;have WZ:=W.mg_none_of X G z10;have nJ:=W.mg_none_of X G z11;have KS:=W.mg_none_of X G z12;have lW:=W.mg_of X G lX;have yN:=W.mg_of X G zE;have uG:=W.mg_of X G uI;have rC:=W.mg_of X G rK;have yO:=D8 zF;have uH:=D8 uJ;have rD:=D8 rL;refine ⟨W.fnOf "law" "law" (bM tH) (bE tH) (aI tH) .none aHH aHI aHJ aGn aDV aHK,λs v=>.of_eq rfl,λbase _ _=>?_⟩;have o1:aW l.prog w K mg base dO 4 f1 _ _ (eF K LL.eP):=vI (kk:=3) F1 lW;have o2:aW l.prog w K mg base dO 4 f2 _ _ (eF K LL.dA):=G7 (kk:=3) F2 ;have o3:aW l.prog w K mg base dO 5 f3 _ _ (eF K LL.gW):=EC (kk:=4) F3 (o2.mono (by decide)) g2 k2 b2 eG;have o4:aW l.prog w K mg base dO 4 f4 _ _ (eF K LL.eB):=uF (kk:=3) F4 sZ;have o5:aW l.prog w K mg base dO 6 f5 _ _ (eF K LL.mG):=QC (kk:=5) F5 (o4.mono (by decide)) g4 k4 b4 (o3.mono (by decide)) g3 k3 b3 aT;have o6:aW l.prog w K mg base dO 7 f6 _ _ (eF K LL.iW):=HC (kk:=6) F6 (o5.mono (by decide)) g5 k5 b5 (o1.mono (by decide)) g1 k1 b1 aT bN sZ;have o7:aW l.prog w K mg base (zK l.prog w) 5 f7 _ _ (M0 K mg LL.bA):=pX (kk:=4) F7 (o2.mono (by decide)) g2 k2 b2 uG uH;have o8:aW l.prog w K mg base (zK l.prog w) 6 f8 _ _ (M0 K mg LL.eW):=ED (kk:=5) F8 (o7.mono (by decide)) g7 k7 b7 yN yO d9 eG iK WV aT;have o9:aW l.prog w K mg base dO 4 f9 _ _ (eF K LL.cK):=EE (kk:=3) F9 ;have o10:aW l.prog w K mg base dO 5 f10 _ _ (eF K LL.fH):=yP (kk:=4) F10 (o9.mono (by decide)) g9 k9 b9 d9 aT bN;have o11:aW l.prog w K mg base (zK l.prog w) 7 f11 _ _ (M0 K mg LL.BB):=aDT (kk:=6) F11 (o8.mono (by decide)) g8 k8 b8 (o9.mono (by decide)) g9 k9 b9 (o7.mono (by decide)) g7 k7 b7 rC rD aT;have o12:aW l.prog w K mg base dO 8 f12 _ _ (eF K LL.gC):=yQ (kk:=7) F12 (o6.mono (by decide)) g6 k6 b6 aT;have o13:aW l.prog w K mg base dO 5 f13 _ _ (eF K LL.dR):=pZ (kk:=4) F13 (o9.mono (by decide)) g9 k9 b9 (o2.mono (by decide)) g2 k2 b2 aT;have o14:aW l.prog w K mg base dO 8 f14 _ _ (eF K LL.gX):=EG (kk:=7) F14 (o11.mono (by decide)) g11 k11 b11 (o13.mono (by decide)) g13 k13 b13 (o10.mono (by decide)) g10 k10 b10 aT;have o15:aW l.prog w K mg base dO 9 f15 _ _ (eF K LL.fW):=AI (kk:=8) F15 (o14.mono (by decide)) g14 k14 b14 (o12.mono (by decide)) g12 k12 b12 eG aT sZ;have o16:aW l.prog w K mg base dO 4 f16 _ _ (eF K LL.cM):=QD (kk:=3) F16 aT;have o17:aW l.prog w K mg base dO 4 f17 _ _ (eF K LL.fU):=KF (kk:=3) F17 ;have o18:aW l.prog w K mg base dO 5 f18 _ _ (eF K LL.bX):=KG (kk:=4) F18 (o17.mono (by decide)) g17 k17 b17 bN;have o19:aW l.prog w K mg base dO 4 f19 _ _ (eF K LL.dM):=KH (kk:=3) F19 bN iK d9 aT rJ;have o20:aW l.prog w K mg base dO 4 f20 _ _ (eF K LL.iX):=KI (kk:=3) F20 aT bN;have o21:aW l.prog w K mg base dO 4 f21 _ _ (eF K LL.jZ):=WY (kk:=3) F21 d9 aT bN iK rJ;have o22:aW l.prog w K mg base dO 5 f22 _ _ (eF K LL.fX):=KJ (kk:=4) F22 (o21.mono (by decide)) g21 k21 b21 (o20.mono (by decide)) g20 k20 b20 aT CC;have o23:aW l.prog w K mg base dO 4 f23 _ _ (eF K LL.iU):=KL (kk:=3) F23 CC;have o24:aW l.prog w K mg base dO 5 f24 _ _ (eF K LL.gB):=QM (kk:=4) F24 (o23.mono (by decide)) g23 k23 b23 aT bN;have o25:aW l.prog w K mg base dO 6 f25 _ _ (eF K LL.iY):=KM (kk:=5) F25 (o24.mono (by decide)) g24 k24 b24 (o19.mono (by decide)) g19 k19 b19 (o18.mono (by decide)) g18 k18 b18 (o16.mono (by decide)) g16 k16 b16;have o26:aW l.prog w K mg base dO 4 f26 _ _ (eF K LL.iZ):=KN (kk:=3) F26 aT;have o27:aW l.prog w K mg base dO 4 f27 _ _ (eF K LL.cJ):=HI (kk:=3) F27 aT bN WZ;have o28:aW l.prog w K mg base dO 7 f28 _ _ (eF K LL.i0):=HJ (kk:=6) F28 (o27.mono (by decide)) g27 k27 b27 (o24.mono (by decide)) g24 k24 b24 (o26.mono (by decide)) g26 k26 b26 (o22.mono (by decide)) g22 k22 b22 (o19.mono (by decide)) g19 k19 b19 (o18.mono (by decide)) g18 k18 b18 (o16.mono (by decide)) g16 k16 b16 (o25.mono (by decide)) g25 k25 b25 aT bN;exact aDU (kk:=9) F29 (o15.mono (by decide)) g15 k15 b15 (o28.mono (by decide)) g28 k28 b28 nJ KS d9
theorem aDW{H:Hp}{a:Addr}{ns:List Int}(o:Only H)(h:gH K H a (ns.map V.int)):Scr K H a ns:=by
 rcases h with h | h
 .rcases h with h | ⟨b,h⟩
  .rcases o a with z | ⟨_,_,z⟩<;>rw [z] at h<;>cases h
  .exact .inl ⟨b,h⟩
 .exact .inr (.inr h)
theorem walk{l:W.OpenLaw}{q:Program}{loose:List Str}{XP:(Q0Z)->Heap->Prop}{YP:World->Heap->Prop}{d:DefRec}{K:Params->W.Frag}(hn:l.most=some 63)(hdf:d.params.defaults=[])
  (hY:∀ (w:World) (h:Heap),YP w h->(K w.params).In h)
  (F:∀ (w:World) (mg:Q0Z) (fa:Addr) (h:Heap),(K w.params).In h->h.Ns mainGlobals mg->mg d.name=some (.ref fa) ->
   ∃ fd:FuncData,(∀ (s:Shared) (u:Value),BindsTo s fd ⟨[u],[]⟩ [("_law_script",u)]) /\ ∀ base:Heap,(K w.params).In base->base.Ns mainGlobals mg->aW l.prog w (K w.params) mg base dO 10 fa fd ["_law_script"] (eF (K w.params) rV)) :
  W.WalkO q loose XP YP l.row.toRowW d [] (λf vs=>PySem.call f vs) :=
 L2.ZA (n:=63) (k:=10) (x := "_law_script") (CX:=λ_=>dO) (sp:=λw=>eF (K w.params) rV) hn (by decide) hdf ⟨rfl,by decide,by decide⟩ hY F
  (λ_ H a ns hl o hS=>⟨λa=>H a=none,[.jW ns],λd=>d=.bl true,λ_ h=>h,⟨_,_,rfl,⟨a,rfl,aDW o hS⟩,rfl⟩,⟨_,TB ns hl,rfl⟩,λv H' d _ hd e=>by subst e; exact hd⟩) λ_ _ _ _ _ z=>z
end K32
open PySem PySem.W PyProof.Rows
def PySem.W.Fast.tw13619119781634710855:=0
def PySem.W.Fast.tw15192600738534518797:=0
def PySem.W.Fast.tw3389126591970884771:=0
def PySem.W.Fast.tw191558588172286193:=0
def PySem.W.Fast.tw11108647741870352586:=0
def PySem.W.Fast.tw11556818277148442812:=0
def PySem.W.Fast.tw16296056884498412230:=0
def PySem.W.Fast.tw18395439320061124558:=0
def PySem.W.Fast.tw839497266112067246:=0
def PySem.W.Fast.tw10053217726382707392:=0
end
set_option maxRecDepth 100000 in
set_option maxHeartbeats 0 in
theorem PySem.Challenge.cw_risecount_k32_looker_right_holds : PySem.Challenge.rw_risecount_k32_looker_right.Holds := by
 w_on; o_law; k_head; (case hw=>w_witness2)
 k_fill
 refine K32.walk (l := PySem.Challenge.rw_risecount_k32_looker_right) rfl rfl (fun w h Y => W.kIn_of Y) ?F
 case F =>
  intro w mg fa h KX G hmg
  refine' K32.all_mk KX G hmg ?a1 ?l1 ?c1 ?k1 ?a2 ?l2 ?c2 ?k2 ?a3 ?l3 ?c3 ?k3 ?a4 ?l4 ?c4 ?k4 ?a5 ?l5 ?c5 ?k5 ?a6 ?l6 ?c6 ?k6 ?a7 ?l7 ?c7 ?k7 ?a8 ?l8 ?c8 ?k8 ?a9 ?l9 ?c9 ?k9 ?a10 ?l10 ?c10 ?k10 ?a11 ?l11 ?c11 ?k11 ?a12 ?l12 ?c12 ?k12 ?a13 ?l13 ?c13 ?k13 ?a14 ?l14 ?c14 ?k14 ?a15 ?l15 ?c15 ?k15 ?a16 ?l16 ?c16 ?k16 ?a17 ?l17 ?c17 ?k17 ?a18 ?l18 ?c18 ?k18 ?a19 ?l19 ?c19 ?k19 ?a20 ?l20 ?c20 ?k20 ?a21 ?l21 ?c21 ?k21 ?a22 ?l22 ?c22 ?k22 ?a23 ?l23 ?c23 ?k23 ?a24 ?l24 ?c24 ?k24 ?a25 ?l25 ?c25 ?k25 ?a26 ?l26 ?c26 ?k26 ?a27 ?l27 ?c27 ?k27 ?a28 ?l28 ?c28 ?k28 ?a29 ?l29 ?c29 ?k29 ?zE ?uI ?rK ?zF ?uJ ?rL ?z1 ?z2 ?z3 ?z4 ?z5 ?z6 ?z7 ?z8 ?z9 ?z10 ?z11 ?z12 ?lX
  (case a1=>k_is); (case l1=>k_is); (case c1=>k_is); (case k1=>k_is)
  (case a2=>k_is); (case l2=>k_is); (case c2=>k_is); (case k2=>k_is)
  (case a3=>k_is); (case l3=>k_is); (case c3=>k_is); (case k3=>k_is)
  (case a4=>k_is); (case l4=>k_is); (case c4=>k_is); (case k4=>k_is)
  (case a5=>k_is); (case l5=>k_is); (case c5=>k_is); (case k5=>k_is)
  (case a6=>k_is); (case l6=>k_is); (case c6=>k_is); (case k6=>k_is)
  (case a7=>k_is); (case l7=>k_is); (case c7=>k_is); (case k7=>k_is)
  (case a8=>k_is); (case l8=>k_is); (case c8=>k_is); (case k8=>k_is)
  (case a9=>k_is); (case l9=>k_is); (case c9=>k_is); (case k9=>k_is)
  (case a10=>k_is); (case l10=>k_is); (case c10=>k_is); (case k10=>k_is)
  (case a11=>k_is); (case l11=>k_is); (case c11=>k_is); (case k11=>k_is)
  (case a12=>k_is); (case l12=>k_is); (case c12=>k_is); (case k12=>k_is)
  (case a13=>k_is); (case l13=>k_is); (case c13=>k_is); (case k13=>k_is)
  (case a14=>k_is); (case l14=>k_is); (case c14=>k_is); (case k14=>k_is)
  (case a15=>k_is); (case l15=>k_is); (case c15=>k_is); (case k15=>k_is)
  (case a16=>k_is); (case l16=>k_is); (case c16=>k_is); (case k16=>k_is)
  (case a17=>k_is); (case l17=>k_is); (case c17=>k_is); (case k17=>k_is)
  (case a18=>k_is); (case l18=>k_is); (case c18=>k_is); (case k18=>k_is)
  (case a19=>k_is); (case l19=>k_is); (case c19=>k_is); (case k19=>k_is)
  (case a20=>k_is); (case l20=>k_is); (case c20=>k_is); (case k20=>k_is)
  (case a21=>k_is); (case l21=>k_is); (case c21=>k_is); (case k21=>k_is)
  (case a22=>k_is); (case l22=>k_is); (case c22=>k_is); (case k22=>k_is)
  (case a23=>k_is); (case l23=>k_is); (case c23=>k_is); (case k23=>k_is)
  (case a24=>k_is); (case l24=>k_is); (case c24=>k_is); (case k24=>k_is)
  (case a25=>k_is); (case l25=>k_is); (case c25=>k_is); (case k25=>k_is)
  (case a26=>k_is); (case l26=>k_is); (case c26=>k_is); (case k26=>k_is)
  (case a27=>k_is); (case l27=>k_is); (case c27=>k_is); (case k27=>k_is)
  (case a28=>k_is); (case l28=>k_is); (case c28=>k_is); (case k28=>k_is)
  (case a29=>k_is); (case l29=>k_is); (case c29=>k_is); (case k29=>k_is)
  (case zE=>k_is)
  (case uI=>k_is)
  (case rK=>k_is)
  (case zF=>k_exc)
  (case uJ=>k_exc)
  (case rL=>k_exc)
  (case z1=>k_is)
  (case z2=>k_is)
  (case z3=>k_is)
  (case z4=>k_is)
  (case z5=>k_is)
  (case z6=>k_is)
  (case z7=>k_is)
  (case z8=>k_is)
  (case z9=>k_is)
  (case z10=>k_is)
  (case z11=>k_is)
  (case z12=>k_is)
  (case lX=>k_is)
end
